package people

import (
	"math"
	"math/rand/v2"
	"slices"
	"testing"

	"comitia/api"
)

// oddList is users of any numbers, in any order, some twice.
func oddList(r *rand.Rand) []api.Addr {
	l := make([]api.Addr, r.IntN(12))
	for i := range l {
		l[i] = anybody(r, l[:i])
	}
	return l
}

// TestAnyNumbersEnd: what is handed in where it may not be; only that all ends counts, and that it stays.
func TestAnyNumbersEnd(t *testing.T) {
	r := rand.New(rand.NewPCG(12, 1))
	lists := [][]api.Addr{
		nil, {}, make([]api.Addr, 9), make([]api.Addr, 1000), users(), outsiders(), slices.Repeat(full(), 300), {user(math.MaxInt, math.MaxInt)}, {user(math.MinInt, math.MinInt)},
		{user(2, 7), user(0, 0)}, {user(1, 1), user(1, 1)}, {user(-1, 0), user(0, -1)}, {user(0, 8), user(3, 0)},
	}
	for range 3000 {
		lists = append(lists, oddList(r))
	}
	for _, l := range lists {
		was := slices.Clone(l)
		for _, a := range append(slices.Clone(l), user(0, 0), user(2, 7), oddOne(r), oddOne(r), anybody(r, l)) {
			Add(l, a)
			Remove(l, a)
			Has(l, a)
			Domain(l, a.D)
		}
		if !slices.Equal(l, was) {
			t.Fatalf("P2: %v became %v", was, l)
		}
	}
}

// roomy is l in a list with spare room.
func roomy(l []api.Addr) []api.Addr {
	list := append(make([]api.Addr, 0, len(l)+3), l...)
	copy(list[len(l):cap(list)], []api.Addr{user(1, 4), user(77, 88), user(0, 0)})
	return list
}

// scribble writes all over a list and its spare room.
func scribble(l []api.Addr) {
	l = l[:cap(l)]
	for i := range l {
		l[i] = user(99, 99)
	}
}

// call is one that answers a list.
type call struct {
	name string
	do   func([]api.Addr, api.Addr) ([]api.Addr, api.Errno)
}

func calls() []call { return []call{{"Add", Add}, {"Remove", Remove}} }

func TestWhatIsHandedInStays(t *testing.T) {
	r := rand.New(rand.NewPCG(12, 2))
	for range 5000 {
		l := roomy(anyUsers(r))
		was := slices.Clone(l[:cap(l)])
		a := anybody(r, l)
		Add(l, a)
		Remove(l, a)
		Has(l, a)
		Domain(l, a.D)
		if !slices.Equal(l[:cap(l)], was) {
			t.Fatalf("P2: %v, or its spare room, became %v", was, l[:cap(l)])
		}
	}
}

// TestSpareRoomIsNobody: who stands in the room behind a list does not take part.
func TestSpareRoomIsNobody(t *testing.T) {
	l := full()[:3] // behind it stand more, in order
	has(t, l, user(1, 3), false)
	domain(t, l, 2, false)
	removes(t, l, user(1, 3), l, api.ErrNone)
	adds(t, l, user(1, 3), full()[:4], api.OK)
	adds(t, l, user(2, 7), append(full()[:3], user(2, 7)), api.OK)
}

// TestAnswersShareNoMemory: neither with what was handed in nor with one another, beside an error neither.
func TestAnswersShareNoMemory(t *testing.T) {
	r := rand.New(rand.NewPCG(12, 3))
	seen := map[api.Errno]int{}
	for range 5000 {
		for _, c := range calls() {
			l := roomy(anyUsers(r))
			was := slices.Clone(l[:cap(l)])
			a := anybody(r, l)
			first, e := c.do(l, a)
			second, _ := c.do(l, a)
			want := slices.Clone(first)
			seen[e]++
			scribble(first)
			if !slices.Equal(l[:cap(l)], was) {
				t.Fatalf("P2: what %s(%v, %v) answers beside %v shares memory with the list", c.name, was, a, e)
			}
			scribble(l)
			if !slices.Equal(second, want) {
				t.Fatalf("P2: what %s(%v, %v) answers beside %v hangs on what became of another answer or of the list: %v, want %v", c.name, was, a, e, second, want)
			}
		}
	}
	for _, e := range []api.Errno{api.OK, api.ErrArg, api.ErrIs, api.ErrMany, api.ErrNone} {
		if seen[e] == 0 {
			t.Errorf("P2: no call answered %v", e)
		}
	}
}

// TestAnswersOfOldLists: a list that was answered goes on as it was, whatever is made of it.
func TestAnswersOfOldLists(t *testing.T) {
	r := rand.New(rand.NewPCG(12, 4))
	var lists, were [][]api.Addr
	l := []api.Addr(nil)
	for range 3000 {
		if r.IntN(20) == 0 && len(lists) > 0 {
			l = lists[r.IntN(len(lists))]
		}
		if r.IntN(3) > 0 {
			l, _ = Add(l, anybody(r, l))
		} else {
			l, _ = Remove(l, anybody(r, l))
		}
		lists, were = append(lists, l), append(were, slices.Clone(l))
	}
	for i := range lists {
		if !slices.Equal(lists[i], were[i]) {
			t.Fatalf("P2: a list that was answered, %v, became %v", were[i], lists[i])
		}
	}
}

// TestNoListIsAnEmptyOne: handed in.
func TestNoListIsAnEmptyOne(t *testing.T) {
	for _, a := range append(users(), outsiders()...) {
		for _, c := range calls() {
			none, e := c.do(nil, a)
			empty, f := c.do(full()[:0], a)
			if e != f || !slices.Equal(none, empty) {
				t.Errorf("P2: %s(nil, %v): %v, %v, of an empty list: %v, %v", c.name, a, none, e, empty, f)
			}
		}
	}
}

// TestErrorsChangeNothing: behind a refused call all is answered as ahead of it.
func TestErrorsChangeNothing(t *testing.T) {
	r := rand.New(rand.NewPCG(12, 5))
	for range 3000 {
		l := anyUsers(r)
		p := plainOf(l...)
		for _, c := range calls() {
			a := anybody(r, l)
			same, e := c.do(l, a)
			if e == api.OK {
				continue
			}
			for _, list := range [][]api.Addr{l, same} {
				if !slices.Equal(list, p.list()) {
					t.Fatalf("P5: %s(%v, %v), refused with %v, left %v", c.name, p.list(), a, e, list)
				}
				b := anybody(r, l)
				q, f := p.add(b)
				adds(t, list, b, q.list(), f)
				q, f = p.remove(b)
				removes(t, list, b, q.list(), f)
			}
		}
	}
}

func TestAnswersHangOnNothingElse(t *testing.T) {
	r := rand.New(rand.NewPCG(12, 6))
	for range 3000 {
		l := roomy(anyUsers(r))
		for _, c := range calls() {
			a := anybody(r, l)
			first, e := c.do(l, a)
			c.do(oddList(r), oddOne(r))
			again, f := c.do(slices.Clip(slices.Clone(l)), a)
			if e != f || !slices.Equal(first, again) {
				t.Fatalf("P3: %s(%v, %v): %v, %v, then %v, %v", c.name, l, a, first, e, again, f)
			}
		}
	}
}

func TestCallsSideBySide(t *testing.T) {
	t.Parallel()
	r := rand.New(rand.NewPCG(12, 7))
	l := roomy(full()[:6])
	var who []api.Addr
	for range 500 {
		who = append(who, anybody(r, l))
	}
	done := make(chan bool)
	for range 8 {
		go func() {
			good := true
			p := plainOf(l...)
			for _, a := range who {
				q, e := p.add(a)
				got, f := Add(l, a)
				good = good && e == f && slices.Equal(got, q.list())
				q, e = p.remove(a)
				got, f = Remove(l, a)
				good = good && e == f && slices.Equal(got, q.list())
				good = good && Has(l, a) == p.has(a) && Domain(l, a.D) == p.domain(a.D)
			}
			done <- good
		}()
	}
	for range 8 {
		if !<-done {
			t.Error("P7: calls side by side touch one another")
		}
	}
}
