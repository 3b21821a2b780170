package wavelet

import (
	"bytes"
	"math/rand/v2"
	"slices"
	"testing"

	"comitia/api"
	"comitia/delta"
	"comitia/sign"
)

// oddState is one of any numbers, that most likely no calls lead to.
func oddState(r *rand.Rand) State {
	s := State{Id: api.Id{Host: oddNumber(r), N: oddNumber(r)}, Doc: text(r.IntN(300)), Version: oddNumber(r), Hash: sum(r.IntN(256))}
	for range r.IntN(12) {
		s.People = append(s.People, []api.Addr{user(r.IntN(3), r.IntN(8)), user(oddNumber(r), oddNumber(r))}[r.IntN(2)])
	}
	return s
}

// oddEntry is one of any numbers and bytes.
func oddEntry(r *rand.Rand) api.Entry {
	e := api.Entry{S: api.Signed{Body: make([]byte, r.IntN(200)), Mac: sum(r.IntN(256))}, At: oddNumber(r), Op: oddOp(r), Hash: sum(r.IntN(256)), Mac: sum(r.IntN(256))}
	for i := range e.S.Body {
		e.S.Body[i] = byte(r.IntN(256) * r.IntN(2) >> r.IntN(8))
	}
	if r.IntN(2) == 0 {
		e.S.Body = delta.Bytes(anyDelta(r, State{Version: 3}))
	}
	return e
}

// TestAnyEntryEnds: of states that calls lead to, by whatever entries.
func TestAnyEntryEnds(t *testing.T) {
	r := rand.New(rand.NewPCG(13, 10))
	for range 20 {
		h := anyHistory(r, 12)
		for _, p := range h.states {
			for range 20 {
				does(t, p.state(), p, oddEntry(r))
			}
		}
	}
}

// TestGreatEntriesEnd: many parts, long texts, a long body.
func TestGreatEntriesEnd(t *testing.T) {
	s := attempts(t)[0].s
	a := user(1, 5)
	for _, d := range []api.Delta{edit(4, a), who(4, a, api.Add, user(0, 0)), who(4, a, api.Remove, a)} {
		for _, o := range []api.Op{make(api.Op, 1<<17), rows(1000, put(text(1000))), {put(text(1 << 20))}} {
			e := entry(s, d, nil)
			e.Op = o
			if n, err := Do(s, e); err == api.OK || !Same(n, s) {
				t.Errorf("P1: a great operation: %v", err)
			}
		}
		for _, x := range []byte{0, 1, 255} {
			e := entry(s, d, nil)
			e.S.Body = append(e.S.Body, bytes.Repeat([]byte{x}, 1<<20)...)
			if n, err := Do(s, e); err != api.ErrMore || !Same(n, s) {
				t.Errorf("P1: a great body: %v", err)
			}
		}
	}
}

// TestAnyStateEnds: what is handed in where it may not be; only that all ends counts, and that it stays.
func TestAnyStateEnds(t *testing.T) {
	r := rand.New(rand.NewPCG(13, 11))
	for range 5000 {
		s := oddState(r)
		if r.IntN(3) == 0 {
			s.Version = r.IntN(5)
		}
		was := State{s.Id, s.Doc, slices.Clone(s.People), s.Version, s.Hash}
		e := oddEntry(r)
		if r.IntN(2) == 0 {
			e = anyEntry(r, s)
		}
		n, err := Do(s, e)
		if !Same(s, was) || err != api.OK && !Same(n, s) {
			t.Fatalf("P2: %+v became %+v; %+v, %v", was, s, n, err)
		}
		New(s.Id, user(oddNumber(r), oddNumber(r)))
		Fold(s.Id, user(oddNumber(r), oddNumber(r)), []api.Entry{e, e})
		Same(s, n)
	}
}

// roomy is l in a list with spare room, in which there is more of the kind.
func roomy[T any](l []T, more ...T) []T {
	list := append(make([]T, 0, len(l)+len(more)), l...)
	copy(list[len(l):cap(list)], more)
	return list
}

// roomyState, roomyEntry have spare room in all their lists.
func roomyState(s State) State {
	s.People = roomy(s.People, user(2, 7), user(0, 0), user(88, 99))
	return s
}

func roomyEntry(e api.Entry) api.Entry {
	e.S.Body = roomy(e.S.Body, 1, 2, 3, 4)
	e.Op = roomy(e.Op, keep(1), put("spare"))
	return e
}

// whole is a list with its spare room, copied.
func whole[T any](l []T) []T { return slices.Clone(l[:cap(l)]) }

// scribble writes all over a list and its spare room.
func scribble[T any](l []T, x T) {
	l = l[:cap(l)]
	for i := range l {
		l[i] = x
	}
}

func scribbleEntry(e api.Entry) {
	scribble(e.S.Body, 0xee)
	scribble(e.Op, put("scribbled"))
}

// kept is how lists stood, with their spare room.
type kept struct {
	people []api.Addr
	body   []byte
	op     []api.Comp
}

func keptOf(s State, e api.Entry) kept {
	return kept{whole(s.People), whole(e.S.Body), whole(e.Op)}
}

func (k kept) is(s State, e api.Entry) bool {
	return slices.Equal(s.People[:cap(s.People)], k.people) && bytes.Equal(e.S.Body[:cap(e.S.Body)], k.body) && slices.Equal(e.Op[:cap(e.Op)], k.op)
}

func TestWhatIsHandedInStays(t *testing.T) {
	r := rand.New(rand.NewPCG(13, 12))
	for range 200 {
		h := anyHistory(r, 12)
		s := roomyState(h.states[r.IntN(13)].state())
		e := roomyEntry(anyEntry(r, s))
		was := keptOf(s, e)
		Do(s, e)
		Same(s, s)
		if !was.is(s, e) {
			t.Fatalf("P2: what Do was handed, or its spare room, became %+v, %+v", s, e)
		}
		l := roomy(h.l, e, api.Entry{})
		entries := whole(l)
		var lists []kept
		for i := range l {
			l[i] = roomyEntry(l[i])
			lists = append(lists, keptOf(s, l[i]))
		}
		Fold(h.id, h.creator, l)
		for i := range l {
			if !sign.Same(l[i], entries[i]) || !lists[i].is(s, l[i]) {
				t.Fatalf("P2: entry %d that Fold was handed became %+v, from %+v", i, l[i], entries[i])
			}
		}
		for i, x := range l[len(l):cap(l)] {
			if !sign.Same(x, entries[len(l)+i]) {
				t.Fatalf("P2: the spare room of Fold's list became %+v", x)
			}
		}
	}
}

// TestAnswersOfDoShareNoMemory: neither with what was handed in nor with one another, beside an error neither.
func TestAnswersOfDoShareNoMemory(t *testing.T) {
	r := rand.New(rand.NewPCG(13, 13))
	seen := map[api.Errno]int{}
	for range 300 {
		h := anyHistory(r, 10)
		for range 10 {
			p := h.states[r.IntN(11)]
			s := roomyState(p.state())
			e := roomyEntry(anyEntry(r, s))
			want, _ := p.do(e)
			was := keptOf(s, e)
			first, err := Do(s, e)
			second, _ := Do(s, e)
			seen[err]++
			scribble(first.People, user(77, 77))
			if !was.is(s, e) {
				t.Fatalf("P2: what Do answers beside %v shares memory with what it was handed", err)
			}
			scribble(s.People, user(66, 66))
			scribbleEntry(e)
			if !want.is(second) {
				t.Fatalf("P2: what Do answers beside %v hangs on what became of another answer, or of what it was handed: %+v, want %+v", err, second, want.state())
			}
		}
	}
	for _, err := range []api.Errno{api.OK, api.ErrCut, api.ErrStale, api.ErrMay, api.ErrSize, api.ErrIs, api.ErrNone, api.ErrHash} {
		if seen[err] == 0 {
			t.Errorf("P2: no call answered %v", err)
		}
	}
}

// TestStatesOfFoldShareNoMemory: none with another, nor with the entries, nor with another answer.
func TestStatesOfFoldShareNoMemory(t *testing.T) {
	r := rand.New(rand.NewPCG(13, 14))
	for range 40 {
		h := anyHistory(r, 12)
		for i := range h.l {
			h.l[i] = roomyEntry(h.l[i])
		}
		first, _ := Fold(h.id, h.creator, h.l)
		second, _ := Fold(h.id, h.creator, h.l)
		for _, e := range h.l {
			scribbleEntry(e)
		}
		for i := range first {
			if !h.states[i].is(first[i]) {
				t.Fatalf("P2: state %d of Fold hangs on the entries, or shares memory with one ahead of it: %+v", i, first[i])
			}
			scribble(first[i].People, user(55, 55))
		}
		for i := range second {
			if !h.states[i].is(second[i]) {
				t.Fatalf("P2: state %d of one Fold shares memory with another's: %+v", i, second[i])
			}
		}
		scribble(first, State{})
		if !h.states[0].is(second[0]) {
			t.Fatal("P2: the states of one Fold stand in the memory of another's")
		}
	}
}

func TestAnswersOfNewShareNoMemory(t *testing.T) {
	first, second := New(api.Id{}, user(1, 1)), New(api.Id{}, user(1, 1))
	scribble(first.People, user(44, 44))
	if !slices.Equal(second.People, []api.Addr{user(1, 1)}) {
		t.Errorf("P2: two wavelets share memory: %+v", second)
	}
}

// TestStatesGoOnAsTheyWere: whatever is done to them, each as often as it likes.
func TestStatesGoOnAsTheyWere(t *testing.T) {
	r := rand.New(rand.NewPCG(13, 15))
	s, p := start(api.Id{Host: 1, N: 2}, user(1, 0))
	states, plains := []State{s}, []plain{p}
	for range 3000 {
		i := r.IntN(len(states))
		n, q, _ := does(t, states[i], plains[i], anyEntry(r, states[i]))
		states, plains = append(states, n), append(plains, q)
	}
	for i := range states {
		if !plains[i].is(states[i]) {
			t.Fatalf("P2: a state that was answered became %+v, from %+v", states[i], plains[i].state())
		}
	}
}

// TestSpareRoomIsNobody: who stands in the room behind the people does not take part, and parts behind an operation are not done.
func TestSpareRoomIsNobody(t *testing.T) {
	s := roomyState(New(api.Id{}, user(0, 5)))
	if _, err := Do(s, entry(s, edit(0, user(2, 7)), nil)); err != api.ErrMay {
		t.Errorf("P2: somebody of the spare room: %v", err)
	}
	n, err := Do(s, roomyEntry(entry(s, who(0, user(0, 5), api.Add, user(2, 7)), nil)))
	if err != api.OK || !slices.Equal(n.People, []api.Addr{user(0, 5), user(2, 7)}) {
		t.Errorf("P2: %+v, %v", n, err)
	}
	n, err = Do(s, roomyEntry(entry(s, edit(0, user(0, 5)), api.Op{put("x")})))
	if err != api.OK || n.Doc != "x" {
		t.Errorf("P2: %+v, %v", n, err)
	}
}

// TestNoListIsAnEmptyOne: handed in.
func TestNoListIsAnEmptyOne(t *testing.T) {
	a := user(0, 5)
	s := New(api.Id{}, a)
	for _, o := range []api.Op{nil, {}, make(api.Op, 0, 4)} {
		for _, d := range []api.Delta{edit(0, a), who(0, a, api.Add, user(1, 1)), who(0, a, api.Remove, a)} {
			if n, err := Do(s, entry(s, d, o)); err != api.OK || n.Hash != entry(s, d, nil).Hash {
				t.Errorf("P2: no operation: %+v, %v", n, err)
			}
		}
	}
	for _, l := range [][]api.Addr{nil, {}, make([]api.Addr, 0, 4)} {
		s.People = l
		if n, err := Do(s, entry(s, edit(0, a), nil)); err != api.ErrMay || !Same(n, s) {
			t.Errorf("P2: nobody: %+v, %v", n, err)
		}
	}
}

// TestErrorsChangeNothing: behind a refused entry all is answered as ahead of it, of the state that was handed in and of the one that was answered.
func TestErrorsChangeNothing(t *testing.T) {
	r := rand.New(rand.NewPCG(13, 16))
	refusals := 0
	for range 60 {
		h := anyHistory(r, 10)
		for _, p := range h.states {
			s := p.state()
			n, q, err := does(t, s, p, anyEntry(r, s))
			if err == api.OK {
				continue
			}
			refusals++
			e := anyEntry(r, s)
			does(t, s, p, e)
			does(t, n, q, e)
		}
	}
	if refusals < 100 {
		t.Errorf("P5: only %d entries were refused", refusals)
	}
}

func TestAnswersHangOnNothingElse(t *testing.T) {
	r := rand.New(rand.NewPCG(13, 17))
	for range 60 {
		h := anyHistory(r, 8)
		for _, p := range h.states {
			s := p.state()
			e := anyEntry(r, s)
			first, err := Do(s, e)
			Do(oddState(r), oddEntry(r))
			again, same := Do(roomyState(s), roomyEntry(e))
			if err != same || !Same(first, again) {
				t.Fatalf("P3: %+v, %v, then %+v, %v", first, err, again, same)
			}
		}
		folds(t, "once", h.id, h.creator, h.l, h.states, api.OK)
		Fold(h.id, h.creator, []api.Entry{oddEntry(r)})
		folds(t, "again", h.id, h.creator, h.l, h.states, api.OK)
	}
}

func TestCallsSideBySide(t *testing.T) {
	t.Parallel()
	r := rand.New(rand.NewPCG(13, 18))
	h := anyHistory(r, 20)
	s := roomyState(h.states[20].state())
	var l []api.Entry
	for range 100 {
		l = append(l, roomyEntry(anyEntry(r, s)))
	}
	done := make(chan bool)
	for range 8 {
		go func() {
			good := true
			for _, e := range l {
				want, err := h.states[20].do(e)
				got, e := Do(s, e)
				good = good && err == e && want.is(got) && Same(got, want.state())
			}
			states, err := Fold(h.id, h.creator, h.l)
			good = good && err == api.OK && len(states) == len(h.states)
			for i := range states {
				good = good && h.states[i].is(states[i])
			}
			done <- good && h.states[0].is(New(h.id, h.creator))
		}()
	}
	for range 8 {
		if !<-done {
			t.Error("P7: calls side by side touch one another")
		}
	}
}
