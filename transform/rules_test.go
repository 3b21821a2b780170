package transform

import (
	"math"
	"math/rand/v2"
	"slices"
	"testing"
	"unsafe"

	"comitia/api"
	"comitia/op"
)

// odd is a part of any numbers and texts, seldom a valid one.
func odd(r *rand.Rand) api.Comp {
	kinds := []int{1, 2, 3, 1, 2, 3, 1, 2, 3, 0, 4, -1, math.MaxInt, math.MinInt}
	numbers := []int{0, 1, 2, 3, -1, -2, -3, 120, 121, 1 << 31, 1 << 32, 1<<53 - 1, 1 << 53, 1<<53 + 1, 1<<53 + 3, -1 << 53, math.MaxInt, math.MaxInt - 1, math.MinInt, math.MinInt + 1}
	texts := []string{"", "", "a", "bc", "\x00\xff", "defghij", text(120), text(121)}
	return api.Comp{Kind: kinds[r.IntN(len(kinds))], N: numbers[r.IntN(len(numbers))], S: texts[r.IntN(len(texts))]}
}

func oddOp(r *rand.Rand) api.Op {
	o := make(api.Op, r.IntN(7))
	for i := range o {
		o[i] = odd(r)
	}
	return o
}

// fitted is o with one more part, wherever it comes to stand, so that In of it is n (wrapped round, if need be).
func fitted(r *rand.Rand, n int, o api.Op) api.Op {
	kind := api.Keep
	if r.IntN(2) == 0 {
		kind = api.Cut
	}
	return slices.Insert(slices.Clone(o), r.IntN(len(o)+1), api.Comp{Kind: kind, N: n - op.In(o)})
}

// calls are all faces of some operations; what they answer is looked at only for P4.
func calls(t *testing.T, a, b, c api.Op) {
	t.Helper()
	for _, z := range [][2]api.Op{{a, b}, {b, a}, {a, a}, {b, c}} {
		if x, y, e := Pair(z[0], z[1]); e != api.OK && len(x)+len(y) != 0 {
			t.Fatalf("P4: %#v: %#v, %#v, %v", z, x, y, e)
		}
	}
	for _, done := range [][]api.Op{nil, {b}, {b, c}, {c, b}, {a, b, c}} {
		if o, e := Over(a, done); e != api.OK && len(o) != 0 {
			t.Fatalf("P4: %#v over %#v: %#v, %v", a, done, o, e)
		}
	}
}

func TestWhatIsNotValidEndsWithoutAPanic(t *testing.T) {
	r := rand.New(rand.NewPCG(7, 1))
	l := []api.Op{
		nil, {{}}, make(api.Op, 41), {keep(0)}, {cut(0)}, {put("")}, {{Kind: 9, N: 5}}, {{Kind: 9, N: 5, S: "abc"}}, {{Kind: -1, N: 3}},
		{keep(-1), keep(1)}, {keep(1), keep(-1)}, {cut(-2), keep(3)}, {keep(3), cut(-2)}, {cut(-5), put("ab")}, {put("abc"), keep(-3)}, {keep(0), put("a"), keep(0), cut(1)},
		{keep(-1), put("abc"), keep(1)}, {keep(5), cut(-3), keep(-2), put("a"), keep(1)}, {cut(5), keep(-9), cut(4), put("z")},
		{{Kind: api.Put, N: 3, S: "abc"}}, {{Kind: api.Cut, N: 3, S: "abc"}}, {{Kind: api.Keep, N: 3, S: "abc"}}, {{Kind: api.Keep, S: "abc"}},
		{keep(math.MaxInt)}, {keep(math.MinInt)}, {cut(math.MaxInt)}, {cut(math.MinInt)}, {keep(math.MaxInt), keep(math.MaxInt), keep(2)}, {keep(math.MaxInt), cut(math.MaxInt), keep(2)},
		{keep(math.MinInt), keep(math.MinInt)}, {keep(math.MinInt), cut(math.MinInt)}, {keep(1 << 53), put("abc")}, {keep(1<<53 + 1), put("abc"), keep(1)}, {put("abc"), keep(1<<53 - 1), put("def"), keep(1 << 62)},
		{keep(1 << 53), cut(1), cut(-1 << 53), keep(2)}, {put(text(121)), keep(-121), keep(124)}, {keep(121)}, {cut(5000)}, slices.Repeat(api.Op{keep(1), cut(-1)}, 100),
	}
	for _, a := range l {
		for _, b := range l {
			calls(t, a, b, nil)
			calls(t, a, fitted(r, op.In(a), b), b)
		}
	}
	for range 50000 {
		a, b, c := oddOp(r), oddOp(r), oddOp(r)
		if r.IntN(4) > 0 {
			b = fitted(r, op.In(a), b)
			c = fitted(r, op.Out(b), c)
		}
		calls(t, a, b, c)
	}
}

// roomy is o in a list with spare room.
func roomy(o api.Op) api.Op {
	list := append(make(api.Op, 0, len(o)+3), o...)
	copy(list[len(o):cap(list)], api.Op{keep(1), put("spare"), cut(2)})
	return list
}

// threeThatFit are two operations side by side, and one behind the second, in lists with spare room.
func threeThatFit(r *rand.Rand, valid bool) [3]api.Op {
	a, b, c := oddOp(r), oddOp(r), oddOp(r)
	b = fitted(r, op.In(a), b)
	c = fitted(r, op.Out(b), c)
	if valid {
		n := r.IntN(121)
		a, b = anyOver(r, n, 12, 1+r.IntN(6)), anyOver(r, n, 12, 1+r.IntN(6))
		c = anyOver(r, op.Out(b), 12, 1+r.IntN(6))
	}
	return [3]api.Op{roomy(a), roomy(b), roomy(c)}
}

// roomOf is a copy of an operation with its spare room.
func roomOf(o api.Op) api.Op { return slices.Clone(o[:cap(o)]) }

func TestWhatIsHandedInStays(t *testing.T) {
	r := rand.New(rand.NewPCG(7, 2))
	for i := range 3000 {
		l := threeThatFit(r, i%2 == 0)
		list := append(make([]api.Op, 0, 5), l[1:]...)
		spare := list[2:5]
		spare[0], spare[1], spare[2] = api.Op{put("spare")}, api.Op{cut(7)}, nil
		was := [3]api.Op{roomOf(l[0]), roomOf(l[1]), roomOf(l[2])}
		calls(t, l[0], l[1], l[2])
		for n := range 3 {
			Over(l[0], list[:n])
		}
		for j := range l {
			if !slices.Equal(l[j][:cap(l[j])], was[j]) {
				t.Fatalf("P2: %#v, or its spare room, became %#v", was[j], l[j][:cap(l[j])])
			}
		}
		if !slices.Equal(list[0], l[1]) || !slices.Equal(list[1], l[2]) || !slices.Equal(spare[0], api.Op{put("spare")}) || !slices.Equal(spare[1], api.Op{cut(7)}) || spare[2] != nil {
			t.Fatalf("P2: a list of operations, or its spare room, became %#v", list[:5])
		}
	}
}

// scribble writes all over an operation and its spare room.
func scribble(o api.Op) {
	o = o[:cap(o)]
	for i := range o {
		o[i] = api.Comp{Kind: 77, N: 88, S: "scribble"}
	}
}

// answers are calls of two operations side by side and one behind.
func answers(l [3]api.Op) [7]api.Op {
	var out [7]api.Op
	out[0], out[1], _ = Pair(l[0], l[1])
	out[2], out[3], _ = Pair(l[1], l[0])
	out[4], _ = Over(l[0], nil)
	out[5], _ = Over(l[0], l[1:2])
	out[6], _ = Over(l[0], l[1:])
	return out
}

// TestAnswersShareNoMemory: neither with what was handed in, nor with one another, x and y of one call among them.
func TestAnswersShareNoMemory(t *testing.T) {
	r := rand.New(rand.NewPCG(7, 3))
	for i := range 2000 {
		l := threeThatFit(r, true)
		if i%2 == 0 { // of the form already: no reason to answer one as it is
			for j := range l {
				l[j] = roomy(op.Normal(l[j]))
			}
		}
		if i%5 == 0 && op.In(l[0]) > 0 { // x and y are the same: no reason to answer one twice
			l[0], l[1] = roomy(api.Op{keep(op.In(l[0]))}), roomy(api.Op{keep(op.In(l[0]))})
			l[2] = roomy(l[1])
		}
		was := [3]api.Op{roomOf(l[0]), roomOf(l[1]), roomOf(l[2])}
		first := answers(l)
		var want [7]api.Op
		for j := range first {
			want[j] = slices.Clone(first[j])
		}
		for j := range first { // one after the other, and what is not yet scribbled on stays
			if !slices.Equal(first[j], want[j]) {
				t.Fatalf("P2: answer %d shares memory with one ahead of it: %#v, want %#v", j, first[j], want[j])
			}
			scribble(first[j])
		}
		for j := range l {
			if !slices.Equal(l[j][:cap(l[j])], was[j]) {
				t.Fatalf("P2: an answer shares memory with %#v", was[j])
			}
		}
		second := answers(l)
		for j := range l {
			scribble(l[j])
		}
		for j := range second {
			if !slices.Equal(second[j], want[j]) {
				t.Fatalf("P2: answer %d hangs on what became of another or of what was handed in: %#v, want %#v", j, second[j], want[j])
			}
		}
	}
}

// TestAnswersKeepNoTexts: what is answered is put by texts of its own.
func TestAnswersKeepNoTexts(t *testing.T) {
	s := text(100)
	inside := func(p string) bool {
		at, from := uintptr(unsafe.Pointer(unsafe.StringData(p))), uintptr(unsafe.Pointer(unsafe.StringData(s)))
		return at >= from && at < from+100
	}
	x, _, _ := Pair(api.Op{put(s)}, nil)
	_, y, _ := Pair(nil, api.Op{put(s)})
	none, _ := Over(api.Op{put(s)}, nil)
	one, _ := Over(api.Op{put(s)}, []api.Op{nil})
	for i, o := range []api.Op{x, y, none, one} {
		if len(o) != 1 || o[0].S != s {
			t.Fatalf("P701, P702: %d: %#v", i, o)
		}
		if inside(o[0].S) {
			t.Errorf("P2: answer %d keeps a text that was handed in", i)
		}
	}
}

func TestAnswersHangOnNothingElse(t *testing.T) {
	r := rand.New(rand.NewPCG(7, 4))
	for range 1000 {
		l := threeThatFit(r, true)
		first := answers(l)
		calls(t, oddOp(r), oddOp(r), oddOp(r))
		for j := range l {
			l[j] = slices.Clip(slices.Clone(l[j]))
		}
		again := answers(l)
		for j := range first {
			if !slices.Equal(first[j], again[j]) {
				t.Fatalf("P3: answer %d of %#v: %#v, then %#v", j, l, first[j], again[j])
			}
		}
	}
}

func TestCallsSideBySide(t *testing.T) {
	t.Parallel()
	r := rand.New(rand.NewPCG(7, 5))
	var in [][3]api.Op
	var want [][7]api.Op
	for range 200 {
		l := threeThatFit(r, true)
		in, want = append(in, l), append(want, answers(l))
	}
	done := make(chan bool)
	for range 8 {
		go func() {
			good := true
			for i, l := range in {
				for j, o := range answers(l) {
					good = good && slices.Equal(o, want[i][j])
				}
			}
			done <- good
		}()
	}
	for range 8 {
		if !<-done {
			t.Error("P7: calls side by side touch one another")
		}
	}
}
