package compose

import (
	"math"
	"math/rand/v2"
	"slices"
	"testing"
	"unsafe"

	"comitia/api"
	"comitia/op"
)

// odd is a part of any numbers and texts, seldom a valid one.
func odd(r *rand.Rand) api.Comp {
	kinds := []int{1, 2, 3, 1, 2, 3, 1, 2, 3, 0, 4, -1, math.MaxInt, math.MinInt}
	numbers := []int{0, 1, 2, 3, -1, -2, -3, 120, 121, 1 << 31, 1 << 32, 1<<53 - 1, 1 << 53, 1<<53 + 1, 1<<53 + 3, -1 << 53, math.MaxInt, math.MaxInt - 1, math.MinInt, math.MinInt + 1}
	texts := []string{"", "", "a", "bc", "\x00\xff", "defghij", text(120), text(121)}
	return api.Comp{Kind: kinds[r.IntN(len(kinds))], N: numbers[r.IntN(len(numbers))], S: texts[r.IntN(len(texts))]}
}

func oddOp(r *rand.Rand) api.Op {
	o := make(api.Op, r.IntN(7))
	for i := range o {
		o[i] = odd(r)
	}
	return o
}

// fitted is b with one more part, wherever it comes to stand, so that In of it is Out of a (wrapped round, if need be).
func fitted(r *rand.Rand, a, b api.Op) api.Op {
	kind := api.Keep
	if r.IntN(2) == 0 {
		kind = api.Cut
	}
	return slices.Insert(slices.Clone(b), r.IntN(len(b)+1), api.Comp{Kind: kind, N: op.Out(a) - op.In(b)})
}

// calls are all faces of some operations; what they answer is looked at only for P4.
func calls(t *testing.T, a, b, c api.Op) {
	t.Helper()
	quiet := func(o api.Op, e api.Errno) {
		if e != api.OK && len(o) != 0 {
			t.Fatalf("P4: %#v, %#v, %#v: %#v, %v", a, b, c, o, e)
		}
	}
	quiet(Two(a, b))
	quiet(Two(b, a))
	quiet(Two(a, a))
	for _, n := range []int{0, 1, 2, 3, 120, 121, -1, math.MaxInt, math.MinInt, op.In(a)} {
		quiet(All(n))
		quiet(All(n, a))
		quiet(All(n, a, b))
		quiet(All(n, a, b, c))
	}
}

func TestWhatIsNotValidEndsWithoutAPanic(t *testing.T) {
	r := rand.New(rand.NewPCG(5, 1))
	l := []api.Op{
		nil, {{}}, make(api.Op, 41), {keep(0)}, {cut(0)}, {put("")}, {{Kind: 9, N: 5}}, {{Kind: 9, N: 5, S: "abc"}},
		{keep(-1), keep(1)}, {keep(1), keep(-1)}, {cut(-2), keep(3)}, {keep(3), cut(-2)}, {cut(-5), put("ab")}, {put("abc"), keep(-3)},
		{put("abc"), keep(-1)}, {keep(-1), put("abc")}, {keep(-1), put("abc"), keep(1)},
		{{Kind: api.Put, N: 3, S: "abc"}}, {{Kind: api.Cut, N: 3, S: "abc"}}, {{Kind: api.Keep, N: 3, S: "abc"}}, {{Kind: api.Keep, S: "abc"}},
		{keep(math.MaxInt)}, {keep(math.MinInt)}, {cut(math.MaxInt)}, {cut(math.MinInt)}, {keep(math.MaxInt), keep(math.MaxInt), keep(2)},
		{keep(math.MinInt), keep(math.MinInt)}, {keep(1 << 53), put("abc")}, {keep(1<<53 + 1), put("abc"), keep(1)}, {put("abc"), keep(1<<53 - 1), put("def"), keep(1 << 62)},
		{keep(1 << 53), keep(1), cut(-1 << 53), keep(2)}, {put(text(121)), keep(-121), keep(124)},
	}
	for _, a := range l {
		for _, b := range l {
			calls(t, a, b, nil)
			calls(t, a, fitted(r, a, b), b)
		}
	}
	for range 30000 {
		a, b, c := oddOp(r), oddOp(r), oddOp(r)
		if r.IntN(4) > 0 {
			b = fitted(r, a, b)
			c = fitted(r, b, c)
		}
		calls(t, a, b, c)
	}
}

// threeThatFit are operations in lists with spare room.
func threeThatFit(r *rand.Rand, valid bool) [3]api.Op {
	var l [3]api.Op
	size := r.IntN(121)
	for i := range l {
		var o api.Op
		switch {
		case valid:
			o = anyOver(r, size, 12, 1+r.IntN(6))
			size = op.Out(o)
		case i == 0:
			o = oddOp(r)
		default:
			o = fitted(r, l[i-1], oddOp(r))
		}
		l[i] = append(make(api.Op, 0, len(o)+3), o...)
		copy(l[i][len(o):cap(l[i])], api.Op{keep(1), put("spare"), cut(2)})
	}
	return l
}

// roomOf is a copy of an operation with its spare room.
func roomOf(o api.Op) api.Op { return slices.Clone(o[:cap(o)]) }

func TestWhatIsHandedInStays(t *testing.T) {
	r := rand.New(rand.NewPCG(5, 2))
	for i := range 3000 {
		l := threeThatFit(r, i%2 == 0)
		list := append(make([]api.Op, 0, 5), l[:]...)
		spare := list[3:5]
		spare[0], spare[1] = api.Op{put("spare")}, api.Op{cut(7)}
		var was [3]api.Op
		for j := range l {
			was[j] = roomOf(l[j])
		}
		calls(t, l[0], l[1], l[2])
		for n := range 4 {
			All(op.In(l[0]), list[:n]...)
		}
		for j := range l {
			if !slices.Equal(l[j][:cap(l[j])], was[j]) || !slices.Equal(list[j], l[j]) || len(list[j]) != len(l[j]) {
				t.Fatalf("P2: %#v, or its spare room, became %#v", was[j], l[j][:cap(l[j])])
			}
		}
		if !slices.Equal(spare[0], api.Op{put("spare")}) || !slices.Equal(spare[1], api.Op{cut(7)}) {
			t.Fatalf("P2: the spare room of a list became %#v", spare)
		}
	}
}

// scribble writes all over an operation and its spare room.
func scribble(o api.Op) {
	o = o[:cap(o)]
	for i := range o {
		o[i] = api.Comp{Kind: 77, N: 88, S: "scribble"}
	}
}

// answers are calls of one, two and three operations.
func answers(l [3]api.Op) [4]api.Op {
	var out [4]api.Op
	n := op.In(l[0])
	out[0], _ = Two(l[0], l[1])
	out[1], _ = All(n, l[0])
	out[2], _ = All(n, l[0], l[1])
	out[3], _ = All(n, l[:]...)
	return out
}

func TestAnswersShareNoMemory(t *testing.T) {
	r := rand.New(rand.NewPCG(5, 3))
	for i := range 2000 {
		l := threeThatFit(r, true)
		if i%2 == 0 { // of the form already: no reason to answer one as it is
			for j := range l {
				l[j] = append(make(api.Op, 0, len(l[j])+2), op.Normal(l[j])...)
			}
		}
		var was [3]api.Op
		for j := range l {
			was[j] = roomOf(l[j])
		}
		first, second := answers(l), answers(l)
		var want [4]api.Op
		for j := range first {
			want[j] = slices.Clone(first[j])
			scribble(first[j])
		}
		for j := range l {
			if !slices.Equal(l[j][:cap(l[j])], was[j]) {
				t.Fatalf("P2: an answer shares memory with %#v", was[j])
			}
			scribble(l[j])
		}
		for j := range second {
			if !slices.Equal(second[j], want[j]) {
				t.Fatalf("P2: answer %d hangs on what became of another or of what was handed in: %#v, want %#v", j, second[j], want[j])
			}
		}
	}
	for range 2 {
		o, _ := All(5)
		if !slices.Equal(o, api.Op{keep(5)}) {
			t.Fatalf("P2: what keeps 5 bytes was handed out before: %#v", o)
		}
		scribble(o)
	}
}

// TestAnswersKeepNoTexts: a small piece of a text does not hold all of it.
func TestAnswersKeepNoTexts(t *testing.T) {
	s := text(100)
	inside := func(p string) bool {
		at, from := uintptr(unsafe.Pointer(unsafe.StringData(p))), uintptr(unsafe.Pointer(unsafe.StringData(s)))
		return at >= from && at < from+100
	}
	one, _ := All(0, api.Op{put(s)})
	kept, _ := Two(api.Op{put(s)}, api.Op{keep(100)})
	piece, _ := Two(api.Op{put(s)}, api.Op{cut(50), keep(1), cut(49)})
	behind, _ := Two(api.Op{keep(1)}, api.Op{keep(1), put(s)})
	for i, o := range []api.Op{one, kept, piece, behind} {
		if len(o) == 0 || o[len(o)-1].S == "" {
			t.Fatalf("P501: %d: %#v", i, o)
		}
		if inside(o[len(o)-1].S) {
			t.Errorf("P2: answer %d keeps a text that was handed in", i)
		}
	}
}

func TestAnswersHangOnNothingElse(t *testing.T) {
	r := rand.New(rand.NewPCG(5, 4))
	for range 1000 {
		l := threeThatFit(r, true)
		first := answers(l)
		calls(t, oddOp(r), oddOp(r), oddOp(r))
		for j := range l {
			l[j] = slices.Clip(slices.Clone(l[j]))
		}
		again := answers(l)
		for j := range first {
			if !slices.Equal(first[j], again[j]) {
				t.Fatalf("P3: answer %d of %#v: %#v, then %#v", j, l, first[j], again[j])
			}
		}
	}
}

// TestNoListIsAnEmptyOne: nil and an empty one are the same, wherever they stand.
func TestNoListIsAnEmptyOne(t *testing.T) {
	for _, o := range []api.Op{nil, {}, make(api.Op, 0, 5)} {
		for _, p := range []api.Op{nil, {}, make(api.Op, 0, 5)} {
			if got, e := Two(o, p); e != api.OK || len(got) != 0 {
				t.Errorf("P2: Two: %#v, %v", got, e)
			}
			if got, e := All(0, o, p); e != api.OK || len(got) != 0 {
				t.Errorf("P2: All: %#v, %v", got, e)
			}
			if got, e := Two(p, api.Op{put("a")}); e != api.OK || !slices.Equal(got, api.Op{put("a")}) {
				t.Errorf("P2: Two: %#v, %v", got, e)
			}
		}
	}
}

func TestCallsSideBySide(t *testing.T) {
	t.Parallel()
	r := rand.New(rand.NewPCG(5, 5))
	var in [][3]api.Op
	var want [][4]api.Op
	for range 200 {
		l := threeThatFit(r, true)
		in, want = append(in, l), append(want, answers(l))
	}
	done := make(chan bool)
	for range 8 {
		go func() {
			good := true
			for i, l := range in {
				for j, o := range answers(l) {
					good = good && slices.Equal(o, want[i][j])
				}
			}
			done <- good
		}()
	}
	for range 8 {
		if !<-done {
			t.Error("P7: calls side by side touch one another")
		}
	}
}
