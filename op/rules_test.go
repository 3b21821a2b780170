package op

import (
	"math"
	"math/rand/v2"
	"slices"
	"testing"

	"comitia/api"
)

// odd is a part of any numbers and texts, seldom a valid one.
func odd(r *rand.Rand) api.Comp {
	kinds := []int{1, 2, 3, 1, 2, 3, 0, 4, -1, math.MaxInt, math.MinInt}
	numbers := []int{0, 1, 2, 3, -1, -2, -3, 120, 121, 1 << 31, 1 << 32, 1 << 53, 1<<53 + 1, math.MaxInt, math.MaxInt - 1, math.MinInt, math.MinInt + 1}
	texts := []string{"", "", "a", "bc", "\x00\xff", text(120), text(121)}
	return api.Comp{Kind: kinds[r.IntN(len(kinds))], N: numbers[r.IntN(len(numbers))], S: texts[r.IntN(len(texts))]}
}

func TestWhatIsNotValidEndsWithoutAPanic(t *testing.T) {
	docs := []string{"", "a", "ab", "abc", text(120), text(121), text(1000)}
	call := func(o api.Op) {
		for _, doc := range append(docs, text(In(o)&1023)) {
			if s, e := Apply(doc, o); e != api.OK && s != "" {
				t.Fatalf("P4: %#v of %q: %q, %v", o, doc, s, e)
			}
		}
		Check(o)
		Out(o)
		Normal(Normal(o))
		if !Same(o, o) {
			t.Fatalf("P401: %#v is not as itself", o)
		}
	}
	for _, o := range []api.Op{
		{{}}, make(api.Op, 41), {keep(0)}, {cut(0)}, {put("")},
		{keep(-1), keep(1)}, {keep(1), keep(-1)}, {cut(-2), keep(3)}, {keep(3), cut(-2)}, {keep(-1), cut(1), keep(3)},
		{keep(4), cut(-1)}, {keep(4), keep(-1)}, {keep(-3), keep(3), keep(3)},
		{keep(math.MaxInt), keep(math.MaxInt), keep(2)}, {keep(math.MinInt), keep(math.MinInt)}, {cut(math.MaxInt), keep(math.MinInt), keep(4)},
		{keep(math.MaxInt)}, {cut(math.MaxInt)}, {keep(math.MinInt)}, {cut(math.MinInt)},
		{{Kind: 9, N: 5}}, {{Kind: 9, N: 5, S: "abc"}, keep(3)}, {{Kind: api.Put, N: 3, S: "abc"}, cut(3)}, {{Kind: api.Cut, N: 3, S: "abc"}},
		{keep(1 << 53), keep(1), keep(-1 << 53), keep(2)}, {put(text(121)), keep(-121), keep(124)},
	} {
		call(o)
	}
	r := rand.New(rand.NewPCG(4, 1))
	for range 20000 {
		o := make(api.Op, r.IntN(7))
		for i := range o {
			o[i] = odd(r)
		}
		call(o)
	}
}

// faces are all calls on an operation; what they answer is dropped.
func faces(doc string, o api.Op) {
	Check(o)
	In(o)
	Out(o)
	Apply(doc, o)
	Apply("", o)
	Normal(o)
	Same(o, o)
	Same(o, nil)
}

func TestWhatIsHandedInStays(t *testing.T) {
	r := rand.New(rand.NewPCG(4, 2))
	for i := range 2000 {
		whole := anyOp(r, 50, 1+r.IntN(10))
		if i%2 == 1 {
			for j := range whole {
				whole[j] = odd(r)
			}
		}
		was := slices.Clone(whole)
		for n := range whole { // whole[:n] has spare room
			faces(text(In(whole[:n])&1023), whole[:n])
		}
		faces(text(In(whole)&1023), whole)
		if !slices.Equal(whole, was) {
			t.Fatalf("P2: %#v, or its spare room, became %#v", was, whole)
		}
	}
}

// TestAnswersShareNoMemory: what was handed in is written over, then each answer, its spare room too.
func TestAnswersShareNoMemory(t *testing.T) {
	r := rand.New(rand.NewPCG(4, 3))
	for range 2000 {
		o := anyOp(r, 12, 4)
		was := slices.Clone(o)
		first, second := Normal(o), Normal(o)
		want := slices.Clone(first)
		scribble(o)
		if !slices.Equal(first, want) || !slices.Equal(second, want) {
			t.Fatalf("P2: Normal of %#v hangs on what became of it", was)
		}
		copy(o, was)
		scribble(first)
		if !slices.Equal(o, was) || !slices.Equal(second, want) {
			t.Fatalf("P2: Normal of %#v shares memory", was)
		}
		of := Normal(second) // of the form already: no reason to answer it as it is
		scribble(of)
		if !slices.Equal(second, want) {
			t.Fatalf("P2: Normal of %#v is not new", want)
		}
	}
}

// scribble writes all over an operation and its spare room.
func scribble(o api.Op) {
	o = o[:cap(o)]
	for i := range o {
		o[i] = api.Comp{Kind: 77, N: 88, S: "scribble"}
	}
}

func TestAnswersHangOnNothingElse(t *testing.T) {
	r := rand.New(rand.NewPCG(4, 4))
	for range 500 {
		o := anyOp(r, 20, 4)
		doc := text(In(o))
		s, e := Apply(doc, o)
		n := Normal(o)
		faces("abc", anyOp(r, 20, 4))
		roomy := append(make(api.Op, 0, 100), o...)
		again, f := Apply(doc, roomy)
		if again != s || e != f || !Same(Normal(roomy), n) || Check(roomy) != Check(o) || In(roomy) != In(o) || Out(roomy) != Out(o) {
			t.Fatalf("P3: %#v answers otherwise the second time", o)
		}
	}
}

func TestCallsSideBySide(t *testing.T) {
	t.Parallel()
	r := rand.New(rand.NewPCG(4, 5))
	var ops, want []api.Op
	for range 200 {
		o := anyOp(r, 30, 4)
		ops, want = append(ops, o), append(want, Normal(o))
	}
	done := make(chan bool)
	for range 8 {
		go func() {
			good := true
			for i, o := range ops {
				doc := text(In(o))
				a, e := Apply(doc, o)
				b, f := Apply(doc, want[i])
				good = good && Same(Normal(o), want[i]) && a == b && e == f
			}
			done <- good
		}()
	}
	for range 8 {
		if !<-done {
			t.Error("P7: calls side by side touch one another")
		}
	}
}
