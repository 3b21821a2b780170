package invert

import (
	"math"
	"math/rand/v2"
	"slices"
	"testing"
	"unsafe"

	"comitia/api"
	"comitia/op"
)

// odd is a part of any numbers and texts, seldom a valid one.
func odd(r *rand.Rand) api.Comp {
	kinds := []int{1, 2, 3, 1, 2, 3, 1, 2, 3, 0, 4, -1, math.MaxInt, math.MinInt}
	numbers := []int{0, 1, 2, 3, -1, -2, -3, 120, 121, 1 << 31, 1 << 32, 1<<53 - 1, 1 << 53, 1<<53 + 1, 1<<53 + 3, -1 << 53, math.MaxInt, math.MaxInt - 1, math.MinInt, math.MinInt + 1}
	texts := []string{"", "", "a", "bc", "\x00\xff", "defghij", text(120), text(121)}
	return api.Comp{Kind: kinds[r.IntN(len(kinds))], N: numbers[r.IntN(len(numbers))], S: texts[r.IntN(len(texts))]}
}

func oddOp(r *rand.Rand) api.Op {
	o := make(api.Op, r.IntN(7))
	for i := range o {
		o[i] = odd(r)
	}
	return o
}

// fitted is o with one more part, wherever it comes to stand, so that In of it is n (wrapped round, if need be).
func fitted(r *rand.Rand, n int, o api.Op) api.Op {
	kind := api.Keep
	if r.IntN(2) == 0 {
		kind = api.Cut
	}
	return slices.Insert(slices.Clone(o), r.IntN(len(o)+1), api.Comp{Kind: kind, N: n - op.In(o)})
}

// quiet calls Op; what it answers is looked at only for P4.
func quiet(t *testing.T, doc string, o api.Op) {
	t.Helper()
	if got, e := Op(doc, o); e != api.OK && len(got) != 0 {
		t.Fatalf("P4: %#v of %q: %#v, %v", o, doc, got, e)
	}
}

func TestWhatIsNotValidEndsWithoutAPanic(t *testing.T) {
	r := rand.New(rand.NewPCG(6, 1))
	docs := []string{"", "a", "ab", "abc", "abcdef", text(119), text(120), text(121), text(5000)}
	for _, o := range []api.Op{
		nil, {{}}, make(api.Op, 41), {keep(0)}, {cut(0)}, {put("")}, {{Kind: 9, N: 3}}, {{Kind: 9, N: 3, S: "abc"}}, {{Kind: -1, N: 3}},
		{keep(-1), keep(1)}, {keep(1), keep(-1)}, {keep(-1), keep(4)}, {keep(-1), cut(4)}, {cut(-1), cut(4)}, {cut(5), cut(-2)}, {keep(5), keep(-2)}, {keep(5), cut(-2)},
		{cut(4), cut(-4), cut(3)}, {keep(2), keep(-4), keep(5)}, {cut(-2), keep(3)}, {put("abc"), cut(-3)}, {cut(1), cut(-2), cut(1)},
		{{Kind: api.Put, N: 3}}, {{Kind: api.Put, N: 3, S: "abc"}}, {{Kind: api.Cut, N: 3, S: "abc"}}, {{Kind: api.Keep, N: 3, S: "abc"}}, {{Kind: api.Keep, S: "abc"}},
		{keep(121)}, {cut(121)}, {put(text(121))}, {keep(5000)}, {cut(5000)}, slices.Repeat(api.Op{keep(1)}, 120), slices.Repeat(api.Op{cut(1)}, 121),
		{keep(math.MaxInt)}, {keep(math.MinInt)}, {cut(math.MaxInt)}, {cut(math.MinInt)}, {keep(math.MaxInt), keep(math.MaxInt), keep(5)}, {cut(math.MaxInt), cut(math.MaxInt), cut(5)},
		{keep(math.MinInt), keep(math.MinInt)}, {cut(math.MinInt), cut(math.MinInt), cut(3)}, {keep(1 << 53), keep(1), keep(-1 << 53), cut(2)}, {cut(1<<53 + 1), keep(-1 << 53), cut(2)},
	} {
		for _, doc := range docs {
			quiet(t, doc, o)
			quiet(t, doc, fitted(r, len(doc), o))
		}
	}
	for range 100000 {
		doc, o := docs[r.IntN(len(docs))], oddOp(r)
		if r.IntN(8) > 0 {
			o = fitted(r, len(doc), o)
		}
		quiet(t, doc, o)
	}
}

// roomy is a document and an operation over it in a list with spare room.
func roomy(r *rand.Rand, valid bool) (string, api.Op) {
	doc := anyText(r, r.IntN(121))
	o := fitted(r, len(doc), oddOp(r))
	if valid {
		o = anyOver(r, len(doc), 12, 1+r.IntN(6))
	}
	list := append(make(api.Op, 0, len(o)+3), o...)
	copy(list[len(o):cap(list)], api.Op{keep(1), put("spare"), cut(2)})
	return doc, list
}

// roomOf is a copy of an operation with its spare room.
func roomOf(o api.Op) api.Op { return slices.Clone(o[:cap(o)]) }

func TestWhatIsHandedInStays(t *testing.T) {
	r := rand.New(rand.NewPCG(6, 2))
	for i := range 3000 {
		doc, o := roomy(r, i%2 == 0)
		was := roomOf(o)
		quiet(t, doc, o)
		quiet(t, doc+"x", o)
		if !slices.Equal(o[:cap(o)], was) {
			t.Fatalf("P2: %#v, or its spare room, became %#v", was, o[:cap(o)])
		}
	}
}

// scribble writes all over an operation and its spare room.
func scribble(o api.Op) {
	o = o[:cap(o)]
	for i := range o {
		o[i] = api.Comp{Kind: 77, N: 88, S: "scribble"}
	}
}

func TestAnswersShareNoMemory(t *testing.T) {
	r := rand.New(rand.NewPCG(6, 3))
	for i := range 3000 {
		doc, o := roomy(r, true)
		if i%3 == 0 && len(doc) > 0 { // it undoes itself: no reason to answer it as it is
			o = append(make(api.Op, 0, 4), keep(len(doc)))
		}
		was := roomOf(o)
		first, _ := Op(doc, o)
		second, _ := Op(doc, o)
		want := slices.Clone(first)
		scribble(first)
		if !slices.Equal(o[:cap(o)], was) {
			t.Fatalf("P2: an answer shares memory with %#v", was)
		}
		scribble(o)
		if !slices.Equal(second, want) {
			t.Fatalf("P2: an answer hangs on what became of another or of what was handed in: %#v, want %#v", second, want)
		}
	}
}

// TestAnswersKeepNoTexts: a piece that was cut does not hold the document it was cut of.
func TestAnswersKeepNoTexts(t *testing.T) {
	doc := text(100)
	for _, o := range []api.Op{{cut(100)}, {keep(99), cut(1)}, {keep(50), cut(25), cut(25)}, {put("abc"), keep(40), put("x"), cut(60)}} {
		got, e := Op(doc, o)
		some := false
		for _, c := range got {
			if c.S == "" {
				continue
			}
			some = true
			at, from := uintptr(unsafe.Pointer(unsafe.StringData(c.S))), uintptr(unsafe.Pointer(unsafe.StringData(doc)))
			if at >= from && at < from+100 {
				t.Errorf("P2: %#v: %#v keeps the document that was handed in", o, got)
			}
		}
		if e != api.OK || !some {
			t.Errorf("P601: %#v: %#v, %v", o, got, e)
		}
	}
}

func TestAnswersHangOnNothingElse(t *testing.T) {
	r := rand.New(rand.NewPCG(6, 4))
	for range 1000 {
		doc, o := roomy(r, true)
		first, e := Op(doc, o)
		quiet(t, text(3), fitted(r, 3, oddOp(r)))
		again, f := Op(doc, slices.Clip(slices.Clone(o)))
		if e != f || !slices.Equal(first, again) {
			t.Fatalf("P3: %#v of %q: %#v, %v, then %#v, %v", o, doc, first, e, again, f)
		}
	}
}

func TestCallsSideBySide(t *testing.T) {
	t.Parallel()
	r := rand.New(rand.NewPCG(6, 5))
	var docs []string
	var ops, want []api.Op
	for range 200 {
		doc, o := roomy(r, true)
		back, _ := Op(doc, o)
		docs, ops, want = append(docs, doc), append(ops, o), append(want, back)
	}
	done := make(chan bool)
	for range 8 {
		go func() {
			good := true
			for i := range docs {
				back, e := Op(docs[i], ops[i])
				good = good && e == api.OK && slices.Equal(back, want[i])
			}
			done <- good
		}()
	}
	for range 8 {
		if !<-done {
			t.Error("P7: calls side by side touch one another")
		}
	}
}
