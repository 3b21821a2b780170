package transform

import (
	"math/rand/v2"
	"slices"
	"testing"

	"comitia/api"
	"comitia/op"
)

type beside struct {
	what       string
	a, b, x, y api.Op
}

func pairsOf(t *testing.T, l []beside) {
	t.Helper()
	for _, z := range l {
		x, y, e := Pair(z.a, z.b)
		if e != api.OK || !slices.Equal(x, z.x) || !slices.Equal(y, z.y) {
			t.Errorf("P701: %s: %#v, %#v, %v, want %#v, %#v", z.what, x, y, e, z.x, z.y)
		}
	}
}

func TestExampleOne(t *testing.T) {
	a, b := api.Op{put("a")}, api.Op{put("b")}
	pairsOf(t, []beside{{"Put a beside Put b", a, b, api.Op{put("a"), keep(1)}, api.Op{keep(1), put("b")}}})
	x, y, _ := Pair(a, b)
	if got, e := op.Apply("a", y); got != "ab" || e != api.OK {
		t.Errorf("P701: ab, when a's comes first: %q, %v", got, e)
	}
	if got, e := op.Apply("b", x); got != "ab" || e != api.OK {
		t.Errorf("P701: ab, when b's comes first: %q, %v", got, e)
	}
}

func TestPairOfNoPart(t *testing.T) {
	none := []api.Op{nil, {}, make(api.Op, 0, 5)}
	for _, a := range none {
		for _, b := range none {
			pairsOf(t, []beside{{"nothing beside nothing", a, b, nil, nil}})
		}
		pairsOf(t, []beside{
			{"nothing beside a Put", a, api.Op{put("bc")}, api.Op{keep(2)}, api.Op{put("bc")}},
			{"a Put beside nothing", api.Op{put("bc")}, a, api.Op{put("bc")}, api.Op{keep(2)}},
			{"nothing beside Puts", a, api.Op{put("b"), put("cd")}, api.Op{keep(3)}, api.Op{put("bcd")}},
			{"Puts beside nothing", api.Op{put("b"), put("cd")}, a, api.Op{put("bcd")}, api.Op{keep(3)}},
		})
	}
}

// TestPutBesidePut: at one place a's text stands ahead in both, however long the texts are.
func TestPutBesidePut(t *testing.T) {
	for _, s := range []string{"a", "bc", "def", text(120)} {
		for _, u := range []string{"u", "vw", "xyz", text(120)[7:]} {
			pairsOf(t, []beside{
				{"alone", api.Op{put(s)}, api.Op{put(u)}, api.Op{put(s), keep(len(u))}, api.Op{keep(len(s)), put(u)}},
				{"ahead", api.Op{put(s), keep(3)}, api.Op{put(u), keep(3)}, api.Op{put(s), keep(len(u) + 3)}, api.Op{keep(len(s)), put(u), keep(3)}},
				{"between", api.Op{keep(1), put(s), keep(2)}, api.Op{keep(1), put(u), keep(2)}, api.Op{keep(1), put(s), keep(len(u) + 2)}, api.Op{keep(1 + len(s)), put(u), keep(2)}},
				{"behind", api.Op{keep(3), put(s)}, api.Op{keep(3), put(u)}, api.Op{keep(3), put(s), keep(len(u))}, api.Op{keep(3 + len(s)), put(u)}},
				{"b's a byte sooner", api.Op{keep(2), put(s), keep(1)}, api.Op{keep(1), put(u), keep(2)}, api.Op{keep(2 + len(u)), put(s), keep(1)}, api.Op{keep(1), put(u), keep(2 + len(s))}},
				{"a's a byte sooner", api.Op{keep(1), put(s), keep(2)}, api.Op{keep(2), put(u), keep(1)}, api.Op{keep(1), put(s), keep(2 + len(u))}, api.Op{keep(2 + len(s)), put(u), keep(1)}},
			})
		}
	}
	pairsOf(t, []beside{{"the same text", api.Op{put("aa")}, api.Op{put("aa")}, api.Op{put("aa"), keep(2)}, api.Op{keep(2), put("aa")}}})
}

func TestPutBesideKeep(t *testing.T) {
	pairsOf(t, []beside{
		{"a's, ahead", api.Op{put("a"), keep(3)}, api.Op{keep(3)}, api.Op{put("a"), keep(3)}, api.Op{keep(4)}},
		{"a's, in its midst", api.Op{keep(1), put("ab"), keep(2)}, api.Op{keep(3)}, api.Op{keep(1), put("ab"), keep(2)}, api.Op{keep(5)}},
		{"a's, behind", api.Op{keep(3), put("abc")}, api.Op{keep(3)}, api.Op{keep(3), put("abc")}, api.Op{keep(6)}},
		{"b's, ahead", api.Op{keep(3)}, api.Op{put("a"), keep(3)}, api.Op{keep(4)}, api.Op{put("a"), keep(3)}},
		{"b's, in its midst", api.Op{keep(3)}, api.Op{keep(1), put("ab"), keep(2)}, api.Op{keep(5)}, api.Op{keep(1), put("ab"), keep(2)}},
		{"b's, behind", api.Op{keep(3)}, api.Op{keep(3), put("abc")}, api.Op{keep(6)}, api.Op{keep(3), put("abc")}},
		{"both, all round", api.Op{put("a"), keep(1), put("b"), keep(1), put("c")}, api.Op{put("x"), keep(1), put("y"), keep(1), put("z")},
			api.Op{put("a"), keep(2), put("b"), keep(2), put("c"), keep(1)}, api.Op{keep(1), put("x"), keep(2), put("y"), keep(2), put("z")}},
		{"a text as long as a document beside one", api.Op{put(text(120)), keep(120)}, api.Op{keep(120)}, api.Op{put(text(120)), keep(120)}, api.Op{keep(240)}},
	})
}

func TestPutBesideCut(t *testing.T) {
	pairsOf(t, []beside{
		{"b's, ahead of a's Cut", api.Op{cut(2)}, api.Op{put("x"), keep(2)}, api.Op{keep(1), cut(2)}, api.Op{put("x")}},
		{"b's, in the midst of a's Cut", api.Op{cut(3)}, api.Op{keep(1), put("xy"), keep(2)}, api.Op{cut(1), keep(2), cut(2)}, api.Op{put("xy")}},
		{"b's, behind a's Cut", api.Op{cut(2)}, api.Op{keep(2), put("x")}, api.Op{cut(2), keep(1)}, api.Op{put("x")}},
		{"b's, between a's Cut and a's Keep", api.Op{cut(2), keep(1)}, api.Op{keep(2), put("x"), keep(1)}, api.Op{cut(2), keep(2)}, api.Op{put("x"), keep(1)}},
		{"a's, ahead of b's Cut", api.Op{put("x"), keep(2)}, api.Op{cut(2)}, api.Op{put("x")}, api.Op{keep(1), cut(2)}},
		{"a's, in the midst of b's Cut", api.Op{keep(1), put("xy"), keep(2)}, api.Op{cut(3)}, api.Op{put("xy")}, api.Op{cut(1), keep(2), cut(2)}},
		{"a's, behind b's Cut", api.Op{keep(2), put("x")}, api.Op{cut(2)}, api.Op{put("x")}, api.Op{cut(2), keep(1)}},
		{"both, where a cuts", api.Op{put("a"), cut(1)}, api.Op{put("b"), keep(1)}, api.Op{put("a"), keep(1), cut(1)}, api.Op{keep(1), put("b")}},
		{"both, where b cuts", api.Op{put("a"), keep(1)}, api.Op{put("b"), cut(1)}, api.Op{put("a"), keep(1)}, api.Op{keep(1), put("b"), cut(1)}},
		{"both, where both cut", api.Op{put("a"), cut(1)}, api.Op{put("b"), cut(1)}, api.Op{put("a"), keep(1)}, api.Op{keep(1), put("b")}},
		{"a's on both sides of what b cuts", api.Op{put("a"), keep(1), put("b")}, api.Op{cut(1)}, api.Op{put("ab")}, api.Op{keep(1), cut(1), keep(1)}},
		{"b's on both sides of what a cuts", api.Op{cut(1)}, api.Op{put("a"), keep(1), put("b")}, api.Op{keep(1), cut(1), keep(1)}, api.Op{put("ab")}},
		{"b's ahead of a byte that a cuts, a's behind it", api.Op{keep(1), cut(1), keep(1), put("A")}, api.Op{keep(1), put("B"), cut(2)}, api.Op{keep(2), put("A")}, api.Op{keep(1), put("B"), cut(1), keep(1)}},
		{"a Cut of a's ahead of a Put of a's, when b cut what was between", api.Op{cut(1), keep(1), put("A")}, api.Op{keep(1), cut(1)}, api.Op{put("A"), cut(1)}, api.Op{cut(1), keep(1)}},
		{"a Cut of b's ahead of a Put of b's, when a cut what was between", api.Op{keep(1), cut(1)}, api.Op{cut(1), keep(1), put("B")}, api.Op{cut(1), keep(1)}, api.Op{put("B"), cut(1)}},
	})
}

// TestKeepAndCutOfEachLength: the lesser number of bytes counts, whichever side it is on.
func TestKeepAndCutOfEachLength(t *testing.T) {
	for n := 1; n <= 60; n++ {
		pairsOf(t, []beside{
			{"both keep", api.Op{keep(n)}, api.Op{keep(n)}, api.Op{keep(n)}, api.Op{keep(n)}},
			{"both cut", api.Op{cut(n)}, api.Op{cut(n)}, nil, nil},
			{"a alone cuts", api.Op{cut(n)}, api.Op{keep(n)}, api.Op{cut(n)}, nil},
			{"b alone cuts", api.Op{keep(n)}, api.Op{cut(n)}, nil, api.Op{cut(n)}},
		})
		for m := 1; m <= 60; m++ {
			pairsOf(t, []beside{
				{"b cuts less", api.Op{cut(n + m)}, api.Op{cut(n), keep(m)}, api.Op{cut(m)}, nil},
				{"a cuts less", api.Op{cut(n), keep(m)}, api.Op{cut(n + m)}, nil, api.Op{cut(m)}},
				{"a cuts of what b keeps", api.Op{cut(n), keep(m)}, api.Op{keep(n + m)}, api.Op{cut(n), keep(m)}, api.Op{keep(m)}},
				{"b cuts of what a keeps", api.Op{keep(n + m)}, api.Op{cut(n), keep(m)}, api.Op{keep(m)}, api.Op{cut(n), keep(m)}},
				{"a cuts the end of what b keeps", api.Op{keep(n), cut(m)}, api.Op{keep(n + m)}, api.Op{keep(n), cut(m)}, api.Op{keep(n)}},
				{"b cuts the end of what a keeps", api.Op{keep(n + m)}, api.Op{keep(n), cut(m)}, api.Op{keep(n)}, api.Op{keep(n), cut(m)}},
				{"each cuts what the other keeps", api.Op{cut(n), keep(m)}, api.Op{keep(n), cut(m)}, api.Op{cut(n)}, api.Op{cut(m)}},
				{"Cuts that overlap", api.Op{cut(n + 2), keep(m)}, api.Op{keep(n), cut(2 + m)}, api.Op{cut(n)}, api.Op{cut(m)}},
				{"a Cut inside the other's", api.Op{keep(n), cut(1), keep(m)}, api.Op{cut(n + 1 + m)}, nil, api.Op{cut(n + m)}},
				{"a Cut round the other's", api.Op{cut(n + 1 + m)}, api.Op{keep(n), cut(1), keep(m)}, api.Op{cut(n + m)}, nil},
			})
		}
	}
}

func TestPartsBehindTheEndOfTheOther(t *testing.T) {
	pairsOf(t, []beside{
		{"a's Put", api.Op{keep(2), put("a")}, api.Op{keep(2)}, api.Op{keep(2), put("a")}, api.Op{keep(3)}},
		{"b's Put", api.Op{keep(2)}, api.Op{keep(2), put("b")}, api.Op{keep(3)}, api.Op{keep(2), put("b")}},
		{"a's Puts", api.Op{cut(2), put("a"), put("c")}, api.Op{keep(1), cut(1)}, api.Op{put("ac"), cut(1)}, api.Op{keep(2)}},
		{"b's Puts", api.Op{keep(1), cut(1)}, api.Op{keep(2), put("b"), put("d")}, api.Op{keep(1), cut(1), keep(2)}, api.Op{keep(1), put("bd")}},
		{"a's Put behind b's Cut", api.Op{keep(2), put("a")}, api.Op{cut(2)}, api.Op{put("a")}, api.Op{cut(2), keep(1)}},
		{"both put", api.Op{keep(2), put("a")}, api.Op{keep(2), put("b")}, api.Op{keep(2), put("a"), keep(1)}, api.Op{keep(3), put("b")}},
	})
}

// TestPairOfWhatIsNotNormal: it is their Normals that are gone over.
func TestPairOfWhatIsNotNormal(t *testing.T) {
	pairsOf(t, []beside{
		{"Keeps in a row, a's", api.Op{keep(1), keep(2), keep(3)}, api.Op{keep(6)}, api.Op{keep(6)}, api.Op{keep(6)}},
		{"Keeps in a row, b's", api.Op{keep(6)}, api.Op{keep(1), keep(2), keep(3)}, api.Op{keep(6)}, api.Op{keep(6)}},
		{"Keeps that end at unlike places", api.Op{keep(2), keep(3)}, api.Op{keep(1), keep(3), keep(1)}, api.Op{keep(5)}, api.Op{keep(5)}},
		{"Puts in a row, a's", api.Op{put("a"), put("bc"), keep(1)}, api.Op{put("x"), keep(1)}, api.Op{put("abc"), keep(2)}, api.Op{keep(3), put("x"), keep(1)}},
		{"Puts in a row, b's", api.Op{put("x"), keep(1)}, api.Op{put("a"), put("bc"), keep(1)}, api.Op{put("x"), keep(4)}, api.Op{keep(1), put("abc"), keep(1)}},
		{"Puts in a row, both", api.Op{put("a"), put("b")}, api.Op{put("x"), put("y")}, api.Op{put("ab"), keep(2)}, api.Op{keep(2), put("xy")}},
		{"Cuts in a row", api.Op{cut(1), cut(2), cut(3)}, api.Op{keep(2), cut(1), cut(1), keep(2)}, api.Op{cut(4)}, nil},
		{"a Cut ahead of a Put, a's", api.Op{cut(1), put("A")}, api.Op{put("B"), keep(1)}, api.Op{put("A"), keep(1), cut(1)}, api.Op{keep(1), put("B")}},
		{"a Cut ahead of a Put, b's", api.Op{put("A"), keep(1)}, api.Op{cut(1), put("B")}, api.Op{put("A"), keep(1)}, api.Op{keep(1), put("B"), cut(1)}},
		{"a Cut ahead of a Put, b's, where a puts behind it", api.Op{keep(1), put("A")}, api.Op{cut(1), put("B")}, api.Op{keep(1), put("A")}, api.Op{put("B"), cut(1), keep(1)}},
		{"a Cut ahead of a Put, a's, where b puts behind it", api.Op{cut(1), put("A")}, api.Op{keep(1), put("B")}, api.Op{put("A"), cut(1), keep(1)}, api.Op{keep(1), put("B")}},
		{"a Cut ahead of a Put, a's, where b puts in its midst", api.Op{cut(2), put("A")}, api.Op{keep(1), put("B"), keep(1)}, api.Op{put("A"), cut(1), keep(1), cut(1)}, api.Op{keep(1), put("B")}},
		{"a Cut ahead of a Put, both", api.Op{cut(1), put("A"), keep(1)}, api.Op{cut(1), put("B"), keep(1)}, api.Op{put("A"), keep(2)}, api.Op{keep(1), put("B"), keep(1)}},
		{"Puts between Cuts", api.Op{put("a"), cut(1), put("b"), cut(1), put("c")}, api.Op{keep(1), put("x"), keep(1)}, api.Op{put("abc"), cut(1), keep(1), cut(1)}, api.Op{keep(3), put("x")}},
	})
}

// TestPairOfLengthsThatDoNotFit: one less, one more, and zero values beside the error.
func TestPairOfLengthsThatDoNotFit(t *testing.T) {
	fails := func(a, b api.Op) {
		t.Helper()
		if x, y, e := Pair(a, b); e != api.ErrSize || len(x)+len(y) != 0 {
			t.Errorf("P701, P4: %#v beside %#v: %#v, %#v, %v", a, b, x, y, e)
		}
	}
	over := func(n int) []api.Op {
		if n == 0 {
			return []api.Op{nil, {put("ab")}}
		}
		l := []api.Op{{keep(n)}, {cut(n)}, {put("abc"), keep(n)}, {cut(n), put("a")}}
		if n > 1 {
			l = append(l, api.Op{keep(n - 1), put("a"), cut(1)}, api.Op{cut(1), keep(n - 1)})
		}
		return l
	}
	for n := range 120 {
		for _, a := range over(n) {
			for _, b := range over(n + 1) {
				fails(a, b)
				fails(b, a)
			}
			for _, b := range over(n) {
				if _, _, e := Pair(a, b); e != api.OK {
					t.Errorf("P701: %#v beside %#v: %v", a, b, e)
				}
			}
		}
	}
	fails(api.Op{keep(2), put("x")}, api.Op{keep(3)}) // as much comes out, but not as much goes in
	fails(api.Op{keep(3)}, api.Op{put("x"), keep(2)})
	fails(api.Op{keep(120), keep(120)}, api.Op{keep(120)})
	fails(api.Op{keep(120)}, api.Op{cut(120), cut(120)})
}

// pairHolds holds Pair of operations that fit against the plain one.
func pairHolds(t *testing.T, a, b api.Op) (x, y api.Op) {
	t.Helper()
	x, y, e := Pair(a, b)
	wantX, wantY, f := plainly(a, b)
	if e != f || !slices.Equal(x, wantX) || !slices.Equal(y, wantY) {
		t.Fatalf("P701: %#v beside %#v: %#v, %#v, %v, want %#v, %#v, %v", a, b, x, y, e, wantX, wantY, f)
	}
	if !normal(x) || !normal(y) || !op.Same(x, op.Normal(x)) || !op.Same(y, op.Normal(y)) {
		t.Fatalf("P701, P403: %#v beside %#v: not normal: %#v, %#v", a, b, x, y)
	}
	return x, y
}

// TestPairOfEach: all operations of up to four parts beside all such ones.
func TestPairOfEach(t *testing.T) {
	other := byIn(each(4, keep(1), keep(2), put("x"), cut(1), cut(2)))
	for _, a := range each(4, keep(1), keep(2), put("ab"), cut(1), cut(2)) {
		n := op.In(a)
		for _, b := range other[n] {
			pairHolds(t, a, b)
		}
		for _, b := range slices.Concat(other[n-1], other[n+1]) {
			if x, y, e := Pair(a, b); e != api.ErrSize || len(x)+len(y) != 0 {
				t.Fatalf("P701: %#v beside %#v: %#v, %#v, %v", a, b, x, y, e)
			}
		}
	}
}

func TestPairAtRandom(t *testing.T) {
	r := rand.New(rand.NewPCG(7, 701))
	for range 10000 {
		n := r.IntN(121)
		pairHolds(t, anyOver(r, n, 30, 1+r.IntN(12)), anyOver(r, n, 30, 1+r.IntN(12)))
	}
	for range 300 {
		n := r.IntN(3000)
		pairHolds(t, anyOver(r, n, 200, 120), anyOver(r, n, 200, 120))
	}
}

// TestPairOfMoreThanFortyParts: what was made of valid ones goes in again.
func TestPairOfMoreThanFortyParts(t *testing.T) {
	var a, b api.Op
	for range 500 {
		a = append(a, keep(2), put("abc"), cut(1))
		b = append(b, keep(1), put("x"), cut(1), keep(1))
	}
	x, y := pairHolds(t, a, b)
	if len(x) <= 40 || len(y) <= 40 {
		t.Errorf("tried %d and %d parts", len(x), len(y))
	}
	pairHolds(t, a, api.Op{keep(1500)})
	pairHolds(t, api.Op{cut(1500)}, b)
	r := rand.New(rand.NewPCG(7, 702))
	for range 100 { // a, b, what b is behind a, and one beside that
		n := r.IntN(121)
		_, y := pairHolds(t, anyOver(r, n, 60, 4), anyOver(r, n, 60, 4))
		pairHolds(t, anyOver(r, op.In(y), 90, 4), y)
		pairHolds(t, y, anyOver(r, op.In(y), 90, 4))
	}
}

// TestPairOfManyBytes: parts that were made of very many valid ones are taken to the byte.
func TestPairOfManyBytes(t *testing.T) {
	for _, n := range []int{1 << 24, 1<<24 + 1, 1<<31 - 4, 1<<31 + 1, 1<<32 + 1, 1<<37 + 1} {
		pairsOf(t, []beside{
			{"a byte cut", api.Op{keep(n + 3)}, api.Op{keep(n + 1), cut(1), keep(1)}, api.Op{keep(n + 2)}, api.Op{keep(n + 1), cut(1), keep(1)}},
			{"a byte put", api.Op{keep(n + 1), put("a"), keep(1)}, api.Op{keep(n), put("b"), keep(2)}, api.Op{keep(n + 2), put("a"), keep(1)}, api.Op{keep(n), put("b"), keep(3)}},
			{"a byte of what is cut", api.Op{cut(n), keep(2)}, api.Op{cut(n + 1), keep(1)}, api.Op{keep(1)}, api.Op{cut(1), keep(1)}},
		})
	}
}

func TestPairOfAnyBytes(t *testing.T) {
	for b := range 256 {
		s, u := string([]byte{byte(b)}), string([]byte{byte(b + 1)})
		pairsOf(t, []beside{{"each byte", api.Op{keep(1), put(s), keep(1)}, api.Op{keep(1), put(u), cut(1)}, api.Op{keep(1), put(s), keep(1)}, api.Op{keep(2), put(u), cut(1)}}})
	}
	pairsOf(t, []beside{
		{"two bytes that are one rune", api.Op{put("\u00e9")}, api.Op{put("\u20ac")}, api.Op{put("\u00e9"), keep(3)}, api.Op{keep(2), put("\u20ac")}},
		{"no rune", api.Op{put("\xff\x00")}, api.Op{put("\x00\xc3")}, api.Op{put("\xff\x00"), keep(2)}, api.Op{keep(2), put("\x00\xc3")}},
	})
}

// FuzzPair looks for operations of which Pair is not as promised: each two bytes are a part, at first of one, then of the other.
func FuzzPair(f *testing.F) {
	f.Add([]byte("\x01x"), []byte("\x01y"))
	f.Add([]byte("\x00\x05\x01\x06\x02\x07\x01a\x00\x01"), []byte("\x00\x01\x02\x01\x01z\x02\x03"))
	f.Fuzz(func(t *testing.T, a, b []byte) {
		first, second := partsOf(a), partsOf(b)
		pairHolds(t, first, second)
		if lack := op.In(first) - op.In(second); lack > 0 {
			second = append(second, keep(lack))
		} else if lack < 0 {
			first = append(first, cut(-lack))
		}
		bothHold(t, text(op.In(first)), first, second)
	})
}

func partsOf(b []byte) api.Op {
	var o api.Op
	for ; len(b) > 1; b = b[2:] {
		n := 1 + int(b[1])%120
		o = append(o, [3]api.Comp{keep(n), put(text(200)[n : n+1+n/3]), cut(n)}[b[0]%3])
	}
	return o
}
