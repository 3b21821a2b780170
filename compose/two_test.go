package compose

import (
	"math/rand/v2"
	"slices"
	"strings"
	"testing"

	"comitia/api"
	"comitia/op"
)

type pair struct {
	what       string
	a, b, want api.Op
}

func twoOf(t *testing.T, l []pair) {
	t.Helper()
	for _, x := range l {
		if got, e := Two(x.a, x.b); e != api.OK || !slices.Equal(got, x.want) {
			t.Errorf("P501: %s: %#v, %v, want %#v", x.what, got, e, x.want)
		}
	}
}

func TestExampleOne(t *testing.T) {
	twoOf(t, []pair{{"Put x, then Cut 1: nothing", api.Op{put("x")}, api.Op{cut(1)}, nil}})
}

func TestTwoOfNoPart(t *testing.T) {
	twoOf(t, []pair{
		{"nil, nil", nil, nil, nil},
		{"nil, empty", nil, api.Op{}, nil},
		{"empty, nil", api.Op{}, nil, nil},
		{"empty, empty", api.Op{}, api.Op{}, nil},
		{"nothing, then Put", nil, api.Op{put("x")}, api.Op{put("x")}},
		{"nothing, then Puts", nil, api.Op{put("x"), put("y")}, api.Op{put("xy")}},
		{"Cut, then nothing", api.Op{cut(2)}, nil, api.Op{cut(2)}},
		{"Cuts, then nothing", api.Op{cut(2), cut(3)}, api.Op{}, api.Op{cut(5)}},
	})
}

func TestTwoKeeps(t *testing.T) {
	twoOf(t, []pair{
		{"as long", api.Op{keep(3)}, api.Op{keep(3)}, api.Op{keep(3)}},
		{"one, two", api.Op{keep(3)}, api.Op{keep(1), keep(2)}, api.Op{keep(3)}},
		{"two, one", api.Op{keep(1), keep(2)}, api.Op{keep(3)}, api.Op{keep(3)}},
		{"ends at unlike places", api.Op{keep(2), keep(3), keep(2)}, api.Op{keep(3), keep(3), keep(1)}, api.Op{keep(7)}},
		{"120", api.Op{keep(120)}, api.Op{keep(119), keep(1)}, api.Op{keep(120)}},
		{"more than 120", api.Op{keep(120), keep(120)}, api.Op{keep(1), keep(120), keep(119)}, api.Op{keep(240)}},
		{"over a place that was cut", api.Op{keep(1), cut(1), keep(1)}, api.Op{keep(2)}, api.Op{keep(1), cut(1), keep(1)}},
		{"over what was put", api.Op{keep(1), put("ab"), keep(1)}, api.Op{keep(4)}, api.Op{keep(1), put("ab"), keep(1)}},
		{"half of what was put", api.Op{keep(1), put("ab"), keep(1)}, api.Op{keep(2), keep(2)}, api.Op{keep(1), put("ab"), keep(1)}},
	})
}

func TestTwoCutsWhatWasPut(t *testing.T) {
	a := api.Op{keep(2), put("abcd"), keep(2)}
	twoOf(t, []pair{
		{"whole", a, api.Op{keep(2), cut(4), keep(2)}, api.Op{keep(4)}},
		{"its beginning", a, api.Op{keep(2), cut(1), keep(5)}, api.Op{keep(2), put("bcd"), keep(2)}},
		{"its end", a, api.Op{keep(5), cut(1), keep(2)}, api.Op{keep(2), put("abc"), keep(2)}},
		{"its midst", a, api.Op{keep(3), cut(2), keep(3)}, api.Op{keep(2), put("ad"), keep(2)}},
		{"all but its midst", a, api.Op{keep(2), cut(1), keep(2), cut(1), keep(2)}, api.Op{keep(2), put("bc"), keep(2)}},
		{"over its beginning", a, api.Op{keep(1), cut(3), keep(4)}, api.Op{keep(1), put("cd"), cut(1), keep(2)}},
		{"over its end", a, api.Op{keep(4), cut(3), keep(1)}, api.Op{keep(2), put("ab"), cut(1), keep(1)}},
		{"over both ends", a, api.Op{keep(1), cut(6), keep(1)}, api.Op{keep(1), cut(2), keep(1)}},
		{"all there is", a, api.Op{cut(8)}, api.Op{cut(4)}},
		{"all there is, byte by byte", a, slices.Repeat(api.Op{cut(1)}, 8), api.Op{cut(4)}},
		{"whole, alone", api.Op{put("abc")}, api.Op{cut(3)}, nil},
		{"two Puts at once", api.Op{put("ab"), keep(1), put("cd")}, api.Op{keep(1), cut(3), keep(1)}, api.Op{put("ad"), cut(1)}},
		{"for something else", api.Op{put("abc")}, api.Op{keep(1), cut(1), put("Z"), keep(1)}, api.Op{put("aZc")}},
		{"whole, for something else", api.Op{keep(1), put("abc"), keep(1)}, api.Op{keep(1), put("x"), cut(3), keep(1)}, api.Op{keep(1), put("x"), keep(1)}},
		{"Puts in a row", api.Op{put("ab"), put("cd"), put("ef")}, api.Op{keep(1), cut(4), keep(1)}, api.Op{put("af")}},
		{"120 of 120", api.Op{put(text(120))}, api.Op{cut(119), keep(1)}, api.Op{put(text(120)[119:])}},
	})
}

func TestTwoPutsAtOnePlace(t *testing.T) {
	twoOf(t, []pair{
		{"ahead", api.Op{keep(1), put("a"), keep(1)}, api.Op{keep(1), put("b"), keep(2)}, api.Op{keep(1), put("ba"), keep(1)}},
		{"behind", api.Op{keep(1), put("a"), keep(1)}, api.Op{keep(2), put("b"), keep(1)}, api.Op{keep(1), put("ab"), keep(1)}},
		{"in its midst", api.Op{keep(1), put("ad"), keep(1)}, api.Op{keep(2), put("bc"), keep(2)}, api.Op{keep(1), put("abcd"), keep(1)}},
		{"round it", api.Op{put("b")}, api.Op{put("a"), keep(1), put("c")}, api.Op{put("abc")}},
		{"ahead of all", api.Op{put("a"), keep(1)}, api.Op{put("b"), keep(2)}, api.Op{put("ba"), keep(1)}},
		{"behind all", api.Op{keep(1), put("a")}, api.Op{keep(2), put("b")}, api.Op{keep(1), put("ab")}},
		{"at places of their own", api.Op{put("a"), keep(2)}, api.Op{keep(2), put("b"), keep(1)}, api.Op{put("a"), keep(1), put("b"), keep(1)}},
		{"brought together by a Cut of the first", api.Op{put("a"), cut(1), put("c")}, api.Op{keep(1), put("b"), keep(1)}, api.Op{put("abc"), cut(1)}},
		{"brought together by a Cut of the second", api.Op{put("a"), keep(1), put("c")}, api.Op{keep(1), put("b"), cut(1), keep(1)}, api.Op{put("abc"), cut(1)}},
		{"120 beside 120", api.Op{put(text(120))}, api.Op{put(text(120)), keep(120)}, api.Op{put(text(120) + text(120))}},
		{"any bytes", api.Op{put("\x00\xff")}, api.Op{keep(1), put("\xc3"), keep(1)}, api.Op{put("\x00\xc3\xff")}},
	})
}

func TestTwoCutBesidePut(t *testing.T) {
	twoOf(t, []pair{
		{"Put where it was cut", api.Op{keep(1), cut(2), keep(1)}, api.Op{keep(1), put("b"), keep(1)}, api.Op{keep(1), put("b"), cut(2), keep(1)}},
		{"Put where it was cut, ahead of all", api.Op{cut(2), keep(1)}, api.Op{put("b"), keep(1)}, api.Op{put("b"), cut(2), keep(1)}},
		{"Put where it was cut, behind all", api.Op{keep(1), cut(2)}, api.Op{keep(1), put("b")}, api.Op{keep(1), put("b"), cut(2)}},
		{"Put where all was cut", api.Op{cut(2)}, api.Op{put("b")}, api.Op{put("b"), cut(2)}},
		{"Cut right ahead of what was put", api.Op{keep(2), put("a"), keep(1)}, api.Op{keep(1), cut(1), keep(2)}, api.Op{keep(1), put("a"), cut(1), keep(1)}},
		{"Cut right behind what was put", api.Op{keep(1), put("a"), keep(2)}, api.Op{keep(2), cut(1), keep(1)}, api.Op{keep(1), put("a"), cut(1), keep(1)}},
		{"Cut on both sides of what was put", api.Op{keep(2), put("a"), keep(2)}, api.Op{keep(1), cut(1), keep(1), cut(1), keep(1)}, api.Op{keep(1), put("a"), cut(2), keep(1)}},
		{"Cut over what was cut", api.Op{keep(2), cut(1), keep(2)}, api.Op{keep(1), cut(2), keep(1)}, api.Op{keep(1), cut(3), keep(1)}},
		{"Cut beside what was cut", api.Op{cut(1), keep(2)}, api.Op{cut(1), keep(1)}, api.Op{cut(2), keep(1)}},
		{"Cut elsewhere", api.Op{cut(1), keep(2)}, api.Op{keep(1), cut(1)}, api.Op{cut(1), keep(1), cut(1)}},
		{"Cut of what was put for something else", api.Op{keep(1), put("ab"), cut(3), keep(1)}, api.Op{keep(1), cut(2), keep(1)}, api.Op{keep(1), cut(3), keep(1)}},
		{"put again", api.Op{cut(1)}, api.Op{put("x")}, api.Op{put("x"), cut(1)}},
		{"more than 120 cut", api.Op{cut(120), keep(120)}, api.Op{cut(120)}, api.Op{cut(240)}},
	})
}

func TestTwoOfWhatIsNotNormal(t *testing.T) {
	twoOf(t, []pair{
		{"Cut ahead of Put, first", api.Op{cut(1), put("a"), keep(1)}, api.Op{keep(2)}, api.Op{put("a"), cut(1), keep(1)}},
		{"Cut ahead of Put, second", api.Op{keep(2)}, api.Op{cut(1), put("a"), keep(1)}, api.Op{put("a"), cut(1), keep(1)}},
		{"Cut ahead of Put, both", api.Op{cut(1), put("ab"), keep(1)}, api.Op{cut(1), put("x"), keep(2)}, api.Op{put("xb"), cut(1), keep(1)}},
		{"parts in pieces, first", api.Op{keep(1), keep(1), put("a"), put("b"), cut(1), cut(2)}, api.Op{keep(4)}, api.Op{keep(2), put("ab"), cut(3)}},
		{"parts in pieces, second", api.Op{keep(5)}, api.Op{keep(1), keep(1), put("a"), put("b"), cut(1), cut(2)}, api.Op{keep(2), put("ab"), cut(3)}},
		{"Puts and Cuts in turn", api.Op{put("a"), cut(1), put("b"), cut(1)}, api.Op{put("x"), cut(1), put("y"), cut(1), put("z")}, api.Op{put("xyz"), cut(2)}},
	})
}

func TestTwoOfLengthsThatDoNotFit(t *testing.T) {
	fails := func(a, b api.Op) {
		t.Helper()
		if got, e := Two(a, b); e != api.ErrSize || len(got) != 0 {
			t.Errorf("P501, P4: %#v, then %#v: %#v, %v", a, b, got, e)
		}
	}
	fails(nil, api.Op{keep(1)})
	fails(nil, api.Op{cut(1)})
	fails(api.Op{keep(1)}, nil)
	fails(api.Op{put("x")}, nil)
	fails(api.Op{put("x")}, api.Op{put("y")})
	fails(api.Op{cut(1)}, api.Op{keep(1)})
	fails(api.Op{cut(2), keep(1)}, api.Op{keep(3)})
	fails(api.Op{keep(1), put("ab")}, api.Op{keep(1)})
	for _, a := range []api.Op{{keep(20), put("ab"), cut(30), keep(5)}, {keep(27)}, {put(text(27))}, {cut(1), put(text(27)), cut(1)}} {
		for n := 1; n <= 120; n++ {
			for _, b := range []api.Op{{keep(n)}, {cut(n)}, {keep(n), put("abc")}, {cut(n), put("abc")}} {
				if n != 27 {
					fails(a, b)
				} else if _, e := Two(a, b); e != api.OK {
					t.Errorf("P501: %#v, then %#v: %v", a, b, e)
				}
			}
		}
	}
}

// twoHolds holds Two of operations that fit against the plain one.
func twoHolds(t *testing.T, a, b api.Op) api.Op {
	t.Helper()
	got, e := Two(a, b)
	want, f := plainly(a, b)
	if e != f || !slices.Equal(got, want) {
		t.Fatalf("P501: %#v, then %#v: %#v, %v, want %#v, %v", a, b, got, e, want, f)
	}
	if !normal(got) || !op.Same(got, op.Normal(got)) {
		t.Fatalf("P501, P403: %#v, then %#v is not normal: %#v", a, b, got)
	}
	return got
}

// TestTwoOfEach: all operations of up to four parts, of each kind two, and all such ones behind it.
func TestTwoOfEach(t *testing.T) {
	behind := byIn(each(4, keep(1), keep(2), put("x"), put("yz"), cut(1), cut(2)))
	for _, a := range each(4, keep(1), keep(2), put("a"), put("bc"), cut(1), cut(2)) {
		for _, b := range behind[op.Out(a)] {
			twoHolds(t, a, b)
		}
		for _, n := range []int{op.Out(a) - 1, op.Out(a) + 1} {
			for _, b := range behind[n] {
				if got, e := Two(a, b); e != api.ErrSize || len(got) != 0 {
					t.Fatalf("P501: %#v, then %#v: %#v, %v", a, b, got, e)
				}
			}
		}
	}
}

func TestTwoAtRandom(t *testing.T) {
	r := rand.New(rand.NewPCG(5, 501))
	for range 5000 {
		a := anyOver(r, r.IntN(121), 30, 1+r.IntN(12))
		twoHolds(t, a, anyOver(r, op.Out(a), 30, 1+r.IntN(12)))
	}
	for range 300 {
		a := anyOver(r, r.IntN(3000), 200, 120)
		twoHolds(t, a, anyOver(r, op.Out(a), 200, 120))
	}
}

// TestTwoOfMoreThanFortyParts: what was made of valid ones goes in again, and is longer than a document.
func TestTwoOfMoreThanFortyParts(t *testing.T) {
	var a, b, want api.Op
	for i := range 500 {
		a = append(a, keep(2), put("abc"), cut(1))
		b = append(b, keep(1), cut(2), put("x"), keep(2))
		if i == 0 {
			want = append(want, keep(1))
		}
		want = append(want, put("xbc"), cut(2), keep(1))
	}
	want = want[:len(want)-1]
	twoOf(t, []pair{
		{"1500 parts", a, b, want},
		{"one Keep over all", a, api.Op{keep(2500)}, a},
		{"one Cut over all", a, api.Op{cut(2500)}, api.Op{cut(1500)}},
		{"one Put, piece by piece", api.Op{put(strings.Repeat("ab", 5000))}, slices.Repeat(api.Op{keep(1), cut(1)}, 5000), api.Op{put(strings.Repeat("a", 5000))}},
	})
	twoHolds(t, a, b)
}

// TestTwoOfManyBytes: parts that were made of very many valid ones are taken to the byte.
func TestTwoOfManyBytes(t *testing.T) {
	for _, n := range []int{1 << 24, 1<<24 + 1, 1<<31 - 4, 1<<32 + 1, 1<<37 + 1} {
		twoOf(t, []pair{
			{"a byte cut", api.Op{keep(n + 3)}, api.Op{keep(n + 1), cut(1), keep(1)}, api.Op{keep(n + 1), cut(1), keep(1)}},
			{"a byte put", api.Op{keep(n + 1), put("a"), keep(1)}, api.Op{keep(n), put("b"), keep(3)}, api.Op{keep(n), put("b"), keep(1), put("a"), keep(1)}},
			{"a byte of what was put", api.Op{keep(n + 1), put("abc"), cut(n)}, api.Op{keep(n + 2), cut(1), keep(1)}, api.Op{keep(n + 1), put("ac"), cut(n)}},
		})
	}
	long := text(1<<24 + 9)
	twoOf(t, []pair{{"behind 2^24 bytes of what was put", api.Op{put(long)}, api.Op{cut(1<<24 + 3), keep(2), cut(1), keep(3)}, api.Op{put(long[1<<24+3:1<<24+5] + long[1<<24+6:])}}})
}

// FuzzTwo looks for operations of which Two is not as promised: each two bytes are a part, at first of one, then of the other.
func FuzzTwo(f *testing.F) {
	f.Add([]byte("\x01x"), []byte("\x02\x00"))
	f.Add([]byte("\x00\x05\x01\x06\x02\x07\x01a\x00\x01"), []byte("\x00\x01\x02\x01\x01z\x02\x03"))
	f.Fuzz(func(t *testing.T, a, b []byte) {
		first, second := partsOf(a), partsOf(b)
		twoHolds(t, first, second)
		if lack := op.Out(first) - op.In(second); lack > 0 {
			twoHolds(t, first, append(second, keep(lack)))
		} else if lack < 0 {
			twoHolds(t, append(first, put(text(-lack))), second)
		}
	})
}

func partsOf(b []byte) api.Op {
	var o api.Op
	for ; len(b) > 1; b = b[2:] {
		n := 1 + int(b[1])%120
		o = append(o, [3]api.Comp{keep(n), put(text(200)[n : n+1+n/3]), cut(n)}[b[0]%3])
	}
	return o
}
