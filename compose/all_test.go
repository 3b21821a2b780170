package compose

import (
	"math"
	"math/rand/v2"
	"slices"
	"testing"

	"comitia/api"
	"comitia/op"
)

func TestAllOfNone(t *testing.T) {
	for n := range 121 {
		var want api.Op
		if n > 0 {
			want = api.Op{keep(n)}
		}
		for what, call := range map[string]func() (api.Op, api.Errno){
			"none":          func() (api.Op, api.Errno) { return All(n) },
			"no list":       func() (api.Op, api.Errno) { return All(n, []api.Op(nil)...) },
			"an empty list": func() (api.Op, api.Errno) { return All(n, []api.Op{}...) },
		} {
			if got, e := call(); e != api.OK || !slices.Equal(got, want) {
				t.Errorf("P501: %s, %d: %#v, %v", what, n, got, e)
			}
		}
	}
}

func TestAllOfANumberOutOfBounds(t *testing.T) {
	for _, n := range []int{-1, -2, -120, 121, 122, 240, 1 << 31, 1 << 32, 1<<53 + 1, math.MaxInt, math.MinInt} {
		for _, l := range [][]api.Op{nil, {nil}, {{keep(1)}}, {{keep(120), keep(1)}}, {{keep(120), keep(120)}, {cut(120), cut(120)}}, {{keep(n)}}} {
			if got, e := All(n, l...); e != api.ErrArg || len(got) != 0 {
				t.Errorf("P9: %d of %#v: %#v, %v", n, l, got, e)
			}
		}
	}
}

type chained struct {
	what string
	n    int
	l    []api.Op
	want api.Op
	e    api.Errno
}

func allOf(t *testing.T, l []chained) {
	t.Helper()
	for _, x := range l {
		if got, e := All(x.n, x.l...); e != x.e || !slices.Equal(got, x.want) {
			t.Errorf("P501: %s: %#v, %v, want %#v, %v", x.what, got, e, x.want, x.e)
		}
	}
}

func TestAllOfSome(t *testing.T) {
	allOf(t, []chained{
		{"nothing over nothing", 0, []api.Op{nil}, nil, api.OK},
		{"nothing, again and again", 0, []api.Op{nil, {}, nil, {}}, nil, api.OK},
		{"one", 2, []api.Op{{keep(1), put("a"), keep(1)}}, api.Op{keep(1), put("a"), keep(1)}, api.OK},
		{"one over nothing", 0, []api.Op{{put("a")}}, api.Op{put("a")}, api.OK},
		{"one over 120", 120, []api.Op{{keep(119), cut(1)}}, api.Op{keep(119), cut(1)}, api.OK},
		{"one that is not normal", 3, []api.Op{{cut(1), put("a"), keep(1), keep(1)}}, api.Op{put("a"), cut(1), keep(2)}, api.OK},
		{"two", 0, []api.Op{{put("x")}, {cut(1)}}, nil, api.OK},
		{"three", 2, []api.Op{{keep(1), put("a"), keep(1)}, {keep(1), cut(1), keep(1)}, {cut(2)}}, api.Op{cut(2)}, api.OK},
		{"the first one last", 0, []api.Op{{put("a")}, {put("b"), keep(1)}, {put("c"), keep(2)}}, api.Op{put("cba")}, api.OK},
		{"the last one last", 0, []api.Op{{put("a")}, {keep(1), put("b")}, {keep(2), put("c")}}, api.Op{put("abc")}, api.OK},
		{"Keeps alone", 120, []api.Op{{keep(120)}, {keep(60), keep(60)}, {keep(1), keep(119)}}, api.Op{keep(120)}, api.OK},
		{"longer than a document between", 0, []api.Op{{put(text(120))}, {keep(120), put("x")}, {cut(120), keep(1)}}, api.Op{put("x")}, api.OK},
	})
}

func TestAllOfLengthsThatDoNotFit(t *testing.T) {
	fit := []api.Op{{keep(2), put("x")}, {keep(3)}, {cut(1), keep(2)}, {keep(2), put("yz")}, {keep(1), cut(3)}}
	if _, e := All(2, fit...); e != api.OK {
		t.Fatalf("P501: %v", e)
	}
	for n := range 121 {
		if got, e := All(n, fit...); n != 2 && (e != api.ErrSize || len(got) != 0) {
			t.Errorf("P501: the first one is not over %d: %#v, %v", n, got, e)
		}
	}
	for i := range fit {
		for _, c := range []api.Comp{keep(1), cut(1)} { // over one more
			l := slices.Clone(fit)
			l[i] = append(slices.Clone(l[i]), c)
			allOf(t, []chained{{"one more", 2, l, nil, api.ErrSize}})
		}
		if i+1 < len(fit) { // one more comes out
			l := slices.Clone(fit)
			l[i] = append(slices.Clone(l[i]), put("w"))
			allOf(t, []chained{{"one more put", 2, l, nil, api.ErrSize}})
		}
	}
	allOf(t, []chained{
		{"one below", 3, []api.Op{{keep(2)}}, nil, api.ErrSize},
		{"one above", 1, []api.Op{{keep(2)}}, nil, api.ErrSize},
		{"no part over a byte", 1, []api.Op{nil}, nil, api.ErrSize},
		{"a Put over a byte", 1, []api.Op{{put("a")}}, nil, api.ErrSize},
		{"the second, below", 2, []api.Op{{keep(2)}, {keep(1)}}, nil, api.ErrSize},
		{"the second, above", 2, []api.Op{{keep(2)}, {keep(3)}}, nil, api.ErrSize},
		{"the first and the second", 1, []api.Op{{keep(2)}, {keep(3)}}, nil, api.ErrSize},
		{"two at the end, behind one that leaves nothing", 0, []api.Op{nil, {put("x")}, {keep(2)}}, nil, api.ErrSize},
		{"two at the beginning, ahead of one over nothing", 0, []api.Op{{put("x")}, {keep(2)}, {put("y")}, {keep(1)}}, nil, api.ErrSize},
		{"a later one that fits n", 2, []api.Op{{keep(2), put("x")}, {keep(2)}}, nil, api.ErrSize},
	})
}

// TestAllOfEach: up to five of some operations, wherever they fit one another or not.
func TestAllOfEach(t *testing.T) {
	some := []api.Op{nil, {put("a")}, {cut(1)}, {keep(1)}, {keep(1), put("bc")}, {keep(1), cut(2)}}
	lists := [][]api.Op{{}}
	for i := 0; len(lists[i]) < 5; i++ {
		for _, o := range some {
			lists = append(lists, append(slices.Clone(lists[i]), o))
		}
	}
	for _, l := range lists[1:] {
		for n := range 4 {
			e := api.OK
			for i, size := 0, n; i < len(l); i, size = i+1, op.Out(l[i]) {
				if op.In(l[i]) != size {
					e = api.ErrSize
				}
			}
			var want api.Op
			if e == api.OK {
				want = inOrder(l)
			}
			allOf(t, []chained{{"each", n, l, want, e}})
		}
	}
}

// inOrder is l, taken together one by one, from the first on.
func inOrder(l []api.Op) api.Op {
	out := op.Normal(l[0])
	for _, o := range l[1:] {
		out, _ = plainly(out, o)
	}
	return out
}

func TestAllOfMany(t *testing.T) {
	r := rand.New(rand.NewPCG(5, 502))
	for count := 1; count <= 70; count++ {
		for range 10 {
			n := r.IntN(121)
			var l []api.Op
			for size := n; len(l) < count; size = op.Out(l[len(l)-1]) {
				l = append(l, anyOver(r, size, 6, 5))
			}
			if got, e := All(n, l...); e != api.OK || !slices.Equal(got, inOrder(l)) {
				t.Fatalf("P501: %d of them: %#v, %v, want %#v", count, got, e, inOrder(l))
			}
		}
	}
}

// TestAllOfThousands: each puts one byte behind all others, so that what comes of them grows up to the longest that a valid one goes over.
func TestAllOfThousands(t *testing.T) {
	want := text(4000)
	var l []api.Op
	for i := range want {
		var o api.Op
		for n := i; n > 0; n -= 120 {
			o = append(o, keep(min(n, 120)))
		}
		l = append(l, append(o, put(want[i:i+1])))
		if e := op.Check(l[i]); e != api.OK {
			t.Fatal(e)
		}
	}
	allOf(t, []chained{{"4000", 0, l, api.Op{put(want)}, api.OK}})
	l[3000] = l[2999]
	allOf(t, []chained{{"4000, of which one does not fit", 0, l, nil, api.ErrSize}})
}

// TestAllOfWhatWasTakenTogether: of more than forty parts, and more than 120 bytes a part.
func TestAllOfWhatWasTakenTogether(t *testing.T) {
	r := rand.New(rand.NewPCG(5, 503))
	most := 0
	for range 200 {
		var l, whole []api.Op
		n := 90 + r.IntN(31)
		size := n
		for range 8 {
			var some []api.Op
			from := size
			for range 1 + r.IntN(5) {
				some = append(some, spread(r, size))
				size = op.Out(some[len(some)-1])
			}
			whole = append(whole, some...)
			one := inOrder(some)
			if op.In(one) != from {
				t.Fatal("a test that does not fit")
			}
			most = max(most, len(one))
			l = append(l, one)
		}
		got, e := All(n, l...)
		want, f := All(n, whole...)
		if e != api.OK || f != api.OK || !slices.Equal(got, want) || !slices.Equal(got, inOrder(whole)) {
			t.Fatalf("P502: %#v, %v, but one by one %#v, %v", got, e, want, f)
		}
	}
	if most <= 40 {
		t.Errorf("tried at most %d parts", most)
	}
}

// spread changes a few bytes here and there: so parts stay many.
func spread(r *rand.Rand, in int) api.Op {
	var o api.Op
	for in > 0 {
		n := 1 + r.IntN(min(in, 6))
		in -= n
		switch r.IntN(4) {
		case 0:
			o = append(o, put(anyText(r, 1)), keep(n))
		case 1:
			o = append(o, cut(n), put(anyText(r, n)))
		default:
			o = append(o, keep(n))
		}
	}
	return o
}
