package transform

import (
	"math/rand/v2"
	"slices"
	"testing"

	"comitia/api"
	"comitia/compose"
	"comitia/op"
)

type ledOver struct {
	what string
	o    api.Op
	done []api.Op
	want api.Op
	e    api.Errno
}

func overAll(t *testing.T, l []ledOver) {
	t.Helper()
	for _, z := range l {
		if got, e := Over(z.o, z.done); e != z.e || !slices.Equal(got, z.want) {
			t.Errorf("P702: %s: %#v, %v, want %#v, %v", z.what, got, e, z.want, z.e)
		}
	}
}

// TestOverNone: as it was, of the normal form or not.
func TestOverNone(t *testing.T) {
	r := rand.New(rand.NewPCG(7, 720))
	for _, done := range [][]api.Op{nil, {}, make([]api.Op, 0, 3)} {
		overAll(t, []ledOver{
			{"nothing", nil, done, nil, api.OK},
			{"no part", api.Op{}, done, nil, api.OK},
			{"a Keep", api.Op{keep(3)}, done, api.Op{keep(3)}, api.OK},
			{"not normal", api.Op{keep(1), keep(1), cut(1), put("a"), put("b"), cut(1)}, done, api.Op{keep(1), keep(1), cut(1), put("a"), put("b"), cut(1)}, api.OK},
			{"120 bytes", api.Op{put(text(120)), cut(120)}, done, api.Op{put(text(120)), cut(120)}, api.OK},
		})
		for range 100 {
			o := anyOver(r, r.IntN(200), 60, 5)
			overAll(t, []ledOver{{"any", o, done, slices.Clone(o), api.OK}})
		}
	}
}

func TestOverOne(t *testing.T) {
	overAll(t, []ledOver{
		{"nothing over nothing", nil, []api.Op{nil}, nil, api.OK},
		{"what was done stands ahead", api.Op{put("b")}, []api.Op{{put("a")}}, api.Op{keep(1), put("b")}, api.OK},
		{"what was cut is cut no more", api.Op{keep(1), cut(2)}, []api.Op{{cut(2), keep(1)}}, api.Op{cut(1)}, api.OK},
		{"normal now, over what keeps all", api.Op{keep(1), keep(1), cut(1), put("a"), put("b"), cut(1)}, []api.Op{{keep(4)}}, api.Op{keep(2), put("ab"), cut(2)}, api.OK},
		{"a Put where all was cut", api.Op{keep(2), put("b"), keep(1)}, []api.Op{{cut(3)}}, api.Op{put("b")}, api.OK},
		{"a Put in the midst of what came for it", api.Op{keep(2), put("b"), keep(1)}, []api.Op{{cut(3), put("xy")}}, api.Op{keep(2), put("b")}, api.OK},
	})
	r := rand.New(rand.NewPCG(7, 721))
	for range 2000 {
		n := r.IntN(121)
		o, d := anyOver(r, n, 30, 1+r.IntN(12)), anyOver(r, n, 30, 1+r.IntN(12))
		_, y, _ := plainly(d, o)
		overAll(t, []ledOver{{"y of Pair", o, []api.Op{d}, y, api.OK}})
	}
}

// TestOverSeveral: in order; another order would make something else, or not fit.
func TestOverSeveral(t *testing.T) {
	o := api.Op{keep(1), put("o"), keep(1)}
	overAll(t, []ledOver{
		{"a byte ahead, then one cut", o, []api.Op{{put("X"), keep(2)}, {cut(2), keep(1)}}, api.Op{put("o"), keep(1)}, api.OK},
		{"ahead, then behind", o, []api.Op{{keep(1), put("XY"), keep(1)}, {keep(4), put("Z")}}, api.Op{keep(3), put("o"), keep(2)}, api.OK},
		{"the first one's end is cut, then the rest", o, []api.Op{{keep(1), cut(1)}, {cut(1)}, {put("abc")}}, api.Op{keep(3), put("o")}, api.OK},
		{"texts ahead, again and again", api.Op{put("o")}, []api.Op{{put("a")}, {put("b"), keep(1)}, {put("c"), keep(2)}}, api.Op{keep(3), put("o")}, api.OK},
		{"put and cut again", api.Op{put("o"), keep(1)}, []api.Op{{put("abc"), keep(1)}, {cut(3), keep(1)}}, api.Op{put("o"), keep(1)}, api.OK},
		{"what it stood ahead of is cut", api.Op{keep(1), put("o"), keep(1)}, []api.Op{{keep(1), cut(1)}, {put("x"), keep(1)}}, api.Op{keep(2), put("o")}, api.OK},
		{"over what keeps all", api.Op{cut(2)}, []api.Op{{keep(1), put("x"), cut(1)}, {keep(2)}}, api.Op{cut(1), keep(1)}, api.OK},
	})
	one, two := api.Op{put("x"), keep(1), cut(1)}, api.Op{keep(1), cut(1), put("y")}
	a, e := Over(api.Op{cut(1), keep(1)}, []api.Op{one, two})
	b, f := Over(api.Op{cut(1), keep(1)}, []api.Op{two, one})
	if e != api.OK || f != api.OK || !slices.Equal(a, api.Op{keep(2)}) || !slices.Equal(b, api.Op{keep(1), cut(1)}) {
		t.Errorf("P702: the order counts: %#v, %v, and %#v, %v", a, e, b, f)
	}
}

// TestOverIsNotOverAllTakenTogether: where what stood between two texts was cut only later, the text of what was done stands behind.
func TestOverIsNotOverAllTakenTogether(t *testing.T) {
	o := api.Op{put("o"), keep(1)}
	done := []api.Op{{keep(1), put("A")}, {cut(1), keep(1)}}
	overAll(t, []ledOver{{"one by one", o, done, api.Op{put("o"), keep(1)}, api.OK}})
	all, e := compose.All(1, done...)
	if e != api.OK {
		t.Fatal(e)
	}
	overAll(t, []ledOver{{"taken together", o, []api.Op{all}, api.Op{keep(1), put("o")}, api.OK}})
}

// chained are so many operations, one behind the other, from n bytes on.
func chained(r *rand.Rand, n, count int) []api.Op {
	var l []api.Op
	for range count {
		l = append(l, anyOver(r, n, 12, 1+r.IntN(6)))
		n = op.Out(l[len(l)-1])
	}
	return l
}

func TestOverIsPairEachTime(t *testing.T) {
	r := rand.New(rand.NewPCG(7, 722))
	for count := range 30 {
		for range 40 {
			n := r.IntN(121)
			o := anyOver(r, n, 12, 1+r.IntN(6))
			done := chained(r, n, count)
			want := slices.Clone(o)
			for _, d := range done {
				var x, y api.Op
				x, y, e := Pair(d, want)
				_, plain, f := plainly(d, want)
				if e != api.OK || f != api.OK || !slices.Equal(y, plain) || op.In(x) != op.Out(want) {
					t.Fatalf("P702: %#v beside %#v: %#v, %v", d, want, y, e)
				}
				want = y
			}
			overAll(t, []ledOver{{"any", o, done, want, api.OK}})
		}
	}
}

// TestOverFitsBehindAll: what comes out goes over what all of them made.
func TestOverFitsBehindAll(t *testing.T) {
	r := rand.New(rand.NewPCG(7, 723))
	for range 500 {
		doc := anyText(r, r.IntN(121))
		o := anyOver(r, len(doc), 12, 5)
		done := chained(r, len(doc), 1+r.IntN(8))
		made := doc
		for _, d := range done {
			made = applied(made, d)
		}
		got, e := Over(o, done)
		if e != api.OK || op.In(got) != len(made) || !normal(got) {
			t.Fatalf("P702: %#v over %#v: %#v, %v, want one over %d bytes", o, done, got, e, len(made))
		}
	}
}

func TestOverOfLengthsThatDoNotFit(t *testing.T) {
	o := api.Op{keep(1), put("o"), cut(1)}
	fit := []api.Op{{keep(2), put("x")}, {keep(3)}, {cut(1), keep(2)}, {keep(2), put("yz")}, {keep(1), cut(3)}}
	if _, e := Over(o, fit); e != api.OK {
		t.Fatalf("P702: %v", e)
	}
	for i := range fit {
		for _, c := range []api.Comp{keep(1), cut(1)} { // over one more
			l := slices.Clone(fit)
			l[i] = append(slices.Clone(l[i]), c)
			overAll(t, []ledOver{{"one more", o, l, nil, api.ErrSize}})
		}
		l := slices.Clone(fit) // over one less: the Cut or Keep at its beginning
		l[i] = slices.Clone(l[i])
		if l[i][0].N--; l[i][0].N == 0 {
			l[i] = l[i][1:]
		}
		overAll(t, []ledOver{{"one less", o, l, nil, api.ErrSize}})
		if i+1 < len(fit) { // one more comes out, so the next one does not fit
			l := slices.Clone(fit)
			l[i] = append(slices.Clone(l[i]), put("w"))
			overAll(t, []ledOver{{"one more put", o, l, nil, api.ErrSize}})
		}
	}
	overAll(t, []ledOver{
		{"of one, less", o, []api.Op{{keep(1)}}, nil, api.ErrSize},
		{"of one, more", o, []api.Op{{keep(3)}}, nil, api.ErrSize},
		{"of one, no part", o, []api.Op{nil}, nil, api.ErrSize},
		{"no part over a byte", nil, []api.Op{{keep(1)}}, nil, api.ErrSize},
		{"the first, but the others fit", o, []api.Op{{keep(3)}, {keep(3)}, {keep(3)}}, nil, api.ErrSize},
		{"as long as o, but not as what was done", o, []api.Op{{keep(2), put("x")}, {keep(2)}}, nil, api.ErrSize},
		{"as long as what o makes", api.Op{keep(2), put("o")}, []api.Op{{keep(3)}}, nil, api.ErrSize},
		{"the last", o, []api.Op{{keep(2)}, {keep(2)}, {keep(1)}}, nil, api.ErrSize},
	})
}

// TestOverThousands: each puts a byte ahead of all.
func TestOverThousands(t *testing.T) {
	var done []api.Op
	for i := range 3000 {
		d := api.Op{put("x")}
		if i > 0 {
			d = append(d, keep(i))
		}
		done = append(done, d)
	}
	overAll(t, []ledOver{{"3000", api.Op{put("o")}, done, api.Op{keep(3000), put("o")}, api.OK}})
	done[2999] = done[2998]
	overAll(t, []ledOver{{"3000, of which the last does not fit", api.Op{put("o")}, done, nil, api.ErrSize}})
}
