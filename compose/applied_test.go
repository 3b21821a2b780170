package compose

import (
	"math/rand/v2"
	"testing"

	"comitia/api"
	"comitia/op"
)

// appliedHolds tells by documents whether ab is a and then b.
func appliedHolds(t *testing.T, r *rand.Rand, a, b, ab api.Op) {
	t.Helper()
	if op.In(ab) != op.In(a) || op.Out(ab) != op.Out(b) {
		t.Fatalf("P502: %#v, then %#v: %#v is over %d, %d bytes", a, b, ab, op.In(ab), op.Out(ab))
	}
	for range 3 {
		doc := anyText(r, op.In(a))
		between, e := op.Apply(doc, a)
		if e != api.OK {
			t.Fatalf("a test that does not fit: %v", e)
		}
		want, e := op.Apply(between, b)
		if got, f := op.Apply(doc, ab); got != want || e != f {
			t.Fatalf("P502: %q: %#v makes %q, %v; %#v and then %#v: %q, %v", doc, ab, got, f, a, b, want, e)
		}
	}
}

// shortOver is a valid operation over in bytes that makes at most 120 of them.
func shortOver(r *rand.Rand, in int) api.Op {
	for {
		if o := anyOver(r, in, 30, 1+r.IntN(8)); op.Out(o) <= 120 && op.Check(o) == api.OK {
			return o
		}
	}
}

func TestTwoAppliedIsBoth(t *testing.T) {
	r := rand.New(rand.NewPCG(5, 504))
	for n := range 121 {
		for range 30 {
			a := shortOver(r, n)
			b := shortOver(r, op.Out(a))
			ab, e := Two(a, b)
			if e != api.OK {
				t.Fatalf("P501: %#v, then %#v: %v", a, b, e)
			}
			appliedHolds(t, r, a, b, ab)
		}
	}
}

func TestTwoAppliedOfTooManyBytes(t *testing.T) {
	long, short := api.Op{keep(100), put(text(21))}, api.Op{cut(1), keep(120)}
	ab, e := Two(long, short)
	if e != api.OK {
		t.Fatalf("P501: %v", e)
	}
	if got, e := op.Apply(text(100), ab); e != api.OK || got != text(100)[1:]+text(21) {
		t.Errorf("P501: what is too long only between the two: %q, %v", got, e)
	}
	more, e := Two(api.Op{keep(100)}, long)
	if e != api.OK {
		t.Fatalf("P501: %v", e)
	}
	if got, e := op.Apply(text(100), more); e != api.ErrLong || got != "" {
		t.Errorf("P402: what is too long in the end: %q, %v", got, e)
	}
}

func TestAllAppliedIsAll(t *testing.T) {
	r := rand.New(rand.NewPCG(5, 505))
	for count := range 30 {
		for range 20 {
			doc := anyText(r, r.IntN(121))
			want := doc
			var l []api.Op
			for range count {
				l = append(l, shortOver(r, len(want)))
				want, _ = op.Apply(want, l[len(l)-1])
			}
			o, e := All(len(doc), l...)
			got, f := op.Apply(doc, o)
			if e != api.OK || f != api.OK || got != want {
				t.Fatalf("P502: %q: %#v makes %q (%v, %v), all one behind the other %q", doc, o, got, e, f, want)
			}
		}
	}
}

// threeHold: however three are taken together, it is the same.
func threeHold(t *testing.T, a, b, c api.Op) {
	t.Helper()
	ab, e1 := Two(a, b)
	bc, e2 := Two(b, c)
	left, e3 := Two(ab, c)
	right, e4 := Two(a, bc)
	if e1 != api.OK || e2 != api.OK || e3 != api.OK || e4 != api.OK {
		t.Fatalf("P501: %#v, %#v, %#v: %v, %v, %v, %v", a, b, c, e1, e2, e3, e4)
	}
	if !op.Same(left, right) {
		t.Fatalf("P502: %#v, %#v, %#v: %#v or %#v", a, b, c, left, right)
	}
	if op.In(a) > 120 {
		return
	}
	for _, l := range [][]api.Op{{a, b, c}, {ab, c}, {a, bc}, {left}} {
		if all, e := All(op.In(a), l...); e != api.OK || !op.Same(all, left) {
			t.Fatalf("P502: %#v, %#v, %#v: All of %#v: %#v, %v, want %#v", a, b, c, l, all, e, left)
		}
	}
}

// TestThreeOfEach: all operations of up to three parts, and all such ones behind them.
func TestThreeOfEach(t *testing.T) {
	second := byIn(each(3, keep(1), put("x"), cut(1), cut(2)))
	third := byIn(each(3, keep(1), put("yz"), cut(1)))
	for _, a := range each(3, keep(1), keep(2), put("a"), put("bc"), cut(1)) {
		for _, b := range second[op.Out(a)] {
			for _, c := range third[op.Out(b)] {
				threeHold(t, a, b, c)
			}
		}
	}
}

func TestThreeAtRandom(t *testing.T) {
	r := rand.New(rand.NewPCG(5, 506))
	for range 3000 {
		a := anyOver(r, r.IntN(150), 20, 1+r.IntN(10))
		b := anyOver(r, op.Out(a), 20, 1+r.IntN(10))
		threeHold(t, a, b, anyOver(r, op.Out(b), 20, 1+r.IntN(10)))
	}
}

// TestWhatKeepsAllChangesNothing: what All makes of none, ahead or behind, leaves Normal.
func TestWhatKeepsAllChangesNothing(t *testing.T) {
	r := rand.New(rand.NewPCG(5, 507))
	for n := range 121 {
		o := shortOver(r, n)
		ahead, _ := All(n)
		behind, _ := All(op.Out(o))
		for _, l := range [][]api.Op{{o}, {ahead, o}, {o, behind}, {ahead, o, behind}} {
			if got, e := All(n, l...); e != api.OK || !op.Same(got, op.Normal(o)) {
				t.Fatalf("P502: %#v: %#v, %v", l, got, e)
			}
		}
	}
}
