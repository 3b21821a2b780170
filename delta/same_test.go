package delta

import (
	"math"
	"math/rand/v2"
	"slices"
	"testing"

	"comitia/api"
)

// others are deltas that differ from d in one thing each.
func others(d api.Delta) map[string]api.Delta {
	out := map[string]api.Delta{
		"Kind, greater": with(d, func(d *api.Delta) { d.Kind++ }),
		"Kind + 256":    with(d, func(d *api.Delta) { d.Kind += 256 }),
		"Kind, less":    with(d, func(d *api.Delta) { d.Kind-- }),
		"one more part": with(d, func(d *api.Delta) { d.Op = append(slices.Clone(d.Op), keep(1)) }),
		"one more of noughts": with(d, func(d *api.Delta) {
			d.Op = append(slices.Clone(d.Op), api.Comp{})
		}),
	}
	for _, b := range bounds() {
		for what, by := range map[string]int{" + 1": 1, " - 1": -1, " + 256": 256, " + 2^32": 1 << 32, " + 2^63": math.MinInt} {
			out[b.what+what] = with(d, func(d *api.Delta) { *b.at(d) += by })
		}
	}
	for i := range 32 {
		out["Hash, byte "+string(rune('A'+i))] = with(d, func(d *api.Delta) { d.Hash[i]++ })
	}
	if len(d.Op) > 0 {
		out["no part"] = with(d, func(d *api.Delta) { d.Op = nil })
		out["one part less"] = with(d, func(d *api.Delta) { d.Op = d.Op[:len(d.Op)-1] })
		out["one part less ahead"] = with(d, func(d *api.Delta) { d.Op = d.Op[1:] })
	}
	for i := range d.Op {
		part := func(change func(c *api.Comp)) api.Delta {
			o := slices.Clone(d.Op)
			change(&o[i])
			return with(d, func(d *api.Delta) { d.Op = o })
		}
		name := "part " + string(rune('A'+i))
		out[name+", Kind"] = part(func(c *api.Comp) { c.Kind++ })
		out[name+", N"] = part(func(c *api.Comp) { c.N++ })
		out[name+", S longer"] = part(func(c *api.Comp) { c.S += "\x00" })
		out[name+", S"] = part(func(c *api.Comp) { c.S = "q" + c.S })
	}
	return out
}

func TestSameOfDeltasThatDifferInOneThing(t *testing.T) {
	for _, d := range []api.Delta{edit(), add(), remove(), {}, {Kind: -1, Id: math.MaxInt, Op: rows(300, api.Comp{Kind: 9})}} {
		for what, x := range others(d) {
			if Same(d, x) || Same(x, d) {
				t.Errorf("P802: Same: %s", what)
			}
			if !Same(x, x) {
				t.Errorf("P802: not Same as itself: %s", what)
			}
		}
	}
}

func TestSameOfCopies(t *testing.T) {
	r := rand.New(rand.NewPCG(8, 4))
	for range 3000 {
		d := oddDelta(r)
		x := d
		x.Op = make(api.Op, len(d.Op), len(d.Op)+3)
		for i, c := range d.Op {
			c.S = string([]byte(c.S))
			x.Op[i] = c
		}
		if !Same(d, x) || !Same(x, d) {
			t.Fatalf("P802: not Same as its copy: %#v", d)
		}
		if y := oddDelta(r); Same(d, y) != alike(d, y) || Same(y, d) != alike(d, y) {
			t.Fatalf("P802: Same of %#v and %#v", d, y)
		}
	}
}

// TestNoListIsAnEmptyOne: nil and an empty one are the same, wherever they stand.
func TestNoListIsAnEmptyOne(t *testing.T) {
	for _, o := range []api.Op{nil, {}, make(api.Op, 0, 5)} {
		if got := string(OpBytes(o)); got != "\x00" {
			t.Errorf("P2: OpBytes: %x", got)
		}
		for _, p := range []api.Op{nil, {}, make(api.Op, 0, 5)} {
			for _, d := range []api.Delta{{}, add(), with(edit(), func(d *api.Delta) { d.Op = nil })} {
				a := with(d, func(d *api.Delta) { d.Op = o })
				b := with(d, func(d *api.Delta) { d.Op = p })
				if !Same(a, b) || string(Bytes(a)) != string(Bytes(b)) || Check(a) != Check(b) {
					t.Errorf("P2: no list and an empty one are not the same: %#v, %#v", a, b)
				}
			}
		}
	}
}
