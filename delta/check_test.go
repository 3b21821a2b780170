package delta

import (
	"math"
	"math/rand/v2"
	"testing"

	"comitia/api"
)

// checked holds what Check answers against what it must.
func checked(t *testing.T, what string, d api.Delta, want api.Errno) {
	t.Helper()
	if e := Check(d); e != want {
		t.Errorf("P802: Check, %s: %v, want %v", what, e, want)
	}
}

// bound is a number of a delta, and the greatest that it may be.
type bound struct {
	what string
	most int
	at   func(d *api.Delta) *int
}

func bounds() []bound {
	return []bound{
		{"Author.D", 2, func(d *api.Delta) *int { return &d.Author.D }},
		{"Author.U", 7, func(d *api.Delta) *int { return &d.Author.U }},
		{"Id", 1 << 30, func(d *api.Delta) *int { return &d.Id }},
		{"Version", 1 << 20, func(d *api.Delta) *int { return &d.Version }},
		{"Who.D", 2, func(d *api.Delta) *int { return &d.Who.D }},
		{"Who.U", 7, func(d *api.Delta) *int { return &d.Who.U }},
	}
}

// TestCheckBounds: each number by itself, the others as they may be.
func TestCheckBounds(t *testing.T) {
	for _, b := range bounds() {
		for i, d := range []api.Delta{edit(), add(), remove()} {
			if i == 0 && (b.what == "Who.D" || b.what == "Who.U") {
				continue
			}
			for _, n := range []int{0, 1, b.most / 2, b.most - 1, b.most} {
				*b.at(&d) = n
				checked(t, b.what+" within its bounds", d, api.OK)
			}
			for _, n := range []int{-1, -2, -1 << 32, math.MinInt, b.most + 1, b.most + 2, b.most + 256, b.most + 1<<32, 1 << 40, math.MaxInt} {
				*b.at(&d) = n
				checked(t, b.what+" out of its bounds", d, api.ErrArg)
			}
		}
	}
}

// TestCheckAllAtTheirBounds: all numbers at once.
func TestCheckAllAtTheirBounds(t *testing.T) {
	greatest := api.Delta{Author: api.Addr{D: 2, U: 7}, Id: 1 << 30, Version: 1 << 20, Hash: sum(0)}
	least := api.Delta{}
	for _, d := range []api.Delta{greatest, least} {
		d.Kind = api.Edit
		checked(t, "an Edit at all bounds", d, api.OK)
		for _, kind := range []int{api.Add, api.Remove} {
			d.Kind = kind
			for _, who := range []api.Addr{{}, {D: 2, U: 7}} {
				d.Who = who
				checked(t, "an Add or a Remove at all bounds", d, api.OK)
			}
		}
	}
}

func TestCheckUsers(t *testing.T) {
	for u := -2; u <= 10; u++ {
		for dom := -2; dom <= 5; dom++ {
			want := api.ErrArg
			if dom >= 0 && dom <= 2 && u >= 0 && u <= 7 {
				want = api.OK
			}
			a := api.Addr{D: dom, U: u}
			checked(t, "an author", with(edit(), func(d *api.Delta) { d.Author = a }), want)
			checked(t, "an author of an Add", with(add(), func(d *api.Delta) { d.Author = a }), want)
			checked(t, "who is added", with(add(), func(d *api.Delta) { d.Who = a }), want)
			checked(t, "who is removed", with(remove(), func(d *api.Delta) { d.Who = a }), want)
		}
	}
}

func TestCheckKinds(t *testing.T) {
	checked(t, "an Edit", edit(), api.OK)
	checked(t, "an Add", add(), api.OK)
	checked(t, "a Remove", remove(), api.OK)
	for _, kind := range []int{0, 4, 5, 9, -1, -3, 255, 256, 257, 258, 259, 1<<32 + 1, math.MaxInt, math.MinInt} {
		for _, d := range []api.Delta{edit(), add(), {}} {
			d.Kind = kind
			checked(t, "a kind that there is not", d, api.ErrKind)
		}
	}
}

// TestExample is the chapter's example.
func TestExample(t *testing.T) {
	checked(t, "example 1: a delta of no kind", api.Delta{}, api.ErrKind)
	if _, e := Parse([]byte(plainDelta(api.Delta{}))); e != api.ErrKind {
		t.Errorf("P802: Parse, example 1: %v", e)
	}
}

// badOp is an operation that op.Check refuses, and by which error.
type badOp struct {
	o api.Op
	e api.Errno
}

func badOps() []badOp {
	return []badOp{
		{rows(41, keep(1)), api.ErrMany},
		{rows(256, keep(1)), api.ErrMany},
		{api.Op{{}}, api.ErrKind},
		{api.Op{{Kind: 7}}, api.ErrKind},
		{api.Op{keep(1), {Kind: -1}}, api.ErrKind},
		{api.Op{keep(0)}, api.ErrArg},
		{api.Op{put("a"), cut(121)}, api.ErrArg},
		{api.Op{put("")}, api.ErrArg},
		{api.Op{put(text(121))}, api.ErrLong},
		{api.Op{put(text(121)), {Kind: 9}}, api.ErrLong},
	}
}

func TestCheckEdits(t *testing.T) {
	for _, o := range []api.Op{nil, {}, {keep(120)}, {put(text(120))}, rows(40, cut(1)), rows(40, put(text(120)))} {
		checked(t, "an Edit", with(edit(), func(d *api.Delta) { d.Op = o }), api.OK)
	}
	for _, x := range badOps() {
		checked(t, "an Edit with what op.Check refuses", with(edit(), func(d *api.Delta) { d.Op = x.o }), x.e)
	}
	for _, who := range []api.Addr{{U: 1}, {D: 1}, {D: 2, U: 7}, {U: -1}, {D: -1}, {D: -1, U: 1}, {D: 1, U: -1}, {D: 3, U: 8}, {D: math.MinInt, U: math.MinInt}} {
		checked(t, "an Edit with Who", with(edit(), func(d *api.Delta) { d.Who = who }), api.ErrArg)
		checked(t, "an Edit of nothing with Who", with(edit(), func(d *api.Delta) { d.Op, d.Who = nil, who }), api.ErrArg)
	}
}

func TestCheckAddsAndRemoves(t *testing.T) {
	for _, d := range []api.Delta{add(), remove()} {
		for _, o := range []api.Op{nil, {}, make(api.Op, 0, 3)} {
			checked(t, "no operation", with(d, func(d *api.Delta) { d.Op = o }), api.OK)
		}
		for _, o := range []api.Op{{keep(1)}, {{}}, {put("")}, rows(40, keep(1)), rows(41, keep(1)), rows(300, api.Comp{Kind: 9}), {put(text(121))}} {
			checked(t, "an operation", with(d, func(d *api.Delta) { d.Op = o }), api.ErrArg)
			checked(t, "an operation and nobody", with(d, func(d *api.Delta) { d.Op, d.Who.D = o, 3 }), api.ErrArg)
		}
		checked(t, "the author", with(d, func(d *api.Delta) { d.Who = d.Author }), api.OK)
		checked(t, "noughts", with(d, func(d *api.Delta) { d.Who = api.Addr{} }), api.OK)
	}
}

func TestWhichErrorCheckAnswers(t *testing.T) {
	for _, b := range bounds()[:4] {
		for _, n := range []int{-1, b.most + 1} {
			wrong := func(d api.Delta) api.Delta {
				*b.at(&d) = n
				return d
			}
			checked(t, b.what+" and a kind", wrong(with(edit(), func(d *api.Delta) { d.Kind = 0 })), api.ErrArg)
			checked(t, b.what+" and a kind, people", wrong(with(add(), func(d *api.Delta) { d.Kind = 4 })), api.ErrArg)
			for _, x := range badOps() {
				checked(t, b.what+" and an operation", wrong(with(edit(), func(d *api.Delta) { d.Op = x.o })), api.ErrArg)
			}
		}
	}
	for _, x := range badOps() {
		checked(t, "an operation and Who", with(edit(), func(d *api.Delta) { d.Op, d.Who.U = x.o, 1 }), x.e)
		checked(t, "an operation and no kind", with(edit(), func(d *api.Delta) { d.Op, d.Kind = x.o, 0 }), api.ErrKind)
		checked(t, "an operation and no kind, nobody", with(add(), func(d *api.Delta) { d.Op, d.Kind, d.Who.D = x.o, 4, -1 }), api.ErrKind)
		checked(t, "an Add with it", with(add(), func(d *api.Delta) { d.Op = x.o }), api.ErrArg)
	}
	checked(t, "Who and no kind", with(edit(), func(d *api.Delta) { d.Who.U, d.Kind = 9, -1 }), api.ErrKind)
}

// TestCheckTheHashIsAnyOne: no hash is refused.
func TestCheckTheHashIsAnyOne(t *testing.T) {
	for i := range 256 {
		checked(t, "a hash", with(edit(), func(d *api.Delta) { d.Hash = sum(i) }), api.OK)
	}
	checked(t, "a hash of noughts", with(add(), func(d *api.Delta) { d.Hash = api.Hash{} }), api.OK)
}

func TestCheckManyDeltas(t *testing.T) {
	r := rand.New(rand.NewPCG(8, 2))
	for range 20000 {
		d := anyDelta(r)
		checked(t, "a valid one", d, api.OK)
		d = oddDelta(r)
		if e, want := Check(d), plainCheck(d); e != want {
			t.Fatalf("P802: Check of %#v: %v, want %v", d, e, want)
		}
	}
}
