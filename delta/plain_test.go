package delta

import (
	"encoding/binary"
	"math"
	"math/rand/v2"
	"slices"

	"comitia/api"
	"comitia/op"
)

func keep(n int) api.Comp { return api.Comp{Kind: api.Keep, N: n} }

func put(s string) api.Comp { return api.Comp{Kind: api.Put, S: s} }

func cut(n int) api.Comp { return api.Comp{Kind: api.Cut, N: n} }

// text is n bytes, any ones, no two neighbours alike.
func text(n int) string {
	b := make([]byte, n)
	for i := range b {
		b[i] = byte(i*37 + 200)
	}
	return string(b)
}

// rows is an operation of n parts that are all alike.
func rows(n int, c api.Comp) api.Op { return slices.Repeat(api.Op{c}, n) }

// sum is a hash whose bytes are all unlike, from one on.
func sum(from int) api.Hash {
	var h api.Hash
	for i := range h {
		h[i] = byte(from + i)
	}
	return h
}

// edit, add, remove are valid deltas; no two of their numbers are alike, where they need not be.
func edit() api.Delta {
	return api.Delta{Author: api.Addr{D: 1, U: 7}, Id: 500000, Version: 3000, Hash: sum(100), Kind: api.Edit, Op: api.Op{keep(2), put("hi"), cut(4)}}
}

func add() api.Delta {
	return api.Delta{Author: api.Addr{D: 1, U: 6}, Id: 5, Version: 3, Hash: sum(200), Kind: api.Add, Who: api.Addr{D: 2, U: 4}}
}

func remove() api.Delta {
	d := add()
	d.Kind = api.Remove
	return d
}

// with is d with something changed.
func with(d api.Delta, change func(d *api.Delta)) api.Delta {
	change(&d)
	return d
}

// plainNumber, plainText are as chapter 1 says, by the library's means.
func plainNumber(n int) string {
	return string(binary.LittleEndian.AppendUint64(nil, uint64(n)))
}

func plainText(s string) string {
	s = s[:min(len(s), 65535)]
	return string(binary.LittleEndian.AppendUint16(nil, uint16(len(s)))) + s
}

func plainByte(n int) string { return string([]byte{byte(n)}) }

func plainPart(c api.Comp) string {
	return plainByte(c.Kind) + plainNumber(c.N) + plainText(c.S)
}

func plainOp(o api.Op) string {
	out := plainByte(len(o))
	for _, c := range o {
		out += plainPart(c)
	}
	return out
}

// plainAround is a delta as bytes, with any text for its operation.
func plainAround(d api.Delta, o string) string {
	return plainNumber(d.Author.D) + plainNumber(d.Author.U) + plainNumber(d.Id) + plainNumber(d.Version) + string(d.Hash[:]) +
		plainByte(d.Kind) + plainText(o) + plainNumber(d.Who.D) + plainNumber(d.Who.U)
}

func plainDelta(d api.Delta) string { return plainAround(d, plainOp(d.Op)) }

// plainOpParse reads an operation place by place, as P801 says.
func plainOpParse(b string) (api.Op, api.Errno) {
	if b == "" {
		return nil, api.ErrCut
	}
	count := int(b[0])
	if count > 40 {
		return nil, api.ErrMany
	}
	b = b[1:]
	var o api.Op
	for range count {
		if len(b) < 11 {
			return nil, api.ErrCut
		}
		end := 11 + int(b[9]) + 256*int(b[10])
		if len(b) < end {
			return nil, api.ErrCut
		}
		o = append(o, api.Comp{Kind: int(b[0]), N: int(binary.LittleEndian.Uint64([]byte(b[1:9]))), S: b[11:end]})
		b = b[end:]
	}
	if b != "" {
		return nil, api.ErrMore
	}
	if e := op.Check(o); e != api.OK {
		return nil, e
	}
	return o, api.OK
}

// Places of a delta's bytes.
const (
	kindAt  = 4*8 + 32
	textAt  = kindAt + 1
	opAt    = textAt + 2
	whoSize = 2 * 8
)

// plainParse reads a delta place by place, as P802 says.
func plainParse(b string) (api.Delta, api.Errno) {
	if len(b) < opAt {
		return api.Delta{}, api.ErrCut
	}
	number := func(at int) int { return int(binary.LittleEndian.Uint64([]byte(b[at:]))) }
	end := opAt + int(b[textAt]) + 256*int(b[textAt+1])
	if len(b) < end+whoSize {
		return api.Delta{}, api.ErrCut
	}
	if len(b) > end+whoSize {
		return api.Delta{}, api.ErrMore
	}
	o, e := plainOpParse(b[opAt:end])
	if e != api.OK {
		return api.Delta{}, e
	}
	d := api.Delta{Author: api.Addr{D: number(0), U: number(8)}, Id: number(16), Version: number(24), Hash: api.Hash([]byte(b[32:64])), Kind: int(b[kindAt]), Op: o, Who: api.Addr{D: number(end), U: number(end + 8)}}
	if e := plainCheck(d); e != api.OK {
		return api.Delta{}, e
	}
	return d, api.OK
}

// plainCheck is P802's Check as its words stand.
func plainCheck(d api.Delta) api.Errno {
	noUser := func(a api.Addr) bool { return a.D < 0 || a.D > 2 || a.U < 0 || a.U > 7 }
	if noUser(d.Author) || d.Id < 0 || d.Id > 1073741824 || d.Version < 0 || d.Version > 1048576 {
		return api.ErrArg
	}
	if d.Kind < 1 || d.Kind > 3 {
		return api.ErrKind
	}
	if d.Kind == 1 {
		if e := op.Check(d.Op); e != api.OK {
			return e
		}
		if d.Who.D != 0 || d.Who.U != 0 {
			return api.ErrArg
		}
		return api.OK
	}
	if len(d.Op) != 0 || noUser(d.Who) {
		return api.ErrArg
	}
	return api.OK
}

// anyOp is a valid operation of at most so many parts.
func anyOp(r *rand.Rand, most int) api.Op {
	var o api.Op
	for range r.IntN(most + 1) {
		switch n := 1 + r.IntN(120); r.IntN(3) {
		case 0:
			o = append(o, keep(n))
		case 1:
			o = append(o, put(text(n)))
		case 2:
			o = append(o, cut(n))
		}
	}
	return o
}

// anyDelta is a valid delta.
func anyDelta(r *rand.Rand) api.Delta {
	user := func() api.Addr { return api.Addr{D: r.IntN(3), U: r.IntN(8)} }
	d := api.Delta{Author: user(), Id: r.IntN(1<<30 + 1), Version: r.IntN(1<<20 + 1), Hash: sum(r.IntN(256)), Kind: 1 + r.IntN(3)}
	if d.Kind == api.Edit {
		d.Op = anyOp(r, []int{0, 1, 3, 40}[r.IntN(4)])
	} else {
		d.Who = user()
	}
	return d
}

// oddNumber is seldom one that may be.
func oddNumber(r *rand.Rand) int {
	l := []int{0, 1, 2, 3, 7, 8, 120, 121, 255, 256, 257, 1 << 20, 1<<20 + 1, 1 << 30, 1<<30 + 1, 1 << 32, -1, -2, -256, math.MaxInt, math.MinInt}
	return l[r.IntN(len(l))]
}

// oddOp is an operation of any parts, seldom valid.
func oddOp(r *rand.Rand, most int) api.Op {
	texts := []string{"", "", "a", "bc", "\x00\xff", text(120), text(121), text(300)}
	o := make(api.Op, r.IntN(most+1))
	for i := range o {
		o[i] = api.Comp{Kind: oddNumber(r), N: oddNumber(r), S: texts[r.IntN(len(texts))]}
	}
	return o
}

// oddDelta is a valid delta with some things turned into any ones.
func oddDelta(r *rand.Rand) api.Delta {
	d := anyDelta(r)
	for _, n := range []*int{&d.Author.D, &d.Author.U, &d.Id, &d.Version, &d.Kind, &d.Who.D, &d.Who.U} {
		if r.IntN(6) == 0 {
			*n = oddNumber(r)
		}
	}
	if r.IntN(4) == 0 {
		d.Op = oddOp(r, 5)
	}
	return d
}
