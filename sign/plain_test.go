package sign

import (
	library "crypto/hmac"
	"crypto/sha256"
	"encoding/binary"
	"math"
	"math/rand/v2"
	"reflect"
	"slices"

	"comitia/api"
	"comitia/delta"
)

func keep(n int) api.Comp { return api.Comp{Kind: api.Keep, N: n} }

func put(s string) api.Comp { return api.Comp{Kind: api.Put, S: s} }

func cut(n int) api.Comp { return api.Comp{Kind: api.Cut, N: n} }

// text is n bytes, any ones, no two neighbours alike.
func text(n int) string {
	b := make([]byte, n)
	for i := range b {
		b[i] = byte(i*37 + 200)
	}
	return string(b)
}

// rows is an operation of n parts that are all alike.
func rows(n int, c api.Comp) api.Op { return slices.Repeat(api.Op{c}, n) }

// sum is a hash whose bytes are all unlike, from one on.
func sum(from int) api.Hash {
	var h api.Hash
	for i := range h {
		h[i] = byte(from + i)
	}
	return h
}

func keys() api.Keys {
	return api.Keys{[]byte("key of nought"), []byte("key of one"), []byte("key of two")}
}

// manyKeys are keys of many lengths, each domain's unlike the others'.
func manyKeys() []api.Keys {
	l := []api.Keys{keys(), {nil, {1}, {2}}, {{3}, {}, {4}}, {{5}, {6}, nil}}
	for _, n := range []int{31, 32, 63, 64, 65, 100, 1000} {
		b := []byte(text(n + 2))
		l = append(l, api.Keys{b[:n], b[1 : n+1], b[2:]})
	}
	return l
}

// edit, add, remove are valid deltas of a domain's user.
func edit(dom int) api.Delta {
	return api.Delta{Author: api.Addr{D: dom, U: 7}, Id: 500000, Version: 3000, Hash: sum(100), Kind: api.Edit, Op: api.Op{keep(2), put("hi"), cut(4)}}
}

func add(dom int) api.Delta {
	return api.Delta{Author: api.Addr{D: dom, U: 6}, Id: 5, Version: 3, Hash: sum(200), Kind: api.Add, Who: api.Addr{D: 1, U: 4}}
}

func remove(dom int) api.Delta {
	d := add(dom)
	d.Kind = api.Remove
	return d
}

// valid are some deltas of each domain's users.
func valid() []api.Delta {
	var l []api.Delta
	for dom := range 3 {
		l = append(l, edit(dom), add(dom), remove(dom), api.Delta{Author: api.Addr{D: dom}, Kind: api.Edit}, api.Delta{Author: api.Addr{D: dom}, Kind: api.Edit, Op: rows(40, put(text(120)))})
	}
	return l
}

// plainNumber, plainText are as chapter 1 says, by the library's means.
func plainNumber(n int) string {
	return string(binary.LittleEndian.AppendUint64(nil, uint64(n)))
}

func plainText(s string) string {
	s = s[:min(len(s), 65535)]
	return string(binary.LittleEndian.AppendUint16(nil, uint16(len(s)))) + s
}

// plainOp is as chapter 8 says.
func plainOp(o api.Op) string {
	out := string([]byte{byte(len(o))})
	for _, c := range o {
		out += string([]byte{byte(c.Kind)}) + plainNumber(c.N) + plainText(c.S)
	}
	return out
}

// plainMac, plainSum are what Go's own library makes of a text.
func plainMac(key []byte, s string) api.Hash {
	h := library.New(sha256.New, key)
	h.Write([]byte(s))
	return api.Hash(h.Sum(nil))
}

func plainSum(s string) api.Hash { return sha256.Sum256([]byte(s)) }

// plainAround is an entry's core, with any text for its operation.
func plainAround(e api.Entry, o string) string {
	return plainText(string(e.S.Body)) + string(e.S.Mac[:]) + plainNumber(e.At) + plainText(o)
}

func plainCore(e api.Entry) string { return plainAround(e, plainOp(e.Op)) }

func plainBytes(e api.Entry) string { return plainCore(e) + string(e.Hash[:]) + string(e.Mac[:]) }

// plainEntry is P902's Entry as its words stand.
func plainEntry(k api.Keys, host int, prev api.Hash, s api.Signed, at int, o api.Op) api.Entry {
	e := api.Entry{S: s, At: at, Op: o}
	e.Hash = plainSum(string(prev[:]) + plainCore(e))
	e.Mac = plainMac(k[host], plainCore(e)+string(e.Hash[:]))
	return e
}

// plainCheck is P902's Check as its words stand.
func plainCheck(k api.Keys, host int, e api.Entry) bool {
	return (host == 0 || host == 1 || host == 2) && e.Mac == plainMac(k[host], plainCore(e)+string(e.Hash[:]))
}

// plainParse reads an entry place by place, as P903 says.
func plainParse(b string) (api.Entry, api.Errno) {
	rest, short := b, false
	next := func(n int) string {
		if short || len(rest) < n {
			short = true
			return string(make([]byte, n))
		}
		front := rest[:n]
		rest = rest[n:]
		return front
	}
	size := func() int { return int(binary.LittleEndian.Uint16([]byte(next(2)))) }
	var e api.Entry
	e.S.Body = []byte(next(size()))
	e.S.Mac = api.Hash([]byte(next(32)))
	e.At = int(binary.LittleEndian.Uint64([]byte(next(8))))
	inside := next(size())
	e.Hash = api.Hash([]byte(next(32)))
	e.Mac = api.Hash([]byte(next(32)))
	if short {
		return api.Entry{}, api.ErrCut
	}
	if rest != "" {
		return api.Entry{}, api.ErrMore
	}
	o, err := delta.OpParse([]byte(inside))
	if err != api.OK {
		return api.Entry{}, err
	}
	if e.At < 0 {
		return api.Entry{}, api.ErrArg
	}
	e.Op = o
	return e, api.OK
}

// alike tells whether two entries are the same, by the library's means.
func alike(a, b api.Entry) bool {
	for _, e := range []*api.Entry{&a, &b} {
		if len(e.Op) == 0 {
			e.Op = nil
		}
		if len(e.S.Body) == 0 {
			e.S.Body = nil
		}
	}
	return reflect.DeepEqual(a, b)
}

// done is an entry that host 1 signed; no two of its fields are alike.
func done() api.Entry {
	return plainEntry(keys(), 1, sum(50), plainSigned(edit(2)), 3001, api.Op{keep(1), put("xy"), cut(3)})
}

// plainSigned is P901's Delta as its words stand.
func plainSigned(d api.Delta) api.Signed {
	b := delta.Bytes(d)
	return api.Signed{Body: b, Mac: plainMac(keys()[d.Author.D], string(b))}
}

// with is e, of which nothing is shared, with something changed.
func with(e api.Entry, change func(e *api.Entry)) api.Entry {
	e.S.Body, e.Op = slices.Clone(e.S.Body), slices.Clone(e.Op)
	change(&e)
	return e
}

// anyOp is a valid operation of at most so many parts.
func anyOp(r *rand.Rand, most int) api.Op {
	var o api.Op
	for range r.IntN(most + 1) {
		n := 1 + r.IntN(120)
		o = append(o, []api.Comp{keep(n), put(text(n)), cut(n)}[r.IntN(3)])
	}
	return o
}

// anyDelta is a valid delta.
func anyDelta(r *rand.Rand) api.Delta {
	user := func() api.Addr { return api.Addr{D: r.IntN(3), U: r.IntN(8)} }
	d := api.Delta{Author: user(), Id: r.IntN(1<<30 + 1), Version: r.IntN(1<<20 + 1), Hash: sum(r.IntN(256)), Kind: 1 + r.IntN(3)}
	if d.Kind == api.Edit {
		d.Op = anyOp(r, []int{0, 1, 3, 40}[r.IntN(4)])
	} else {
		d.Who = user()
	}
	return d
}

// oddNumber is seldom one that may be.
func oddNumber(r *rand.Rand) int {
	l := []int{0, 1, 2, 3, 4, 8, 120, 121, 255, 256, 257, 1 << 32, -1, -2, -256, math.MaxInt, math.MinInt}
	return l[r.IntN(len(l))]
}

// oddOp is an operation of any parts, seldom valid.
func oddOp(r *rand.Rand, most int) api.Op {
	texts := []string{"", "", "a", "bc", "\x00\xff", text(120), text(121), text(300)}
	o := make(api.Op, r.IntN(most+1))
	for i := range o {
		o[i] = api.Comp{Kind: oddNumber(r), N: oddNumber(r), S: texts[r.IntN(len(texts))]}
	}
	return o
}

// anyBytes are at most so many.
func anyBytes(r *rand.Rand, most int) []byte {
	b := make([]byte, r.IntN(most+1))
	for i := range b {
		b[i] = byte(r.Uint32())
	}
	return b
}

func anyHash(r *rand.Rand) api.Hash {
	var h api.Hash
	for i := range h {
		h[i] = byte(r.Uint32())
	}
	return h
}

// anyKeys are any, also none.
func anyKeys(r *rand.Rand) api.Keys {
	return api.Keys{anyBytes(r, 5), anyBytes(r, 70), anyBytes(r, 200)}
}

// anyEntry is one that Parse allows; its Body and its signs are any ones.
func anyEntry(r *rand.Rand) api.Entry {
	e := api.Entry{S: api.Signed{Mac: anyHash(r)}, At: r.IntN(math.MaxInt), Op: anyOp(r, []int{0, 1, 3, 40}[r.IntN(4)]), Hash: anyHash(r), Mac: anyHash(r)}
	if r.IntN(2) == 0 {
		e.S.Body = delta.Bytes(anyDelta(r))
	} else {
		e.S.Body = anyBytes(r, 300)
	}
	return e
}

// oddEntry is one whose numbers and operation are any ones.
func oddEntry(r *rand.Rand) api.Entry {
	e := anyEntry(r)
	if r.IntN(2) == 0 {
		e.At = oddNumber(r)
	}
	if r.IntN(2) == 0 {
		e.Op = oddOp(r, 5)
	}
	return e
}

// turned is b with some of its bytes turned, cut off or put in.
func turned(r *rand.Rand, b []byte) []byte {
	b = slices.Clone(b)
	for range r.IntN(4) {
		if len(b) == 0 {
			break
		}
		at := r.IntN(len(b))
		switch r.IntN(8) {
		case 0:
			b = b[:at]
		case 1:
			b = slices.Delete(b, at, at+1)
		case 2:
			b = slices.Insert(b, at, b[at])
		case 3, 4:
			b[at] ^= 1 << r.IntN(8)
		default:
			b[at] = byte(r.IntN(256) >> r.IntN(8))
		}
	}
	return b
}
