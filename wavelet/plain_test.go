package wavelet

import (
	"bytes"
	"crypto/sha256"
	"encoding/binary"
	"math"
	"math/rand/v2"
	"slices"
	"strings"
	"testing"

	"comitia/api"
	"comitia/delta"
	"comitia/op"
)

func keep(n int) api.Comp { return api.Comp{Kind: api.Keep, N: n} }

func put(s string) api.Comp { return api.Comp{Kind: api.Put, S: s} }

func cut(n int) api.Comp { return api.Comp{Kind: api.Cut, N: n} }

func user(d, u int) api.Addr { return api.Addr{D: d, U: u} }

// users is all there may be, in order.
func users() []api.Addr {
	var all []api.Addr
	for d := range 3 {
		for u := range 8 {
			all = append(all, user(d, u))
		}
	}
	return all
}

// text is n bytes, any ones, no two neighbours alike.
func text(n int) string {
	b := make([]byte, n)
	for i := range b {
		b[i] = byte(i*37 + 200)
	}
	return string(b)
}

// rows is an operation of n parts that are all alike.
func rows(n int, c api.Comp) api.Op { return slices.Repeat(api.Op{c}, n) }

// sum is a hash whose bytes are all unlike, from one on.
func sum(from int) api.Hash {
	var h api.Hash
	for i := range h {
		h[i] = byte(from + i)
	}
	return h
}

// edit, who are deltas of somebody, for a version; the operation of an edit is not the one that is done.
func edit(version int, a api.Addr) api.Delta {
	return api.Delta{Author: a, Id: 12, Version: version, Hash: sum(60), Kind: api.Edit, Op: api.Op{put("what was meant"), keep(3)}}
}

func who(version int, a api.Addr, kind int, x api.Addr) api.Delta {
	return api.Delta{Author: a, Id: 13, Version: version, Hash: sum(70), Kind: kind, Who: x}
}

// plainNumber, plainText are as chapter 1 says, by the library's means.
func plainNumber(n int) string {
	return string(binary.LittleEndian.AppendUint64(nil, uint64(n)))
}

func plainText(s string) string {
	s = s[:min(len(s), 65535)]
	return string(binary.LittleEndian.AppendUint16(nil, uint16(len(s)))) + s
}

// plainCore is an entry's core, as chapters 8 and 9 say.
func plainCore(e api.Entry) string {
	o := string([]byte{byte(len(e.Op))})
	for _, c := range e.Op {
		o += string([]byte{byte(c.Kind)}) + plainNumber(c.N) + plainText(c.S)
	}
	return plainText(string(e.S.Body)) + string(e.S.Mac[:]) + plainNumber(e.At) + plainText(o)
}

// chained is e with the hash that it must have behind another.
func chained(prev api.Hash, e api.Entry) api.Entry {
	e.Hash = sha256.Sum256([]byte(string(prev[:]) + plainCore(e)))
	return e
}

// entry is a delta as it is done at s, by o; nobody signed it.
func entry(s State, d api.Delta, o api.Op) api.Entry {
	return chained(s.Hash, api.Entry{S: api.Signed{Body: delta.Bytes(d), Mac: sum(10)}, At: s.Version, Op: o, Mac: sum(20)})
}

// plain is a state as the chapter tells of it: a mark for each user there may be.
type plain struct {
	id      api.Id
	doc     string
	marks   [3][8]bool
	version int
	hash    api.Hash
}

func plainNew(id api.Id, creator api.Addr) plain {
	p := plain{id: id}
	p.marks[creator.D][creator.U] = true
	p.hash = sha256.Sum256([]byte(plainNumber(id.Host) + plainNumber(id.N) + plainNumber(creator.D) + plainNumber(creator.U)))
	return p
}

// people are those who are marked, in order.
func (p plain) people() []api.Addr {
	var l []api.Addr
	for _, a := range users() {
		if p.marks[a.D][a.U] {
			l = append(l, a)
		}
	}
	return l
}

func (p plain) state() State {
	return State{Id: p.id, Doc: p.doc, People: p.people(), Version: p.version, Hash: p.hash}
}

// is tells whether s is p in all, by the library's means.
func (p plain) is(s State) bool {
	return s.Id == p.id && s.Doc == p.doc && slices.Equal(s.People, p.people()) && s.Version == p.version && s.Hash == p.hash
}

// do is P1302 as its words stand.
func (p plain) do(e api.Entry) (plain, api.Errno) {
	d, err := delta.Parse(e.S.Body)
	if err != api.OK {
		return p, err
	}
	if e.At != p.version || d.Version > p.version {
		return p, api.ErrStale
	}
	if !p.marks[d.Author.D][d.Author.U] {
		return p, api.ErrMay
	}
	n := p
	if d.Kind == api.Edit {
		n.doc, err = plainApply(p.doc, e.Op)
	} else {
		err = n.let(d.Kind == api.Add, d.Who, len(e.Op))
	}
	if err != api.OK {
		return p, err
	}
	if e.Hash != chained(p.hash, e).Hash {
		return p, api.ErrHash
	}
	n.version, n.hash = p.version+1, e.Hash
	return n, api.OK
}

// let marks somebody, or takes the mark away.
func (p *plain) let(add bool, a api.Addr, parts int) api.Errno {
	there := p.marks[a.D][a.U]
	switch {
	case parts != 0:
		return api.ErrArg
	case add && there:
		return api.ErrIs
	case add && len(p.people()) == 8:
		return api.ErrMany
	case !add && !there:
		return api.ErrNone
	}
	p.marks[a.D][a.U] = add
	return api.OK
}

// plainApply is what a valid operation makes of a document, byte by byte.
func plainApply(doc string, o api.Op) (string, api.Errno) {
	if err := op.Check(o); err != api.OK {
		return "", err
	}
	var in, out []byte
	for _, c := range o {
		for range c.N {
			at := len(in)
			in = append(in, 0)
			if c.Kind == api.Keep && at < len(doc) {
				out = append(out, doc[at])
			} else if c.Kind == api.Keep {
				out = append(out, 0)
			}
		}
		out = append(out, c.S...)
	}
	switch {
	case len(in) != len(doc):
		return "", api.ErrSize
	case len(out) > 120:
		return "", api.ErrLong
	}
	return string(out), api.OK
}

// does does an entry beside the plain state, and answers what both then are; beside an error that is what they were.
func does(t *testing.T, s State, p plain, e api.Entry) (State, plain, api.Errno) {
	t.Helper()
	was := p
	p, want := p.do(e)
	n, err := Do(s, e)
	if err != want {
		t.Fatalf("P1302: %+v, of %+v: %v, want %v", e, s, err, want)
	}
	if !p.is(n) {
		t.Fatalf("P1302: %+v, of %+v, %v: %+v, want %+v", e, s, err, n, p.state())
	}
	if !was.is(s) {
		t.Fatalf("P2: the state that was handed in became %+v, from %+v", s, was.state())
	}
	return n, p, err
}

// start is a wavelet at its beginning, and its plain one.
func start(id api.Id, creator api.Addr) (State, plain) {
	return New(id, creator), plainNew(id, creator)
}

// grown does an entry that must be done.
func grown(t *testing.T, s State, d api.Delta, o api.Op) State {
	t.Helper()
	n, err := Do(s, entry(s, d, o))
	if err != api.OK {
		t.Fatalf("P1302: %+v by %+v, of %+v: %v", d, o, s, err)
	}
	return n
}

// anyOver is an operation that goes over size bytes and makes no more than 120.
func anyOver(r *rand.Rand, size int) api.Op {
	var o api.Op
	room := 120 - size
	for left := size; left > 0; {
		n := 1 + r.IntN(left)
		switch r.IntN(4) {
		case 0:
			o = append(o, cut(n))
		default:
			o = append(o, keep(n))
		}
		left -= n
		if m := r.IntN(10); m > 0 && m <= room && r.IntN(2) == 0 {
			o = append(o, put(text(m)))
			room -= m
		}
	}
	if room > 0 && (size == 0 || r.IntN(2) == 0) {
		o = slices.Insert(o, 0, put(strings.Repeat("x", 1+r.IntN(min(room, 6)))))
	}
	if op.Check(o) != api.OK { // too many parts
		return api.Op{keep(size)}
	}
	return o
}

// oddNumber is any number, often one that is near those that count.
func oddNumber(r *rand.Rand) int {
	l := []int{0, 1, 2, 3, 7, 8, 39, 40, 41, 120, 121, 1 << 20, 1<<20 + 1, 1 << 30, 1<<53 + 1, 1 << 62, math.MaxInt, -1, -2, -1 << 53, math.MinInt}
	return l[r.IntN(len(l))]
}

// oddOp is an operation of any parts.
func oddOp(r *rand.Rand) api.Op {
	o := make(api.Op, r.IntN(6))
	for i := range o {
		o[i] = []api.Comp{keep(r.IntN(6)), cut(r.IntN(6)), put(text(r.IntN(140))), {Kind: r.IntN(5), N: oddNumber(r)}, {Kind: oddNumber(r)}}[r.IntN(5)]
	}
	return o
}

// oneOf is one of l, most often, or any user.
func oneOf(r *rand.Rand, l []api.Addr) api.Addr {
	if len(l) == 0 || r.IntN(6) == 0 {
		return user(r.IntN(3), r.IntN(8))
	}
	return l[r.IntN(len(l))]
}

// anyDelta is a valid one, most often of who takes part in s and for one of its versions.
func anyDelta(r *rand.Rand, s State) api.Delta {
	d := api.Delta{Author: oneOf(r, s.People), Id: r.IntN(1<<30 + 1), Version: r.IntN(min(max(s.Version, 0), 1<<20) + 1), Hash: sum(r.IntN(256))}
	if r.IntN(20) == 0 {
		d.Version = r.IntN(60)
	}
	switch r.IntN(5) {
	case 0, 1:
		d.Kind, d.Who = api.Add, oneOf(r, nil)
	case 2:
		d.Kind, d.Who = api.Remove, oneOf(r, s.People)
	default:
		d.Kind, d.Op = api.Edit, anyOver(r, r.IntN(121))
	}
	return d
}

// anyEntry is one that may be done most often: sometimes something about it is wrong.
func anyEntry(r *rand.Rand, s State) api.Entry {
	d := anyDelta(r, s)
	var o api.Op
	if d.Kind == api.Edit {
		o = anyOver(r, min(len(s.Doc), 120))
	}
	e := entry(s, d, o)
	e.S.Mac, e.Mac = sum(r.IntN(256)), sum(r.IntN(256))
	switch r.IntN(12) {
	case 0:
		e.Op = oddOp(r)
	case 1:
		e.At = []int{e.At - 1, e.At + 1, oddNumber(r)}[r.IntN(3)]
	case 2:
		e.S.Body = turned(r, e.S.Body)
	}
	e = chained(s.Hash, e)
	if r.IntN(12) == 0 {
		e.Hash[r.IntN(32)] ^= 1 << r.IntN(8)
	}
	return e
}

// turned is b with some of its bytes turned, cut off or put in.
func turned(r *rand.Rand, b []byte) []byte {
	b = bytes.Clone(b)
	for range r.IntN(3) {
		if len(b) == 0 {
			break
		}
		at := r.IntN(len(b))
		switch r.IntN(4) {
		case 0:
			b = b[:at]
		case 1:
			b = slices.Insert(b, at, b[at])
		default:
			b[at] ^= 1 << r.IntN(8)
		}
	}
	return b
}
