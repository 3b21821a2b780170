package sign

import (
	"bytes"
	"math"
	"math/rand/v2"
	"slices"
	"testing"

	"comitia/api"
	"comitia/delta"
)

// calls are all faces; what they answer is not looked at.
func calls(k api.Keys, host int, prev api.Hash, d api.Delta, a, b api.Entry) {
	Delta(k, d)
	Open(k, a.S)
	Core(a)
	Entry(k, host, prev, a.S, a.At, a.Op)
	Check(k, host, a)
	Parse(Bytes(a))
	Parse(a.S.Body)
	Same(a, b)
	Same(b, a)
}

// oddDelta is a valid delta with some things turned into any ones.
func oddDelta(r *rand.Rand) api.Delta {
	d := anyDelta(r)
	for _, n := range []*int{&d.Author.D, &d.Author.U, &d.Id, &d.Version, &d.Kind, &d.Who.D, &d.Who.U} {
		if r.IntN(4) == 0 {
			*n = oddNumber(r)
		}
	}
	if r.IntN(4) == 0 {
		d.Op = oddOp(r, 5)
	}
	return d
}

func TestAnythingEndsWithoutAPanic(t *testing.T) {
	worst := api.Addr{D: math.MinInt, U: math.MaxInt}
	deltas := []api.Delta{{}, {Author: worst, Id: -1, Kind: 9, Who: worst}, {Author: api.Addr{D: 3}}, {Author: api.Addr{D: -1}}, {Author: api.Addr{D: math.MaxInt}}, {Kind: api.Edit, Op: rows(1000, put(text(300)))}}
	entries := []api.Entry{
		{}, done(), {At: math.MinInt}, {At: math.MaxInt, Op: api.Op{{Kind: math.MinInt, N: math.MaxInt}}},
		{Op: rows(255, put("x"))}, {Op: rows(256, keep(1))}, {Op: rows(257, api.Comp{})}, {Op: rows(50000, put("ab"))}, {Op: rows(3, put(text(1<<20)))},
		{S: api.Signed{Body: []byte(text(1 << 20))}}, {S: api.Signed{Body: bytes.Repeat([]byte{0}, 70000)}}, {S: api.Signed{Body: bytes.Repeat([]byte{255}, 70000)}},
	}
	l := append(manyKeys(), api.Keys{}, api.Keys{{}, {}, {}}, api.Keys{[]byte(text(1 << 16)), nil, []byte(text(1 << 16))})
	for _, d := range deltas {
		for _, a := range entries {
			for i, host := range []int{-1, 0, 1, 2, 3, 4, -256, 256, 1 << 32, math.MaxInt, math.MinInt} {
				calls(l[i%len(l)], host, sum(host&255), d, a, entries[i])
			}
		}
	}
	r := rand.New(rand.NewPCG(9, 7))
	for range 10000 {
		calls(anyKeys(r), oddNumber(r), anyHash(r), oddDelta(r), oddEntry(r), oddEntry(r))
	}
}

// TestSignsOfNoDomain: a delta of an author of no domain, an entry of a host that is none, may not be; they are not signed.
func TestSignsOfNoDomain(t *testing.T) {
	for _, dom := range []int{-1, 3, 4, -256, 256, 1 << 32, math.MaxInt, math.MinInt} {
		shut(t, "an author of no domain", keys(), Delta(keys(), edit(dom)), api.ErrArg)
		e := Entry(keys(), dom, sum(1), plainSigned(edit(0)), 2, nil)
		for host := -1; host < 4; host++ {
			if Check(keys(), host, e) || Check(keys(), dom, e) {
				t.Errorf("P1: Check of host %d, what host %d signed: true", host, dom)
			}
		}
	}
}

// roomy is b in a list with spare room.
func roomy(b []byte) []byte {
	list := append(make([]byte, 0, len(b)+8), b...)
	copy(list[len(b):cap(list)], "spare ro")
	return list
}

// roomyOp is o in a list with spare room.
func roomyOp(o api.Op) api.Op {
	list := append(make(api.Op, 0, len(o)+3), o...)
	copy(list[len(o):cap(list)], api.Op{keep(1), put("spare"), cut(2)})
	return list
}

// handed is all that is handed in, in lists with spare room.
type handed struct {
	k    api.Keys
	d    api.Delta
	e, f api.Entry
}

func anyHanded(r *rand.Rand) handed {
	h := handed{anyKeys(r), anyDelta(r), anyEntry(r), oddEntry(r)}
	for i := range h.k {
		h.k[i] = roomy(h.k[i])
	}
	h.d.Op = roomyOp(h.d.Op)
	for _, e := range []*api.Entry{&h.e, &h.f} {
		e.S.Body, e.Op = roomy(e.S.Body), roomyOp(e.Op)
	}
	return h
}

// lists are all bytes, all operations that are handed in.
func (h handed) lists() ([][]byte, []api.Op) {
	return [][]byte{h.k[0], h.k[1], h.k[2], h.e.S.Body, h.f.S.Body}, []api.Op{h.d.Op, h.e.Op, h.f.Op}
}

// kept are copies of these, with their spare room.
func (h handed) kept() ([][]byte, []api.Op) {
	b, o := h.lists()
	b, o = slices.Clone(b), slices.Clone(o)
	for i := range b {
		b[i] = slices.Clone(b[i][:cap(b[i])])
	}
	for i := range o {
		o[i] = slices.Clone(o[i][:cap(o[i])])
	}
	return b, o
}

// stayed tells whether what was handed in is as it was kept.
func (h handed) stayed(wasBytes [][]byte, wasOps []api.Op) bool {
	b, o := h.lists()
	for i := range b {
		if !bytes.Equal(b[i][:cap(b[i])], wasBytes[i]) {
			return false
		}
	}
	for i := range o {
		if !slices.Equal(o[i][:cap(o[i])], wasOps[i]) {
			return false
		}
	}
	return true
}

// scribble writes all over bytes and operations, and their spare room.
func scribble(b [][]byte, o []api.Op) {
	for _, l := range b {
		l = l[:cap(l)]
		for i := range l {
			l[i] ^= 0x55
		}
	}
	for _, l := range o {
		l = l[:cap(l)]
		for i := range l {
			l[i] = api.Comp{Kind: 77, N: 88, S: "scribble"}
		}
	}
}

func TestWhatIsHandedInStays(t *testing.T) {
	r := rand.New(rand.NewPCG(9, 8))
	for range 2000 {
		h := anyHanded(r)
		b, o := h.kept()
		calls(h.k, r.IntN(3), anyHash(r), h.d, h.e, h.f)
		if !h.stayed(b, o) {
			t.Fatal("P2: what was handed in, or its spare room, was changed")
		}
		read := roomy(turned(r, Bytes(h.e)))
		was := slices.Clone(read[:cap(read)])
		Parse(read)
		if !bytes.Equal(read[:cap(read)], was) {
			t.Fatal("P2: bytes that were handed in, or their spare room, were changed")
		}
	}
}

// TestWritesShareNoMemory: neither with what was handed in, nor with one another.
func TestWritesShareNoMemory(t *testing.T) {
	r := rand.New(rand.NewPCG(9, 9))
	for range 1000 {
		h := anyHanded(r)
		b, o := h.kept()
		answers := [][]byte{Delta(h.k, h.d).Body, Core(h.e), Bytes(h.e), Delta(h.k, h.d).Body, Core(h.e), Bytes(h.e)}
		want := [][]byte{delta.Bytes(h.d), []byte(plainCore(h.e)), []byte(plainBytes(h.e))}
		for i := range answers { // one after the other, and what is not yet written over stays
			if !bytes.Equal(answers[i], want[i%3]) {
				t.Fatalf("P2: answer %d shares memory with one ahead of it", i)
			}
			scribble(answers[i:i+1], nil)
		}
		if !h.stayed(b, o) {
			t.Fatal("P2: an answer shares memory with what was handed in")
		}
		answers = [][]byte{Delta(h.k, h.d).Body, Core(h.e), Bytes(h.e)}
		scribble(h.lists())
		for i := range answers {
			if !bytes.Equal(answers[i], want[i]) {
				t.Fatalf("P2: answer %d hangs on what became of what was handed in", i)
			}
		}
	}
}

func TestEntriesShareNoMemory(t *testing.T) {
	r := rand.New(rand.NewPCG(9, 10))
	for range 1000 {
		h := anyHanded(r)
		b, o := h.kept()
		prev := anyHash(r)
		made := func() api.Entry { return Entry(h.k, 1, prev, h.e.S, h.e.At, h.e.Op) }
		want := plainEntry(h.k, 1, prev, copied(h.e).S, h.e.At, copied(h.e).Op)
		one, two := made(), made()
		scribble([][]byte{one.S.Body}, []api.Op{one.Op})
		if !alike(two, want) || !h.stayed(b, o) {
			t.Fatal("P2: what Entry answers shares memory with another answer, or with what was handed in")
		}
		scribble(h.lists())
		if !alike(two, want) {
			t.Fatal("P2: what Entry answers hangs on what became of what was handed in")
		}
	}
}

// TestReadsShareNoMemory: an answer stays when the bytes it was read from are written over, or another answer is.
func TestReadsShareNoMemory(t *testing.T) {
	r := rand.New(rand.NewPCG(9, 11))
	for range 1000 {
		e, d, k := anyEntry(r), anyDelta(r), keys()
		b, s := roomy(Bytes(e)), Delta(k, d)
		s.Body = roomy(s.Body)
		was, wasBody := slices.Clone(b[:cap(b)]), slices.Clone(s.Body[:cap(s.Body)])
		one, _ := Parse(b)
		two, _ := Parse(b)
		x, _ := Open(k, s)
		y, _ := Open(k, s)
		scribble([][]byte{one.S.Body}, []api.Op{one.Op, x.Op})
		if !bytes.Equal(b[:cap(b)], was) || !bytes.Equal(s.Body[:cap(s.Body)], wasBody) {
			t.Fatal("P2: writing to an answer changes what was handed in")
		}
		scribble([][]byte{b, s.Body, k[0], k[1], k[2]}, nil)
		if !alike(two, e) || !delta.Same(y, d) {
			t.Fatalf("P2: an answer was kept in memory that was handed in, or that another one has: %#v, %#v", two, y)
		}
	}
}

func TestAnswersHangOnNothingElse(t *testing.T) {
	r := rand.New(rand.NewPCG(9, 12))
	for range 1000 {
		k, d, e, host := anyKeys(r), oddDelta(r), oddEntry(r), oddNumber(r)
		s, made, b := Delta(k, d), Entry(k, host, e.Hash, e.S, e.At, e.Op), Bytes(e)
		read, f := Parse(b)
		opened, g := Open(k, s)
		calls(anyKeys(r), oddNumber(r), anyHash(r), oddDelta(r), oddEntry(r), oddEntry(r))
		e, d.Op = copied(e), slices.Clone(d.Op)
		again := Delta(k, d)
		if again.Mac != s.Mac || !bytes.Equal(again.Body, s.Body) || !Same(Entry(k, host, e.Hash, e.S, e.At, e.Op), made) || !bytes.Equal(Bytes(e), b) {
			t.Fatal("P3: what is signed or written is another one the second time")
		}
		if x, y := Parse(b); y != f || !alike(x, read) {
			t.Fatalf("P3: %x is read otherwise the second time", b)
		}
		if x, y := Open(k, s); y != g || !delta.Same(x, opened) {
			t.Fatalf("P3: %#v is opened otherwise the second time", s)
		}
	}
}

func TestCallsSideBySide(t *testing.T) {
	t.Parallel()
	r := rand.New(rand.NewPCG(9, 13))
	var in []api.Delta
	for range 200 {
		in = append(in, anyDelta(r))
	}
	k := keys()
	done := make(chan bool)
	for host := range 6 {
		go func() {
			good := true
			for i, d := range in {
				e := Entry(k, host%3, sum(i), Delta(k, d), i, d.Op)
				x, f := Parse(Bytes(e))
				y, g := Open(k, x.S)
				good = good && f == api.OK && g == api.OK && Same(x, e) && delta.Same(y, d) && Check(k, host%3, x)
			}
			done <- good
		}()
	}
	for range 6 {
		if !<-done {
			t.Error("P7: calls side by side touch one another")
		}
	}
}
