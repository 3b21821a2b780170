package wavelet

import (
	"crypto/sha256"
	"math"
	"slices"
	"testing"

	"comitia/api"
	"comitia/delta"
)

// done looks at one entry that must be done: at each field of the state behind it.
func done(t *testing.T, s State, d api.Delta, o api.Op, doc string, l ...api.Addr) State {
	t.Helper()
	e := entry(s, d, o)
	n, err := Do(s, e)
	if err != api.OK {
		t.Fatalf("P1302: %+v by %+v, of %+v: %v", d, o, s, err)
	}
	if n.Id != s.Id || n.Doc != doc || !slices.Equal(n.People, l) || n.Version != s.Version+1 || n.Hash != e.Hash {
		t.Fatalf("P1302: %+v by %+v, of %+v: %+v", d, o, s, n)
	}
	return n
}

func TestDoEdits(t *testing.T) {
	a := user(1, 5)
	s := New(api.Id{Host: 2, N: 42}, a)
	s = done(t, s, edit(0, a), api.Op{put("hello")}, "hello", a)
	s = done(t, s, edit(1, a), api.Op{keep(4), cut(1)}, "hell", a)
	s = done(t, s, edit(2, a), api.Op{put("s"), keep(1), cut(2), put("\x00\xff"), keep(1)}, "sh\x00\xffl", a)
	s = done(t, s, edit(3, a), api.Op{keep(2), keep(3)}, "sh\x00\xffl", a)
	s = done(t, s, edit(4, a), api.Op{cut(5)}, "", a)
	s = done(t, s, edit(5, a), nil, "", a)
	s = done(t, s, edit(6, a), api.Op{}, "", a)
	s = done(t, s, edit(7, a), api.Op{put(text(120))}, text(120), a)
	s = done(t, s, edit(8, a), api.Op{keep(120)}, text(120), a)
	s = done(t, s, edit(9, a), slices.Concat(rows(20, cut(6)), rows(20, put("abcdef"))), string(slices.Repeat([]byte("abcdef"), 20)), a)
	done(t, s, edit(10, a), slices.Concat(rows(39, keep(3)), api.Op{cut(3)}), string(slices.Repeat([]byte("abcdef"), 20)[:117]), a)
}

func TestDoAddsAndRemoves(t *testing.T) {
	a, b, c := user(1, 5), user(0, 7), user(2, 0)
	s := New(api.Id{Host: 1, N: 0}, a)
	s = done(t, s, edit(0, a), api.Op{put("text")}, "text", a)
	s = done(t, s, who(1, a, api.Add, c), nil, "text", a, c)
	s = done(t, s, who(2, c, api.Add, b), api.Op{}, "text", b, a, c)
	s = done(t, s, edit(3, b), api.Op{keep(3), cut(1)}, "tex", b, a, c)
	s = done(t, s, who(3, b, api.Remove, a), nil, "tex", b, c) // the creator is one like the others
	s = done(t, s, who(4, c, api.Add, a), nil, "tex", b, a, c)
	s = done(t, s, edit(2, a), api.Op{keep(3), put("t")}, "text", b, a, c)
	s = done(t, s, who(7, a, api.Remove, a), nil, "text", b, c) // oneself
	s = done(t, s, who(8, c, api.Remove, b), nil, "text", c)
	s = done(t, s, who(9, c, api.Remove, c), nil, "text") // the last one
	for _, x := range users() {
		for _, d := range []api.Delta{edit(10, x), who(10, x, api.Add, x), who(10, x, api.Remove, x)} {
			if _, err := Do(s, entry(s, d, nil)); err != api.ErrMay {
				t.Errorf("P1302: where nobody takes part, of %v: %v", x, err)
			}
		}
	}
}

// TestDoAddsAsManyAsThereMayBe: eight, and one more as soon as one is gone.
func TestDoAddsAsManyAsThereMayBe(t *testing.T) {
	s := New(api.Id{}, user(0, 0))
	var l []api.Addr
	for i, x := range []api.Addr{user(0, 0), user(0, 3), user(0, 7), user(1, 0), user(1, 1), user(1, 7), user(2, 0), user(2, 7)} {
		l = append(l, x)
		if i > 0 {
			s = done(t, s, who(s.Version, l[i-1], api.Add, x), nil, "", l...)
		}
	}
	s = done(t, s, who(s.Version, user(1, 1), api.Remove, user(1, 0)), nil, "", slices.Delete(slices.Clone(l), 3, 4)...)
	s = done(t, s, who(s.Version, user(1, 1), api.Add, user(1, 2)), nil, "", user(0, 0), user(0, 3), user(0, 7), user(1, 1), user(1, 2), user(1, 7), user(2, 0), user(2, 7))
	if _, err := Do(s, entry(s, who(s.Version, user(1, 1), api.Add, user(1, 0)), nil)); err != api.ErrMany {
		t.Errorf("P1302: one too many: %v", err)
	}
}

// TestDoAllUsers: each user there may be adds each other one, and removes it.
func TestDoAllUsers(t *testing.T) {
	for _, a := range users() {
		for _, b := range users() {
			if a == b {
				continue
			}
			s := New(api.Id{Host: b.D, N: 3}, a)
			both := []api.Addr{a, b}
			if b.D < a.D || b.D == a.D && b.U < a.U {
				both = []api.Addr{b, a}
			}
			s = done(t, s, who(0, a, api.Add, b), nil, "", both...)
			s = done(t, s, edit(1, b), api.Op{put("b")}, "b", both...)
			done(t, s, who(1, a, api.Remove, b), nil, "b", a)
			done(t, s, who(2, b, api.Remove, a), nil, "b", b)
		}
	}
}

// TestDoChainsTheHash: against a sum that is made byte by byte.
func TestDoChainsTheHash(t *testing.T) {
	const none = "\x00\x00\x00\x00\x00\x00\x00"
	a := user(1, 5)
	s := grown(t, New(api.Id{Host: 2, N: 42}, a), edit(0, a), api.Op{put("hello")})
	e := api.Entry{S: api.Signed{Body: delta.Bytes(edit(1, a)), Mac: sum(100)}, At: 1, Op: api.Op{keep(4), put("x"), cut(1)}, Mac: sum(3)}
	mac := sum(100)
	b := string(s.Hash[:]) +
		string([]byte{byte(len(e.S.Body)), 0}) + string(e.S.Body) + string(mac[:]) + "\x01" + none + "\x23\x00" +
		"\x03" + "\x01\x04" + none + "\x00\x00" + "\x02\x00" + none + "\x01\x00x" + "\x03\x01" + none + "\x00\x00"
	e.Hash = sha256.Sum256([]byte(b))
	n, err := Do(s, e)
	if err != api.OK || n.Doc != "hellx" || n.Hash != e.Hash {
		t.Errorf("P1302: %+v, %v", n, err)
	}
}

// TestDoVersionsOfDeltas: any but those to come.
func TestDoVersionsOfDeltas(t *testing.T) {
	a := user(0, 3)
	s := New(api.Id{N: 9}, a)
	for s.Version < 60 { // how many there may be is nothing that Do looks at
		for v := range s.Version + 1 {
			if n, err := Do(s, entry(s, edit(v, a), nil)); err != api.OK || n.Version != s.Version+1 {
				t.Fatalf("P1302: a delta of version %d at %d: %v", v, s.Version, err)
			}
		}
		for _, v := range []int{s.Version + 1, s.Version + 2, 1 << 20} {
			if _, err := Do(s, entry(s, edit(v, a), nil)); err != api.ErrStale {
				t.Fatalf("P1302: a delta of version %d at %d: %v", v, s.Version, err)
			}
		}
		s = grown(t, s, edit(s.Version/2, a), nil)
	}
}

// TestDoLooksAtNothingElse: signs, the delta's own operation, its number and hash do not count; also the same delta is done again.
func TestDoLooksAtNothingElse(t *testing.T) {
	a := user(2, 2)
	s := grown(t, New(api.Id{Host: 2, N: 1}, a), edit(0, a), api.Op{put("abc")})
	for _, d := range []api.Delta{
		{Author: a, Version: 1, Kind: api.Edit},
		{Author: a, Version: 0, Id: 1 << 30, Hash: sum(0), Kind: api.Edit, Op: api.Op{keep(99)}},
		{Author: a, Version: 1, Hash: s.Hash, Kind: api.Edit, Op: api.Op{cut(3), put(text(120)), put(text(120))}},
		{Author: a, Version: 1, Hash: s.Hash, Kind: api.Edit, Op: api.Op{keep(3), put("!")}},
	} {
		for i := range 33 {
			e := entry(s, d, api.Op{keep(3), put("d")})
			e.S.Mac[i%32] += byte(i / 32)
			e = chained(s.Hash, e)
			e.Mac = sum(7 * i)
			n, err := Do(s, e)
			if err != api.OK || n.Doc != "abcd" || n.Hash != e.Hash {
				t.Errorf("P1302: %+v by another operation: %+v, %v", d, n, err)
			}
			e.S.Mac, e.Mac = api.Hash{}, api.Hash{}
			if n, err = Do(s, chained(s.Hash, e)); err != api.OK || n.Doc != "abcd" {
				t.Errorf("P1302: signs of noughts: %+v, %v", n, err)
			}
		}
	}
	again := grown(t, s, edit(1, a), api.Op{keep(3), put("d")})
	done(t, again, edit(1, a), api.Op{keep(4), put("d")}, "abcdd", a)
}

// TestDoHashHangsOnAll: of two entries that differ in one thing, the one's hash is not the other's.
func TestDoHashHangsOnAll(t *testing.T) {
	a := user(2, 2)
	s := grown(t, New(api.Id{Host: 2, N: 1}, a), edit(0, a), api.Op{put("abc")})
	e := entry(s, edit(1, a), api.Op{keep(2), put("d"), keep(1)})
	for i, f := range []func(e *api.Entry){
		func(e *api.Entry) { e.S.Body = delta.Bytes(edit(0, a)) },
		func(e *api.Entry) { e.S.Mac[31]++ },
		func(e *api.Entry) { e.Op = api.Op{keep(2), put("e"), keep(1)} },
		func(e *api.Entry) { e.Op = api.Op{keep(1), keep(1), put("d"), keep(1)} },
		func(e *api.Entry) { e.Op = api.Op{keep(1), put("d"), keep(2)} },
		func(e *api.Entry) { e.Op = api.Op{keep(3)} },
	} {
		x := e
		f(&x)
		if _, err := Do(s, x); err != api.ErrHash {
			t.Errorf("P1302: %d, with the hash of another entry: %v", i, err)
		}
		if n, err := Do(s, chained(s.Hash, x)); err != api.OK || n.Hash == e.Hash {
			t.Errorf("P1302: %d, with its own hash: %v", i, err)
		}
	}
	e.Mac[0]++ // what the host signs does not hang on its sign
	if _, err := Do(s, e); err != api.OK {
		t.Errorf("P1302: with another sign of the host: %v", err)
	}
}

func TestDoAtFarVersions(t *testing.T) {
	a := user(0, 3)
	s := grown(t, New(api.Id{N: 9}, a), edit(0, a), nil)
	for _, at := range []int{0, 2, -1, 257, 1<<32 + 1, 1<<53 + 1, 1<<62 + 1, math.MaxInt, math.MinInt, math.MinInt + 1, math.MinInt + 2} {
		for _, v := range []int{0, 1, 2, 1 << 20} {
			e := entry(s, edit(v, a), nil)
			e.At = at
			if _, err := Do(s, chained(s.Hash, e)); err != api.ErrStale {
				t.Errorf("P1302: At %d, a delta of version %d: %v", at, v, err)
			}
		}
	}
}
