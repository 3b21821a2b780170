package sign

import (
	"bytes"
	"math/rand/v2"
	"slices"
	"testing"

	"comitia/api"
	"comitia/delta"
)

// bothWays is P904 of a delta, and of an entry that a host makes of it.
func bothWays(t *testing.T, k api.Keys, host int, prev api.Hash, d api.Delta, at int, o api.Op) {
	t.Helper()
	s := Delta(k, d)
	if got, e := Open(k, s); e != api.OK || !delta.Same(got, d) {
		t.Fatalf("P904: %#v was opened as %#v, %v", d, got, e)
	}
	e := Entry(k, host, prev, s, at, o)
	if !Check(k, host, e) {
		t.Fatalf("P904: host %d signed %#v, Check says no", host, e)
	}
	b := Bytes(e)
	got, f := Parse(b)
	if f != api.OK || !alike(got, e) || !Same(got, e) || !Check(k, host, got) {
		t.Fatalf("P904: %#v was read as %#v, %v", e, got, f)
	}
	if back, f := Open(k, got.S); f != api.OK || !delta.Same(back, d) {
		t.Fatalf("P904: what was signed and read is opened as %#v, %v", back, f)
	}
	if again := Bytes(got); !bytes.Equal(again, b) {
		t.Fatalf("P904: %x was written as %x", b, again)
	}
}

func TestWhatWasSignedAndWrittenIsReadAsTheSame(t *testing.T) {
	for host := range 3 {
		for _, k := range manyKeys() {
			for _, d := range valid() {
				bothWays(t, k, host, sum(4), d, 0, nil)
				bothWays(t, k, host, api.Hash{}, d, 1<<62, rows(40, put(text(120))))
			}
		}
	}
	r := rand.New(rand.NewPCG(9, 3))
	for range 5000 {
		bothWays(t, anyKeys(r), r.IntN(3), anyHash(r), anyDelta(r), r.IntN(41), anyOp(r, 5))
	}
}

// TestEntriesOfAnyBodiesAreReadAsTheSame: also such that no host signed, of at most 65535 bytes.
func TestEntriesOfAnyBodiesAreReadAsTheSame(t *testing.T) {
	r := rand.New(rand.NewPCG(9, 4))
	l := []api.Entry{{}, {S: api.Signed{Body: []byte(text(65535))}}}
	for range 5000 {
		l = append(l, anyEntry(r))
	}
	for _, e := range l {
		got, f := Parse(Bytes(e))
		if f != api.OK || !alike(got, e) || !Same(got, e) {
			t.Fatalf("P904: %#v was read as %#v, %v", e, got, f)
		}
	}
}

// heldAgainstPlain holds Parse of any bytes against a plain one; what is read is written as it stood.
func heldAgainstPlain(t *testing.T, b []byte) {
	t.Helper()
	e, f := Parse(b)
	if want, wantErr := plainParse(string(b)); f != wantErr || !alike(e, want) {
		t.Fatalf("P903: Parse of %x: %#v, %v, want %#v, %v", b, e, f, want, wantErr)
	}
	if f == api.OK && !bytes.Equal(Bytes(e), b) {
		t.Fatalf("P904: %x was read as %#v and written as %x", b, e, Bytes(e))
	}
}

func TestBytesWithSomeTurned(t *testing.T) {
	r := rand.New(rand.NewPCG(9, 5))
	good := 0
	for range 30000 {
		e := anyEntry(r)
		if r.IntN(3) == 0 {
			e = oddEntry(r)
		}
		b := turned(r, Bytes(e))
		heldAgainstPlain(t, b)
		if _, f := Parse(b); f == api.OK {
			good++
		}
	}
	if good < 5000 {
		t.Errorf("of the entries with some bytes turned only %d could be read", good)
	}
}

// TestEachByteTurned: each byte of some entries, into each other one.
func TestEachByteTurned(t *testing.T) {
	for _, e := range []api.Entry{done(), {S: plainSigned(add(0)), At: 7, Hash: sum(2), Mac: sum(3)}} {
		b := []byte(plainBytes(e))
		for i := range b {
			was := b[i]
			for x := range 256 {
				b[i] = byte(x)
				heldAgainstPlain(t, b)
				if got, f := Parse(b); f == api.OK && Same(got, e) != (b[i] == was) {
					t.Fatalf("P903: byte %d turned into %d: Same: %v", i, x, b[i] != was)
				}
			}
			b[i] = was
		}
	}
}

func TestAnyBytesEndByAnAnswer(t *testing.T) {
	r := rand.New(rand.NewPCG(9, 6))
	for range 20000 {
		b := make([]byte, r.IntN(300))
		for i := range b {
			b[i] = byte(r.IntN(256) * r.IntN(2) >> r.IntN(8)) // small ones often: lengths that fit
		}
		heldAgainstPlain(t, b)
		Open(anyKeys(r), api.Signed{Body: b, Mac: anyHash(r)})
	}
	for _, x := range []byte{0, 1, 255} {
		b := slices.Repeat([]byte{x}, 1<<20)
		heldAgainstPlain(t, b)
		Open(keys(), api.Signed{Body: b})
	}
}

func FuzzParse(f *testing.F) {
	for _, e := range []api.Entry{done(), {}, {S: plainSigned(add(0)), At: 7}, {At: -1}, {Op: rows(41, keep(1))}} {
		f.Add(Bytes(e))
	}
	f.Fuzz(func(t *testing.T, b []byte) { heldAgainstPlain(t, b) })
}

// FuzzOpen looks for a body that is opened otherwise than delta.Parse reads it, or under a sign that its author's domain did not make.
func FuzzOpen(f *testing.F) {
	for _, d := range valid() {
		s := plainSigned(d)
		f.Add(s.Body, s.Mac[:])
	}
	f.Fuzz(func(t *testing.T, body, mac []byte) {
		s := api.Signed{Body: body}
		copy(s.Mac[:], mac)
		want, wantErr := delta.Parse(body)
		if wantErr == api.OK && s.Mac != plainMac(keys()[want.Author.D], string(body)) {
			want, wantErr = api.Delta{}, api.ErrSign
		}
		if d, e := Open(keys(), s); e != wantErr || !delta.Same(d, want) {
			t.Errorf("P901: Open of %#v: %#v, %v, want %v", s, d, e, wantErr)
		}
	})
}
