package delta

import (
	"bytes"
	"math/rand/v2"
	"testing"

	"comitia/api"
	"comitia/op"
)

// bothWays is P803 of a delta: what is valid is read as it was.
func bothWays(t *testing.T, d api.Delta) {
	t.Helper()
	b := Bytes(d)
	got, e := Parse(b)
	if e != api.OK || !alike(got, d) || !Same(got, d) {
		t.Fatalf("P803: %#v was read as %#v, %v", d, got, e)
	}
	if again := Bytes(got); !bytes.Equal(again, b) {
		t.Fatalf("P803: %x was written as %x", b, again)
	}
	o, e := OpParse(OpBytes(d.Op))
	if e != api.OK || !op.Same(o, d.Op) {
		t.Fatalf("P803: %#v was read as %#v, %v", d.Op, o, e)
	}
}

func TestWhatWasWrittenIsReadAsTheSame(t *testing.T) {
	for _, d := range []api.Delta{edit(), add(), remove(), {Kind: api.Edit}, {Kind: api.Add}, {Kind: api.Remove}, with(edit(), func(d *api.Delta) { d.Op = rows(40, put(text(120))) })} {
		bothWays(t, d)
	}
	for _, b := range bounds() {
		for _, n := range []int{0, 1, b.most - 1, b.most} {
			for _, d := range []api.Delta{add(), remove()} {
				*b.at(&d) = n
				bothWays(t, d)
			}
		}
	}
	r := rand.New(rand.NewPCG(8, 5))
	for range 10000 {
		bothWays(t, anyDelta(r))
	}
}

// heldAgainstPlain holds both reads of any bytes against plain ones; what is read must be valid, and is written as it stood.
func heldAgainstPlain(t *testing.T, b []byte) {
	t.Helper()
	d, e := Parse(b)
	if want, wantErr := plainParse(string(b)); e != wantErr || !alike(d, want) {
		t.Fatalf("P802: Parse of %x: %#v, %v, want %#v, %v", b, d, e, want, wantErr)
	}
	if e == api.OK && (Check(d) != api.OK || !bytes.Equal(Bytes(d), b)) {
		t.Fatalf("P803: %x was read as %#v and written as %x", b, d, Bytes(d))
	}
	o, e := OpParse(b)
	if want, wantErr := plainOpParse(string(b)); e != wantErr || !op.Same(o, want) {
		t.Fatalf("P801: OpParse of %x: %#v, %v, want %#v, %v", b, o, e, want, wantErr)
	}
	if e == api.OK && (op.Check(o) != api.OK || !bytes.Equal(OpBytes(o), b)) {
		t.Fatalf("P803: %x was read as %#v and written as %x", b, o, OpBytes(o))
	}
}

// turned is b with some of its bytes turned, cut off or put in.
func turned(r *rand.Rand, b []byte) []byte {
	b = bytes.Clone(b)
	for range r.IntN(4) {
		if len(b) == 0 {
			break
		}
		at := r.IntN(len(b))
		switch r.IntN(8) {
		case 0:
			b = b[:at]
		case 1:
			b = append(b[:at], b[at+1:]...)
		case 2:
			b = append(b[:at+1], b[at:]...)
		case 3, 4:
			b[at] ^= 1 << r.IntN(8)
		default:
			b[at] = byte(r.IntN(256) >> r.IntN(8))
		}
	}
	return b
}

func TestWhatWasReadIsWrittenAsItStood(t *testing.T) {
	r := rand.New(rand.NewPCG(8, 6))
	good := 0
	for range 40000 {
		d := anyDelta(r)
		if r.IntN(3) == 0 {
			d = oddDelta(r)
		}
		b := turned(r, Bytes(d))
		heldAgainstPlain(t, b)
		if _, e := Parse(b); e == api.OK {
			good++
		}
		heldAgainstPlain(t, turned(r, OpBytes(d.Op)))
	}
	if good < 5000 {
		t.Errorf("of the deltas with some bytes turned only %d could be read", good)
	}
}

// TestEachByteTurned: each byte of some deltas, into each other one.
func TestEachByteTurned(t *testing.T) {
	for _, d := range []api.Delta{edit(), add(), remove()} {
		for _, b := range [][]byte{Bytes(d), OpBytes(d.Op)} {
			for i := range b {
				was := b[i]
				for x := range 256 {
					b[i] = byte(x)
					heldAgainstPlain(t, b)
				}
				b[i] = was
			}
		}
	}
}

func TestAnyBytesEndByAnAnswer(t *testing.T) {
	r := rand.New(rand.NewPCG(8, 7))
	for range 20000 {
		b := make([]byte, r.IntN(200))
		for i := range b {
			b[i] = byte(r.IntN(256) * r.IntN(2) >> r.IntN(8)) // small ones often: lengths that fit
		}
		heldAgainstPlain(t, b)
	}
	heldAgainstPlain(t, bytes.Repeat([]byte{0}, 1<<20))
	heldAgainstPlain(t, bytes.Repeat([]byte{255}, 1<<20))
	heldAgainstPlain(t, bytes.Repeat([]byte{1}, 1<<20))
}

func FuzzParse(f *testing.F) {
	for _, d := range []api.Delta{edit(), add(), remove(), {}} {
		f.Add(Bytes(d))
		f.Add(OpBytes(d.Op))
	}
	f.Add([]byte("\x29"))
	f.Fuzz(func(t *testing.T, b []byte) { heldAgainstPlain(t, b) })
}
