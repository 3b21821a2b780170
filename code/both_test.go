package code

import (
	"encoding/binary"
	"math"
	"math/rand/v2"
	"strings"
	"testing"

	"comitia/api"
)

// Kinds of items.
const (
	aNumber = iota
	aByte
	aText
)

// item is something that was written.
type item struct {
	kind, n int
	s       string
}

func write(b []byte, l []item) []byte {
	for _, x := range l {
		switch x.kind {
		case aNumber:
			b = Int(b, x.n)
		case aByte:
			b = Byte(b, x.n)
		case aText:
			b = Text(b, x.s)
		}
	}
	return b
}

// readBack reads a row of items and holds each against what was written.
func readBack(t *testing.T, r *Reader, l []item) {
	t.Helper()
	for i, x := range l {
		got := item{kind: x.kind}
		switch x.kind {
		case aNumber:
			got.n = r.Int()
		case aByte:
			got.n = r.Byte()
		case aText:
			got.s = r.Text()
		}
		if got != x {
			t.Fatalf("P103: item %d of %d, kind %d: %d, %q; was %d, %q", i, len(l), x.kind, got.n, got.s, x.n, x.s)
		}
	}
}

func TestRowsAreReadAsTheyWereWritten(t *testing.T) {
	rows := [][]item{
		nil,
		{{aNumber, 0, ""}},
		{{aNumber, math.MinInt64, ""}, {aNumber, math.MaxInt64, ""}, {aNumber, -1, ""}},
		{{aByte, 0, ""}, {aByte, 255, ""}, {aByte, 128, ""}},
		{{aText, 0, ""}, {aText, 0, ""}, {aText, 0, "\x00"}},
		{{aText, 0, every()}, {aNumber, -5, ""}, {aText, 0, "\x05\x00"}, {aByte, 9, ""}},
		{{aByte, 2, ""}, {aText, 0, strings.Repeat("l", 65535)}, {aNumber, 300, ""}},
	}
	for _, l := range rows {
		r := New(write(nil, l))
		readBack(t, r, l)
		ended(t, "P103", r, api.OK)
	}
}

// anyRow is a row that hangs on the seed alone.
func anyRow(seed uint64) []item {
	random := rand.New(rand.NewPCG(seed, 1))
	l := make([]item, random.IntN(12))
	for i := range l {
		switch l[i].kind = random.IntN(3); l[i].kind {
		case aNumber:
			l[i].n = int(random.Uint64() >> random.IntN(64))
		case aByte:
			l[i].n = random.IntN(256)
		case aText:
			b := make([]byte, random.IntN(600))
			for j := range b {
				b[j] = byte(random.IntN(256))
			}
			l[i].s = string(b)
		}
	}
	return l
}

func TestManyRowsAreReadAsTheyWereWritten(t *testing.T) {
	for seed := range uint64(400) {
		l := anyRow(seed)
		b := write(nil, l)
		r := New(b)
		readBack(t, r, l)
		ended(t, "P103", r, api.OK)

		more := New(append(b, 0))
		readBack(t, more, l)
		ended(t, "P102: one byte more", more, api.ErrMore)
	}
}

// TestRowsBehindRows: a row written behind another's bytes is read behind it.
func TestRowsBehindRows(t *testing.T) {
	for seed := range uint64(100) {
		one, two := anyRow(seed), anyRow(seed+1000)
		r := New(write(write(nil, one), two))
		readBack(t, r, one)
		readBack(t, r, two)
		ended(t, "P103", r, api.OK)
	}
}

// TestTooLongATextIsReadAsItsBeginning: of what is cut at the write, the first 65535 bytes are read, and what stands behind it.
func TestTooLongATextIsReadAsItsBeginning(t *testing.T) {
	long := strings.Repeat(every(), 300)
	r := New(Byte(Text(nil, long), 6))
	if s := r.Text(); s != long[:65535] {
		t.Errorf("P101: %d bytes", len(s))
	}
	if n := r.Byte(); n != 6 {
		t.Errorf("P101: behind it: %d", n)
	}
	ended(t, "P101", r, api.OK)
}

// plain is a Reader as the promise's words say it, by the library's means.
type plain struct {
	b []byte
	e api.Errno
}

func (p *plain) lack(n int) bool {
	if p.e == api.OK && len(p.b) < n {
		p.e = api.ErrCut
	}
	return p.e != api.OK
}

func (p *plain) number() (n int) {
	if !p.lack(8) {
		n = int(binary.LittleEndian.Uint64(p.b))
		p.b = p.b[8:]
	}
	return n
}

func (p *plain) octet() (n int) {
	if !p.lack(1) {
		n = int(p.b[0])
		p.b = p.b[1:]
	}
	return n
}

func (p *plain) text() (s string) {
	if p.lack(2) {
		return ""
	}
	size := int(binary.LittleEndian.Uint16(p.b))
	if !p.lack(2 + size) {
		s = string(p.b[2 : 2+size])
		p.b = p.b[2+size:]
	}
	return s
}

func (p *plain) end() api.Errno {
	if p.e == api.OK && len(p.b) > 0 {
		return api.ErrMore
	}
	return p.e
}

// anyReads does reads of any kinds on any bytes, and holds all answers against plain's.
func anyReads(t *testing.T, b []byte, reads string) {
	t.Helper()
	r, p := New(b), &plain{b: b}
	for i, kind := range []byte(reads) {
		switch kind % 4 {
		case 0:
			if got, want := r.Int(), p.number(); got != want {
				t.Fatalf("P102: %x, %q, read %d: Int %d, want %d", b, reads, i, got, want)
			}
		case 1:
			if got, want := r.Byte(), p.octet(); got != want {
				t.Fatalf("P102: %x, %q, read %d: Byte %d, want %d", b, reads, i, got, want)
			}
		case 2:
			if got, want := r.Text(), p.text(); got != want {
				t.Fatalf("P102: %x, %q, read %d: Text %q, want %q", b, reads, i, got, want)
			}
		case 3:
			e := api.Errno(kind / 4)
			r.Fail(e)
			if p.e == api.OK {
				p.e = e
			}
		}
		if got, want := r.End(), p.end(); got != want {
			t.Fatalf("P102: %x, %q, behind read %d: End %v, want %v", b, reads, i, got, want)
		}
	}
}

// TestAnyBytesEndByAnAnswer: P1, whatever bytes come, whatever is asked of them.
func TestAnyBytesEndByAnAnswer(t *testing.T) {
	random := rand.New(rand.NewPCG(3, 5))
	for range 3000 {
		b := make([]byte, random.IntN(60))
		for i := range b {
			b[i] = byte(random.IntN(256) * random.IntN(2) >> random.IntN(8)) // small ones often: lengths that fit
		}
		reads := make([]byte, random.IntN(12))
		for i := range reads {
			reads[i] = byte(random.IntN(3))
			if random.IntN(10) == 0 {
				reads[i] = byte(random.IntN(256))
			}
		}
		anyReads(t, b, string(reads))
	}
}

func FuzzReads(f *testing.F) {
	f.Add([]byte("\x02\x00hi\x01\x02\x03\x04\x05\x06\x07\x08\x09"), "\x02\x00\x01\x01")
	f.Add([]byte("\xff\xff"), "\x02\x00")
	f.Add([]byte("\x01"), "\x03\x07\x0b\x01")
	f.Fuzz(func(t *testing.T, b []byte, reads string) { anyReads(t, b, reads) })
}
