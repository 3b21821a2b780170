package delta

import (
	"math"
	"math/rand/v2"
	"strings"
	"testing"

	"comitia/api"
)

// wrote holds what Bytes answers against what it must.
func wrote(t *testing.T, what string, d api.Delta, want string) {
	t.Helper()
	if got := Bytes(d); string(got) != want {
		t.Errorf("P802: Bytes, %s: %d bytes, want %d: %x", what, len(got), len(want), got[:min(len(got), 120)])
	}
}

func TestBytesByteForByte(t *testing.T) {
	noughts := strings.Repeat("\x00", 32)
	edited := "\x01\x00\x00\x00\x00\x00\x00\x00" + "\x07\x00\x00\x00\x00\x00\x00\x00" + "\x20\xa1\x07\x00\x00\x00\x00\x00" + "\xb8\x0b\x00\x00\x00\x00\x00\x00" +
		"defghijklmnopqrstuvwxyz{|}~\x7f\x80\x81\x82\x83" + "\x01" +
		"\x24\x00" + "\x03" + "\x01\x02\x00\x00\x00\x00\x00\x00\x00\x00\x00" + "\x02" + eightNoughts + "\x02\x00hi" + "\x03\x04\x00\x00\x00\x00\x00\x00\x00\x00\x00" +
		eightNoughts + eightNoughts
	wrote(t, "an Edit", edit(), edited)
	added := "\x01\x00\x00\x00\x00\x00\x00\x00" + "\x06\x00\x00\x00\x00\x00\x00\x00" + "\x05\x00\x00\x00\x00\x00\x00\x00" + "\x03\x00\x00\x00\x00\x00\x00\x00"
	sums := add().Hash
	people := "\x01\x00\x00" + "\x02\x00\x00\x00\x00\x00\x00\x00" + "\x04\x00\x00\x00\x00\x00\x00\x00"
	wrote(t, "an Add", add(), added+string(sums[:])+"\x02"+people)
	wrote(t, "a Remove", remove(), added+string(sums[:])+"\x03"+people)
	wrote(t, "noughts", api.Delta{}, noughts+noughts+"\x00"+"\x01\x00\x00"+eightNoughts+eightNoughts)
}

// TestBytesOfEachField: of noughts but for one field; also of what Check refuses.
func TestBytesOfEachField(t *testing.T) {
	nothing := plainDelta(api.Delta{})
	places := []int{0, 8, 16, 24, opAt + 1, opAt + 9}
	for i, b := range bounds() {
		for _, n := range []int{1, b.most, b.most + 1, -1, -2, 0x0102030405060708, math.MaxInt, math.MinInt} {
			var d api.Delta
			*b.at(&d) = n
			wrote(t, b.what, d, nothing[:places[i]]+plainNumber(n)+nothing[places[i]+8:])
		}
	}
	for i := range 32 {
		var d api.Delta
		d.Hash[i] = 0xa5
		wrote(t, "a byte of Hash", d, nothing[:32+i]+"\xa5"+nothing[33+i:])
	}
	for _, kind := range []int{0, 1, 2, 3, 4, 127, 128, 255, 256, 257, 0x1234, -1, -256, math.MaxInt, math.MinInt} {
		wrote(t, "Kind", api.Delta{Kind: kind}, nothing[:kindAt]+plainByte(kind)+nothing[textAt:])
	}
}

func TestBytesOfOperations(t *testing.T) {
	nothing := plainDelta(api.Delta{})
	for _, o := range []api.Op{nil, {}, {keep(1)}, {put(text(120))}, {{}}, {{Kind: -3, N: -1, S: "x"}}, {keep(0), put("")}, rows(40, cut(120)), rows(41, keep(1)), rows(255, put("x")), rows(255, put(text(120)))} {
		inside := plainOp(o)
		want := nothing[:textAt] + plainByte(len(inside)) + plainByte(len(inside)/256) + inside + nothing[opAt+1:]
		wrote(t, "Op", api.Delta{Op: o}, want)
		wrote(t, "Op of an Edit", with(edit(), func(d *api.Delta) { d.Op = o }), plainAround(edit(), inside))
		wrote(t, "Op of an Add", with(add(), func(d *api.Delta) { d.Op = o }), plainAround(add(), inside))
	}
}

// TestBytesOfALongOperation: a text is written by code, of one of more than 65535 bytes its first 65535.
func TestBytesOfALongOperation(t *testing.T) {
	front := 1 + 1 + 8 + 2
	for _, size := range []int{65535 - front - 1, 65535 - front, 65535 - front + 1, 65535, 70000} {
		d := with(edit(), func(d *api.Delta) { d.Op = api.Op{put(text(size))} })
		inside := plainOp(d.Op)
		inside = inside[:min(len(inside), 65535)]
		got := string(Bytes(d))
		wrote(t, "a long Op", d, plainAround(d, inside))
		if len(got) != opAt+min(front+size, 65535)+whoSize {
			t.Errorf("P802: Bytes of an Op with a text of %d bytes: %d bytes", size, len(got))
		}
	}
	long := rows(255, put(text(300)))
	d := with(add(), func(d *api.Delta) { d.Op = long })
	wrote(t, "a long Op of 255 parts", d, plainAround(d, plainOp(long)[:65535]))
}

func TestBytesOfManyDeltas(t *testing.T) {
	r := rand.New(rand.NewPCG(8, 3))
	for range 5000 {
		for _, d := range []api.Delta{anyDelta(r), oddDelta(r)} {
			if got := Bytes(d); string(got) != plainDelta(d) {
				t.Fatalf("P802: Bytes of %#v: %x", d, got)
			}
		}
	}
}
