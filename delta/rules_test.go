package delta

import (
	"bytes"
	"math"
	"math/rand/v2"
	"slices"
	"testing"

	"comitia/api"
)

// calls are all faces that are handed deltas; what they answer is not looked at.
func calls(a, b api.Delta) {
	Check(a)
	Same(a, b)
	Same(b, a)
	OpBytes(a.Op)
	Parse(Bytes(a))
	OpParse(OpBytes(a.Op))
}

func TestAnyDeltasEndWithoutAPanic(t *testing.T) {
	worst := api.Addr{D: math.MinInt, U: math.MaxInt}
	l := []api.Delta{
		{}, {Author: worst, Id: math.MinInt, Version: math.MaxInt, Kind: math.MinInt, Who: worst},
		{Kind: api.Edit, Op: rows(256, keep(1))}, {Kind: api.Add, Op: rows(257, put("x"))}, {Kind: 9, Op: rows(1000, api.Comp{})},
		{Kind: api.Edit, Op: rows(100000, put("ab"))}, {Kind: api.Edit, Op: rows(3, put(text(1<<20)))}, {Kind: api.Remove, Op: rows(5000, put(text(300)))},
	}
	for _, a := range l {
		for _, b := range l {
			calls(a, b)
		}
	}
	r := rand.New(rand.NewPCG(8, 8))
	for range 20000 {
		calls(oddDelta(r), oddDelta(r))
	}
}

// roomy is o in a list with spare room.
func roomy(o api.Op) api.Op {
	list := append(make(api.Op, 0, len(o)+3), o...)
	copy(list[len(o):cap(list)], api.Op{keep(1), put("spare"), cut(2)})
	return list
}

// roomyBytes is b in a list with spare room.
func roomyBytes(b []byte) []byte {
	list := append(make([]byte, 0, len(b)+8), b...)
	copy(list[len(b):cap(list)], "spare ro")
	return list
}

func TestDeltasHandedInStay(t *testing.T) {
	r := rand.New(rand.NewPCG(8, 9))
	for i := range 3000 {
		a, b := anyDelta(r), anyDelta(r)
		if i%2 == 0 {
			a, b = oddDelta(r), oddDelta(r)
		}
		a.Op, b.Op = roomy(a.Op), roomy(b.Op)
		wasA, wasB := slices.Clone(a.Op[:cap(a.Op)]), slices.Clone(b.Op[:cap(b.Op)])
		calls(a, b)
		if !slices.Equal(a.Op[:cap(a.Op)], wasA) || !slices.Equal(b.Op[:cap(b.Op)], wasB) {
			t.Fatalf("P2: an operation that was handed in, or its spare room, was changed: %#v", wasA)
		}
	}
}

func TestBytesHandedInStay(t *testing.T) {
	r := rand.New(rand.NewPCG(8, 10))
	for range 3000 {
		d := anyDelta(r)
		for _, b := range [][]byte{roomyBytes(turned(r, Bytes(d))), roomyBytes(turned(r, OpBytes(d.Op)))} {
			was := bytes.Clone(b[:cap(b)])
			Parse(b)
			OpParse(b)
			if !bytes.Equal(b[:cap(b)], was) {
				t.Fatalf("P2: bytes that were handed in, or their spare room, were changed: %x", was)
			}
		}
	}
}

// fill writes one byte all over a list and its spare room.
func fill(b []byte, x byte) {
	b = b[:cap(b)]
	for i := range b {
		b[i] = x
	}
}

// scribble writes all over an operation and its spare room.
func scribble(o api.Op) {
	o = o[:cap(o)]
	for i := range o {
		o[i] = api.Comp{Kind: 77, N: 88, S: "scribble"}
	}
}

// TestWritesShareNoMemory: neither with what was handed in, nor with one another.
func TestWritesShareNoMemory(t *testing.T) {
	r := rand.New(rand.NewPCG(8, 11))
	for range 2000 {
		d := anyDelta(r)
		d.Op = roomy(d.Op)
		was := slices.Clone(d.Op[:cap(d.Op)])
		l := [][]byte{Bytes(d), OpBytes(d.Op), Bytes(d), OpBytes(d.Op)}
		want := [][]byte{[]byte(plainDelta(d)), []byte(plainOp(d.Op)), []byte(plainDelta(d)), []byte(plainOp(d.Op))}
		for i := range l { // one after the other, and what is not yet filled stays
			if !bytes.Equal(l[i], want[i]) {
				t.Fatalf("P2: answer %d shares memory with one ahead of it", i)
			}
			fill(l[i], 0x55)
		}
		if !slices.Equal(d.Op[:cap(d.Op)], was) {
			t.Fatalf("P2: an answer shares memory with %#v", was)
		}
		one, two := Bytes(d), OpBytes(d.Op)
		scribble(d.Op)
		if !bytes.Equal(one, want[0]) || !bytes.Equal(two, want[1]) {
			t.Fatal("P2: an answer hangs on what became of what was handed in")
		}
	}
}

// TestReadsShareNoMemory: an answer stays when the bytes it was read from are written over, or another answer is.
func TestReadsShareNoMemory(t *testing.T) {
	r := rand.New(rand.NewPCG(8, 12))
	for range 2000 {
		d := anyDelta(r)
		b, c := roomyBytes(Bytes(d)), roomyBytes(OpBytes(d.Op))
		wasB, wasC := bytes.Clone(b[:cap(b)]), bytes.Clone(c[:cap(c)])
		x, _ := Parse(b)
		scribble(x.Op)
		o, _ := OpParse(c)
		scribble(o)
		if !bytes.Equal(b[:cap(b)], wasB) || !bytes.Equal(c[:cap(c)], wasC) {
			t.Fatal("P2: writing to an answer changes what was handed in")
		}
		x, _ = Parse(b)
		o, _ = OpParse(c)
		fill(b, 0x55)
		fill(c, 0x55)
		if !alike(x, d) || !slices.Equal(o, d.Op) {
			t.Fatalf("P2: %#v was kept in memory that was handed in: %#v, %#v", d, x, o)
		}
	}
}

func TestAnswersHangOnNothingElse(t *testing.T) {
	r := rand.New(rand.NewPCG(8, 13))
	for range 2000 {
		d := oddDelta(r)
		first, firstOp, firstErr := Bytes(d), OpBytes(d.Op), Check(d)
		b := turned(r, first)
		x, e := Parse(b)
		calls(oddDelta(r), oddDelta(r))
		d.Op = slices.Clip(slices.Clone(d.Op))
		if !bytes.Equal(Bytes(d), first) || !bytes.Equal(OpBytes(d.Op), firstOp) || Check(d) != firstErr {
			t.Fatalf("P3: %#v is answered otherwise the second time", d)
		}
		if y, f := Parse(slices.Clip(bytes.Clone(b))); f != e || !alike(x, y) {
			t.Fatalf("P3: %x is read otherwise the second time", b)
		}
	}
}

func TestCallsSideBySide(t *testing.T) {
	t.Parallel()
	r := rand.New(rand.NewPCG(8, 14))
	var in []api.Delta
	for range 300 {
		in = append(in, anyDelta(r))
	}
	done := make(chan bool)
	for range 8 {
		go func() {
			good := true
			for _, d := range in {
				b := Bytes(d)
				x, e := Parse(b)
				good = good && e == api.OK && Same(x, d) && string(b) == plainDelta(d) && Check(d) == api.OK
			}
			done <- good
		}()
	}
	for range 8 {
		if !<-done {
			t.Error("P7: calls side by side touch one another")
		}
	}
}
