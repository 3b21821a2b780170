package delta

import (
	"math"
	"math/rand/v2"
	"slices"
	"strings"
	"testing"

	"comitia/api"
)

const eightNoughts = "\x00\x00\x00\x00\x00\x00\x00\x00"

func TestOpBytesByteForByte(t *testing.T) {
	forty := api.Op{}
	for i := range 40 {
		forty = append(forty, api.Comp{Kind: i%3 + 1, N: i, S: text(i)})
	}
	for _, x := range []struct {
		what string
		o    api.Op
		want string
	}{
		{"nil", nil, "\x00"},
		{"no part", api.Op{}, "\x00"},
		{"a Keep", api.Op{keep(7)}, "\x01\x01\x07\x00\x00\x00\x00\x00\x00\x00\x00\x00"},
		{"a Put", api.Op{put("hello")}, "\x01\x02" + eightNoughts + "\x05\x00hello"},
		{"a Cut", api.Op{cut(120)}, "\x01\x03\x78\x00\x00\x00\x00\x00\x00\x00\x00\x00"},
		{"one of each", api.Op{cut(1), put("\x00\xff"), keep(2)}, "\x03\x03\x01\x00\x00\x00\x00\x00\x00\x00\x00\x00\x02" + eightNoughts + "\x02\x00\x00\xff\x01\x02\x00\x00\x00\x00\x00\x00\x00\x00\x00"},
		{"a Put of 120 bytes", api.Op{put(text(120))}, "\x01\x02" + eightNoughts + "\x78\x00" + text(120)},
		{"40 parts", forty, plainOp(forty)},
		{"40 Keeps", rows(40, keep(3)), "\x28" + strings.Repeat("\x01\x03\x00\x00\x00\x00\x00\x00\x00\x00\x00", 40)},
		{"41 Keeps", rows(41, keep(3)), "\x29" + strings.Repeat("\x01\x03\x00\x00\x00\x00\x00\x00\x00\x00\x00", 41)},
		{"255 Puts", rows(255, put("ab")), "\xff" + strings.Repeat("\x02"+eightNoughts+"\x02\x00ab", 255)},
		{"255 Puts of 120 bytes", rows(255, put(text(120))), "\xff" + strings.Repeat("\x02"+eightNoughts+"\x78\x00"+text(120), 255)},
	} {
		if got := OpBytes(x.o); string(got) != x.want {
			t.Errorf("P801: OpBytes, %s: %x, want %x", x.what, got, x.want)
		}
	}
}

// TestOpBytesOfAnyParts: also of those that op.Check refuses, each thing as code writes it.
func TestOpBytesOfAnyParts(t *testing.T) {
	for _, x := range []struct {
		what string
		c    api.Comp
		want string
	}{
		{"noughts", api.Comp{}, "\x00" + eightNoughts + "\x00\x00"},
		{"no kind", api.Comp{Kind: 9}, "\x09" + eightNoughts + "\x00\x00"},
		{"kind 255", api.Comp{Kind: 255}, "\xff" + eightNoughts + "\x00\x00"},
		{"kind 257", api.Comp{Kind: 257}, "\x01" + eightNoughts + "\x00\x00"},
		{"kind -1", api.Comp{Kind: -1}, "\xff" + eightNoughts + "\x00\x00"},
		{"a number below 0", keep(-2), "\x01\xfe\xff\xff\xff\xff\xff\xff\xff\x00\x00"},
		{"the greatest number", cut(math.MaxInt), "\x03\xff\xff\xff\xff\xff\xff\xff\x7f\x00\x00"},
		{"the least number", cut(math.MinInt), "\x03\x00\x00\x00\x00\x00\x00\x00\x80\x00\x00"},
		{"eight unlike bytes", keep(0x0102030405060708), "\x01\x08\x07\x06\x05\x04\x03\x02\x01\x00\x00"},
		{"a Keep's text", api.Comp{Kind: api.Keep, N: 1, S: "x"}, "\x01\x01\x00\x00\x00\x00\x00\x00\x00\x01\x00x"},
		{"a Put's number", api.Comp{Kind: api.Put, N: 1, S: "x"}, "\x02\x01\x00\x00\x00\x00\x00\x00\x00\x01\x00x"},
		{"a text of no byte", put(""), "\x02" + eightNoughts + "\x00\x00"},
		{"a text of 300 bytes", put(text(300)), "\x02" + eightNoughts + "\x2c\x01" + text(300)},
		{"a text of 65535 bytes", put(text(65535)), "\x02" + eightNoughts + "\xff\xff" + text(65535)},
		{"a longer text", put(text(65536)), "\x02" + eightNoughts + "\xff\xff" + text(65535)},
	} {
		if got := OpBytes(api.Op{x.c}); string(got) != "\x01"+x.want {
			t.Errorf("P801: OpBytes, %s: %d bytes, %x", x.what, len(got), got[:min(len(got), 30)])
		}
		if got := OpBytes(api.Op{keep(1), x.c, put("z")}); string(got) != "\x03"+plainPart(keep(1))+x.want+plainPart(put("z")) {
			t.Errorf("P801: OpBytes, %s between others: %d bytes", x.what, len(got))
		}
	}
}

func TestOpBytesOfManyOperations(t *testing.T) {
	r := rand.New(rand.NewPCG(8, 1))
	for range 2000 {
		o := oddOp(r, 255)
		if got := OpBytes(o); string(got) != plainOp(o) {
			t.Fatalf("P801: OpBytes of %#v: %x", o, got)
		}
	}
}

// opRead holds what OpParse answers against what it must; beside an error nothing is answered.
func opRead(t *testing.T, what, b string, want api.Op, wantErr api.Errno) {
	t.Helper()
	got, e := OpParse([]byte(b))
	if e != wantErr || !slices.Equal(got, want) {
		t.Errorf("P801: OpParse, %s: %#v, %v, want %#v, %v", what, got, e, want, wantErr)
	}
}

// opRefused is opRead of bytes that are no valid operation.
func opRefused(t *testing.T, what, b string, want api.Errno) {
	t.Helper()
	opRead(t, what, b, nil, want)
}

func TestOpParse(t *testing.T) {
	l := []api.Op{
		nil,
		{keep(1)}, {keep(120)}, {cut(1)}, {cut(120)}, {put("x")}, {put("\x00")}, {put(text(120))},
		{keep(2), put("hi"), cut(1)},
		{put("\xff\x80"), put("b"), cut(3), cut(4), keep(5), keep(6)},
		rows(39, keep(1)), rows(40, keep(1)), rows(40, put(text(120))), rows(40, cut(120)),
	}
	for _, o := range l {
		opRead(t, "a valid one", plainOp(o), o, api.OK)
	}
	opRead(t, "a Keep, byte for byte", "\x01\x01\x07\x00\x00\x00\x00\x00\x00\x00\x00\x00", api.Op{keep(7)}, api.OK)
	opRead(t, "a Put, byte for byte", "\x01\x02"+eightNoughts+"\x05\x00hello", api.Op{put("hello")}, api.OK)
}

func TestOpParseOfNoBytes(t *testing.T) {
	for _, b := range [][]byte{nil, {}} {
		if o, e := OpParse(b); len(o) != 0 || e != api.ErrCut {
			t.Errorf("P801: OpParse of no bytes: %#v, %v", o, e)
		}
	}
}

func TestOpParseCutOffAndMore(t *testing.T) {
	for _, o := range []api.Op{nil, {keep(9)}, {put(text(120))}, {cut(2), put("hi"), keep(3)}, rows(40, put("ab")), {keep(0)}, {{Kind: 9, N: 121, S: text(300)}, cut(1)}} {
		whole := plainOp(o)
		for k := range len(whole) {
			opRefused(t, "cut off", whole[:k], api.ErrCut)
		}
		for _, more := range []string{"\x00", "\x01", "\xff", plainPart(keep(1)), whole} {
			opRefused(t, "with more behind", whole+more, api.ErrMore)
		}
	}
}

// TestOpParseOfTooMany: as soon as the number is read, whatever stands behind it.
func TestOpParseOfTooMany(t *testing.T) {
	for n := 41; n <= 255; n++ {
		front := plainByte(n)
		opRefused(t, "too many, nothing behind", front, api.ErrMany)
		opRefused(t, "too many, cut", front+"\x01\x02", api.ErrMany)
		opRefused(t, "too many, all there", plainOp(rows(n, keep(1))), api.ErrMany)
		opRefused(t, "too many, more behind", plainOp(rows(n, keep(1)))+"\x00", api.ErrMany)
		opRefused(t, "too many, none good", plainOp(rows(n, api.Comp{Kind: 9})), api.ErrMany)
	}
	whole := plainOp(rows(41, put("x")))
	for k := 1; k < len(whole); k++ {
		opRefused(t, "41, cut off", whole[:k], api.ErrMany)
	}
	opRefused(t, "40, nothing behind", "\x28", api.ErrCut)
	opRefused(t, "40, of which one lacks", "\x28"+plainOp(rows(39, keep(1)))[1:], api.ErrCut)
	opRefused(t, "40, and one more", "\x28"+plainOp(rows(41, keep(1)))[1:], api.ErrMore)
}

func TestOpParseOfPartsThatMayNotBe(t *testing.T) {
	for _, x := range []struct {
		what string
		c    api.Comp
		want api.Errno
	}{
		{"kind 0", api.Comp{Kind: 0, N: 1}, api.ErrKind},
		{"kind 4", api.Comp{Kind: 4, N: 1}, api.ErrKind},
		{"kind 255", api.Comp{Kind: 255, N: 1}, api.ErrKind},
		{"a Keep of 0", keep(0), api.ErrArg},
		{"a Keep of 121", keep(121), api.ErrArg},
		{"a Keep of -1", keep(-1), api.ErrArg},
		{"a Keep of 2^32 + 1", keep(1<<32 + 1), api.ErrArg},
		{"a Keep with a text", api.Comp{Kind: api.Keep, N: 1, S: "x"}, api.ErrArg},
		{"a Cut of 0", cut(0), api.ErrArg},
		{"a Cut of 121", cut(121), api.ErrArg},
		{"the least Cut", cut(math.MinInt), api.ErrArg},
		{"a Cut with a text", api.Comp{Kind: api.Cut, N: 1, S: "x"}, api.ErrArg},
		{"a Put of nothing", put(""), api.ErrArg},
		{"a Put with a number", api.Comp{Kind: api.Put, N: 1, S: "x"}, api.ErrArg},
		{"a Put of 121 bytes", put(text(121)), api.ErrLong},
		{"a Put of 65535 bytes", put(text(65535)), api.ErrLong},
	} {
		opRefused(t, x.what, plainOp(api.Op{x.c}), x.want)
		opRefused(t, x.what+" behind others", plainOp(append(rows(39, put("y")), x.c)), x.want)
		opRefused(t, x.what+" ahead of others", plainOp(api.Op{x.c, {Kind: 9}, keep(0), put(text(121))}), x.want)
		opRefused(t, x.what+", more behind", plainOp(api.Op{x.c})+"\x00", api.ErrMore)
		opRefused(t, x.what+", then cut", "\x02"+plainOp(api.Op{x.c})[1:], api.ErrCut)
		opRefused(t, x.what+", too many", "\x29"+plainOp(api.Op{x.c})[1:], api.ErrMany)
	}
}
