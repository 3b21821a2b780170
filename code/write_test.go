package code

import (
	"bytes"
	"math"
	"strings"
	"testing"
)

// fronts are what writes are put behind: nothing, nil and empty, and some bytes.
func fronts() [][]byte {
	return [][]byte{nil, {}, {0}, {255}, []byte("front"), bytes.Repeat([]byte{7}, 1000)}
}

// wrote holds an answer against the bytes in front and those that must stand behind them.
func wrote(t *testing.T, promise string, got, front []byte, behind string) {
	t.Helper()
	if string(got) != string(front)+behind {
		t.Errorf("%s: behind %d bytes: got %x, want %x", promise, len(front), tail(got), tail([]byte(behind)))
	}
}

// tail keeps what a failing test tells short.
func tail(b []byte) []byte {
	return b[max(0, len(b)-20):]
}

func TestIntWritesEightBytes(t *testing.T) {
	cases := []struct {
		n    int
		want string
	}{
		{0, "\x00\x00\x00\x00\x00\x00\x00\x00"},
		{1, "\x01\x00\x00\x00\x00\x00\x00\x00"},
		{127, "\x7f\x00\x00\x00\x00\x00\x00\x00"},
		{128, "\x80\x00\x00\x00\x00\x00\x00\x00"},
		{255, "\xff\x00\x00\x00\x00\x00\x00\x00"},
		{256, "\x00\x01\x00\x00\x00\x00\x00\x00"},
		{0x0102030405060708, "\x08\x07\x06\x05\x04\x03\x02\x01"},
		{math.MaxUint32, "\xff\xff\xff\xff\x00\x00\x00\x00"},
		{math.MaxInt64, "\xff\xff\xff\xff\xff\xff\xff\x7f"},
		{math.MaxInt64 - 1, "\xfe\xff\xff\xff\xff\xff\xff\x7f"},
		{math.MinInt64, "\x00\x00\x00\x00\x00\x00\x00\x80"},
		{math.MinInt64 + 1, "\x01\x00\x00\x00\x00\x00\x00\x80"},
		{-1, "\xff\xff\xff\xff\xff\xff\xff\xff"},
		{-2, "\xfe\xff\xff\xff\xff\xff\xff\xff"},
		{-256, "\x00\xff\xff\xff\xff\xff\xff\xff"},
		{-257, "\xff\xfe\xff\xff\xff\xff\xff\xff"},
	}
	for _, c := range cases {
		for _, front := range fronts() {
			wrote(t, "P101 Int", Int(front, c.n), front, c.want)
		}
	}
}

// TestExample is the chapter's example.
func TestExample(t *testing.T) {
	wrote(t, "example 1", Int(nil, -2), nil, "\xfe"+strings.Repeat("\xff", 7))
}

func TestByteWritesTheLowestEightBits(t *testing.T) {
	cases := []struct {
		n    int
		want byte
	}{
		{0, 0}, {1, 1}, {127, 127}, {128, 128}, {254, 254}, {255, 255},
		{256, 0}, {257, 1}, {511, 255}, {65535, 255}, {65536, 0}, {0x1234, 0x34},
		{-1, 255}, {-2, 254}, {-128, 128}, {-255, 1}, {-256, 0}, {-257, 255},
		{math.MaxInt64, 255}, {math.MinInt64, 0}, {math.MinInt64 + 3, 3},
	}
	for _, c := range cases {
		for _, front := range fronts() {
			wrote(t, "P101 Byte", Byte(front, c.n), front, string([]byte{c.want}))
		}
	}
}

func TestTextWritesItsLengthAndItsBytes(t *testing.T) {
	cases := []struct{ s, want string }{
		{"", "\x00\x00"},
		{"a", "\x01\x00a"},
		{"hello", "\x05\x00hello"},
		{"\x00", "\x01\x00\x00"},
		{"\xff\xfe\x80\x00\n", "\x05\x00\xff\xfe\x80\x00\n"},
		{"\u00fc\u4e16", "\x05\x00\xc3\xbc\xe4\xb8\x96"},
		{every(), "\x00\x01" + every()},
		{strings.Repeat("x", 255), "\xff\x00" + strings.Repeat("x", 255)},
		{strings.Repeat("x", 256), "\x00\x01" + strings.Repeat("x", 256)},
		{strings.Repeat("x", 300), "\x2c\x01" + strings.Repeat("x", 300)},
	}
	for _, c := range cases {
		for _, front := range fronts() {
			wrote(t, "P101 Text", Text(front, c.s), front, c.want)
		}
	}
}

func TestTextKeepsTheFirst65535Bytes(t *testing.T) {
	long := strings.Repeat(every(), 800) // 204800 bytes
	for _, size := range []int{65534, 65535, 65536, 65537, 70000, 131071, 131072, len(long)} {
		kept := min(size, 65535)
		length := string([]byte{byte(kept % 256), byte(kept / 256)})
		for _, front := range fronts() {
			wrote(t, "P101 Text", Text(front, long[:size]), front, length+long[:kept])
		}
	}
}

// every is a text of all bytes there are.
func every() string {
	b := make([]byte, 256)
	for i := range b {
		b[i] = byte(i)
	}
	return string(b)
}

// writers are the three writes, each with two unlike things to write.
func writers() map[string][2]func(b []byte) []byte {
	return map[string][2]func(b []byte) []byte{
		"Int": {
			func(b []byte) []byte { return Int(b, 0x1111111111111111) },
			func(b []byte) []byte { return Int(b, 0x2222222222222222) },
		},
		"Byte": {
			func(b []byte) []byte { return Byte(b, 0x11) },
			func(b []byte) []byte { return Byte(b, 0x22) },
		},
		"Text": {
			func(b []byte) []byte { return Text(b, "one") },
			func(b []byte) []byte { return Text(b, "two") },
		},
		"empty Text": {
			func(b []byte) []byte { return Text(b, "") },
			func(b []byte) []byte { return Text(b, "") },
		},
	}
}

// marked is a list of 5 bytes with spare room behind them, and the whole of it.
func marked() (list, whole []byte) {
	whole = bytes.Repeat([]byte{0xaa}, 64)
	return whole[:5], whole
}

func TestWritesChangeNothingHandedIn(t *testing.T) {
	for name, w := range writers() {
		list, whole := marked()
		w[0](list)
		w[1](list)
		if !bytes.Equal(whole, bytes.Repeat([]byte{0xaa}, 64)) {
			t.Errorf("P2: %s changed what it was handed: %x", name, whole)
		}
	}
}

func TestWritesKeepNothingHandedIn(t *testing.T) {
	for name, w := range writers() {
		list, whole := marked()
		got := w[0](list)
		was := string(got)
		fill(whole, 0x55)
		if string(got) != was {
			t.Errorf("P2: %s answers memory that it was handed", name)
		}
	}
}

func TestWritesAnswerNewMemory(t *testing.T) {
	for name, w := range writers() {
		list, whole := marked()
		one := w[0](list)
		two := w[1](list)
		was := string(two)
		fill(one[:cap(one)], 0x55)
		if !bytes.Equal(whole, bytes.Repeat([]byte{0xaa}, 64)) {
			t.Errorf("P2: %s: writing to the answer changes what was handed in", name)
		}
		if string(two) != was {
			t.Errorf("P2: %s: two answers share memory", name)
		}
	}
}

// TestWritesBehindAnAnswer: two unlike writes behind the same answer leave each other alone.
func TestWritesBehindAnAnswer(t *testing.T) {
	for name, w := range writers() {
		for first, v := range writers() {
			base := v[0](nil)
			was := string(base)
			one := w[0](base)
			want := string(one)
			two := w[1](base)
			fill(two[:cap(two)], 0x55)
			if string(base) != was || string(one) != want {
				t.Errorf("P2: %s behind an answer of %s: the answers share memory", name, first)
			}
		}
	}
}

// fill writes one byte all over a list.
func fill(b []byte, x byte) {
	for i := range b {
		b[i] = x
	}
}

func TestWritesAnswerTheSameAgain(t *testing.T) {
	for name, w := range writers() {
		for _, front := range fronts() {
			if !bytes.Equal(w[0](front), w[0](bytes.Clone(front))) {
				t.Errorf("P3: %s answers otherwise the second time", name)
			}
		}
	}
}
