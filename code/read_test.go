package code

import (
	"bytes"
	"math"
	"strings"
	"testing"

	"comitia/api"
)

// ended holds what a Reader's End answers against what it must, twice: asking changes nothing.
func ended(t *testing.T, what string, r *Reader, want api.Errno) {
	t.Helper()
	for range 2 {
		if got := r.End(); got != want {
			t.Errorf("%s: End answers %v, want %v", what, got, want)
		}
	}
}

// silent holds each of a Reader's reads against its zero value, twice: one does not wake another.
func silent(t *testing.T, what string, r *Reader) {
	t.Helper()
	for range 2 {
		if n := r.Int(); n != 0 {
			t.Errorf("%s: Int answers %d behind an error", what, n)
		}
		if n := r.Byte(); n != 0 {
			t.Errorf("%s: Byte answers %d behind an error", what, n)
		}
		if s := r.Text(); s != "" {
			t.Errorf("%s: Text answers %q behind an error", what, s)
		}
	}
}

func TestIntReads(t *testing.T) {
	cases := []struct {
		b    string
		want int
	}{
		{"\x00\x00\x00\x00\x00\x00\x00\x00", 0},
		{"\x01\x00\x00\x00\x00\x00\x00\x00", 1},
		{"\x08\x07\x06\x05\x04\x03\x02\x01", 0x0102030405060708},
		{"\xff\xff\xff\xff\x00\x00\x00\x00", math.MaxUint32},
		{"\xff\xff\xff\xff\xff\xff\xff\x7f", math.MaxInt64},
		{"\x00\x00\x00\x00\x00\x00\x00\x80", math.MinInt64},
		{"\xff\xff\xff\xff\xff\xff\xff\xff", -1},
		{"\xfe\xff\xff\xff\xff\xff\xff\xff", -2},
	}
	for _, c := range cases {
		r := New([]byte(c.b))
		if got := r.Int(); got != c.want {
			t.Errorf("P102: Int of %x: %d, want %d", c.b, got, c.want)
		}
		ended(t, "P102: Int", r, api.OK)
	}
}

func TestByteReadsFrom0To255(t *testing.T) {
	for want := range 256 {
		r := New([]byte{byte(want)})
		if got := r.Byte(); got != want {
			t.Errorf("P102: Byte: %d, want %d", got, want)
		}
		ended(t, "P102: Byte", r, api.OK)
	}
}

func TestTextReads(t *testing.T) {
	long := strings.Repeat(every(), 256)
	cases := []struct{ b, want string }{
		{"\x00\x00", ""},
		{"\x01\x00a", "a"},
		{"\x05\x00hello", "hello"},
		{"\x03\x00\x00\xff\x80", "\x00\xff\x80"},
		{"\x00\x01" + every(), every()},
		{"\x2c\x01" + long[:300], long[:300]},
		{"\xff\xff" + long[:65535], long[:65535]},
	}
	for _, c := range cases {
		r := New([]byte(c.b))
		if got := r.Text(); got != c.want {
			t.Errorf("P102: Text of %x: %d bytes, want %d", tail([]byte(c.b)), len(got), len(c.want))
		}
		ended(t, "P102: Text", r, api.OK)
	}
}

// TestReadsGoOnFromTheFront: each read starts where the one ahead of it ended.
func TestReadsGoOnFromTheFront(t *testing.T) {
	r := New([]byte("\x09\x02\x00hi\x01\x02\x00\x00\x00\x00\x00\x00\x00\x00\xff"))
	if n := r.Byte(); n != 9 {
		t.Errorf("P102: first: %d", n)
	}
	if s := r.Text(); s != "hi" {
		t.Errorf("P102: second: %q", s)
	}
	if n := r.Int(); n != 513 {
		t.Errorf("P102: third: %d", n)
	}
	if s := r.Text(); s != "" {
		t.Errorf("P102: fourth: %q", s)
	}
	if n := r.Byte(); n != 255 {
		t.Errorf("P102: fifth: %d", n)
	}
	ended(t, "P102: all was read", r, api.OK)
}

// TestWhereBytesLack: every length that is too short, of bytes that are none of them 0.
func TestWhereBytesLack(t *testing.T) {
	reads := map[string]struct {
		whole string
		read  func(r *Reader) bool // whether the zero value came
	}{
		"Int":         {strings.Repeat("\x77", 8), func(r *Reader) bool { return r.Int() == 0 }},
		"Byte":        {"\x77", func(r *Reader) bool { return r.Byte() == 0 }},
		"Text":        {"\x03\x00abc", func(r *Reader) bool { return r.Text() == "" }},
		"longer Text": {"\x01\x01" + strings.Repeat("y", 257), func(r *Reader) bool { return r.Text() == "" }},
	}
	for name, c := range reads {
		for size := range len(c.whole) {
			r := New([]byte(c.whole[:size]))
			if !c.read(r) {
				t.Errorf("P102: %s of %d bytes answers more than its zero value", name, size)
			}
			ended(t, "P102: "+name+" cut", r, api.ErrCut)
			silent(t, "P102: "+name+" cut", r)
			ended(t, "P102: "+name+" cut", r, api.ErrCut)
		}
		r := New([]byte(c.whole))
		if c.read(r) {
			t.Errorf("P102: %s of all its bytes answers its zero value", name)
		}
		ended(t, "P102: "+name, r, api.OK)
	}
}

func TestTextLongerThanWhatIsLeft(t *testing.T) {
	for _, b := range []string{"\x01\x00", "\x04\x00abc", "\xff\xff", "\x00\x01" + strings.Repeat("z", 255), "\xff\xff" + strings.Repeat("z", 65534)} {
		r := New([]byte(b))
		if s := r.Text(); s != "" {
			t.Errorf("P102: a text that is cut: %d bytes", len(s))
		}
		ended(t, "P102: a text that is cut", r, api.ErrCut)
		silent(t, "P102: a text that is cut", r)
	}
}

// TestACutIsForGood: bytes that would do for a smaller read are not read behind an error.
func TestACutIsForGood(t *testing.T) {
	r := New([]byte{1, 2, 3, 4, 5, 6, 7})
	if n := r.Int(); n != 0 {
		t.Errorf("P102: Int of seven bytes: %d", n)
	}
	silent(t, "P102: seven bytes", r)
	ended(t, "P102: seven bytes", r, api.ErrCut)
	r = New([]byte("\x09\x00\x01\x00a"))
	if s := r.Text(); s != "" {
		t.Errorf("P102: Text: %q", s)
	}
	silent(t, "P102: a text of nine bytes", r)
	ended(t, "P102: a text of nine bytes", r, api.ErrCut)
}

func TestReaderOfNoBytes(t *testing.T) {
	for _, b := range [][]byte{nil, {}} {
		r := New(b)
		ended(t, "P102: no bytes", r, api.OK)
		silent(t, "P102: no bytes", r)
		ended(t, "P102: no bytes", r, api.ErrCut)
	}
	var zero Reader
	ended(t, "P1: a Reader that nobody made", &zero, api.OK)
	silent(t, "P1: a Reader that nobody made", &zero)
	ended(t, "P1: a Reader that nobody made", &zero, api.ErrCut)
}

func TestFailWithOKIsNothing(t *testing.T) {
	r := New([]byte("\x05\x01\x00a"))
	r.Fail(api.OK)
	if n := r.Byte(); n != 5 {
		t.Errorf("P102: Byte behind Fail(OK): %d", n)
	}
	r.Fail(api.OK)
	ended(t, "P102: Fail(OK), bytes left", r, api.ErrMore)
	if s := r.Text(); s != "a" {
		t.Errorf("P102: Text behind Fail(OK): %q", s)
	}
	r.Fail(api.OK)
	ended(t, "P102: Fail(OK), none left", r, api.OK)
	r.Fail(api.ErrBad)
	r.Fail(api.OK)
	ended(t, "P102: Fail(OK) behind an error", r, api.ErrBad)
}

func TestFailKeepsTheFirstError(t *testing.T) {
	for e := api.ErrArg; e <= api.ErrFull; e++ {
		for _, second := range []api.Errno{api.OK, api.ErrArg, api.ErrBad, api.ErrFull, api.ErrCut, api.ErrMore} {
			r := New(Int(Int(nil, -1), -1))
			r.Fail(e)
			r.Fail(second)
			ended(t, "P102: Fail", r, e)
			silent(t, "P102: Fail", r)
			r.Fail(second)
			ended(t, "P102: Fail", r, e)
		}
	}
}

// TestFailTakesAnyNumber: an error is whatever is not OK.
func TestFailTakesAnyNumber(t *testing.T) {
	for _, e := range []api.Errno{-1, 20, 1000, math.MaxInt64, math.MinInt64} {
		r := New([]byte{3})
		r.Fail(e)
		silent(t, "P102: Fail of an odd number", r)
		ended(t, "P102: Fail of an odd number", r, e)
	}
}

func TestFailBehindACut(t *testing.T) {
	r := New(nil)
	r.Byte()
	r.Fail(api.ErrBad)
	ended(t, "P102: Fail behind a cut", r, api.ErrCut)
}

// TestACutBehindFail: where bytes lack behind an error, the error stays.
func TestACutBehindFail(t *testing.T) {
	r := New(nil)
	r.Fail(api.ErrKind)
	silent(t, "P102: a cut behind Fail", r)
	ended(t, "P102: a cut behind Fail", r, api.ErrKind)
}

// TestEndTellsTheErrorAheadOfMore: P6, the first that its promise names.
func TestEndTellsTheErrorAheadOfMore(t *testing.T) {
	r := New([]byte{1, 2})
	ended(t, "P102: two bytes left", r, api.ErrMore)
	r.Byte()
	ended(t, "P102: one byte left", r, api.ErrMore)
	r.Fail(api.ErrSign)
	ended(t, "P6: an error and a byte left", r, api.ErrSign)
}

// TestEndIsNoError: bytes that are left may still be read behind ErrMore.
func TestEndIsNoError(t *testing.T) {
	r := New([]byte{1, 2, 3})
	for want := 1; want <= 3; want++ {
		ended(t, "P102: bytes left", r, api.ErrMore)
		if n := r.Byte(); n != want {
			t.Errorf("P102: Byte behind ErrMore: %d, want %d", n, want)
		}
	}
	ended(t, "P102: none left", r, api.OK)
}

func TestNewKeepsNothingHandedIn(t *testing.T) {
	whole := append(Text(Byte(Int(nil, 77), 8), "text"), 0xaa, 0xaa)
	r := New(whole[:len(whole)-2])
	fill(whole, 0x55)
	if n := r.Int(); n != 77 {
		t.Errorf("P2: Int: %d", n)
	}
	fill(whole, 0x66)
	if n := r.Byte(); n != 8 {
		t.Errorf("P2: Byte: %d", n)
	}
	fill(whole, 0x00)
	if s := r.Text(); s != "text" {
		t.Errorf("P2: Text: %q", s)
	}
	ended(t, "P2: what is behind the list's end", r, api.OK)
}

func TestReadsChangeNothingHandedIn(t *testing.T) {
	whole := append(Text(Byte(Int(nil, 77), 8), "text"), 0xaa, 0xaa)
	was := bytes.Clone(whole)
	r := New(whole[:len(whole)-2])
	r.Int()
	r.Byte()
	r.Text()
	r.Text()
	r.Fail(api.ErrBad)
	r.End()
	if !bytes.Equal(whole, was) {
		t.Errorf("P2: a Reader changed what it was handed: %x", whole)
	}
}

func TestReadersDoNotTouchOneAnother(t *testing.T) {
	b := Text(Byte(nil, 4), "ab")
	one, two := New(b), New(b)
	one.Fail(api.ErrBad)
	ended(t, "P7: the other one", two, api.ErrMore)
	if n, s := two.Byte(), two.Text(); n != 4 || s != "ab" {
		t.Errorf("P7: %d, %q", n, s)
	}
	ended(t, "P7: the other one", two, api.OK)
	ended(t, "P7: the one", one, api.ErrBad)
}
