package op

import (
	"math"
	"slices"
	"strings"
	"testing"

	"comitia/api"
)

func keep(n int) api.Comp { return api.Comp{Kind: api.Keep, N: n} }

func put(s string) api.Comp { return api.Comp{Kind: api.Put, S: s} }

func cut(n int) api.Comp { return api.Comp{Kind: api.Cut, N: n} }

// text is n bytes, any ones, no two neighbours alike.
func text(n int) string {
	b := make([]byte, n)
	for i := range b {
		b[i] = byte(i*37 + 200)
	}
	return string(b)
}

// rows is an operation of n parts that are all alike.
func rows(n int, c api.Comp) api.Op { return slices.Repeat(api.Op{c}, n) }

type checked struct {
	what string
	o    api.Op
	want api.Errno
}

func checkAll(t *testing.T, l []checked) {
	t.Helper()
	for _, x := range l {
		if e := Check(x.o); e != x.want {
			t.Errorf("P401: Check, %s: %v, want %v", x.what, e, x.want)
		}
	}
}

func TestCheckCountsParts(t *testing.T) {
	checkAll(t, []checked{
		{"nil", nil, api.OK},
		{"empty", api.Op{}, api.OK},
		{"1 part", rows(1, keep(1)), api.OK},
		{"39 parts", rows(39, keep(1)), api.OK},
		{"40 Keeps", rows(40, keep(120)), api.OK},
		{"40 Puts", rows(40, put(text(120))), api.OK},
		{"40 Cuts", rows(40, cut(120)), api.OK},
		{"41 Keeps", rows(41, keep(1)), api.ErrMany},
		{"41 Puts", rows(41, put("x")), api.ErrMany},
		{"41 Cuts", rows(41, cut(1)), api.ErrMany},
		{"1000 parts", rows(1000, keep(1)), api.ErrMany},
	})
}

func TestCheckKinds(t *testing.T) {
	for _, kind := range []int{0, 4, 5, -1, -2, -3, 255, 257, 1 << 32, 1<<32 + 1, math.MaxInt, math.MinInt} {
		for _, c := range []api.Comp{{Kind: kind}, {Kind: kind, N: 1}, {Kind: kind, S: "x"}, {Kind: kind, N: -1, S: text(121)}} {
			if e := Check(api.Op{c}); e != api.ErrKind {
				t.Errorf("P401: Check of %#v: %v", c, e)
			}
		}
	}
}

func TestCheckNumbersOfKeepsAndCuts(t *testing.T) {
	for _, kind := range []int{api.Keep, api.Cut} {
		for n := 1; n <= 120; n++ {
			if e := Check(api.Op{{Kind: kind, N: n}}); e != api.OK {
				t.Errorf("P401: Check, kind %d, N %d: %v", kind, n, e)
			}
		}
		for _, n := range []int{0, -1, -120, 121, 122, 255, 256, 257, 1 << 31, 1<<32 + 1, 1<<53 + 1, math.MaxInt, math.MinInt} {
			if e := Check(api.Op{{Kind: kind, N: n}}); e != api.ErrArg {
				t.Errorf("P401: Check, kind %d, N %d: %v", kind, n, e)
			}
		}
		for _, s := range []string{"x", "\x00", " ", text(120), text(121)} {
			if e := Check(api.Op{{Kind: kind, N: 1, S: s}}); e != api.ErrArg {
				t.Errorf("P401: Check, kind %d, a text of %d bytes: %v", kind, len(s), e)
			}
		}
	}
}

func TestCheckPuts(t *testing.T) {
	for n := 1; n <= 120; n++ {
		if e := Check(api.Op{put(text(n))}); e != api.OK {
			t.Errorf("P401: Check of a Put of %d bytes: %v", n, e)
		}
	}
	checkAll(t, []checked{
		{"a Put of no byte", api.Op{put("")}, api.ErrArg},
		{"a Put of a nought", api.Op{put("\x00")}, api.OK},
		{"a Put of 120 bytes that are no runes", api.Op{put(strings.Repeat("\xff", 120))}, api.OK},
		{"a Put of 120 runes of two bytes", api.Op{put(strings.Repeat("\u00e9", 120))}, api.ErrLong},
		{"a Put of 60 runes of two bytes", api.Op{put(strings.Repeat("\u00e9", 60))}, api.OK},
		{"a Put of 121 bytes", api.Op{put(text(121))}, api.ErrLong},
		{"a Put of a megabyte", api.Op{put(text(1 << 20))}, api.ErrLong},
		{"a Put with 1", api.Op{{Kind: api.Put, N: 1, S: "x"}}, api.ErrArg},
		{"a Put with -1", api.Op{{Kind: api.Put, N: -1, S: "x"}}, api.ErrArg},
		{"a Put with its length", api.Op{{Kind: api.Put, N: 2, S: "xy"}}, api.ErrArg},
		{"a Put with a very great number", api.Op{{Kind: api.Put, N: math.MaxInt, S: "x"}}, api.ErrArg},
		{"a Put with a number alone", api.Op{{Kind: api.Put, N: 1}}, api.ErrArg},
	})
}

func TestWhichErrorIsAnswered(t *testing.T) {
	long := put(text(121))
	none := api.Comp{Kind: 9, N: 5}
	behind := func(n int, l ...api.Comp) api.Op { return append(rows(n, keep(1)), l...) }
	checkAll(t, []checked{
		{"41 of no kind", rows(41, none), api.ErrMany},
		{"41 wrong numbers", rows(41, keep(0)), api.ErrMany},
		{"41 that are too long", rows(41, long), api.ErrMany},
		{"40 of no kind", rows(40, none), api.ErrKind},
		{"no kind, a wrong number, too long", api.Op{{Kind: 0, N: 121, S: text(121)}}, api.ErrKind},
		{"a number and too long", api.Op{{Kind: api.Put, N: 1, S: text(121)}}, api.ErrArg},
		{"a Keep's text that is too long", api.Op{{Kind: api.Keep, N: 1, S: text(121)}}, api.ErrArg},
		{"a Cut's text that is too long", api.Op{{Kind: api.Cut, N: 1, S: text(121)}}, api.ErrArg},
		{"too long, then no kind", api.Op{long, none}, api.ErrLong},
		{"too long, then a wrong number", api.Op{long, keep(0)}, api.ErrLong},
		{"a wrong number, then no kind", api.Op{cut(0), none}, api.ErrArg},
		{"a wrong number, then too long", api.Op{keep(121), long}, api.ErrArg},
		{"no kind, then too long", api.Op{none, long}, api.ErrKind},
		{"the 40th: no kind", behind(39, none), api.ErrKind},
		{"the 40th: a wrong number", behind(39, keep(0)), api.ErrArg},
		{"the 40th: too long", behind(39, long), api.ErrLong},
		{"the 41st: no kind", behind(40, none), api.ErrMany},
		{"good, too long, good, no kind", api.Op{keep(1), long, cut(1), none}, api.ErrLong},
	})
}

func TestInAndOut(t *testing.T) {
	for _, x := range []struct {
		what    string
		o       api.Op
		in, out int
	}{
		{"nil", nil, 0, 0},
		{"empty", api.Op{}, 0, 0},
		{"a Keep", api.Op{keep(7)}, 7, 7},
		{"a Put", api.Op{put("hello")}, 0, 5},
		{"a Put of no runes", api.Op{put("\xff\x00\xc3\xa9")}, 0, 4},
		{"a Cut", api.Op{cut(7)}, 7, 0},
		{"one of each", api.Op{keep(3), put("ab"), cut(5)}, 8, 5},
		{"many", api.Op{keep(3), put("ab"), cut(4), put("c"), keep(1)}, 8, 7},
		{"Puts alone", api.Op{put("a"), put("bc"), put("def")}, 0, 6},
		{"Cuts alone", api.Op{cut(1), cut(2), cut(3)}, 6, 0},
		{"40 Keeps", rows(40, keep(120)), 4800, 4800},
		{"40 Puts", rows(40, put(text(120))), 0, 4800},
		{"1000 Cuts", rows(1000, cut(120)), 120000, 0},
		{"a Keep that was made of many", api.Op{keep(100000), put(text(300)), cut(5000)}, 105000, 100300},
	} {
		if in, out := In(x.o), Out(x.o); in != x.in || out != x.out {
			t.Errorf("P401: %s: In %d, Out %d, want %d, %d", x.what, in, out, x.in, x.out)
		}
	}
}

func TestSame(t *testing.T) {
	a := api.Op{keep(3), put("ab"), cut(4), put("c"), keep(1)}
	others := map[string]api.Op{
		"nil":                    nil,
		"one less":               a[:4],
		"one less ahead":         a[1:],
		"one more":               append(slices.Clone(a), keep(1)),
		"one more of noughts":    append(slices.Clone(a), api.Comp{}),
		"another order":          {put("ab"), keep(3), cut(4), put("c"), keep(1)},
		"another first number":   {keep(4), put("ab"), cut(4), put("c"), keep(1)},
		"another last number":    {keep(3), put("ab"), cut(4), put("c"), keep(2)},
		"another number, great":  {keep(3 + 1<<32), put("ab"), cut(4), put("c"), keep(1)},
		"another sign":           {keep(-3), put("ab"), cut(4), put("c"), keep(1)},
		"another kind":           {keep(3), put("ab"), keep(4), put("c"), keep(1)},
		"another last kind":      {keep(3), put("ab"), cut(4), put("c"), cut(1)},
		"another byte":           {keep(3), put("aB"), cut(4), put("c"), keep(1)},
		"another length":         {keep(3), put("abc"), cut(4), put("c"), keep(1)},
		"a nought behind":        {keep(3), put("ab\x00"), cut(4), put("c"), keep(1)},
		"a text beside a Keep":   {{Kind: api.Keep, N: 3, S: "x"}, put("ab"), cut(4), put("c"), keep(1)},
		"a number beside a Put":  {keep(3), {Kind: api.Put, N: 2, S: "ab"}, cut(4), put("c"), keep(1)},
		"the same in more parts": {keep(1), keep(2), put("ab"), cut(4), put("c"), keep(1)},
	}
	for what, b := range others {
		if Same(a, b) || Same(b, a) {
			t.Errorf("P401: Same: %s", what)
		}
		if !Same(b, b) || !Same(b, slices.Clone(b)) {
			t.Errorf("P401: not Same as itself: %s", what)
		}
	}
	if !Same(a, slices.Clone(a)) || !Same(append(a[:1:1], a[1:]...), a) {
		t.Error("P401: Same of a copy")
	}
	if !Same(nil, nil) || !Same(nil, api.Op{}) || !Same(api.Op{}, nil) || !Same(api.Op{}, a[:0]) {
		t.Error("P2, P401: no list and an empty one are the same")
	}
}

func TestSameOfAnyParts(t *testing.T) {
	var parts []api.Comp
	for _, kind := range []int{0, 1, 2, 3, 9, -1, math.MinInt} {
		for _, n := range []int{0, 1, -1, 121, math.MaxInt, 1 << 53, 1<<53 + 1} {
			for _, s := range []string{"", "a", "b", text(121)} {
				parts = append(parts, api.Comp{Kind: kind, N: n, S: s})
			}
		}
	}
	for i, a := range parts {
		for j, b := range parts {
			if Same(api.Op{a}, api.Op{b}) != (i == j) || Same(api.Op{keep(1), a}, api.Op{keep(1), b}) != (i == j) {
				t.Fatalf("P401: Same of %#v, %#v", a, b)
			}
		}
	}
}
