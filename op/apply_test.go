package op

import (
	"math/rand/v2"
	"strings"
	"testing"

	"comitia/api"
)

type applied struct {
	what, doc string
	o         api.Op
	want      string
	e         api.Errno
}

func applyAll(t *testing.T, l []applied) {
	t.Helper()
	for _, x := range l {
		if got, e := Apply(x.doc, x.o); got != x.want || e != x.e {
			t.Errorf("P402: %s: %q, %v, want %q, %v", x.what, got, e, x.want, x.e)
		}
	}
}

func TestApply(t *testing.T) {
	applyAll(t, []applied{
		{"nothing of nothing", "", nil, "", api.OK},
		{"an empty operation", "", api.Op{}, "", api.OK},
		{"Keep", "abc", api.Op{keep(3)}, "abc", api.OK},
		{"Keeps", "abcdef", api.Op{keep(1), keep(2), keep(3)}, "abcdef", api.OK},
		{"Put", "", api.Op{put("hi")}, "hi", api.OK},
		{"Puts", "", api.Op{put("a"), put("bc"), put("d")}, "abcd", api.OK},
		{"Cut", "abc", api.Op{cut(3)}, "", api.OK},
		{"Cuts", "abcdef", api.Op{cut(1), cut(2), cut(3)}, "", api.OK},
		{"Put ahead", "abc", api.Op{put("x"), keep(3)}, "xabc", api.OK},
		{"Put behind", "abc", api.Op{keep(3), put("x")}, "abcx", api.OK},
		{"Put in between", "abc", api.Op{keep(1), put("x"), keep(2)}, "axbc", api.OK},
		{"Cut ahead", "abc", api.Op{cut(1), keep(2)}, "bc", api.OK},
		{"Cut behind", "abc", api.Op{keep(2), cut(1)}, "ab", api.OK},
		{"Cut in between", "abc", api.Op{keep(1), cut(1), keep(1)}, "ac", api.OK},
		{"Put, Cut", "abc", api.Op{keep(1), put("x"), cut(1), keep(1)}, "axc", api.OK},
		{"Cut, Put", "abc", api.Op{keep(1), cut(1), put("x"), keep(1)}, "axc", api.OK},
		{"all of them", "abcdef", api.Op{keep(2), put("X"), cut(3), put("Y"), keep(1)}, "abXYf", api.OK},
		{"every second one", "abcdef", api.Op{cut(1), keep(1), cut(1), keep(1), cut(1), keep(1)}, "bdf", api.OK},
		{"any bytes kept", "\x00\xff\xc3\xa9\n", api.Op{keep(5)}, "\x00\xff\xc3\xa9\n", api.OK},
		{"half a rune kept", "\xc3\xa9", api.Op{keep(1), put("\x00"), cut(1)}, "\xc3\x00", api.OK},
		{"any bytes put", "\x00", api.Op{put("\xff\x00"), keep(1), put("\xa9\xc3")}, "\xff\x00\x00\xa9\xc3", api.OK},
		{"any bytes cut", "a\xff\x00b", api.Op{keep(1), cut(2), keep(1)}, "ab", api.OK},
	})
}

func TestApplyToEveryByte(t *testing.T) {
	for b := range 256 {
		s := string([]byte{byte(b)})
		got, e := Apply(s+"x"+s, api.Op{keep(1), put(s), cut(1), keep(1)})
		if got != s+s+s || e != api.OK {
			t.Errorf("P402: byte %d: %q, %v", b, got, e)
		}
	}
}

func TestApplyToAWrongLength(t *testing.T) {
	applyAll(t, []applied{
		{"nothing of a byte", "x", nil, "", api.ErrSize},
		{"an empty operation of a byte", "x", api.Op{}, "", api.ErrSize},
		{"Put of a byte", "x", api.Op{put("a")}, "", api.ErrSize},
		{"Keep, too long", "abc", api.Op{keep(2)}, "", api.ErrSize},
		{"Keep, too short", "abc", api.Op{keep(4)}, "", api.ErrSize},
		{"Keep of no byte", "", api.Op{keep(1)}, "", api.ErrSize},
		{"Cut, too long", "abc", api.Op{cut(2)}, "", api.ErrSize},
		{"Cut, too short", "abc", api.Op{cut(4)}, "", api.ErrSize},
		{"as long as what comes out", "abcd", api.Op{keep(2), put("xy")}, "", api.ErrSize},
	})
	o := api.Op{keep(20), put("ab"), cut(30), keep(5), put(text(9)), cut(1)}
	for n := range 130 {
		got, e := Apply(text(n), o)
		if good := n == 56; good != (e == api.OK) || !good && (got != "" || e != api.ErrSize) {
			t.Errorf("P402, P4: 56 bytes wanted, %d come: %q, %v", n, got, e)
		}
	}
}

func TestApplyUpToTheLongestDocument(t *testing.T) {
	applyAll(t, []applied{
		{"120 kept", text(120), api.Op{keep(120)}, text(120), api.OK},
		{"120 put", "", api.Op{put(text(120))}, text(120), api.OK},
		{"120 in all", text(119), api.Op{keep(119), put("y")}, text(119) + "y", api.OK},
		{"120 for 120", text(120), api.Op{put("abc"), cut(3), keep(117)}, "abc" + text(120)[3:], api.OK},
		{"all of 120 anew", text(120), api.Op{cut(120), put(strings.Repeat("z", 120))}, strings.Repeat("z", 120), api.OK},
		{"121 in all", text(119), api.Op{keep(119), put("yz")}, "", api.ErrLong},
		{"121 of 120", text(120), api.Op{keep(120), put("z")}, "", api.ErrLong},
		{"121 put", "", api.Op{put(text(120)), put("z")}, "", api.ErrLong},
		{"121 kept", text(121), api.Op{keep(120), keep(1)}, "", api.ErrLong},
		{"4800 put", "", rows(40, put(text(120))), "", api.ErrLong},
		{"121 put, then one cut", "a", api.Op{put(text(120)), put("z"), cut(1)}, "", api.ErrLong},
		{"more cut than a document has", text(240), api.Op{cut(120), cut(120)}, "", api.OK},
		{"more cut, as many left as may be", text(240), api.Op{cut(120), keep(120)}, text(240)[120:], api.OK},
	})
}

func TestWhichErrorOfApply(t *testing.T) {
	applyAll(t, []applied{
		{"too short and too long", text(118), api.Op{keep(119), put("yz")}, "", api.ErrSize},
		{"too long by one and too long", text(120), api.Op{keep(119), put("yz")}, "", api.ErrSize},
		{"no byte and too long", "", api.Op{keep(120), keep(1)}, "", api.ErrSize},
		{"a byte and too long", "x", rows(40, put(text(120))), "", api.ErrSize},
		{"just too long", text(119), api.Op{keep(119), put("yz")}, "", api.ErrLong},
	})
}

func TestApplyOfMoreThanFortyParts(t *testing.T) {
	var o api.Op
	var want strings.Builder
	doc := text(100)
	for i := range 50 {
		o = append(o, cut(1), put("x"), keep(1))
		want.WriteString("x" + doc[2*i+1:2*i+2])
	}
	applyAll(t, []applied{
		{"150 parts", doc, o, want.String(), api.OK},
		{"150 parts, a byte too few", doc[1:], o, "", api.ErrSize},
		{"1000 Cuts", text(1000), rows(1000, cut(1)), "", api.OK},
		{"120 Keeps", text(120), rows(120, keep(1)), text(120), api.OK},
		{"121 Puts", "", rows(121, put("x")), "", api.ErrLong},
		{"a Cut that was made of many", text(1200), api.Op{cut(1100), keep(100)}, text(1200)[1100:], api.OK},
	})
}

// plainly is what comes out, as the words say it, byte by byte.
func plainly(doc string, o api.Op) string {
	out := ""
	for _, c := range o {
		switch c.Kind {
		case api.Keep:
			for range c.N {
				out, doc = out+doc[:1], doc[1:]
			}
		case api.Put:
			out += c.S
		case api.Cut:
			for range c.N {
				doc = doc[1:]
			}
		}
	}
	return out
}

// anyOp is an operation of any parts.
func anyOp(r *rand.Rand, parts, most int) api.Op {
	o := api.Op{}
	for range r.IntN(parts + 1) {
		switch n := 1 + r.IntN(most); r.IntN(3) {
		case 0:
			o = append(o, keep(n))
		case 1:
			o = append(o, put(anyText(r, n)))
		case 2:
			o = append(o, cut(n))
		}
	}
	return o
}

func anyText(r *rand.Rand, n int) string {
	b := make([]byte, n)
	for i := range b {
		b[i] = byte(r.Uint32())
	}
	return string(b)
}

func TestApplyAtRandom(t *testing.T) {
	r := rand.New(rand.NewPCG(4, 402))
	seen := map[api.Errno]int{}
	for range 5000 {
		o := anyOp(r, 40, 1+r.IntN(12))
		doc := anyText(r, max(0, In(o)+r.IntN(20)/19-r.IntN(20)/19))
		want, e := "", api.OK
		switch {
		case len(doc) != In(o):
			e = api.ErrSize
		case len(plainly(doc, o)) > 120:
			e = api.ErrLong
		default:
			want = plainly(doc, o)
		}
		if got, f := Apply(doc, o); got != want || f != e {
			t.Fatalf("P402: %#v of %q: %q, %v, want %q, %v", o, doc, got, f, want, e)
		}
		if len(doc) == In(o) && len(plainly(doc, o)) != Out(o) {
			t.Fatalf("P401: %#v: Out %d", o, Out(o))
		}
		seen[e]++
	}
	if len(seen) != 3 {
		t.Errorf("tried only %v", seen)
	}
}
