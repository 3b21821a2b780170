package invert

import (
	"math/rand/v2"
	"slices"
	"strings"
	"testing"

	"comitia/api"
	"comitia/op"
)

type turned struct {
	what, doc string
	o, want   api.Op
}

func turnAll(t *testing.T, l []turned) {
	t.Helper()
	for _, x := range l {
		if got, e := Op(x.doc, x.o); e != api.OK || !slices.Equal(got, x.want) {
			t.Errorf("P601: %s: %#v, %v, want %#v", x.what, got, e, x.want)
		}
	}
}

func TestExampleOne(t *testing.T) {
	turnAll(t, []turned{{"undone Cut 1 of x: Put x", "x", api.Op{cut(1)}, api.Op{put("x")}}})
}

func TestOfNoPart(t *testing.T) {
	turnAll(t, []turned{
		{"nil", "", nil, nil},
		{"empty", "", api.Op{}, nil},
		{"empty, with room", "", make(api.Op, 0, 5), nil},
	})
}

func TestOfOnePart(t *testing.T) {
	turnAll(t, []turned{
		{"a Keep", "abc", api.Op{keep(3)}, api.Op{keep(3)}},
		{"a Put", "", api.Op{put("abc")}, api.Op{cut(3)}},
		{"a Put of two bytes that are one rune", "", api.Op{put("\u00e9")}, api.Op{cut(2)}},
		{"a Cut", "abc", api.Op{cut(3)}, api.Op{put("abc")}},
		{"a Keep of 120", text(120), api.Op{keep(120)}, api.Op{keep(120)}},
		{"a Put of 120", "", api.Op{put(text(120))}, api.Op{cut(120)}},
		{"a Cut of 120", text(120), api.Op{cut(120)}, api.Op{put(text(120))}},
	})
	for n := 1; n <= 120; n++ {
		turnAll(t, []turned{
			{"a Keep", text(n), api.Op{keep(n)}, api.Op{keep(n)}},
			{"a Put", "", api.Op{put(text(n))}, api.Op{cut(n)}},
			{"a Cut", text(n), api.Op{cut(n)}, api.Op{put(text(n))}},
		})
	}
}

func TestBetweenKeeps(t *testing.T) {
	turnAll(t, []turned{
		{"a Put ahead", "abc", api.Op{put("xy"), keep(3)}, api.Op{cut(2), keep(3)}},
		{"a Put between", "abc", api.Op{keep(1), put("xy"), keep(2)}, api.Op{keep(1), cut(2), keep(2)}},
		{"a Put behind", "abc", api.Op{keep(3), put("xy")}, api.Op{keep(3), cut(2)}},
		{"a Cut ahead", "abc", api.Op{cut(1), keep(2)}, api.Op{put("a"), keep(2)}},
		{"a Cut between", "abc", api.Op{keep(1), cut(1), keep(1)}, api.Op{keep(1), put("b"), keep(1)}},
		{"a Cut behind", "abc", api.Op{keep(2), cut(1)}, api.Op{keep(2), put("c")}},
		{"every second one cut", "abcdef", api.Op{cut(1), keep(1), cut(1), keep(1), cut(1), keep(1)}, api.Op{put("a"), keep(1), put("c"), keep(1), put("e"), keep(1)}},
		{"a Put here, a Cut there", "abcdef", api.Op{keep(1), put("XYZ"), keep(2), cut(2), keep(1)}, api.Op{keep(1), cut(3), keep(2), put("de"), keep(1)}},
		{"a Cut here, a Put there", "abcdef", api.Op{keep(1), cut(2), keep(2), put("XYZ"), keep(1)}, api.Op{keep(1), put("bc"), keep(2), cut(3), keep(1)}},
	})
}

// TestCutBesidePut: whichever stood first, what comes out puts ahead of cutting.
func TestCutBesidePut(t *testing.T) {
	turnAll(t, []turned{
		{"a Put ahead of a Cut", "ab", api.Op{put("xyz"), cut(2)}, api.Op{put("ab"), cut(3)}},
		{"a Cut ahead of a Put", "ab", api.Op{cut(2), put("xyz")}, api.Op{put("ab"), cut(3)}},
		{"a Put ahead of a Cut, between Keeps", "abcdef", api.Op{keep(1), put("XY"), cut(3), keep(2)}, api.Op{keep(1), put("bcd"), cut(2), keep(2)}},
		{"a Cut ahead of a Put, between Keeps", "abcdef", api.Op{keep(1), cut(3), put("XY"), keep(2)}, api.Op{keep(1), put("bcd"), cut(2), keep(2)}},
		{"a Put ahead of a Cut, ahead of a Keep", "abc", api.Op{put("X"), cut(2), keep(1)}, api.Op{put("ab"), cut(1), keep(1)}},
		{"a Cut ahead of a Put, behind a Keep", "abc", api.Op{keep(1), cut(2), put("X")}, api.Op{keep(1), put("bc"), cut(1)}},
		{"a Put between Cuts", "ab", api.Op{cut(1), put("x"), cut(1)}, api.Op{put("ab"), cut(1)}},
		{"a Cut between Puts", "a", api.Op{put("x"), cut(1), put("yz")}, api.Op{put("a"), cut(3)}},
		{"put again what was cut", "abc", api.Op{cut(3), put("abc")}, api.Op{put("abc"), cut(3)}},
		{"120 for 120", text(120), api.Op{cut(120), put(strings.Repeat("z", 120))}, api.Op{put(text(120)), cut(120)}},
	})
}

func TestOfWhatIsNotNormal(t *testing.T) {
	turnAll(t, []turned{
		{"Keeps in a row", "abcdef", api.Op{keep(1), keep(2), keep(3)}, api.Op{keep(6)}},
		{"Puts in a row", "", api.Op{put("a"), put("bc"), put("def")}, api.Op{cut(6)}},
		{"Cuts in a row", "abcdef", api.Op{cut(1), cut(2), cut(3)}, api.Op{put("abcdef")}},
		{"Puts and Cuts in turn", "abc", api.Op{put("v"), cut(1), put("wx"), cut(2), put("y")}, api.Op{put("abc"), cut(4)}},
		{"Cuts and Puts in turn", "abcd", api.Op{cut(1), put("v"), cut(2), put("wx"), cut(1)}, api.Op{put("abcd"), cut(3)}},
		{"all of them in pieces", "abcdefgh", api.Op{keep(1), keep(1), cut(1), cut(2), put("x"), put("yz"), keep(1), keep(2)}, api.Op{keep(2), put("cde"), cut(3), keep(3)}},
		{"at both ends", "abcdef", api.Op{cut(1), put("x"), cut(1), keep(1), keep(1), put("y"), cut(1), put("z"), cut(1)}, api.Op{put("ab"), cut(1), keep(2), put("ef"), cut(2)}},
	})
}

func TestOfWhatKeepsAll(t *testing.T) {
	for n := 1; n <= 120; n++ {
		turnAll(t, []turned{{"all kept", text(n), api.Op{keep(n)}, api.Op{keep(n)}}})
		if n > 1 {
			turnAll(t, []turned{{"all kept, in two", text(n), api.Op{keep(n / 2), keep(n - n/2)}, api.Op{keep(n)}}})
		}
	}
}

func TestOfAnyBytes(t *testing.T) {
	for b := range 256 {
		s := string([]byte{byte(b)})
		turnAll(t, []turned{
			{"each byte cut", "x" + s + "y", api.Op{keep(1), cut(1), keep(1)}, api.Op{keep(1), put(s), keep(1)}},
			{"each byte put", "xy", api.Op{keep(1), put(s), keep(1)}, api.Op{keep(1), cut(1), keep(1)}},
		})
	}
	turnAll(t, []turned{
		{"half a rune", "\xc3\xa9", api.Op{keep(1), cut(1)}, api.Op{keep(1), put("\xa9")}},
		{"no rune", "\xff\x00\xfe\x00", api.Op{cut(2), keep(1), cut(1)}, api.Op{put("\xff\x00"), keep(1), put("\x00")}},
	})
}

func TestOfAWrongLength(t *testing.T) {
	for _, o := range []api.Op{
		nil, {}, {put("x")}, {put(text(120))}, {keep(1)}, {cut(1)}, {keep(3)}, {cut(3)}, {keep(120)}, {cut(120)},
		{keep(1), put("abcd"), cut(2)}, {cut(2), put("x"), keep(1)}, {keep(20), put("ab"), cut(30), keep(5), put(text(9)), cut(1)},
		{keep(60), cut(60)}, {put(text(120)), cut(120)}, {cut(120), keep(120)},
	} {
		in := op.In(o)
		for n := range max(130, in+2) {
			got, e := Op(text(n), o)
			if n == in && e != api.OK {
				t.Errorf("P601: %#v of %d bytes: %v", o, n, e)
			}
			if n != in && (e != api.ErrSize || len(got) != 0) {
				t.Errorf("P601, P4: %#v of %d bytes: %#v, %v", o, n, got, e)
			}
		}
	}
	for _, n := range []int{4, 6} { // as many as come out are not as many as go in
		if got, e := Op(text(n), api.Op{keep(3), put("abc"), cut(2)}); e != api.ErrSize || len(got) != 0 {
			t.Errorf("P601: %d bytes: %#v, %v", n, got, e)
		}
	}
}

// TestOfTooMuchComingOut: what is too long for a document can still be undone.
func TestOfTooMuchComingOut(t *testing.T) {
	turnAll(t, []turned{
		{"121 in all", text(120), api.Op{keep(120), put("z")}, api.Op{keep(120), cut(1)}},
		{"4800 put", "", slices.Repeat(api.Op{put(text(120))}, 40), api.Op{cut(4800)}},
		{"4800 cut", text(4800), slices.Repeat(api.Op{cut(120)}, 40), api.Op{put(text(4800))}},
		{"a document of 121", text(121), api.Op{keep(120), cut(1)}, api.Op{keep(120), put(text(121)[120:])}},
	})
}

// holds holds Op of an operation that fits doc against all that is promised of it.
func holds(t *testing.T, doc string, o api.Op) {
	t.Helper()
	back, e := Op(doc, o)
	want, f := plainly(doc, o)
	if e != f || !slices.Equal(back, want) {
		t.Fatalf("P601: %#v of %q: %#v, %v, want %#v, %v", o, doc, back, e, want, f)
	}
	if !normal(back) || !op.Same(back, op.Normal(back)) {
		t.Fatalf("P601, P403: %#v of %q is not normal: %#v", o, doc, back)
	}
	out, _ := applied(doc, o)
	if op.In(back) != len(out) || op.Out(back) != len(doc) {
		t.Fatalf("P601: %#v of %q: %#v is over %d, %d bytes", o, doc, back, op.In(back), op.Out(back))
	}
	if again, _ := applied(out, back); again != doc {
		t.Fatalf("P602: %#v of %q, then %#v: %q", o, doc, back, again)
	}
	if len(out) <= api.MaxText && len(doc) <= api.MaxText {
		if again, e := op.Apply(out, back); again != doc || e != api.OK {
			t.Fatalf("P602: %#v of %q, then %#v: %q, %v", o, doc, back, again, e)
		}
	}
	twice, e := Op(out, back)
	if e != api.OK || !op.Same(twice, op.Normal(o)) {
		t.Fatalf("P602: %#v of %q, turned about twice: %#v, %v", o, doc, twice, e)
	}
}

// TestOfEach: all operations of up to six parts, of each kind two.
func TestOfEach(t *testing.T) {
	for _, o := range each(6, keep(1), keep(2), put("a"), put("bc"), cut(1), cut(2)) {
		holds(t, text(op.In(o)), o)
	}
}

func TestAtRandom(t *testing.T) {
	r := rand.New(rand.NewPCG(6, 601))
	for range 5000 {
		n := r.IntN(121)
		holds(t, anyText(r, n), anyOver(r, n, 30, 1+r.IntN(12)))
	}
	for n := range 121 {
		for range 30 {
			holds(t, anyText(r, n), shortOver(r, n))
		}
	}
	for range 300 {
		n := r.IntN(3000)
		holds(t, anyText(r, n), anyOver(r, n, 200, 120))
	}
}

// TestOfFewLetters: where bytes are alike, what came out may have come of other places too; only those that were kept count.
func TestOfFewLetters(t *testing.T) {
	r := rand.New(rand.NewPCG(6, 602))
	for range 3000 {
		n := r.IntN(40)
		o := anyOver(r, n, 12, 4)
		for i, c := range o {
			o[i].S = strings.Repeat("a", len(c.S))
		}
		holds(t, strings.Repeat("a", n), o)
	}
}

// TestUndoneOneByOne: of several operations, one behind the other, each undone from the last one on.
func TestUndoneOneByOne(t *testing.T) {
	r := rand.New(rand.NewPCG(6, 603))
	for range 500 {
		docs := []string{anyText(r, r.IntN(121))}
		var backs []api.Op
		for range 10 {
			doc := docs[len(docs)-1]
			o := shortOver(r, len(doc))
			out, e := op.Apply(doc, o)
			back, f := Op(doc, o)
			if e != api.OK || f != api.OK {
				t.Fatalf("P601: %#v of %q: %v, %v", o, doc, e, f)
			}
			docs, backs = append(docs, out), append(backs, back)
		}
		doc := docs[len(docs)-1]
		for i := len(backs) - 1; i >= 0; i-- {
			var e api.Errno
			if doc, e = op.Apply(doc, backs[i]); doc != docs[i] || e != api.OK {
				t.Fatalf("P602: %d: %q, %v, want %q", i, doc, e, docs[i])
			}
		}
	}
}

// TestOfMoreThanFortyParts: what was made of valid ones goes in, and is longer than a document.
func TestOfMoreThanFortyParts(t *testing.T) {
	var o, want api.Op
	doc := text(2500)
	for i := range 500 {
		o = append(o, keep(2), cut(1), put("abcd"), cut(2))
		want = append(want, keep(2), put(doc[5*i+2:5*i+5]), cut(4))
	}
	turnAll(t, []turned{
		{"2000 parts", doc, o, want},
		{"2500 Keeps", doc, slices.Repeat(api.Op{keep(1)}, 2500), api.Op{keep(2500)}},
		{"2500 Cuts", doc, slices.Repeat(api.Op{cut(1)}, 2500), api.Op{put(doc)}},
		{"2500 Puts", "", slices.Repeat(api.Op{put("ab")}, 2500), api.Op{cut(5000)}},
		{"one Cut of what was more", doc, api.Op{cut(2400), keep(100)}, api.Op{put(doc[:2400]), keep(100)}},
		{"one Put of what was more", doc, api.Op{keep(2500), put(doc)}, api.Op{keep(2500), cut(2500)}},
	})
	holds(t, doc, o)
	if got, e := Op(doc[1:], o); e != api.ErrSize || len(got) != 0 {
		t.Errorf("P601: a byte too few: %d parts, %v", len(got), e)
	}
}

// TestOfManyBytes: a piece far behind is taken to the byte.
func TestOfManyBytes(t *testing.T) {
	doc := text(1<<24 + 9)
	got, e := Op(doc, api.Op{keep(1<<24 + 3), cut(2), keep(1), cut(1), keep(2)})
	if want := (api.Op{keep(1<<24 + 3), put(doc[1<<24+3 : 1<<24+5]), keep(1), put(doc[1<<24+6 : 1<<24+7]), keep(2)}); e != api.OK || !slices.Equal(got, want) {
		t.Errorf("P601: %#v, %v, want %#v", got, e, want)
	}
}

// FuzzOp looks for an operation that is undone otherwise than byte by byte: each two bytes are a part.
func FuzzOp(f *testing.F) {
	f.Add([]byte("\x02\x00"), []byte("x"))
	f.Add([]byte("\x00\x05\x01\x06\x02\x07\x01a\x00\x01"), []byte("abcdefghij"))
	f.Fuzz(func(t *testing.T, b, letters []byte) {
		var o api.Op
		for ; len(b) > 1; b = b[2:] {
			n := 1 + int(b[1])%120
			o = append(o, [3]api.Comp{keep(n), put(text(200)[n : n+1+n/3]), cut(n)}[b[0]%3])
		}
		if len(letters) != op.In(o) {
			if got, e := Op(string(letters), o); e != api.ErrSize || len(got) != 0 {
				t.Fatalf("P601: %#v of %d bytes: %#v, %v", o, len(letters), got, e)
			}
		}
		doc := []byte(text(op.In(o)))
		copy(doc, letters)
		holds(t, string(doc), o)
	})
}
