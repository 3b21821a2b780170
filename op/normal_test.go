package op

import (
	"math/rand/v2"
	"slices"
	"strings"
	"testing"

	"comitia/api"
)

func TestNormal(t *testing.T) {
	for _, x := range []struct {
		what    string
		o, want api.Op
	}{
		{"nil", nil, nil},
		{"empty", api.Op{}, nil},
		{"a Keep", api.Op{keep(5)}, api.Op{keep(5)}},
		{"a Put", api.Op{put("a")}, api.Op{put("a")}},
		{"a Cut", api.Op{cut(5)}, api.Op{cut(5)}},
		{"Keeps in a row", api.Op{keep(1), keep(2), keep(4)}, api.Op{keep(7)}},
		{"Puts in a row", api.Op{put("a"), put("bc"), put("\xff\x00")}, api.Op{put("abc\xff\x00")}},
		{"Cuts in a row", api.Op{cut(1), cut(2), cut(4)}, api.Op{cut(7)}},
		{"Put, Cut", api.Op{put("a"), cut(1)}, api.Op{put("a"), cut(1)}},
		{"Cut, Put", api.Op{cut(1), put("a")}, api.Op{put("a"), cut(1)}},
		{"Keep, Put", api.Op{keep(1), put("a")}, api.Op{keep(1), put("a")}},
		{"Put, Keep", api.Op{put("a"), keep(1)}, api.Op{put("a"), keep(1)}},
		{"Keep, Cut", api.Op{keep(1), cut(1)}, api.Op{keep(1), cut(1)}},
		{"Cut, Keep", api.Op{cut(1), keep(1)}, api.Op{cut(1), keep(1)}},
		{"Cut, Put, Cut", api.Op{cut(1), put("a"), cut(2)}, api.Op{put("a"), cut(3)}},
		{"Put, Cut, Put", api.Op{put("a"), cut(1), put("b")}, api.Op{put("ab"), cut(1)}},
		{"a Put between Keeps", api.Op{keep(1), put("a"), keep(2)}, api.Op{keep(1), put("a"), keep(2)}},
		{"a Cut between Keeps", api.Op{keep(1), cut(1), keep(1)}, api.Op{keep(1), cut(1), keep(1)}},
		{"turned round ahead of a Keep", api.Op{cut(1), put("b"), keep(1)}, api.Op{put("b"), cut(1), keep(1)}},
		{"turned round between Keeps", api.Op{keep(1), cut(2), put("b"), keep(3)}, api.Op{keep(1), put("b"), cut(2), keep(3)}},
		{"turned round behind a Keep", api.Op{keep(1), cut(2), put("b")}, api.Op{keep(1), put("b"), cut(2)}},
		{"what is of the form already", api.Op{put("a"), cut(1), keep(2), put("b"), keep(1), cut(3), keep(1), put("c"), cut(1)}, api.Op{put("a"), cut(1), keep(2), put("b"), keep(1), cut(3), keep(1), put("c"), cut(1)}},
		{"many in each place", api.Op{put("a"), cut(1), put("b"), cut(2), keep(1), keep(1), cut(1), cut(1), put("c"), keep(1), put("d"), put("e"), keep(2), cut(3), put("f"), cut(1), put("g")}, api.Op{put("ab"), cut(3), keep(2), put("c"), cut(2), keep(1), put("de"), keep(2), put("fg"), cut(4)}},
		{"what cuts just as many as it puts", api.Op{put("ab"), cut(2), keep(1)}, api.Op{put("ab"), cut(2), keep(1)}},
		{"more than 120 kept", api.Op{keep(120), keep(120)}, api.Op{keep(240)}},
		{"more than 120 cut", api.Op{cut(120), put("x"), cut(120)}, api.Op{put("x"), cut(240)}},
		{"more than 120 put", api.Op{put(text(120)), cut(1), put(text(120))}, api.Op{put(text(120) + text(120)), cut(1)}},
	} {
		if got := Normal(x.o); !slices.Equal(got, x.want) {
			t.Errorf("P403: %s: %#v, want %#v", x.what, got, x.want)
		}
		if got := Normal(x.want); !slices.Equal(got, x.want) {
			t.Errorf("P404: %s: Normal of Normal: %#v, want %#v", x.what, got, x.want)
		}
	}
}

func TestExampleOne(t *testing.T) {
	if got := Normal(api.Op{cut(1), put("x"), put("y")}); !slices.Equal(got, api.Op{put("xy"), cut(1)}) {
		t.Errorf("P403: example 1: %#v", got)
	}
}

func TestNormalOfMoreThanFortyParts(t *testing.T) {
	var o, want api.Op
	for i := range 500 {
		s := text(200)[i%100 : i%100+3]
		o = append(o, keep(1), keep(1+i), cut(2), put(s), put("-"), cut(i+1))
		want = append(want, keep(2+i), put(s+"-"), cut(3+i))
	}
	if got := Normal(o); !slices.Equal(got, want) {
		t.Errorf("P403: 3000 parts: %d parts", len(got))
	}
	if got := Normal(want); !slices.Equal(got, want) {
		t.Errorf("P404: 1500 parts: %d parts", len(got))
	}
	for _, c := range []api.Comp{keep(3), cut(3)} {
		if got := Normal(rows(5000, c)); len(got) != 1 || got[0] != (api.Comp{Kind: c.Kind, N: 15000}) {
			t.Errorf("P403: 5000 of kind %d: %#v", c.Kind, got)
		}
	}
	if got := Normal(rows(5000, put("ab"))); len(got) != 1 || got[0] != put(strings.Repeat("ab", 5000)) {
		t.Errorf("P403: 5000 Puts: %d parts", len(got))
	}
}

// written tells whether an operation is written as Normal's are.
func written(o api.Op) bool {
	for i, c := range o {
		if c.Kind == api.Put && (c.S == "" || c.N != 0) || c.Kind != api.Put && (c.N < 1 || c.S != "") {
			return false
		}
		if i > 0 && (o[i-1].Kind == c.Kind || o[i-1].Kind == api.Cut && c.Kind == api.Put) {
			return false
		}
	}
	return true
}

// normalHolds holds Normal of a valid operation against all that is promised of it.
func normalHolds(t *testing.T, o api.Op) {
	t.Helper()
	n := Normal(o)
	if !written(n) {
		t.Fatalf("P403: %#v is written %#v", o, n)
	}
	if In(n) != In(o) || Out(n) != Out(o) {
		t.Fatalf("P404: %#v is over %d, %d bytes, %#v over %d, %d", o, In(o), Out(o), n, In(n), Out(n))
	}
	doc := text(In(o))
	if plainly(doc, n) != plainly(doc, o) {
		t.Fatalf("P404: %#v does not the same as %#v", n, o)
	}
	a, e := Apply(doc, o)
	b, f := Apply(doc, n)
	if a != b || e != f {
		t.Fatalf("P404: %#v makes %q, %v; %#v %q, %v", o, a, e, n, b, f)
	}
	// What stays of the document says where: two that make one text by chance would not keep the same places.
	if !slices.Equal(places(o), places(n)) {
		t.Fatalf("P404: %#v keeps other places than %#v", n, o)
	}
	if again := Normal(n); !Same(again, n) {
		t.Fatalf("P404: Normal of %#v is %#v", n, again)
	}
	if written(o) != Same(o, n) {
		t.Fatalf("P403: %#v was of the form, %v, but is written %#v", o, written(o), n)
	}
}

// places is of each byte that comes out where in the document it stood; -1 if it was put.
func places(o api.Op) []int {
	var out []int
	at := 0
	for _, c := range o {
		switch c.Kind {
		case api.Keep:
			for range c.N {
				out = append(out, at)
				at++
			}
		case api.Put:
			out = append(out, slices.Repeat([]int{-1}, len(c.S))...)
		case api.Cut:
			at += c.N
		}
	}
	return out
}

// TestNormalOfEachOrder: all operations of up to six parts, of each kind two.
func TestNormalOfEachOrder(t *testing.T) {
	parts := []api.Comp{keep(1), keep(2), put("a"), put("bc"), cut(1), cut(2)}
	var all func(o api.Op)
	all = func(o api.Op) {
		normalHolds(t, o)
		if len(o) == 6 {
			return
		}
		for _, c := range parts {
			all(append(o[:len(o):len(o)], c))
		}
	}
	all(nil)
}

func TestNormalAtRandom(t *testing.T) {
	r := rand.New(rand.NewPCG(4, 403))
	for range 3000 {
		normalHolds(t, anyOp(r, 40, 1+r.IntN(5)))
	}
	for range 300 {
		normalHolds(t, anyOp(r, 200, 120))
	}
}

// TestNormalIsTheOneWay: operations that keep the same places, put the same and cut the same are written the same, however they were cut into parts.
func TestNormalIsTheOneWay(t *testing.T) {
	r := rand.New(rand.NewPCG(4, 404))
	for range 2000 {
		o := anyOp(r, 12, 6)
		if got := Normal(apart(r, o)); !Same(got, Normal(o)) {
			t.Fatalf("P403: %#v: %#v", o, got)
		}
	}
}

// apart cuts parts into smaller ones, and turns some Puts and Cuts that stand side by side round.
func apart(r *rand.Rand, o api.Op) api.Op {
	var out api.Op
	for _, c := range o {
		for size := max(c.N, len(c.S)); size > 0; {
			n := 1 + r.IntN(size)
			if c.Kind == api.Put {
				out = append(out, put(c.S[len(c.S)-size:len(c.S)-size+n]))
			} else {
				out = append(out, api.Comp{Kind: c.Kind, N: n})
			}
			size -= n
		}
	}
	for range 3 * len(out) {
		i := r.IntN(len(out))
		if i > 0 && out[i].Kind+out[i-1].Kind == api.Put+api.Cut {
			out[i], out[i-1] = out[i-1], out[i]
		}
	}
	return out
}

// FuzzNormal looks for an operation whose Normal is not as promised: each two bytes are a part.
func FuzzNormal(f *testing.F) {
	f.Add([]byte("\x02\x01\x01x\x01y"))
	f.Add([]byte("\x00\x05\x00\x06\x02\x07\x01a\x00\x01"))
	f.Fuzz(func(t *testing.T, b []byte) {
		var o api.Op
		for ; len(b) > 1; b = b[2:] {
			n := 1 + int(b[1])%120
			o = append(o, [3]api.Comp{keep(n), put(text(200)[n : n+1+n/3]), cut(n)}[b[0]%3])
		}
		normalHolds(t, o)
	})
}
