package transform

import (
	"math/rand/v2"
	"testing"

	"comitia/api"
	"comitia/compose"
	"comitia/op"
)

// bothHold tells whether a and then y make the same of a document as b and then x.
func bothHold(t *testing.T, doc string, a, b api.Op) {
	t.Helper()
	x, y := pairHolds(t, a, b)
	if op.In(y) != op.Out(a) || op.In(x) != op.Out(b) {
		t.Fatalf("P701: %#v beside %#v: %#v does not fit behind b, or %#v not behind a", a, b, x, y)
	}
	one, other := applied(applied(doc, a), y), applied(applied(doc, b), x)
	if one != other {
		t.Fatalf("P703: %q: %#v, then %#v: %q; %#v, then %#v: %q", doc, a, y, one, b, x, other)
	}
	ay, e := compose.Two(a, y)
	bx, f := compose.Two(b, x)
	if e != api.OK || f != api.OK || !op.Same(ay, bx) {
		t.Fatalf("P703: %#v beside %#v: of any document: %#v, %v, or %#v, %v", a, b, ay, e, bx, f)
	}
}

// applyHolds is the same by op.Apply, of a document that stays one all the way.
func applyHolds(t *testing.T, doc string, a, b api.Op) {
	t.Helper()
	x, y, e := Pair(a, b)
	p, e1 := op.Apply(doc, a)
	q, e2 := op.Apply(doc, b)
	one, e3 := op.Apply(p, y)
	other, e4 := op.Apply(q, x)
	for _, f := range []api.Errno{e, e1, e2, e3, e4} {
		if f != api.OK {
			t.Fatalf("P703: %q: %#v beside %#v: %v", doc, a, b, f)
		}
	}
	if one != other {
		t.Fatalf("P703: %q: %#v, then %#v: %q; %#v, then %#v: %q", doc, a, y, one, b, x, other)
	}
}

// shortOver is a valid operation over in bytes that puts no more than most in all.
func shortOver(r *rand.Rand, in, most int) api.Op {
	o := anyOver(r, in, 30, 1+r.IntN(8))
	for i := len(o) - 1; i >= 0; i-- {
		if most -= len(o[i].S); most < 0 {
			most += len(o[i].S)
			o = append(o[:i:i], o[i+1:]...)
		}
	}
	return o
}

func TestBothComeTogether(t *testing.T) {
	r := rand.New(rand.NewPCG(7, 703))
	for n := range 121 {
		for range 100 {
			doc := anyText(r, n)
			a, b := shortOver(r, n, (120-n)/2), shortOver(r, n, (120-n)/2)
			bothHold(t, doc, a, b)
			applyHolds(t, doc, a, b)
		}
	}
}

// TestBothComeTogetherAtTheLongest: documents of 120 bytes, by op.Apply where they get no longer.
func TestBothComeTogetherAtTheLongest(t *testing.T) {
	r := rand.New(rand.NewPCG(7, 704))
	tried := 0
	for range 3000 {
		doc := anyText(r, 120)
		a, b := anyOver(r, 120, 30, 1+r.IntN(20)), anyOver(r, 120, 30, 1+r.IntN(20))
		bothHold(t, doc, a, b)
		_, y, _ := Pair(a, b)
		if op.Out(a) <= 120 && op.Out(b) <= 120 && op.Out(y) <= 120 {
			applyHolds(t, doc, a, b)
			tried++
		}
	}
	applyHolds(t, text(120), api.Op{put(text(60)), cut(120)}, api.Op{cut(120), put(text(60)[1:])})
	applyHolds(t, text(120), api.Op{cut(60), keep(60), put(text(30))}, api.Op{put(text(31)), cut(61), keep(59)})
	if tried < 100 {
		t.Errorf("tried only %d", tried)
	}
}

func TestBothComeTogetherOfNoByte(t *testing.T) {
	r := rand.New(rand.NewPCG(7, 705))
	for _, a := range []api.Op{nil, {put("a")}, {put(text(60))}, {put("b"), put("cd")}} {
		for _, b := range []api.Op{nil, {}, {put("x")}, {put(anyText(r, 60))}, {put("\x00"), put("\xff")}} {
			bothHold(t, "", a, b)
			applyHolds(t, "", a, b)
			bothHold(t, "", b, a)
			applyHolds(t, "", b, a)
		}
	}
}

// TestBothOfEach: all operations of up to three parts beside all such ones.
func TestBothOfEach(t *testing.T) {
	other := byIn(each(3, keep(1), keep(2), put("x"), put("yz"), cut(1), cut(2)))
	for _, a := range each(3, keep(1), keep(2), put("a"), put("bc"), cut(1), cut(2)) {
		doc := text(op.In(a))
		for _, b := range other[len(doc)] {
			bothHold(t, doc, a, b)
			applyHolds(t, doc, a, b)
		}
	}
}

// TestWhatIsMeantComesThrough: whichever is first, one's own texts and Cuts come through, but for what the other cut already.
func TestWhatIsMeantComesThrough(t *testing.T) {
	doc := "the quick fox"
	a := api.Op{keep(4), cut(5), put("slow"), keep(4)}
	b := api.Op{keep(10), put("red "), keep(3), put("!")}
	x, y, e := Pair(a, b)
	if e != api.OK {
		t.Fatalf("P701: %v", e)
	}
	if got := applied(applied(doc, a), y); got != "the slow red fox!" {
		t.Errorf("P703: %q", got)
	}
	if got := applied(applied(doc, b), x); got != "the slow red fox!" {
		t.Errorf("P703: %q", got)
	}
}
