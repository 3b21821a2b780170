package sign

import (
	"math"
	"slices"
	"strings"
	"testing"

	"comitia/api"
	"comitia/delta"
)

func TestBytesByteForByte(t *testing.T) {
	for _, e := range []api.Entry{{}, {Hash: sum(1)}, {Mac: sum(1)}, done(), {S: plainSigned(add(0)), At: 39, Hash: sum(2), Mac: sum(3)},
		{At: -7, Op: api.Op{{Kind: 9}}}, {Op: rows(255, put(text(120)))}, {S: api.Signed{Body: []byte(text(70000))}, Hash: sum(200), Mac: sum(100)}} {
		if got, want := string(Bytes(e)), plainCore(e)+string(e.Hash[:])+string(e.Mac[:]); got != want {
			t.Errorf("P903: Bytes of %d bytes, want %d: %x", len(got), len(want), got[:min(len(got), 200)])
		}
	}
	noughts := api.Entry{Hash: sum('A'), Mac: sum('a')}
	want := "\x00\x00" + noughts32 + noughts8 + emptyOpText + "ABCDEFGHIJKLMNOPQRSTUVWXYZ[\\]^_`" + "abcdefghijklmnopqrstuvwxyz{|}~\x7f\x80"
	if got := string(Bytes(noughts)); got != want {
		t.Errorf("P903: Bytes of an entry of noughts: %x", got)
	}
}

// read holds what Parse answers against what it must.
func read(t *testing.T, what, b string, want api.Entry) {
	t.Helper()
	if got, e := Parse([]byte(b)); e != api.OK || !alike(got, want) {
		t.Errorf("P903: Parse, %s: %#v, %v, want %#v", what, got, e, want)
	}
}

// refused holds Parse's error against what it must be; beside it nothing is answered.
func refused(t *testing.T, what, b string, want api.Errno) {
	t.Helper()
	got, e := Parse([]byte(b))
	if e != want {
		t.Errorf("P903: Parse, %s: %v, want %v", what, e, want)
	}
	if got.S.Body != nil || got.Op != nil || !alike(got, api.Entry{}) {
		t.Errorf("P4: Parse, %s: %#v beside an error", what, got)
	}
}

func TestParse(t *testing.T) {
	for _, e := range []api.Entry{done(), {}, {S: plainSigned(remove(2)), At: 39, Hash: sum(2), Mac: sum(3)}} {
		read(t, "what was written", plainBytes(e), e)
		for what, x := range map[string]api.Entry{
			"no Op":        with(e, func(e *api.Entry) { e.Op = nil }),
			"40 parts":     with(e, func(e *api.Entry) { e.Op = rows(40, put(text(120))) }),
			"one part":     with(e, func(e *api.Entry) { e.Op = api.Op{cut(120)} }),
			"no sign":      with(e, func(e *api.Entry) { e.Mac = api.Hash{} }),
			"no hash":      with(e, func(e *api.Entry) { e.Hash = api.Hash{} }),
			"S of noughts": with(e, func(e *api.Entry) { e.S = api.Signed{} }),
		} {
			read(t, what, plainBytes(x), x)
		}
	}
	for _, at := range []int{0, 1, 39, 40, 41, 255, 256, 1 << 32, math.MaxInt} {
		e := with(done(), func(e *api.Entry) { e.At = at })
		read(t, "At", plainBytes(e), e)
	}
	for i := range 32 {
		for _, e := range []api.Entry{with(done(), func(e *api.Entry) { e.Hash[i]++ }), with(done(), func(e *api.Entry) { e.Mac[i]++ }), with(done(), func(e *api.Entry) { e.S.Mac[i]++ })} {
			read(t, "a hash or a sign with a byte turned", plainBytes(e), e)
		}
	}
}

// TestParseOfABodyOfAnyBytes: it is not looked into.
func TestParseOfABodyOfAnyBytes(t *testing.T) {
	bodies := []string{"", "\x00", "no delta", noughts32, text(255), text(256), text(257), text(65534), text(65535), strings.Repeat("\xff", 65535), string(delta.Bytes(edit(2))[:9]), string(delta.Bytes(edit(2))) + "\x00"}
	for body := range badBodies() {
		bodies = append(bodies, body[:min(len(body), 65535)])
	}
	for b := range 256 {
		bodies = append(bodies, string([]byte{byte(b)}))
	}
	for _, body := range bodies {
		e := with(done(), func(e *api.Entry) { e.S.Body = []byte(body) })
		read(t, "a body of any bytes", plainBytes(e), e)
	}
}

func TestParseCutOffAndMore(t *testing.T) {
	if e, f := Parse(nil); f != api.ErrCut || !alike(e, api.Entry{}) {
		t.Errorf("P903: Parse of nil: %#v, %v", e, f)
	}
	refused(t, "no bytes", "", api.ErrCut)
	for _, e := range []api.Entry{done(), {}, with(done(), func(e *api.Entry) { e.At = -1 }), with(done(), func(e *api.Entry) { e.Op = api.Op{{Kind: 9}} }), with(done(), func(e *api.Entry) { e.Op = rows(41, keep(1)) })} {
		whole := plainBytes(e)
		for n := range len(whole) {
			refused(t, "cut off", whole[:n], api.ErrCut)
		}
		for _, more := range []string{"\x00", "\x01", "\xff", noughts8, noughts32, whole} {
			refused(t, "with more behind", whole+more, api.ErrMore)
		}
	}
}

// badTexts are operations' texts that delta.OpParse refuses, and by which error.
func badTexts() map[string]api.Errno {
	whole := plainOp(done().Op)
	return map[string]api.Errno{
		"":                                     api.ErrCut,
		whole[:1]:                              api.ErrCut,
		whole[:len(whole)-1]:                   api.ErrCut,
		"\x02" + whole[1:]:                     api.ErrMore,
		whole + "\x00":                         api.ErrMore,
		"\x00\x00":                             api.ErrMore,
		"\x29":                                 api.ErrMany,
		"\xff" + whole[1:]:                     api.ErrMany,
		plainOp(rows(41, keep(1))):             api.ErrMany,
		plainOp(rows(255, put("x"))):           api.ErrMany,
		plainOp(api.Op{{}}):                    api.ErrKind,
		plainOp(api.Op{keep(1), {Kind: 4}}):    api.ErrKind,
		plainOp(api.Op{keep(0)}):               api.ErrArg,
		plainOp(api.Op{put("")}):               api.ErrArg,
		plainOp(api.Op{cut(121)}):              api.ErrArg,
		plainOp(api.Op{put(text(121))}):        api.ErrLong,
		"\x28" + strings.Repeat("\x00", 65000): api.ErrMore,
	}
}

func TestParseWhatOpParseRefuses(t *testing.T) {
	for inside, want := range badTexts() {
		if _, e := delta.OpParse([]byte(inside)); e != want {
			t.Fatalf("the test is wrong: %.200x: %v, want %v", inside, e, want)
		}
		for _, e := range []api.Entry{done(), {}, {S: api.Signed{Body: []byte("no delta")}}} {
			for _, at := range []int{0, 5, -1, math.MinInt} {
				e.At = at
				whole := plainAround(e, inside) + string(e.Hash[:]) + string(e.Mac[:])
				refused(t, "an operation's text", whole, want)
				refused(t, "an operation's text, cut behind it", whole[:len(whole)-1], api.ErrCut)
				refused(t, "an operation's text, more behind it", whole+"\x00", api.ErrMore)
			}
		}
	}
}

func TestParseOfAtBelowNought(t *testing.T) {
	for _, at := range []int{-1, -2, -256, -1 << 32, math.MinInt, math.MinInt + 1} {
		for _, e := range []api.Entry{done(), {}, {S: api.Signed{Body: []byte("no delta")}}} {
			e.At = at
			refused(t, "At below 0", plainBytes(e), api.ErrArg)
			refused(t, "At below 0, more behind", plainBytes(e)+"\x00", api.ErrMore)
			e.Op = api.Op{{Kind: 7}}
			refused(t, "At below 0, an operation that may not be", plainBytes(e), api.ErrKind)
		}
	}
}

// TestParseOfLengthsThatDoNotFit: the texts' lengths say where all that is behind stands.
func TestParseOfLengthsThatDoNotFit(t *testing.T) {
	e := done()
	whole := plainBytes(e)
	opAt := 2 + len(e.S.Body) + 32 + 8
	sized := func(at, n int) string {
		return whole[:at] + string([]byte{byte(n), byte(n >> 8)}) + whole[at+2:]
	}
	read(t, "as it is", sized(0, len(e.S.Body)), e)
	read(t, "as it is", sized(opAt, len(plainOp(e.Op))), e)
	refused(t, "a Body too long", sized(0, 65535), api.ErrCut)
	size := len(plainOp(e.Op))
	for _, n := range []int{0, 1, size - 1} {
		refused(t, "an operation's text too short", sized(opAt, n), api.ErrMore)
	}
	for _, n := range []int{size + 1, size + 256, 65535} {
		refused(t, "an operation's text too long", sized(opAt, n), api.ErrCut)
	}
}

func TestSameOfEntriesThatDifferInOneThing(t *testing.T) {
	odd := api.Entry{S: api.Signed{Body: []byte("no delta")}, At: -3, Op: rows(300, api.Comp{Kind: 9})}
	odd.Op[0].N = 5
	for _, e := range []api.Entry{done(), {S: plainSigned(add(0)), Op: api.Op{keep(1), cut(1)}}, odd} {
		for what, x := range changed(e) {
			if Same(e, x) || Same(x, e) {
				t.Errorf("P903: Same: %s", what)
			}
			if !Same(x, x) {
				t.Errorf("P903: not Same as itself: %s", what)
			}
		}
	}
}

// TestSameOfEntriesThatDifferInSomeThings: in none, in each one, in each two, .. in all.
func TestSameOfEntriesThatDifferInSomeThings(t *testing.T) {
	fields := []func(e *api.Entry){
		func(e *api.Entry) { e.S.Body[3]++ }, func(e *api.Entry) { e.S.Mac[3]++ }, func(e *api.Entry) { e.At++ },
		func(e *api.Entry) { e.Op[1].S = "yx" }, func(e *api.Entry) { e.Hash[3]++ }, func(e *api.Entry) { e.Mac[3]++ },
	}
	for set := range 1 << len(fields) {
		x := with(done(), func(e *api.Entry) {
			for i, change := range fields {
				if set>>i&1 == 1 {
					change(e)
				}
			}
		})
		if Same(x, done()) != (set == 0) || Same(done(), x) != (set == 0) {
			t.Errorf("P903: Same: the fields %06b differ: %v", set, set != 0)
		}
	}
}

// TestSameOfWhatIsWrittenAlike: Same looks at all, also at what the bytes leave out.
func TestSameOfWhatIsWrittenAlike(t *testing.T) {
	long := api.Entry{S: api.Signed{Body: []byte(text(70000))}}
	for what, x := range map[string]api.Entry{
		"a byte of a long Body turned": with(long, func(e *api.Entry) { e.S.Body[69999]++ }),
		"a long Body, a byte less":     with(long, func(e *api.Entry) { e.S.Body = e.S.Body[:69999] }),
		"a long Body, a byte more":     with(long, func(e *api.Entry) { e.S.Body = append(e.S.Body, 1) }),
	} {
		if string(Bytes(x)) != string(Bytes(long)) || Same(x, long) || Same(long, x) {
			t.Errorf("P903: Same: %s", what)
		}
	}
	a, b := api.Entry{Op: rows(2, keep(1))}, api.Entry{Op: rows(2, keep(1))}
	b.Op[1].Kind += 256
	if Same(a, b) || Same(b, a) {
		t.Error("P903: Same: a Kind and 256 more")
	}
}

// copied is e in memory of its own, with spare room.
func copied(e api.Entry) api.Entry {
	e.S.Body = append(make([]byte, 0, len(e.S.Body)+5), e.S.Body...)
	o := make(api.Op, 0, len(e.Op)+3)
	for _, c := range e.Op {
		c.S = strings.Clone(c.S)
		o = append(o, c)
	}
	e.Op = o
	return e
}

func TestSameOfCopies(t *testing.T) {
	for _, e := range []api.Entry{{}, done(), {At: math.MinInt, Op: rows(300, api.Comp{Kind: -9})}, {S: api.Signed{Body: []byte(text(70000))}}} {
		if x := copied(e); !Same(e, x) || !Same(x, e) || !Same(e, e) {
			t.Errorf("P903: not Same as its copy: %#v", e)
		}
	}
}

// TestNoListIsAnEmptyOne: nil and an empty one are the same, wherever they stand.
func TestNoListIsAnEmptyOne(t *testing.T) {
	bodies, ops := [][]byte{nil, {}, make([]byte, 0, 5)}, []api.Op{nil, {}, make(api.Op, 0, 5)}
	want := Entry(keys(), 1, sum(1), api.Signed{Mac: sum(2)}, 3, nil)
	for _, b := range bodies {
		for _, o := range ops {
			e := want
			e.S.Body, e.Op = b, o
			if !Same(e, want) || !Same(want, e) || !Check(keys(), 1, e) || !slices.Equal(Core(e), Core(want)) || !slices.Equal(Bytes(e), Bytes(want)) {
				t.Errorf("P2: no list and an empty one are not the same: %#v", e)
			}
			if got := Entry(keys(), 1, sum(1), api.Signed{Body: b, Mac: sum(2)}, 3, o); !Same(got, want) {
				t.Errorf("P2: Entry: %#v", got)
			}
		}
		shut(t, "no body or an empty one", keys(), api.Signed{Body: b}, api.ErrCut)
		d := api.Delta{Kind: api.Edit}
		for _, o := range ops {
			d.Op = o
			if s := Delta(api.Keys{b, nil, nil}, d); s.Mac != plainMac(nil, string(delta.Bytes(d))) {
				t.Errorf("P2: Delta without a key: %#v", s)
			}
		}
	}
}
