package sign

import (
	"math"
	"math/rand/v2"
	"strings"
	"testing"

	"comitia/api"
	"comitia/sha"
)

const (
	noughts32   = "\x00\x00\x00\x00\x00\x00\x00\x00\x00\x00\x00\x00\x00\x00\x00\x00\x00\x00\x00\x00\x00\x00\x00\x00\x00\x00\x00\x00\x00\x00\x00\x00"
	noughts8    = "\x00\x00\x00\x00\x00\x00\x00\x00"
	emptyOpText = "\x01\x00\x00"
)

// cored holds what Core answers against what it must.
func cored(t *testing.T, what string, e api.Entry, want string) {
	t.Helper()
	if got := Core(e); string(got) != want {
		t.Errorf("P902: Core, %s: %d bytes, want %d: %x", what, len(got), len(want), got[:min(len(got), 200)])
	}
}

func TestCoreByteForByte(t *testing.T) {
	e := api.Entry{S: api.Signed{Body: []byte("any"), Mac: sum(0x41)}, At: 0x0102, Op: api.Op{keep(258), put("hi"), cut(4)}, Hash: sum(7), Mac: sum(8)}
	cored(t, "all fields", e, "\x03\x00any"+"ABCDEFGHIJKLMNOPQRSTUVWXYZ[\\]^_`"+"\x02\x01\x00\x00\x00\x00\x00\x00"+
		"\x24\x00"+"\x03"+"\x01\x02\x01\x00\x00\x00\x00\x00\x00\x00\x00"+"\x02"+noughts8+"\x02\x00hi"+"\x03\x04\x00\x00\x00\x00\x00\x00\x00\x00\x00")
	cored(t, "noughts", api.Entry{}, "\x00\x00"+noughts32+noughts8+emptyOpText)
}

// TestCoreOfEachField: of noughts but for one field; also of what no host would make.
func TestCoreOfEachField(t *testing.T) {
	for _, s := range []string{"", "\x00", "body", text(255), text(256), text(5000), text(65535)} {
		cored(t, "Body", api.Entry{S: api.Signed{Body: []byte(s)}}, string([]byte{byte(len(s)), byte(len(s) >> 8)})+s+noughts32+noughts8+emptyOpText)
	}
	for i := range 32 {
		var e api.Entry
		e.S.Mac[i] = 0xa5
		cored(t, "a byte of S.Mac", e, "\x00\x00"+noughts32[:i]+"\xa5"+noughts32[i+1:]+noughts8+emptyOpText)
	}
	for n, want := range map[int]string{1: "\x01\x00\x00\x00\x00\x00\x00\x00", 256: "\x00\x01\x00\x00\x00\x00\x00\x00", -2: "\xfe\xff\xff\xff\xff\xff\xff\xff",
		0x0102030405060708: "\x08\x07\x06\x05\x04\x03\x02\x01", math.MaxInt: "\xff\xff\xff\xff\xff\xff\xff\x7f", math.MinInt: "\x00\x00\x00\x00\x00\x00\x00\x80"} {
		cored(t, "At", api.Entry{At: n}, "\x00\x00"+noughts32+want+emptyOpText)
	}
	for _, o := range []api.Op{nil, {}, {keep(1)}, {{}}, {{Kind: -3, N: -1, S: "x"}}, {keep(0), put("")}, rows(40, cut(120)), rows(41, keep(1)), rows(255, put("x")), rows(255, put(text(120)))} {
		s := plainOp(o)
		cored(t, "Op", api.Entry{Op: o}, "\x00\x00"+noughts32+noughts8+string([]byte{byte(len(s)), byte(len(s) >> 8)})+s)
	}
}

// TestCoreOfLongTexts: a text is written by code, of one of more than 65535 bytes its first 65535.
func TestCoreOfLongTexts(t *testing.T) {
	for _, n := range []int{65534, 65535, 65536, 65537, 70000, 1 << 20} {
		s := text(n)
		front := s[:min(n, 65535)]
		size := string([]byte{byte(len(front)), byte(len(front) >> 8)})
		cored(t, "a long Body", api.Entry{S: api.Signed{Body: []byte(s)}}, size+front+noughts32+noughts8+emptyOpText)
		o := api.Op{put(s)}
		cored(t, "a long Op", api.Entry{Op: o}, "\x00\x00"+noughts32+noughts8+plainText(plainOp(o)))
	}
	o := rows(255, put(text(300)))
	cored(t, "a long Op of 255 parts", api.Entry{Op: o}, "\x00\x00"+noughts32+noughts8+"\xff\xff"+plainOp(o)[:65535])
}

func TestCoreLeavesOutHashAndMac(t *testing.T) {
	for _, e := range []api.Entry{{}, done()} {
		want := string(Core(e))
		for i := range 32 {
			cored(t, "Hash turned", with(e, func(e *api.Entry) { e.Hash[i]++ }), want)
			cored(t, "Mac turned", with(e, func(e *api.Entry) { e.Mac[i]++ }), want)
		}
	}
}

// entered holds what Entry answers against what it must.
func entered(t *testing.T, k api.Keys, host int, prev api.Hash, s api.Signed, at int, o api.Op) {
	t.Helper()
	got, want := Entry(k, host, prev, s, at, o), plainEntry(k, host, prev, s, at, o)
	if !alike(got, want) {
		t.Errorf("P902: Entry of host %d, %x, %#v, %d, %#v: %#v, want %#v", host, prev, s, at, o, got, want)
	}
	for h := -2; h < 6; h++ {
		if Check(k, h, got) != (h == host) {
			t.Errorf("P904: host %d's entry, Check of host %d: %v", host, h, h != host)
		}
	}
}

func TestEntryOfEachHost(t *testing.T) {
	for _, k := range manyKeys() {
		for host := range 3 {
			entered(t, k, host, api.Hash{}, api.Signed{}, 0, nil)
			for _, d := range valid() {
				entered(t, k, host, sum(3), Delta(k, d), 12, d.Op)
			}
		}
	}
}

// TestEntryOfAnyFields: Entry looks into none of them.
func TestEntryOfAnyFields(t *testing.T) {
	for host := range 3 {
		for _, at := range []int{0, 1, 39, 40, -1, math.MaxInt, math.MinInt} {
			entered(t, keys(), host, sum(3), plainSigned(edit(2)), at, api.Op{keep(1)})
		}
		for _, o := range []api.Op{nil, {}, {{}}, {{Kind: -3, N: -1, S: "x"}}, rows(41, keep(1)), rows(255, put(text(300)))} {
			entered(t, keys(), host, sum(3), plainSigned(edit(2)), 4, o)
		}
		for _, s := range []api.Signed{{}, {Body: []byte("no delta")}, {Mac: sum(1)}, {Body: []byte(text(65535)), Mac: sum(2)}, {Body: []byte(text(70000))}} {
			entered(t, keys(), host, sum(3), s, 4, api.Op{cut(1)})
		}
		for i := range 32 {
			prev := api.Hash{}
			prev[i] = 1
			entered(t, keys(), host, prev, plainSigned(add(1)), 4, nil)
		}
	}
}

// TestEntryThatOthersTell: what another program made of the same bytes.
func TestEntryThatOthersTell(t *testing.T) {
	e := Entry(keys(), 1, sum(50), Delta(keys(), edit(2)), 3001, api.Op{keep(1), put("xy"), cut(3)})
	hash, mac := "ee95ccec2dc27e0523ef011394c8b4fd50d8c2141b06bf5da626919d5fba4b1a", "3674a76231e21fc8c93162ed1e627b23868a1c197c477a03e9b6bc7a1b8002cf"
	if sha.Hex(e.Hash) != hash || sha.Hex(e.Mac) != mac {
		t.Errorf("P902: Entry: %s, %s", sha.Hex(e.Hash), sha.Hex(e.Mac))
	}
}

// TestEachArgumentOfEntryCounts: hash and sign are others where anything is.
func TestEachArgumentOfEntryCounts(t *testing.T) {
	type args struct {
		k    api.Keys
		host int
		prev api.Hash
		s    api.Signed
		at   int
		o    api.Op
	}
	base := func() args { return args{keys(), 1, sum(50), plainSigned(edit(2)), 7, api.Op{keep(1), put("xy")}} }
	made := func(a args) api.Entry { return Entry(a.k, a.host, a.prev, a.s, a.at, a.o) }
	was := made(base())
	for what, change := range map[string]func(a *args){
		"prev": func(a *args) { a.prev[31]++ }, "Body": func(a *args) { a.s.Body[9]++ }, "S.Mac": func(a *args) { a.s.Mac[31]++ },
		"at": func(a *args) { a.at++ }, "an N": func(a *args) { a.o[0].N++ }, "an S": func(a *args) { a.o[1].S = "xz" }, "a part less": func(a *args) { a.o = a.o[:1] },
	} {
		a := base()
		change(&a)
		if got := made(a); got.Hash == was.Hash || got.Mac == was.Mac {
			t.Errorf("P902: %s does not count", what)
		}
	}
	for what, change := range map[string]func(a *args){
		"host": func(a *args) { a.host = 2 }, "its key": func(a *args) { a.k[1] = nil },
	} {
		a := base()
		change(&a)
		if got := made(a); got.Hash != was.Hash || got.Mac == was.Mac {
			t.Errorf("P902: %s: the hash hangs on it, or the sign does not", what)
		}
	}
	a := base()
	a.k[0], a.k[2] = nil, []byte("another")
	if !Same(made(a), was) {
		t.Error("P902: another domain's key counts")
	}
}

func TestCheckOfNoDomain(t *testing.T) {
	l := []api.Entry{{}, {Hash: sum(1)}, {Mac: plainMac(nil, "")}}
	for host := range 3 {
		e := Entry(keys(), host, api.Hash{}, api.Signed{}, 0, nil)
		l = append(l, e, with(e, func(e *api.Entry) { e.Mac = api.Hash{} }), with(e, func(e *api.Entry) { e.Mac = plainMac(nil, plainCore(*e)+string(e.Hash[:])) }))
	}
	for _, e := range l {
		for _, k := range []api.Keys{{}, keys(), {{}, {}, {}}} {
			for _, host := range []int{-1, -2, -3, -256, math.MinInt, 3, 4, 5, 255, 256, 257, 258, 1 << 32, 1 << 60, math.MaxInt} {
				if Check(k, host, e) {
					t.Errorf("P902: Check of host %d: true", host)
				}
			}
		}
	}
}

// TestCheckOfWhatNoDomainSigned: an entry of a host that is none is no domain's.
func TestCheckOfWhatNoDomainSigned(t *testing.T) {
	for _, host := range []int{-1, math.MinInt, 3, 4, 256, 1 << 32, math.MaxInt} {
		e := Entry(keys(), host, sum(1), plainSigned(edit(0)), 4, nil)
		for _, h := range []int{host, 0, 1, 2, -1, 3, host + 3, host & 3} {
			if Check(keys(), h, e) {
				t.Errorf("P902: Entry of host %d, Check of host %d: true", host, h)
			}
		}
	}
}

func TestCheckWithAnotherKey(t *testing.T) {
	for host := range 3 {
		e := Entry(keys(), host, sum(1), plainSigned(edit(0)), 4, api.Op{put("x")})
		for dom := range 3 {
			for _, other := range [][]byte{nil, {}, []byte("another"), keys()[(dom+1)%3], keys()[dom][1:]} {
				k := keys()
				k[dom] = other
				if Check(k, host, e) != (dom != host) {
					t.Errorf("P902: host %d's entry, domain %d's key is %q: %v", host, dom, other, dom == host)
				}
			}
		}
	}
}

// changed are entries that differ from e in one thing each; e has a Body and at least two parts.
func changed(e api.Entry) map[string]api.Entry {
	out := map[string]api.Entry{}
	set := func(what string, change func(e *api.Entry)) { out[what] = with(e, change) }
	for i := range 32 {
		at := ", byte " + string(rune('A'+i))
		for what, by := range map[string]byte{", bit 0": 1, ", bit 7": 128} {
			set("S.Mac"+at+what, func(e *api.Entry) { e.S.Mac[i] ^= by })
			set("Hash"+at+what, func(e *api.Entry) { e.Hash[i] ^= by })
			set("Mac"+at+what, func(e *api.Entry) { e.Mac[i] ^= by })
		}
	}
	for i := range e.S.Body {
		set("Body, byte "+string(rune('A'+i)), func(e *api.Entry) { e.S.Body[i]++ })
	}
	set("no Body", func(e *api.Entry) { e.S.Body = nil })
	set("Body, a byte less", func(e *api.Entry) { e.S.Body = e.S.Body[:len(e.S.Body)-1] })
	set("Body, a byte less ahead", func(e *api.Entry) { e.S.Body = e.S.Body[1:] })
	set("Body, a byte more", func(e *api.Entry) { e.S.Body = append(e.S.Body, 0) })
	for what, by := range map[string]int{" + 1": 1, " - 1": -1, " + 256": 256, " + 2^32": 1 << 32, " + 2^63": math.MinInt} {
		set("At"+what, func(e *api.Entry) { e.At += by })
	}
	set("no Op", func(e *api.Entry) { e.Op = nil })
	set("Op, a part less", func(e *api.Entry) { e.Op = e.Op[:len(e.Op)-1] })
	set("Op, a part less ahead", func(e *api.Entry) { e.Op = e.Op[1:] })
	set("Op, a part more", func(e *api.Entry) { e.Op = append(e.Op, keep(1)) })
	set("Op, a part of noughts more", func(e *api.Entry) { e.Op = append(e.Op, api.Comp{}) })
	set("Op, two parts changed about", func(e *api.Entry) { e.Op[0], e.Op[1] = e.Op[1], e.Op[0] })
	for i := range e.Op {
		name := "part " + string(rune('A'+i))
		set(name+", Kind", func(e *api.Entry) { e.Op[i].Kind++ })
		set(name+", N", func(e *api.Entry) { e.Op[i].N++ })
		set(name+", S", func(e *api.Entry) { e.Op[i].S += "\x00" })
	}
	return out
}

func TestCheckOfEachFieldTurned(t *testing.T) {
	for host := range 3 {
		for _, d := range []api.Delta{edit(0), add(1), remove(2)} {
			e := Entry(keys(), host, sum(1), plainSigned(d), 4, api.Op{keep(1), put("xy"), cut(3)})
			if !Check(keys(), host, e) {
				t.Errorf("P902: Check of what Entry made, host %d: false", host)
			}
			for what, x := range changed(e) {
				if Check(keys(), host, x) {
					t.Errorf("P902: Check of host %d, %s: true", host, what)
				}
			}
		}
	}
}

// TestCheckLooksAtTheSignAlone: neither at the history ahead, nor at who signed the delta, nor whether all is valid.
func TestCheckLooksAtTheSignAlone(t *testing.T) {
	for host := range 3 {
		for _, e := range []api.Entry{done(), {}, {S: api.Signed{Body: []byte("no delta"), Mac: sum(4)}, At: -5, Op: rows(41, api.Comp{Kind: 9}), Hash: sum(6)}, {Op: rows(255, keep(1))}} {
			e.Mac = plainMac(keys()[host], plainCore(e)+string(e.Hash[:]))
			if !Check(keys(), host, e) {
				t.Errorf("P902: Check of host %d: false, where it signed %#v", host, e)
			}
		}
	}
}

// TestExample is the chapter's example: signs of noughts are none.
func TestExample(t *testing.T) {
	for host := range 3 {
		for _, k := range manyKeys() {
			for _, e := range []api.Entry{{}, with(done(), func(e *api.Entry) { e.Mac = api.Hash{} })} {
				if Check(k, host, e) {
					t.Errorf("P902: example 1: host %d signed %#v", host, e)
				}
			}
		}
	}
	for _, d := range valid() {
		shut(t, "example 1", keys(), api.Signed{Body: Delta(keys(), d).Body}, api.ErrSign)
	}
}

func TestManyEntries(t *testing.T) {
	r := rand.New(rand.NewPCG(9, 2))
	for range 5000 {
		k, host, prev, e := anyKeys(r), r.IntN(3), anyHash(r), oddEntry(r)
		cored(t, "any", e, plainCore(e))
		got := Entry(k, host, prev, e.S, e.At, e.Op)
		if !alike(got, plainEntry(k, host, prev, e.S, e.At, e.Op)) || !Check(k, host, got) {
			t.Fatalf("P902: Entry of %#v: %#v", e, got)
		}
		for _, x := range []api.Entry{e, with(got, func(e *api.Entry) { e.S.Body = turned(r, e.S.Body) })} {
			for h := -1; h < 4; h++ {
				if Check(k, h, x) != plainCheck(k, h, x) {
					t.Fatalf("P902: Check of host %d, %#v: %v", h, x, Check(k, h, x))
				}
			}
		}
	}
}

// TestHistoriesAreChained: each entry's hash hangs on all that stood ahead.
func TestHistoriesAreChained(t *testing.T) {
	chain := func(first string) api.Hash {
		h := api.Hash{}
		for i, s := range strings.Split(first+" b c d", " ") {
			h = Entry(keys(), 0, h, plainSigned(edit(1)), i, api.Op{put(s)}).Hash
		}
		return h
	}
	if chain("a") != chain("a") || chain("a") == chain("x") {
		t.Error("P902: a hash does not tell the history ahead")
	}
}
