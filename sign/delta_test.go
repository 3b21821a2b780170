package sign

import (
	"bytes"
	"math"
	"math/rand/v2"
	"slices"
	"strings"
	"testing"

	"comitia/api"
	"comitia/delta"
	"comitia/sha"
)

func TestDeltaBodyAndMac(t *testing.T) {
	for _, k := range manyKeys() {
		for _, d := range valid() {
			s := Delta(k, d)
			if !bytes.Equal(s.Body, delta.Bytes(d)) {
				t.Errorf("P901: Body of %#v: %x", d, s.Body)
			}
			if s.Mac != plainMac(k[d.Author.D], string(delta.Bytes(d))) {
				t.Errorf("P901: Mac of %#v, a key of %d bytes: %x", d, len(k[d.Author.D]), s.Mac)
			}
		}
	}
}

// TestSignsThatOthersTell: what another program made of the same bytes.
func TestSignsThatOthersTell(t *testing.T) {
	for dom, want := range []string{
		"ecc337120403410872b7590c8f4aa5b4f28d8ca26feb3c6ed662a5e189986f81",
		"658a5e711e3316a5eec1a0c3329620355883f84a164a13846a5068aa52b731bc",
		"24bb186c20f59f505b36aea3a68ab6d40a375c59e03d84b87fbd6e04da9f89d4",
	} {
		if s := Delta(keys(), edit(dom)); sha.Hex(s.Mac) != want {
			t.Errorf("P901: Mac of domain %d: %s", dom, sha.Hex(s.Mac))
		}
	}
}

// TestDeltaOfAuthorsKeyAlone: neither the other domains' keys count, nor who is spoken of.
func TestDeltaOfAuthorsKeyAlone(t *testing.T) {
	for _, d := range valid() {
		want := Delta(keys(), d).Mac
		for dom := range 3 {
			k := keys()
			k[dom] = []byte("another one")
			if got := Delta(k, d).Mac; (got == want) != (dom != d.Author.D) {
				t.Errorf("P901: domain %d's delta, domain %d's key changed: %v", d.Author.D, dom, got == want)
			}
		}
	}
}

// opened holds what Open answers against what was signed.
func opened(t *testing.T, what string, k api.Keys, s api.Signed, want api.Delta) {
	t.Helper()
	if got, e := Open(k, s); e != api.OK || !delta.Same(got, want) {
		t.Errorf("P901: Open, %s: %#v, %v, want %#v", what, got, e, want)
	}
}

// shut holds Open's error against what it must be; beside it nothing is answered.
func shut(t *testing.T, what string, k api.Keys, s api.Signed, want api.Errno) {
	t.Helper()
	got, e := Open(k, s)
	if e != want {
		t.Errorf("P901: Open, %s: %v, want %v", what, e, want)
	}
	if got.Op != nil || !delta.Same(got, api.Delta{}) {
		t.Errorf("P4: Open, %s: %#v beside an error", what, got)
	}
}

func TestOpen(t *testing.T) {
	for _, k := range manyKeys() {
		for _, d := range valid() {
			b := delta.Bytes(d)
			opened(t, "what was signed", k, api.Signed{Body: b, Mac: plainMac(k[d.Author.D], string(b))}, d)
		}
	}
}

// macsOf are signs of a text: a right one by each domain's key, and wrong ones.
func macsOf(s string) []api.Hash {
	l := []api.Hash{{}, sum(9), plainSum(s), plainMac(nil, s)}
	for _, key := range keys() {
		l = append(l, plainMac(key, s))
	}
	return l
}

// shutWhatever: Open refuses such a Body by one error, whatever Mac is.
func shutWhatever(t *testing.T, what, body string, want api.Errno) {
	t.Helper()
	for _, m := range macsOf(body) {
		shut(t, what, keys(), api.Signed{Body: []byte(body), Mac: m}, want)
	}
}

func TestOpenOfABodyCutOffOrWithMore(t *testing.T) {
	shutWhatever(t, "no bytes", "", api.ErrCut)
	shut(t, "nothing", keys(), api.Signed{}, api.ErrCut)
	shut(t, "an empty body", keys(), api.Signed{Body: []byte{}, Mac: plainMac(keys()[0], "")}, api.ErrCut)
	for dom := range 3 {
		for _, d := range []api.Delta{edit(dom), add(dom), remove(dom)} {
			whole := delta.Bytes(d)
			mac := plainMac(keys()[dom], string(whole))
			for n := range whole {
				shut(t, "cut off, the whole's sign", keys(), api.Signed{Body: whole[:n], Mac: mac}, api.ErrCut)
				shutWhatever(t, "cut off", string(whole[:n]), api.ErrCut)
			}
			for _, more := range []string{"\x00", "\x01", "\xff", string(whole)} {
				shut(t, "with more behind, the whole's sign", keys(), api.Signed{Body: append(slices.Clone(whole), more...), Mac: mac}, api.ErrMore)
				shutWhatever(t, "with more behind", string(whole)+more, api.ErrMore)
			}
		}
	}
}

// badBodies are bodies that delta.Parse refuses, and by which error.
func badBodies() map[string]api.Errno {
	l := map[string]api.Errno{
		strings.Repeat("\x00", 1000):     api.ErrMore,
		strings.Repeat("\xff", 1000):     api.ErrCut,
		strings.Repeat("\xff", 1<<17):    api.ErrMore,
		string(delta.Bytes(api.Delta{})): api.ErrKind,
	}
	bad := func(want api.Errno, change func(d *api.Delta)) {
		for dom := range 3 {
			d := edit(dom)
			change(&d)
			l[string(delta.Bytes(d))] = want
		}
	}
	bad(api.ErrArg, func(d *api.Delta) { d.Author.D += 3 })
	bad(api.ErrArg, func(d *api.Delta) { d.Author.D = -1 - d.Author.D })
	bad(api.ErrArg, func(d *api.Delta) { d.Author.D += 1 << 32 })
	bad(api.ErrArg, func(d *api.Delta) { d.Author.D += math.MinInt })
	bad(api.ErrArg, func(d *api.Delta) { d.Author.U = 8 })
	bad(api.ErrArg, func(d *api.Delta) { d.Id = -1 })
	bad(api.ErrArg, func(d *api.Delta) { d.Version = 1<<20 + 1 })
	bad(api.ErrKind, func(d *api.Delta) { d.Kind = 4 })
	bad(api.ErrArg, func(d *api.Delta) { d.Who.U = 1 })
	bad(api.ErrArg, func(d *api.Delta) { d.Kind = api.Add })
	bad(api.ErrKind, func(d *api.Delta) { d.Op = api.Op{{Kind: 9}} })
	bad(api.ErrArg, func(d *api.Delta) { d.Op = api.Op{keep(0)} })
	bad(api.ErrLong, func(d *api.Delta) { d.Op = api.Op{put(text(121))} })
	bad(api.ErrMany, func(d *api.Delta) { d.Op = rows(41, keep(1)) })
	return l
}

func TestOpenOfABodyThatIsRefused(t *testing.T) {
	for body, want := range badBodies() {
		if _, e := delta.Parse([]byte(body)); e != want {
			t.Fatalf("the test is wrong: %.200x: %v, want %v", body, e, want)
		}
		shutWhatever(t, "a body that delta.Parse refuses", body, want)
	}
}

func TestOpenOfATurnedMac(t *testing.T) {
	for _, d := range valid() {
		good := Delta(keys(), d)
		for i := range good.Mac {
			for bit := range 8 {
				bad := good
				bad.Mac[i] ^= 1 << bit
				shut(t, "a bit of Mac turned", keys(), bad, api.ErrSign)
			}
		}
		for _, m := range []api.Hash{{}, plainSum(string(good.Body)), plainMac(nil, string(good.Body)), plainMac(keys()[d.Author.D], ""), plainMac(keys()[d.Author.D], string(good.Body)+"\x00"), plainMac(keys()[d.Author.D], string(good.Body[:len(good.Body)-1]))} {
			shut(t, "another Mac", keys(), api.Signed{Body: good.Body, Mac: m}, api.ErrSign)
		}
		opened(t, "as it was", keys(), good, d)
	}
}

// TestOpenOfATurnedBody: ErrSign where the body is read still, else delta.Parse's error.
func TestOpenOfATurnedBody(t *testing.T) {
	signs := 0
	for _, d := range []api.Delta{edit(0), edit(1), edit(2), add(0), add(1), add(2), remove(1)} {
		good := Delta(keys(), d)
		for i := range good.Body {
			for bit := range 8 {
				bad := api.Signed{Body: slices.Clone(good.Body), Mac: good.Mac}
				bad.Body[i] ^= 1 << bit
				_, want := delta.Parse(bad.Body)
				if want == api.OK {
					want = api.ErrSign
					signs++
				}
				shut(t, "a bit of Body turned", keys(), bad, want)
			}
		}
	}
	if signs < 1000 {
		t.Errorf("only %d bodies with a bit turned could be read", signs)
	}
}

func TestOpenWithAnotherKey(t *testing.T) {
	for _, d := range valid() {
		s := Delta(keys(), d)
		for dom := range 3 {
			for _, other := range [][]byte{nil, {}, []byte("another"), keys()[(dom+1)%3], keys()[(dom+2)%3], keys()[dom][1:]} {
				k := keys()
				k[dom] = other
				if dom == d.Author.D {
					shut(t, "the author's domain's key is another", k, s, api.ErrSign)
				} else {
					opened(t, "another domain's key is another", k, s, d)
				}
			}
		}
	}
}

// TestOpenOfWhatAnotherDomainSigned is T5: nobody's delta is opened whose domain did not sign it.
func TestOpenOfWhatAnotherDomainSigned(t *testing.T) {
	for _, d := range valid() {
		b := delta.Bytes(d)
		for dom := range 3 {
			s := api.Signed{Body: b, Mac: plainMac(keys()[dom], string(b))}
			if dom == d.Author.D {
				opened(t, "signed by the author's domain", keys(), s, d)
			} else {
				shut(t, "signed by another domain", keys(), s, api.ErrSign)
			}
		}
	}
}

func TestManyDeltas(t *testing.T) {
	r := rand.New(rand.NewPCG(9, 1))
	for range 5000 {
		k, d := anyKeys(r), anyDelta(r)
		s := Delta(k, d)
		if !bytes.Equal(s.Body, delta.Bytes(d)) || s.Mac != plainMac(k[d.Author.D], string(s.Body)) {
			t.Fatalf("P901: Delta of %#v: %#v", d, s)
		}
		got, e := Open(k, s)
		if e != api.OK || !delta.Same(got, d) {
			t.Fatalf("P904: %#v was opened as %#v, %v", d, got, e)
		}
		s.Body = turned(r, s.Body)
		want, wantErr := delta.Parse(s.Body)
		if wantErr == api.OK && s.Mac != plainMac(k[want.Author.D], string(s.Body)) {
			want, wantErr = api.Delta{}, api.ErrSign
		}
		if got, e := Open(k, s); e != wantErr || !delta.Same(got, want) {
			t.Fatalf("P901: Open of %#v: %#v, %v, want %v", s, got, e, wantErr)
		}
	}
}
