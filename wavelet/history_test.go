package wavelet

import (
	"math/rand/v2"
	"slices"
	"testing"

	"comitia/api"
	"comitia/sign"
)

// pool is all states that some histories led to, by their hash, each with what led to it.
type pool struct {
	states map[api.Hash]State
	ways   map[api.Hash]string
}

func newPool() pool {
	return pool{map[api.Hash]State{}, map[api.Hash]string{}}
}

// take looks whether all is the same as of the state with the same hash, if there is one: the state, and the way to it.
func (p pool) take(t *testing.T, s State, way string) {
	t.Helper()
	if other, ok := p.states[s.Hash]; ok && !Same(other, s) {
		t.Fatalf("P1304: two states of one hash: %+v, %+v", other, s)
	}
	if other, ok := p.ways[s.Hash]; ok && other != way {
		t.Fatalf("P1304: two histories of one hash: %q, %q", other, way)
	}
	p.states[s.Hash], p.ways[s.Hash] = s, way
}

// begun is what New was told, as a way begins.
func begun(id api.Id, a api.Addr) string {
	return plainNumber(id.Host) + plainNumber(id.N) + plainNumber(a.D) + plainNumber(a.U)
}

// TestHistoriesOfOneHashAreTheSame: many that begin as one and part, and entries with hashes that are another's.
func TestHistoriesOfOneHashAreTheSame(t *testing.T) {
	t.Parallel()
	r := rand.New(rand.NewPCG(13, 6))
	p := newPool()
	type place struct {
		s   State
		way string
	}
	var places []place
	for host := range 2 {
		for n := range 2 {
			for _, a := range []api.Addr{user(0, 0), user(0, 1), user(1, 0)} {
				id := api.Id{Host: host, N: n}
				places = append(places, place{New(id, a), begun(id, a)})
				p.take(t, New(id, a), begun(id, a))
			}
		}
	}
	again, forged := 0, 0
	for range 30000 {
		at := places[r.IntN(len(places))]
		e := anyEntry(r, at.s)
		if r.IntN(4) == 0 { // under the hash of any state that there is
			e.Hash = places[r.IntN(len(places))].s.Hash
			forged++
		}
		if r.IntN(4) == 0 { // few entries, so that some come twice
			e = entry(at.s, edit(0, oneOf(r, at.s.People)), append(api.Op{put("x")}, rows(min(len(at.s.Doc), 1), keep(len(at.s.Doc)))...))
		}
		n, err := Do(at.s, e)
		if err != api.OK {
			n = at.s
			p.take(t, n, at.way)
			continue
		}
		if _, ok := p.states[n.Hash]; ok {
			again++
		}
		way := at.way + string(sign.Core(e))
		p.take(t, n, way)
		places = append(places, place{n, way})
	}
	if again < 100 || forged < 100 {
		t.Errorf("P1304: %d states came twice, %d hashes were another's", again, forged)
	}
}

// TestHistoriesThatPart: of two that differ in one entry, or in their beginning, no hash behind is the other's.
func TestHistoriesThatPart(t *testing.T) {
	r := rand.New(rand.NewPCG(13, 7))
	for range 60 {
		h := anyHistory(r, 10)
		states, _ := Fold(h.id, h.creator, h.l)
		for at := range h.l {
			other := more(r, history{h.id, h.creator, h.l[:at], h.states[:at+1]}, 10)
			got, err := Fold(h.id, h.creator, other.l)
			if err != api.OK {
				t.Fatalf("P1303: %v", err)
			}
			parted := at
			for parted < len(h.l) && string(sign.Core(h.l[parted])) == string(sign.Core(other.l[parted])) {
				parted++
			}
			for i := range got {
				if Same(got[i], states[i]) != (i <= parted) {
					t.Fatalf("P1304: two histories part at %d; that all is the same at version %d: %v", parted, i, i > parted)
				}
				if (got[i].Hash == states[i].Hash) != (i <= parted) {
					t.Fatalf("P1304: two histories part at %d; one hash at version %d: %v", parted, i, i > parted)
				}
			}
		}
	}
}

// TestSameDocumentByAnotherHistory: what comes to the same text and people by other entries has another hash.
func TestSameDocumentByAnotherHistory(t *testing.T) {
	a, b := user(0, 1), user(0, 2)
	s := grown(t, New(api.Id{Host: 0, N: 5}, a), who(0, a, api.Add, b), nil)
	var ends []State
	for _, way := range [][]api.Op{
		{{put("a")}, {keep(1), put("b")}},
		{{put("b")}, {put("a"), keep(1)}},
		{{put("ab")}, {keep(2)}},
		{{put("ab")}, {keep(1), keep(1)}},
		{{put("a"), put("b")}, {keep(2)}},
		{nil, {put("ab")}},
		{{put("abc")}, {keep(2), cut(1)}},
	} {
		for _, by := range []api.Addr{a, b} {
			for _, version := range []int{0, 1} {
				n := s
				for _, o := range way {
					n = grown(t, n, edit(version, by), o)
				}
				ends = append(ends, n)
			}
		}
	}
	for i, x := range ends {
		for j, y := range ends {
			if x.Doc != "ab" || x.Doc != y.Doc || x.Version != y.Version || !slices.Equal(x.People, y.People) {
				t.Fatalf("P1302: %+v, %+v", x, y)
			}
			if (x.Hash == y.Hash) != (i == j) || Same(x, y) != (i == j) {
				t.Errorf("P1304: histories %d and %d of one text: %x, %x", i, j, x.Hash, y.Hash)
			}
		}
	}
}

// TestHashesUnderAnother: an entry that claims the hash of another history's end is refused, so the two do not become one.
func TestHashesUnderAnother(t *testing.T) {
	a := user(0, 1)
	s := grown(t, New(api.Id{Host: 0, N: 5}, a), edit(0, a), api.Op{put("a")})
	left := grown(t, s, edit(1, a), api.Op{keep(1), put("left")})
	right := entry(s, edit(1, a), api.Op{keep(1), put("right")})
	right.Hash = left.Hash
	if n, err := Do(s, right); err != api.ErrHash || !Same(n, s) {
		t.Errorf("P1304: %+v, %v", n, err)
	}
	for _, end := range []State{New(s.Id, a), s, left} {
		e := entry(left, edit(1, a), api.Op{cut(5)})
		e.Hash = end.Hash
		if n, err := Do(left, e); err != api.ErrHash || !Same(n, left) {
			t.Errorf("P1304: back to the hash of version %d: %+v, %v", end.Version, n, err)
		}
	}
}

// TestHistoriesUnderOtherSigns: the host's sign is not in the hash; with another one all is the same.
func TestHistoriesUnderOtherSigns(t *testing.T) {
	r := rand.New(rand.NewPCG(13, 8))
	for range 100 {
		h := anyHistory(r, r.IntN(20))
		states, _ := Fold(h.id, h.creator, h.l)
		for i := range h.l {
			h.l[i].Mac = sum(r.IntN(256))
		}
		got, err := Fold(h.id, h.creator, h.l)
		if err != api.OK || !slices.EqualFunc(got, states, Same) {
			t.Fatalf("P1304: under other signs: %v", err)
		}
	}
}
