package wavelet

import (
	"crypto/sha256"
	"slices"
	"testing"

	"comitia/api"
)

// looksNew holds a state against what New must answer.
func looksNew(t *testing.T, s State, id api.Id, creator api.Addr, sum api.Hash) {
	t.Helper()
	if s.Id != id || s.Doc != "" || !slices.Equal(s.People, []api.Addr{creator}) || s.Version != 0 {
		t.Errorf("P1301: New(%v, %v): %+v", id, creator, s)
	}
	if s.Hash != sum {
		t.Errorf("P1301: New(%v, %v): its hash is %x, want %x", id, creator, s.Hash, sum)
	}
}

func TestNew(t *testing.T) {
	const none = "\x00\x00\x00\x00\x00\x00\x00"
	for _, x := range []struct {
		id      api.Id
		creator api.Addr
		b       string
	}{
		{api.Id{}, user(0, 0), "\x00" + none + "\x00" + none + "\x00" + none + "\x00" + none},
		{api.Id{Host: 1, N: 2}, user(0, 5), "\x01" + none + "\x02" + none + "\x00" + none + "\x05" + none},
		{api.Id{Host: 2, N: 99}, user(1, 7), "\x02" + none + "\x63" + none + "\x01" + none + "\x07" + none},
		{api.Id{Host: 0, N: 77}, user(2, 6), "\x00" + none + "\x4d" + none + "\x02" + none + "\x06" + none},
	} {
		looksNew(t, New(x.id, x.creator), x.id, x.creator, sha256.Sum256([]byte(x.b)))
	}
}

// TestNewOfAll: every wavelet there may be, by every user; no two that differ in a number begin with the same hash.
func TestNewOfAll(t *testing.T) {
	seen := map[api.Hash]State{}
	for host := range 3 {
		for n := range 100 {
			for _, a := range users() {
				id := api.Id{Host: host, N: n}
				s := New(id, a)
				looksNew(t, s, id, a, plainNew(id, a).hash)
				if other, ok := seen[s.Hash]; ok {
					t.Errorf("P1301: %+v and %+v begin with one hash", s, other)
				}
				seen[s.Hash] = s
			}
		}
	}
}

func TestExample(t *testing.T) {
	s := New(api.Id{Host: 1, N: 4}, user(2, 3))
	if len(s.Doc) != 0 || len(s.People) != 1 {
		t.Errorf("P1301, example 1: %+v", s)
	}
}
