package wavelet

import (
	"math"
	"math/rand/v2"
	"slices"
	"testing"

	"comitia/api"
)

// ours is a state no two fields of which are alike.
func ours() State {
	return State{Id: api.Id{Host: 1, N: 20}, Doc: "text", People: []api.Addr{user(0, 3), user(1, 5), user(2, 6)}, Version: 9, Hash: sum(40)}
}

// same looks at Same, both ways about.
func same(t *testing.T, what string, a, b State, want bool) {
	t.Helper()
	if Same(a, b) != want || Same(b, a) != want {
		t.Errorf("P1303: Same, %s: %v, %v, want %v: %+v, %+v", what, Same(a, b), Same(b, a), want, a, b)
	}
}

func TestSameOfEqualStates(t *testing.T) {
	same(t, "a state and itself", ours(), ours(), true)
	same(t, "noughts", State{}, State{}, true)
	for _, a := range users() {
		same(t, "new ones", New(api.Id{Host: 2, N: 6}, a), New(api.Id{Host: 2, N: 6}, a), true)
	}
	with := ours()
	with.People = append(make([]api.Addr, 0, 7), with.People...)
	same(t, "one with spare room", ours(), with, true)
	with.Doc = string([]byte(with.Doc))
	same(t, "another text of the same bytes", ours(), with, true)
	none, empty := ours(), ours()
	none.People, empty.People = nil, []api.Addr{}
	same(t, "nobody (nil) and nobody", none, empty, true)
	odd := State{Id: api.Id{Host: math.MinInt, N: -1}, Doc: text(500), People: make([]api.Addr, 30), Version: math.MaxInt}
	same(t, "one that no calls lead to", odd, odd, true)
}

func TestSameOfStatesThatDifferInOneThing(t *testing.T) {
	for i, f := range []func(s *State){
		func(s *State) { s.Id.Host = 2 },
		func(s *State) { s.Id.Host += 1 << 32 },
		func(s *State) { s.Id.N = 21 },
		func(s *State) { s.Id.N = -20 },
		func(s *State) { s.Id.Host, s.Id.N = s.Id.N, s.Id.Host },
		func(s *State) { s.Doc = "" },
		func(s *State) { s.Doc = "tex" },
		func(s *State) { s.Doc = "texu" },
		func(s *State) { s.Doc = "Text" },
		func(s *State) { s.Doc = "text\x00" },
		func(s *State) { s.People = nil },
		func(s *State) { s.People = s.People[:2] },
		func(s *State) { s.People = s.People[1:] },
		func(s *State) { s.People = append(s.People, user(2, 7)) },
		func(s *State) { s.People[0].U = 4 },
		func(s *State) { s.People[1].D = 0 },
		func(s *State) { s.People[2].U = 7 },
		func(s *State) { s.People[0], s.People[1] = s.People[1], s.People[0] },
		func(s *State) { s.Version = 8 },
		func(s *State) { s.Version = 10 },
		func(s *State) { s.Version = 9 + 1<<32 },
		func(s *State) { s.Version = -9 },
		func(s *State) { s.Hash = api.Hash{} },
	} {
		s := ours()
		f(&s)
		same(t, "a field of another", s, ours(), false)
		same(t, "the field as it is", s, s, true)
		if Same(s, ours()) {
			t.Errorf("P1303: change %d", i)
		}
	}
	for i := range 32 {
		for bit := range 8 {
			s := ours()
			s.Hash[i] ^= 1 << bit
			same(t, "a bit of the hash", s, ours(), false)
		}
	}
}

// TestSameOfManyStates: two of many states are the same just where the plain ones are.
func TestSameOfManyStates(t *testing.T) {
	r := rand.New(rand.NewPCG(13, 5))
	var states []plain
	for range 8 {
		h := anyHistory(r, 12)
		states = append(states, h.states...)
		states = append(states, more(r, history{h.id, h.creator, h.l[:4], h.states[:5]}, 8).states...)
	}
	for _, p := range states {
		for _, q := range states {
			if got := Same(p.state(), q.state()); got != (p == q) {
				t.Fatalf("P1303: Same of %+v and %+v: %v", p.state(), q.state(), got)
			}
		}
	}
}

func TestSameLeavesBothAlone(t *testing.T) {
	a, b := ours(), ours()
	b.People = append(b.People, user(2, 7))[:3]
	Same(a, b)
	if !slices.Equal(a.People, ours().People) || !slices.Equal(b.People[:4], append(ours().People, user(2, 7))) {
		t.Errorf("P2: %v, %v", a.People, b.People[:4])
	}
}
