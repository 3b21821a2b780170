package people

import (
	"slices"
	"testing"

	"comitia/api"
)

// some, full are lists to be handed in: full has as many as there may be.
func some() []api.Addr { return []api.Addr{user(0, 1), user(1, 3), user(1, 5), user(2, 6)} }

func full() []api.Addr {
	return []api.Addr{user(0, 1), user(0, 7), user(1, 0), user(1, 3), user(1, 5), user(1, 7), user(2, 0), user(2, 6)}
}

func TestAddPutsAtTheirPlace(t *testing.T) {
	adds(t, nil, user(1, 4), []api.Addr{user(1, 4)}, api.OK)
	adds(t, []api.Addr{}, user(2, 7), []api.Addr{user(2, 7)}, api.OK)
	for _, x := range []struct {
		a  api.Addr
		at int
	}{
		{user(0, 0), 0}, {user(0, 2), 1}, {user(0, 7), 1}, {user(1, 0), 1}, {user(1, 2), 1}, {user(1, 4), 2},
		{user(1, 6), 3}, {user(1, 7), 3}, {user(2, 0), 3}, {user(2, 5), 3}, {user(2, 7), 4},
	} {
		adds(t, some(), x.a, slices.Insert(some(), x.at, x.a), api.OK)
	}
}

func TestAddGoesByDomainAheadOfNumber(t *testing.T) {
	adds(t, []api.Addr{user(1, 0)}, user(0, 7), []api.Addr{user(0, 7), user(1, 0)}, api.OK)
	adds(t, []api.Addr{user(1, 7)}, user(2, 0), []api.Addr{user(1, 7), user(2, 0)}, api.OK)
	adds(t, []api.Addr{user(1, 3)}, user(1, 2), []api.Addr{user(1, 2), user(1, 3)}, api.OK)
	adds(t, []api.Addr{user(1, 3)}, user(1, 4), []api.Addr{user(1, 3), user(1, 4)}, api.OK)
}

func TestAddRefusesWhoIsNoUser(t *testing.T) {
	for _, a := range outsiders() {
		adds(t, nil, a, nil, api.ErrArg)
		adds(t, some(), a, some(), api.ErrArg)
		adds(t, full(), a, full(), api.ErrArg) // ahead of ErrMany
	}
	for _, a := range []api.Addr{user(0, 0), user(0, 7), user(2, 0), user(2, 7)} {
		adds(t, nil, a, []api.Addr{a}, api.OK)
	}
}

func TestAddRefusesWhoIsThere(t *testing.T) {
	for _, a := range some() {
		adds(t, some(), a, some(), api.ErrIs)
		adds(t, []api.Addr{a}, a, []api.Addr{a}, api.ErrIs)
	}
	for _, a := range full() {
		adds(t, full(), a, full(), api.ErrIs) // ahead of ErrMany
	}
}

func TestAddRefusesTooMany(t *testing.T) {
	if len(full()) != api.MaxPeople {
		t.Fatalf("P1201: %d are not as many as there may be", len(full()))
	}
	for _, a := range users() {
		if !slices.Contains(full(), a) {
			adds(t, full(), a, full(), api.ErrMany)
		}
	}
	for i, a := range full() {
		adds(t, slices.Delete(full(), i, i+1), a, full(), api.OK)
	}
	removed, _ := Remove(full(), user(1, 3))
	adds(t, removed, user(2, 7), append(slices.Delete(full(), 3, 4), user(2, 7)), api.OK)
}
