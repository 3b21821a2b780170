package people

import (
	"slices"
	"testing"

	"comitia/api"
)

// The chapter's example.
func TestRemoveOfNobody(t *testing.T) {
	for _, a := range append(users(), outsiders()...) {
		removes(t, nil, a, nil, api.ErrNone)
		removes(t, []api.Addr{}, a, nil, api.ErrNone)
	}
}

func TestRemoveTakesOut(t *testing.T) {
	for i, a := range some() {
		removes(t, some(), a, slices.Delete(some(), i, i+1), api.OK)
	}
	for i, a := range full() {
		removes(t, full(), a, slices.Delete(full(), i, i+1), api.OK)
	}
}

func TestRemoveOfTheOnlyOne(t *testing.T) {
	for _, a := range users() {
		removes(t, []api.Addr{a}, a, nil, api.OK)
	}
}

func TestRemoveRefusesWhoIsNotThere(t *testing.T) {
	for _, l := range [][]api.Addr{some(), full()} {
		for _, a := range users() {
			if !slices.Contains(l, a) {
				removes(t, l, a, l, api.ErrNone)
			}
		}
	}
}

// ErrNone is the one error that the chapter names for a Remove.
func TestRemoveRefusesWhoIsNoUser(t *testing.T) {
	for _, a := range outsiders() {
		removes(t, some(), a, some(), api.ErrNone)
		removes(t, full(), a, full(), api.ErrNone)
	}
}

func TestRemoveUndoesAdd(t *testing.T) {
	for _, a := range users() {
		l, e := Add(some(), a)
		if e == api.OK {
			removes(t, l, a, some(), api.OK)
		}
	}
}
