package people

import (
	"math"
	"slices"
	"testing"

	"comitia/api"
)

// noDomains is numbers that are no domain's.
func noDomains() []int {
	return []int{-1, 3, 4, 7, 8, 253, 254, 255, 256, 1 << 32, 1<<32 + 1, -1 << 32, math.MaxInt, math.MinInt}
}

func TestHasOfNobody(t *testing.T) {
	for _, a := range append(users(), outsiders()...) {
		has(t, nil, a, false)
		has(t, []api.Addr{}, a, false)
	}
}

func TestHas(t *testing.T) {
	for _, l := range [][]api.Addr{some(), full()} {
		for _, a := range append(users(), outsiders()...) {
			has(t, l, a, slices.Contains(l, a))
		}
	}
}

func TestHasHoldsBothNumbers(t *testing.T) {
	for _, a := range users() {
		l := []api.Addr{a}
		has(t, l, a, true)
		has(t, l, user(a.D, a.U+1), false)
		has(t, l, user(a.D, a.U-1), false)
		has(t, l, user(a.D+1, a.U), false)
		has(t, l, user(a.D-1, a.U), false)
		has(t, l, user(a.D+3, a.U), false)
		has(t, l, user(a.D, a.U+8), false)
		if a.D != a.U {
			has(t, l, user(a.U, a.D), false)
		}
	}
}

func TestDomainOfNobody(t *testing.T) {
	for _, d := range append(noDomains(), 0, 1, 2) {
		domain(t, nil, d, false)
		domain(t, []api.Addr{}, d, false)
	}
}

func TestDomain(t *testing.T) {
	for _, a := range users() {
		for d := range 3 {
			domain(t, []api.Addr{a}, d, d == a.D)
		}
	}
	for d := range 3 {
		domain(t, some(), d, true)
		domain(t, full(), d, true)
		domain(t, []api.Addr{user(0, 2), user(2, 0), user(2, 1)}, d, d != 1)
	}
}

func TestDomainThatIsNone(t *testing.T) {
	for _, d := range noDomains() {
		domain(t, some(), d, false)
		domain(t, full(), d, false)
	}
}

func TestDomainWhoseLastHasGone(t *testing.T) {
	for d := range 3 {
		l := full()
		left := 0
		for _, a := range l {
			if a.D == d {
				left++
			}
		}
		for _, a := range full() {
			if a.D != d {
				continue
			}
			domain(t, l, d, true)
			var e api.Errno
			if l, e = Remove(l, a); e != api.OK {
				t.Errorf("P1201: Remove(%v, %v): %v", l, a, e)
			}
			left--
			domain(t, l, d, left > 0)
			domain(t, l, (d+1)%3, true)
			domain(t, l, (d+2)%3, true)
		}
		l, _ = Add(l, user(d, 4))
		domain(t, l, d, true)
	}
}
