package people

import (
	"math"
	"math/rand/v2"
	"slices"
	"testing"

	"comitia/api"
)

func user(d, u int) api.Addr { return api.Addr{D: d, U: u} }

// users is all there may be, in order.
func users() []api.Addr {
	var all []api.Addr
	for d := range 3 {
		for u := range 8 {
			all = append(all, user(d, u))
		}
	}
	return all
}

// outsiders is some who are no users, each bound of W3 by itself among them, at it and far beyond it.
func outsiders() []api.Addr {
	all := []api.Addr{
		user(-1, -1), user(-1, 8), user(3, -1), user(3, 8),
		user(math.MinInt, math.MaxInt), user(math.MaxInt, math.MinInt), user(math.MaxInt, math.MaxInt), user(math.MinInt, math.MinInt),
	}
	for _, far := range []int{math.MinInt, -1 << 32, -256, -1, 256, 1 << 32, math.MaxInt} {
		for d := range 3 {
			all = append(all, user(d, far))
		}
		for u := range 8 {
			all = append(all, user(far, u))
		}
	}
	for d := range 3 {
		all = append(all, user(d, 8))
	}
	for u := range 8 {
		all = append(all, user(3, u))
	}
	return all
}

// plain is who takes part, as the chapter tells of it: a mark for each user there may be.
type plain [3][8]bool

func plainOf(l ...api.Addr) plain {
	var p plain
	for _, a := range l {
		p[a.D][a.U] = true
	}
	return p
}

// list is those who are marked, in order.
func (p plain) list() []api.Addr {
	var l []api.Addr
	for _, a := range users() {
		if p[a.D][a.U] {
			l = append(l, a)
		}
	}
	return l
}

func (p plain) has(a api.Addr) bool { return slices.Contains(p.list(), a) }

func (p plain) domain(d int) bool {
	return slices.ContainsFunc(p.list(), func(a api.Addr) bool { return a.D == d })
}

func (p plain) add(a api.Addr) (plain, api.Errno) {
	switch {
	case !slices.Contains(users(), a):
		return p, api.ErrArg
	case p.has(a):
		return p, api.ErrIs
	case len(p.list()) == 8:
		return p, api.ErrMany
	}
	p[a.D][a.U] = true
	return p, api.OK
}

func (p plain) remove(a api.Addr) (plain, api.Errno) {
	if !p.has(a) {
		return p, api.ErrNone
	}
	p[a.D][a.U] = false
	return p, api.OK
}

// adds looks at one Add.
func adds(t *testing.T, l []api.Addr, a api.Addr, want []api.Addr, e api.Errno) {
	t.Helper()
	if got, f := Add(l, a); f != e || !slices.Equal(got, want) {
		t.Errorf("P1201: Add(%v, %v): %v, %v, want %v, %v", l, a, got, f, want, e)
	}
}

// removes looks at one Remove.
func removes(t *testing.T, l []api.Addr, a api.Addr, want []api.Addr, e api.Errno) {
	t.Helper()
	if got, f := Remove(l, a); f != e || !slices.Equal(got, want) {
		t.Errorf("P1201: Remove(%v, %v): %v, %v, want %v, %v", l, a, got, f, want, e)
	}
}

// has looks at one Has.
func has(t *testing.T, l []api.Addr, a api.Addr, want bool) {
	t.Helper()
	if got := Has(l, a); got != want {
		t.Errorf("P1201: Has(%v, %v): %v", l, a, got)
	}
}

// domain looks at one Domain.
func domain(t *testing.T, l []api.Addr, d int, want bool) {
	t.Helper()
	if got := Domain(l, d); got != want {
		t.Errorf("P1201: Domain(%v, %v): %v", l, d, got)
	}
}

// anyUsers is up to 8 users, in order, each once.
func anyUsers(r *rand.Rand) []api.Addr {
	all := users()
	r.Shuffle(len(all), func(i, j int) { all[i], all[j] = all[j], all[i] })
	return plainOf(all[:r.IntN(9)]...).list()
}

// anybody is one of l, or any user, or somebody who is none.
func anybody(r *rand.Rand, l []api.Addr) api.Addr {
	switch {
	case len(l) > 0 && r.IntN(3) == 0:
		return l[r.IntN(len(l))]
	case r.IntN(6) == 0:
		return oddOne(r)
	}
	return user(r.IntN(3), r.IntN(8))
}

// oddOne is somebody of any numbers.
func oddOne(r *rand.Rand) api.Addr {
	numbers := []int{0, 1, 2, 3, 7, 8, -1, 256, 1 << 32, math.MaxInt, math.MinInt}
	return user(numbers[r.IntN(len(numbers))], numbers[r.IntN(len(numbers))])
}
