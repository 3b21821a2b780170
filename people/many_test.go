package people

import (
	"math/rand/v2"
	"slices"
	"testing"

	"comitia/api"
)

// stands looks whether l is those of p, in order, each once, and no more than there may be.
func stands(t *testing.T, l []api.Addr, p plain) {
	t.Helper()
	if !slices.Equal(l, p.list()) {
		t.Fatalf("P1202: %v, want %v", l, p.list())
	}
	if len(l) > 8 {
		t.Fatalf("P1202: %d stand there: %v", len(l), l)
	}
	for i := 1; i < len(l); i++ {
		a, b := l[i-1], l[i]
		if a.D*100+a.U >= b.D*100+b.U {
			t.Fatalf("P1202: %v stands ahead of %v: %v", a, b, l)
		}
	}
}

// step does one call beside the plain one, and answers what both then have.
func step(t *testing.T, l []api.Addr, p plain, add bool, a api.Addr) ([]api.Addr, plain) {
	t.Helper()
	var q plain
	var got []api.Addr
	var e, f api.Errno
	name := "Remove"
	if add {
		name = "Add"
		q, e = p.add(a)
		got, f = Add(l, a)
	} else {
		q, e = p.remove(a)
		got, f = Remove(l, a)
	}
	if e != f {
		t.Fatalf("P1201: %s(%v, %v): %v, want %v", name, l, a, f, e)
	}
	stands(t, got, q)
	return got, q
}

// look holds each call against the plain one, with each user there may be.
func look(t *testing.T, l []api.Addr, p plain) {
	t.Helper()
	for _, a := range users() {
		step(t, l, p, true, a)
		step(t, l, p, false, a)
		has(t, l, a, p.has(a))
	}
	for d := -1; d <= 3; d++ {
		domain(t, l, d, p.domain(d))
	}
}

// each calls do with all ways to take n of all, in order.
func each(all, taken []api.Addr, n int, do func([]api.Addr)) {
	if n == 0 {
		do(taken)
		return
	}
	for i, a := range all {
		each(all[i+1:], append(slices.Clip(taken), a), n-1, do)
	}
}

func TestFewUsersOfAll(t *testing.T) {
	t.Parallel()
	for n := range 4 {
		each(users(), nil, n, func(l []api.Addr) { look(t, l, plainOf(l...)) })
	}
}

// TestAllOfTen: every list there is of users that lie at the bounds and side by side.
func TestAllOfTen(t *testing.T) {
	t.Parallel()
	ten := []api.Addr{user(0, 0), user(0, 1), user(0, 6), user(0, 7), user(1, 0), user(1, 1), user(1, 7), user(2, 0), user(2, 1), user(2, 7)}
	for n := range 9 {
		each(ten, nil, n, func(l []api.Addr) { look(t, l, plainOf(l...)) })
	}
}

func TestManyRows(t *testing.T) {
	t.Parallel()
	r := rand.New(rand.NewPCG(12, 8))
	most := 0
	for row := range 300 {
		l, p := []api.Addr(nil), plain{}
		adding := 1 + row%3 // of four calls so many are an Add
		for range 60 {
			l, p = step(t, l, p, r.IntN(4) < adding, anybody(r, l))
			most = max(most, len(l))
		}
		look(t, l, p)
	}
	if most != api.MaxPeople {
		t.Errorf("P1202: no row came to %d", api.MaxPeople)
	}
}

func TestSameUsersInAnyOrder(t *testing.T) {
	t.Parallel()
	r := rand.New(rand.NewPCG(12, 9))
	for range 500 {
		want := anyUsers(r)
		all := slices.Clone(want)
		for range 10 {
			r.Shuffle(len(all), func(i, j int) { all[i], all[j] = all[j], all[i] })
			var l []api.Addr
			for _, a := range all {
				var e api.Errno
				if l, e = Add(l, a); e != api.OK {
					t.Fatalf("P1201: %v, in the order %v: %v", a, all, e)
				}
			}
			if !slices.Equal(l, want) {
				t.Fatalf("P1202: added in the order %v they stand so: %v", all, l)
			}
		}
	}
}

// TestSameUsersInEachOrder: four of them, in all twenty-four.
func TestSameUsersInEachOrder(t *testing.T) {
	var put func(l, left []api.Addr)
	put = func(l, left []api.Addr) {
		if len(left) == 0 {
			stands(t, l, plainOf(some()...))
		}
		for i, a := range left {
			more, e := Add(l, a)
			if e != api.OK {
				t.Fatalf("P1201: Add(%v, %v): %v", l, a, e)
			}
			put(more, slices.Delete(slices.Clone(left), i, i+1))
		}
	}
	put(nil, some())
}

func FuzzPeople(f *testing.F) {
	f.Add([]byte{1, 5, 130, 23, 9, 200, 129})
	f.Add([]byte("12345678912345678"))
	f.Add([]byte{0, 31, 8, 16, 24, 128, 7, 15, 23, 1, 2, 3, 4, 5})
	f.Fuzz(func(t *testing.T, b []byte) {
		l, p := []api.Addr(nil), plain{}
		for _, c := range b {
			l, p = step(t, l, p, c < 128, user(int(c>>3&3)-int(c>>6&1), int(c&7)+int(c>>5&1)))
		}
		look(t, l, p)
	})
}
