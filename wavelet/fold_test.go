package wavelet

import (
	"math/rand/v2"
	"slices"
	"testing"

	"comitia/api"
	"comitia/delta"
)

// history is a wavelet by its beginning and its entries, with the plain states at each version.
type history struct {
	id      api.Id
	creator api.Addr
	l       []api.Entry
	states  []plain
}

// anyHistory is one of n entries that are all done.
func anyHistory(r *rand.Rand, n int) history {
	id, a := api.Id{Host: r.IntN(3), N: r.IntN(100)}, user(r.IntN(3), r.IntN(8))
	return more(r, history{id, a, nil, []plain{plainNew(id, a)}}, n)
}

// more is h with entries behind it, until there are n; somebody takes part all the while, so that there can be more.
func more(r *rand.Rand, h history, n int) history {
	h.l, h.states = slices.Clone(h.l), slices.Clone(h.states)
	for len(h.l) < n {
		p := h.states[len(h.l)]
		e := anyEntry(r, p.state())
		next, err := p.do(e)
		if err == api.OK && len(next.people()) > 0 {
			h.l, h.states = append(h.l, e), append(h.states, next)
		}
	}
	return h
}

// folds holds a Fold against the plain states, and against an error.
func folds(t *testing.T, what string, id api.Id, creator api.Addr, l []api.Entry, want []plain, wantErr api.Errno) {
	t.Helper()
	got, err := Fold(id, creator, l)
	if err != wantErr {
		t.Errorf("P1303: Fold, %s: %v, want %v", what, err, wantErr)
	}
	if wantErr != api.OK {
		want = nil
	}
	if len(got) != len(want) {
		t.Errorf("P1303: Fold, %s: %d states, want %d", what, len(got), len(want))
		return
	}
	for i := range got {
		if !want[i].is(got[i]) {
			t.Errorf("P1303: Fold, %s: at version %d %+v, want %+v", what, i, got[i], want[i].state())
		}
	}
}

// refusedFold is folds of what is refused: beside the error stands nothing at all.
func refusedFold(t *testing.T, what string, h history, l []api.Entry, want api.Errno) {
	t.Helper()
	folds(t, what, h.id, h.creator, l, nil, want)
	if got, _ := Fold(h.id, h.creator, l); len(got) != 0 {
		t.Errorf("P4: Fold, %s: %d states beside %v", what, len(got), want)
	}
}

func TestFoldOfNone(t *testing.T) {
	for _, l := range [][]api.Entry{nil, {}, make([]api.Entry, 0, 5)} {
		for _, a := range users() {
			id := api.Id{Host: 2, N: 98}
			folds(t, "of none", id, a, l, []plain{plainNew(id, a)}, api.OK)
		}
	}
}

func TestFoldOfSome(t *testing.T) {
	r := rand.New(rand.NewPCG(13, 1))
	for range 20 {
		h := anyHistory(r, 40)
		for n := range 41 {
			folds(t, "of some", h.id, h.creator, h.l[:n], h.states[:n+1], api.OK)
		}
	}
}

// TestFoldOfMany: of MaxLog, of one more, of many more, whatever they are.
func TestFoldOfMany(t *testing.T) {
	r := rand.New(rand.NewPCG(13, 2))
	if api.MaxLog != 40 {
		t.Fatalf("P1303: %d entries", api.MaxLog)
	}
	h := anyHistory(r, 45)
	folds(t, "of MaxLog", h.id, h.creator, h.l[:40], h.states[:41], api.OK)
	for n := 41; n <= 45; n++ {
		refusedFold(t, "of one more", h, h.l[:n], api.ErrMany)
	}
	for _, n := range []int{41, 42, 256, 1 << 16} {
		refusedFold(t, "of many that are none", h, make([]api.Entry, n), api.ErrMany)
	}
	refusedFold(t, "of MaxLog that are none", h, make([]api.Entry, 40), api.ErrCut)
	wrong := slices.Clone(h.l[:41])
	wrong[0].Hash[0]++
	refusedFold(t, "of one more, the first one wrong", h, wrong, api.ErrMany)
}

// spoilt are some ways to make an entry one that is refused, and by which error.
func spoilt() []struct {
	f    func(e *api.Entry)
	want api.Errno
} {
	return []struct {
		f    func(e *api.Entry)
		want api.Errno
	}{
		{func(e *api.Entry) { e.S.Body = e.S.Body[:9] }, api.ErrCut},
		{func(e *api.Entry) { e.At++ }, api.ErrStale},
		{func(e *api.Entry) { e.At-- }, api.ErrStale},
		{func(e *api.Entry) { e.Op = rows(41, keep(1)) }, api.ErrMany},
		{func(e *api.Entry) { e.Op = append(api.Op{put(text(121))}, e.Op...) }, api.ErrLong},
		{func(e *api.Entry) { e.Op = append(api.Op{keep(1)}, e.Op...) }, api.ErrSize},
		{func(e *api.Entry) { e.Op = api.Op{{Kind: 4}} }, api.ErrKind},
		{func(e *api.Entry) { e.S.Body = delta.Bytes(edit(0, user(2, 7))) }, api.ErrMay},
		{func(e *api.Entry) { e.S.Mac[0]++ }, api.ErrHash},
		{func(e *api.Entry) { e.Hash[31]++ }, api.ErrHash},
	}
}

// TestFoldRefusesTheFirstWrongOne: at each place, also with more wrong ones behind it.
func TestFoldRefusesTheFirstWrongOne(t *testing.T) {
	a := user(1, 1)
	h := history{id: api.Id{Host: 1, N: 1}, creator: a}
	s := New(h.id, a)
	for range 40 {
		e := entry(s, edit(s.Version/2, a), append(api.Op{put("x")}, rows(min(s.Version, 1), keep(s.Version))...))
		h.l = append(h.l, e)
		s, _ = Do(s, e)
	}
	for _, n := range []int{1, 2, 9, 39, 40} {
		for i := range n {
			for k, x := range spoilt() {
				l := slices.Clone(h.l[:n])
				x.f(&l[i])
				refusedFold(t, "one of some wrong", h, l, x.want)
				if n == 40 && i%7 == 0 {
					for j := i + 1; j < n; j++ {
						spoilt()[(j+k)%len(spoilt())].f(&l[j])
					}
					refusedFold(t, "more wrong behind it", h, l, x.want)
				}
			}
		}
	}
	refusedFold(t, "the first one lacks", h, h.l[1:], api.ErrStale)
	refusedFold(t, "one in the middle lacks", h, slices.Delete(slices.Clone(h.l), 20, 21), api.ErrStale)
	refusedFold(t, "one twice", h, slices.Insert(slices.Clone(h.l[:39]), 20, h.l[20]), api.ErrStale)
	refusedFold(t, "two changed about", h, slices.Concat(h.l[:6], h.l[7:8], h.l[6:7], h.l[8:]), api.ErrStale)
}

// TestFoldOfAnotherBeginning: entries are those of one wavelet, by one creator.
func TestFoldOfAnotherBeginning(t *testing.T) {
	r := rand.New(rand.NewPCG(13, 3))
	a := user(1, 1)
	id := api.Id{Host: 1, N: 1}
	h := more(r, history{id, a, nil, []plain{plainNew(id, a)}}, 5)
	for _, other := range []api.Id{{Host: 1, N: 2}, {Host: 0, N: 1}, {Host: 2, N: 1}, {}} {
		if _, err := Fold(other, a, h.l); err != api.ErrHash {
			t.Errorf("P1303: Fold of another wavelet's entries: %v", err)
		}
	}
	for _, other := range users() {
		if _, err := Fold(id, other, h.l); other != a && err != api.ErrMay {
			t.Errorf("P1303: Fold of another creator's entries: %v", err)
		}
	}
}

// TestFoldIsDoRepeated: of histories in which something may be wrong.
func TestFoldIsDoRepeated(t *testing.T) {
	r := rand.New(rand.NewPCG(13, 4))
	seen := map[api.Errno]int{}
	for range 2000 {
		h := anyHistory(r, r.IntN(8))
		l, want, err := h.l, h.states, api.OK
		for range r.IntN(3) {
			e := anyEntry(r, want[len(want)-1].state())
			l = append(l, e)
			if err == api.OK {
				var next plain
				next, err = want[len(want)-1].do(e)
				want = append(want, next)
			}
		}
		folds(t, "something may be wrong", h.id, h.creator, l, want, err)
		seen[err]++
	}
	for _, err := range []api.Errno{api.OK, api.ErrCut, api.ErrStale, api.ErrMay, api.ErrSize, api.ErrIs, api.ErrNone, api.ErrHash} {
		if seen[err] == 0 {
			t.Errorf("P1303: no history that was folded had %v", err)
		}
	}
}
