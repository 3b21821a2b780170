package wavelet

import (
	"bytes"
	"math"
	"slices"
	"testing"

	"comitia/api"
	"comitia/delta"
)

// attempt is an entry in the making, and the state that it is for.
type attempt struct {
	s     State
	d     api.Delta
	spoil func([]byte) []byte // what becomes of the delta's bytes
	at    int
	o     api.Op
	prev  api.Hash // what the entry is chained to
	turn  int      // which byte of its hash is turned; below 0: none
}

// attempts are entries that would be done: edits, additions and removals, of a state in which somebody took part that does no more.
func attempts(t *testing.T) []attempt {
	a, b := user(1, 5), user(0, 3)
	s := grown(t, New(api.Id{Host: 1, N: 7}, a), edit(0, a), api.Op{put("hello")})
	s = grown(t, s, who(1, a, api.Add, b), nil)
	s = grown(t, s, who(2, b, api.Add, user(2, 2)), nil)
	s = grown(t, s, who(3, a, api.Remove, user(2, 2)), nil)
	var l []attempt
	for _, d := range []api.Delta{edit(4, a), who(4, b, api.Add, user(2, 7)), who(2, a, api.Remove, b)} {
		l = append(l, attempt{s: s, d: d, at: 4, prev: s.Hash, turn: -1})
	}
	l[0].o = api.Op{keep(5), put("!")}
	return l
}

func (a attempt) entry() api.Entry {
	e := api.Entry{S: api.Signed{Body: delta.Bytes(a.d), Mac: sum(1)}, At: a.at, Op: a.o, Mac: sum(2)}
	if a.spoil != nil {
		e.S.Body = a.spoil(e.S.Body)
	}
	e = chained(a.prev, e)
	if a.turn >= 0 {
		e.Hash[a.turn]++
	}
	return e
}

// fault is something wrong with an attempt: its rank is the place of its error among those that P1302 names.
type fault struct {
	what  string
	rank  int
	kinds []int // of which it can be a fault
	want  api.Errno
	do    func(a *attempt)
}

var (
	allKinds = []int{api.Edit, api.Add, api.Remove}
	edits    = []int{api.Edit}
	others   = []int{api.Add, api.Remove}
)

func spoils(f func([]byte) []byte) func(a *attempt) {
	return func(a *attempt) { a.spoil = f }
}

// bodyFaults: what delta.Parse refuses.
func bodyFaults() []fault {
	return []fault{
		{"no body", 1, allKinds, api.ErrCut, spoils(func([]byte) []byte { return nil })},
		{"half a body", 1, allKinds, api.ErrCut, spoils(func(b []byte) []byte { return b[:len(b)/2] })},
		{"a body that lacks a byte", 1, allKinds, api.ErrCut, spoils(func(b []byte) []byte { return b[:len(b)-1] })},
		{"a byte behind the body", 1, allKinds, api.ErrMore, spoils(func(b []byte) []byte { return append(b, 0) })},
		{"70000 bytes behind the body", 1, allKinds, api.ErrMore, spoils(func(b []byte) []byte { return append(b, make([]byte, 70000)...) })},
		{"an author of no domain", 1, allKinds, api.ErrArg, func(a *attempt) { a.d.Author.D = 3 }},
		{"an author that is none", 1, allKinds, api.ErrArg, func(a *attempt) { a.d.Author.U = -1 }},
		{"a delta's number that is none", 1, allKinds, api.ErrArg, func(a *attempt) { a.d.Id = 1<<30 + 1 }},
		{"a delta's version that is none", 1, allKinds, api.ErrArg, func(a *attempt) { a.d.Version = -1 }},
		{"a delta's version beyond all", 1, allKinds, api.ErrArg, func(a *attempt) { a.d.Version = 1<<20 + 1 }},
		{"no kind", 1, allKinds, api.ErrKind, func(a *attempt) { a.d.Kind = 0 }},
		{"kind 4", 1, allKinds, api.ErrKind, func(a *attempt) { a.d.Kind = 4 }},
		{"a delta of 41 parts", 1, allKinds, api.ErrMany, func(a *attempt) { a.d.Op = rows(41, keep(1)) }},
		{"a delta's part of no kind", 1, allKinds, api.ErrKind, func(a *attempt) { a.d.Op = api.Op{{Kind: 9}} }},
		{"a delta's part of nought", 1, allKinds, api.ErrArg, func(a *attempt) { a.d.Op = api.Op{keep(0)} }},
		{"a delta's part that is too long", 1, allKinds, api.ErrLong, func(a *attempt) { a.d.Op = api.Op{put(text(121))} }},
		{"an Edit of somebody", 1, edits, api.ErrArg, func(a *attempt) { a.d.Who = user(0, 1) }},
		{"an operation of no Edit", 1, others, api.ErrArg, func(a *attempt) { a.d.Op = api.Op{keep(5)} }},
		{"somebody that is none", 1, others, api.ErrArg, func(a *attempt) { a.d.Who = user(0, 8) }},
		{"somebody of no domain", 1, others, api.ErrArg, func(a *attempt) { a.d.Who = user(-1, 0) }},
	}
}

// placeFaults: an entry of another version, or of who may not.
func placeFaults() []fault {
	return []fault{
		{"At one above", 2, allKinds, api.ErrStale, func(a *attempt) { a.at++ }},
		{"At one below", 2, allKinds, api.ErrStale, func(a *attempt) { a.at-- }},
		{"At below noughts", 2, allKinds, api.ErrStale, func(a *attempt) { a.at = -4 }},
		{"the greatest At", 2, allKinds, api.ErrStale, func(a *attempt) { a.at = math.MaxInt }},
		{"the least At", 2, allKinds, api.ErrStale, func(a *attempt) { a.at = math.MinInt }},
		{"a delta's version one above", 2, allKinds, api.ErrStale, func(a *attempt) { a.d.Version = a.s.Version + 1 }},
		{"a delta's version far above", 2, allKinds, api.ErrStale, func(a *attempt) { a.d.Version = 1 << 20 }},
		{"a delta's version and At one above", 2, allKinds, api.ErrStale, func(a *attempt) { a.d.Version, a.at = a.s.Version+1, a.s.Version+1 }},
		{"who never took part", 3, allKinds, api.ErrMay, func(a *attempt) { a.d.Author = user(1, 4) }},
		{"who took part, as a number of another domain", 3, allKinds, api.ErrMay, func(a *attempt) { a.d.Author = user(2, 5) }},
		{"who was removed", 3, allKinds, api.ErrMay, func(a *attempt) { a.d.Author = user(2, 2) }},
	}
}

// opFaults: an Edit's operation that is not valid, and one that does not fit.
func opFaults() []fault {
	with := func(o ...api.Comp) func(a *attempt) { return func(a *attempt) { a.o = o } }
	return []fault{
		{"41 parts", 4, edits, api.ErrMany, with(rows(41, keep(1))...)},
		{"41 parts that would fit", 4, edits, api.ErrMany, with(slices.Concat(api.Op{keep(5)}, rows(40, put("x")))...)},
		{"41 parts of no kind", 4, edits, api.ErrMany, with(make(api.Op, 41)...)},
		{"a part of no kind", 4, edits, api.ErrKind, with(keep(5), api.Comp{})},
		{"a Keep of nought", 4, edits, api.ErrArg, with(keep(5), keep(0))},
		{"a Cut of 121", 4, edits, api.ErrArg, with(cut(121))},
		{"numbers that only together fit", 4, edits, api.ErrArg, with(keep(-1), keep(6))},
		{"a Put of nothing", 4, edits, api.ErrArg, with(keep(5), put(""))},
		{"a Keep with a text", 4, edits, api.ErrArg, with(api.Comp{Kind: api.Keep, N: 5, S: "x"})},
		{"a Put of 121 bytes", 4, edits, api.ErrLong, with(cut(5), put(text(121)))},
		{"nothing", 5, edits, api.ErrSize, with()},
		{"one byte less", 5, edits, api.ErrSize, with(keep(4))},
		{"one byte more", 5, edits, api.ErrSize, with(cut(3), keep(3))},
		{"one byte less and too long", 5, edits, api.ErrSize, with(keep(4), put(text(120)))},
		{"121 bytes", 6, edits, api.ErrLong, with(keep(5), put(text(116)))},
		{"240 bytes", 6, edits, api.ErrLong, with(cut(5), put(text(120)), put(text(120)))},
	}
}

// peopleFaults: an operation where there may be none, and who is there, or is not.
func peopleFaults(t *testing.T) []fault {
	all := attempts(t)[0].s
	for _, u := range []api.Addr{user(0, 0), user(0, 1), user(1, 0), user(1, 1), user(2, 0), user(2, 1)} {
		all = grown(t, all, who(0, user(1, 5), api.Add, u), nil)
	}
	crowd := func(x api.Addr) func(a *attempt) {
		return func(a *attempt) { a.s, a.prev, a.at, a.d.Who = all, all.Hash, all.Version, x }
	}
	with := func(o ...api.Comp) func(a *attempt) { return func(a *attempt) { a.o = o } }
	is := func(x api.Addr) func(a *attempt) { return func(a *attempt) { a.d.Who = x } }
	return []fault{
		{"somebody who is there, where there are eight", 5, []int{api.Add}, api.ErrIs, crowd(user(2, 1))},
		{"somebody where there are eight", 6, []int{api.Add}, api.ErrMany, crowd(user(2, 7))},
		{"an operation", 4, others, api.ErrArg, with(keep(5))},
		{"an operation that is not valid", 4, others, api.ErrArg, with(api.Comp{Kind: 9})},
		{"an operation of 41 parts", 4, others, api.ErrArg, with(rows(41, keep(1))...)},
		{"an operation that does not fit", 4, others, api.ErrArg, with(keep(4))},
		{"an operation that does nothing", 4, others, api.ErrArg, with(keep(0))},
		{"somebody who is there", 5, []int{api.Add}, api.ErrIs, is(user(1, 5))},
		{"the author", 5, []int{api.Add}, api.ErrIs, is(user(0, 3))},
		{"somebody who is not there", 5, []int{api.Remove}, api.ErrNone, is(user(1, 4))},
		{"somebody who was removed", 5, []int{api.Remove}, api.ErrNone, is(user(2, 2))},
	}
}

// hashFaults: a hash that is not what the history and the entry make.
func hashFaults() []fault {
	l := []fault{
		{"the hash of another history", 7, allKinds, api.ErrHash, func(a *attempt) { a.prev = sum(5) }},
		{"the hash of a history that is one byte off", 7, allKinds, api.ErrHash, func(a *attempt) { a.prev[31] ^= 1 }},
		{"the hash of an empty history", 7, allKinds, api.ErrHash, func(a *attempt) { a.prev = api.Hash{} }},
	}
	for i := range 32 {
		l = append(l, fault{"a hash with one byte turned", 7, allKinds, api.ErrHash, func(a *attempt) { a.turn = i }})
	}
	return l
}

// allFaults have those first that put another state in place, so that the others find it.
func allFaults(t *testing.T) []fault {
	return slices.Concat(peopleFaults(t), hashFaults(), bodyFaults(), placeFaults(), opFaults())
}

// refused looks at one attempt that must be refused: beside the error the state is answered as it was.
func refused(t *testing.T, what string, a attempt, want api.Errno) {
	t.Helper()
	was := State{a.s.Id, a.s.Doc, slices.Clone(a.s.People), a.s.Version, a.s.Hash}
	n, err := Do(a.s, a.entry())
	if err != want {
		t.Errorf("P1302: %s, of kind %d: %v, want %v", what, a.d.Kind, err, want)
	}
	if !Same(n, was) || !Same(a.s, was) {
		t.Errorf("P4: %s, of kind %d: beside %v %+v, want %+v", what, a.d.Kind, err, n, was)
	}
}

func TestAttemptsAreDone(t *testing.T) {
	for _, a := range attempts(t) {
		if n, err := Do(a.s, a.entry()); err != api.OK || Same(n, a.s) {
			t.Errorf("P1302: %+v: %v", a, err)
		}
	}
}

func TestEachFaultByItself(t *testing.T) {
	for _, f := range allFaults(t) {
		for _, a := range attempts(t) {
			if slices.Contains(f.kinds, a.d.Kind) {
				f.do(&a)
				refused(t, f.what, a, f.want)
			}
		}
	}
}

// TestEachTwoFaults: the error is that of the one that the chapter names first. Of two that touch the same thing the first one is put in place last.
func TestEachTwoFaults(t *testing.T) {
	all := allFaults(t)
	slices.SortStableFunc(all, func(f, g fault) int { return g.rank - f.rank })
	tried := map[[2]int]int{}
	for i, late := range all {
		for _, early := range all[i+1:] {
			for _, a := range attempts(t) {
				if early.rank == late.rank || !slices.Contains(early.kinds, a.d.Kind) || !slices.Contains(late.kinds, a.d.Kind) {
					continue
				}
				late.do(&a)
				early.do(&a)
				refused(t, early.what+", and "+late.what, a, early.want)
				tried[[2]int{early.rank, late.rank}]++
			}
		}
	}
	for i := 1; i <= 7; i++ {
		for j := i + 1; j <= 7; j++ {
			if tried[[2]int{i, j}] == 0 {
				t.Errorf("P6: no attempt had an error of rank %d and one of rank %d", i, j)
			}
		}
	}
}

// TestAllFaultsAtOnce: of all ranks from one on.
func TestAllFaultsAtOnce(t *testing.T) {
	all := allFaults(t)
	for from := 1; from <= 7; from++ {
		for _, a := range attempts(t) {
			want := api.OK
			for rank := 7; rank >= from; rank-- {
				i := slices.IndexFunc(all, func(f fault) bool { return f.rank == rank && slices.Contains(f.kinds, a.d.Kind) })
				if i >= 0 {
					all[i].do(&a)
					want = all[i].want
				}
			}
			refused(t, "all faults at once", a, want)
		}
	}
}

// TestDeltaParseFirst: each error of delta.Parse, as it answers it.
func TestDeltaParseFirst(t *testing.T) {
	for _, a := range attempts(t) {
		whole := delta.Bytes(a.d)
		bodies := [][]byte{nil, {}, {0}, bytes.Repeat([]byte{255}, 300), make([]byte, 300), append(bytes.Clone(whole), whole...)}
		for i := range whole {
			bodies = append(bodies, whole[:i])
			for _, x := range []byte{1, 2, 3, 8, 128, 255} {
				b := bytes.Clone(whole)
				b[i] ^= x
				bodies = append(bodies, b)
			}
		}
		for _, b := range bodies {
			if _, want := delta.Parse(b); want != api.OK {
				a.spoil = func([]byte) []byte { return b }
				refused(t, "a body that is no delta", a, want)
			}
		}
	}
}

func TestTheEntryOfNoughts(t *testing.T) {
	a := attempts(t)[0]
	for _, s := range []State{a.s, New(api.Id{}, user(0, 0))} {
		if n, err := Do(s, api.Entry{}); err != api.ErrCut || !Same(n, s) {
			t.Errorf("P1302: an entry of noughts: %+v, %v", n, err)
		}
	}
}
