package wavelet

import (
	"math/rand/v2"
	"testing"

	"comitia/api"
)

// few are three users, each of whom may do, or have done to it, whatever there is.
func few() []api.Addr { return []api.Addr{user(0, 1), user(1, 0), user(1, 1)} }

// each calls do with the entries that the few may want done at s: short edits, each of them added, each removed.
func each(s State, do func(e api.Entry)) {
	for _, a := range few() {
		for _, o := range []api.Op{nil, {put("a")}, {put("b"), keep(1)}, {cut(1)}, {keep(1), put("c")}} {
			do(entry(s, edit(0, a), o))
		}
		for _, x := range few() {
			do(entry(s, who(s.Version, a, api.Add, x), nil))
			do(entry(s, who(s.Version, a, api.Remove, x), nil))
		}
	}
}

// TestAllShortHistories: every row of three of those entries, also of such as are refused between.
func TestAllShortHistories(t *testing.T) {
	t.Parallel()
	seen := map[api.Errno]int{}
	var walk func(s State, p plain, left int)
	walk = func(s State, p plain, left int) {
		each(s, func(e api.Entry) {
			n, q, err := does(t, s, p, e)
			seen[err]++
			if err == api.OK && left > 1 {
				walk(n, q, left-1)
			}
		})
	}
	s, p := start(api.Id{Host: 1, N: 8}, few()[1])
	walk(s, p, 3)
	for _, err := range []api.Errno{api.OK, api.ErrMay, api.ErrSize, api.ErrIs, api.ErrNone} {
		if seen[err] < 20 {
			t.Errorf("P1302: %v was answered %d times", err, seen[err])
		}
	}
}

func TestManyRows(t *testing.T) {
	t.Parallel()
	r := rand.New(rand.NewPCG(13, 9))
	seen := map[api.Errno]int{}
	longest, most := 0, 0
	for range 150 {
		s, p := start(api.Id{Host: r.IntN(3), N: r.IntN(100)}, user(r.IntN(3), r.IntN(8)))
		for range 80 {
			var err api.Errno
			s, p, err = does(t, s, p, anyEntry(r, s))
			seen[err]++
			longest, most = max(longest, len(s.Doc)), max(most, len(s.People))
		}
	}
	for _, err := range []api.Errno{api.OK, api.ErrCut, api.ErrMore, api.ErrArg, api.ErrKind, api.ErrStale, api.ErrMay, api.ErrSize, api.ErrLong, api.ErrIs, api.ErrNone, api.ErrMany, api.ErrHash} {
		if seen[err] == 0 {
			t.Errorf("P1302: no entry was answered %v", err)
		}
	}
	if longest < 110 || most != 8 {
		t.Errorf("P1302: the longest document was of %d bytes, and at most %d took part", longest, most)
	}
}

// script reads what is to be tried from bytes; behind their end all is nought.
type script struct{ b []byte }

func (c *script) next() int {
	if len(c.b) == 0 {
		return 0
	}
	n := int(c.b[0])
	c.b = c.b[1:]
	return n
}

// op is an operation of up to three parts.
func (c *script) op() api.Op {
	var o api.Op
	for range c.next() % 4 {
		n := c.next()
		o = append(o, []api.Comp{keep(n / 2), cut(n / 2), put(text(n / 2)), {Kind: n}}[c.next()%4])
	}
	return o
}

// user is any there may be.
func (c *script) user() api.Addr {
	n := c.next()
	return user(n/8%3, n%8)
}

// entry is any for s; it fits most often.
func (c *script) entry(s State) api.Entry {
	d := api.Delta{Author: c.user(), Version: c.next() % (s.Version + 2), Id: c.next(), Kind: 1 + c.next()%4}
	if c.next() < 200 && len(s.People) > 0 {
		d.Author = s.People[c.next()%len(s.People)]
	}
	var o api.Op
	switch d.Kind {
	case api.Edit:
		d.Op = c.op()
		o = c.op()
		if c.next() < 200 {
			o = append(api.Op{put(text(1 + c.next()%70))}, rows(min(len(s.Doc), 1), []api.Comp{keep(len(s.Doc)), cut(len(s.Doc))}[c.next()%2])...)
		}
	default:
		d.Who = c.user()
		if c.next() > 220 {
			o = c.op()
		}
	}
	e := entry(s, d, o)
	if n := c.next(); n > 220 {
		e.At += n%3 - 1
		e = chained(s.Hash, e)
	}
	switch n := c.next(); {
	case n > 240:
		front, behind := c.next()%len(e.S.Body), c.next()
		e.S.Body = append(e.S.Body[:front], c.b[:min(len(c.b), behind)]...)
		e = chained(s.Hash, e)
	case n > 220:
		e.Hash[c.next()%32] ^= byte(n)
	}
	return e
}

func FuzzDo(f *testing.F) {
	f.Add([]byte{})
	f.Add([]byte("put a text, add somebody, remove somebody, and so on, as the bytes have it"))
	f.Add([]byte{9, 0, 1, 0, 0, 0, 0, 0, 0, 10, 9, 0, 1, 1, 0, 0, 12, 0, 0, 9, 0, 1, 2, 0, 0, 12, 0, 255, 255, 3})
	f.Add([]byte("000000100000\xf100000000000")) // a body that is cut off, with other bytes behind it
	f.Fuzz(func(t *testing.T, b []byte) {
		c := &script{b}
		s, p := start(api.Id{Host: c.next() % 3, N: c.next() % 100}, c.user())
		id, creator := s.Id, s.People[0]
		l, states := []api.Entry(nil), []plain{p}
		for len(c.b) > 0 && len(l) < 45 {
			e := c.entry(s)
			n, q, err := does(t, s, p, e)
			if err == api.OK {
				l, states = append(l, e), append(states, q)
			}
			s, p = n, q
		}
		if len(l) > 40 {
			folds(t, "too many", id, creator, l, nil, api.ErrMany)
			l, states = l[:40], states[:41]
		}
		folds(t, "all that were done", id, creator, l, states, api.OK)
	})
}
