package disk

import (
	"fmt"
	"math"
	"math/rand/v2"
	"testing"

	"comitia/api"
)

// plain is a disk as the chapter tells of one, kept as two texts.
type plain struct {
	size          int
	synced, loose string
	stop          int // how many calls are to come up to the one at which the power goes; 0: no Stop
	dead          bool
}

func newPlain(size int) *plain {
	if size < 0 {
		size = 0
	}
	if size > 65536 {
		size = 65536
	}
	return &plain{size: size}
}

func (p *plain) all() string { return p.synced + p.loose }

// goes counts a call that would answer OK, and tells whether the power goes at it.
func (p *plain) goes() bool {
	if p.stop > 0 {
		p.stop--
		p.dead = p.stop == 0
	}
	return p.dead
}

// Kinds of steps.
const (
	anAppend = iota
	aSync
	aCut
	aRead
	aStop
	aCrash
	kinds
)

// step is a call: an Append of s, a Cut, a Stop or a Crash with n.
type step struct {
	kind, n int
	s       string
}

func (x step) String() string {
	switch x.kind {
	case anAppend:
		return fmt.Sprintf("Append(%.40q, of %d)", x.s, len(x.s))
	case aSync:
		return "Sync()"
	case aCut:
		return fmt.Sprintf("Cut(%d)", x.n)
	case aRead:
		return "Read()"
	case aStop:
		return fmt.Sprintf("Stop(%d)", x.n)
	}
	return fmt.Sprintf("Crash(%d)", x.n)
}

// do is what a plain disk answers to a step: an error (OK, where a call answers none) and bytes.
func (p *plain) do(x step) (string, api.Errno) {
	switch {
	case x.kind == aStop:
		p.stop = 0
		if x.n >= 1 && !p.dead {
			p.stop = x.n
		}
	case x.kind == aCrash:
		count := len(p.loose) + 1
		rest := x.n % count
		if rest < 0 {
			rest += count
		}
		*p = plain{size: p.size, synced: p.synced + p.loose[:rest]}
	case p.dead:
		return "", api.ErrDead
	case x.kind == aRead:
		return p.all(), api.OK
	case x.kind == anAppend:
		return "", p.add(x.s)
	case x.kind == aSync:
		return "", p.keep(len(p.all()))
	case x.kind == aCut:
		return "", p.keep(x.n)
	}
	return "", api.OK
}

func (p *plain) add(s string) api.Errno {
	if len(p.all())+len(s) > p.size {
		return api.ErrFull
	}
	p.loose += s
	if p.goes() {
		return api.ErrDead
	}
	return api.OK
}

func (p *plain) keep(n int) api.Errno {
	if n < 0 || n > len(p.all()) {
		return api.ErrArg
	}
	if p.goes() {
		return api.ErrDead
	}
	p.synced, p.loose = p.all()[:n], ""
	return api.OK
}

// do is what a disk answers to a step, told as a plain one does.
func do(d *Disk, x step) (string, api.Errno) {
	switch x.kind {
	case anAppend:
		return "", d.Append([]byte(x.s))
	case aSync:
		return "", d.Sync()
	case aCut:
		return "", d.Cut(x.n)
	case aRead:
		b, e := d.Read()
		return string(b), e
	case aStop:
		d.Stop(x.n)
	case aCrash:
		d.Crash(x.n)
	}
	return "", api.OK
}

// same holds all that can be asked of a disk against a plain one.
func same(t *testing.T, d *Disk, p *plain, row ...step) {
	t.Helper()
	b, e := d.Read()
	want, wantErr := p.do(step{kind: aRead})
	if string(b) != want || e != wantErr || d.Synced() != len(p.synced) || d.Dead() != p.dead {
		t.Fatalf("size %d, %v: Read %.80q, %v, Synced %d, Dead %v; want %.80q, %v, %d, %v", p.size, row, b, e, d.Synced(), d.Dead(), want, wantErr, len(p.synced), p.dead)
	}
}

// run does a row of steps on a new disk and holds each answer, and what is there in the end, against a plain one.
func run(t *testing.T, size int, row ...step) (*Disk, *plain) {
	t.Helper()
	d, p := New(size), newPlain(size)
	for i, x := range row {
		s, e := do(d, x)
		if want, wantErr := p.do(x); s != want || e != wantErr {
			t.Fatalf("size %d, %v: the last one answers %.80q, %v; want %.80q, %v", size, row[:i+1], s, e, want, wantErr)
		}
	}
	same(t, d, p, row...)
	return d, p
}

// settled crashes the disk, if the power is gone, so that its bytes can be read; the first of the loose ones stay.
func settled(t *testing.T, d *Disk, p *plain, pick int, row ...step) {
	t.Helper()
	d.Crash(pick)
	p.do(step{kind: aCrash, n: pick})
	same(t, d, p, append(row, step{kind: aCrash, n: pick})...)
}

func app(s string) step     { return step{kind: anAppend, s: s} }
func sync() step            { return step{kind: aSync} }
func cut(n int) step        { return step{kind: aCut, n: n} }
func read() step            { return step{kind: aRead} }
func stop(n int) step       { return step{kind: aStop, n: n} }
func crash(n int) step      { return step{kind: aCrash, n: n} }
func rows(l ...step) []step { return l }

// text is so many bytes, hardly two of them side by side alike.
func text(n int) string {
	b := make([]byte, n)
	for i := range b {
		b[i] = byte(i*7 + i>>8)
	}
	return string(b)
}

// far are numbers of all sizes.
func far() []int {
	l := []int{math.MinInt, math.MinInt + 1, math.MaxInt - 1, math.MaxInt}
	for shift := 0; shift < 63; shift++ {
		l = append(l, 1<<shift-1, 1<<shift, 1<<shift+1, -1<<shift-1, -1<<shift, -1<<shift+1)
	}
	return l
}

func anyBytes(r *rand.Rand, n int) string {
	b := make([]byte, n)
	for i := range b {
		b[i] = byte(r.IntN(256))
	}
	return string(b)
}
