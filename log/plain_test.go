package log

import (
	"encoding/binary"
	"fmt"
	"math"
	"math/rand/v2"
	"regexp"
	"slices"
	"testing"

	"comitia/api"
	"comitia/disk"
)

// number is how the chapter has a number on the disk.
func number(n int) string {
	return string(binary.LittleEndian.AppendUint64(nil, uint64(n)))
}

// onDisk is how the chapter has records on the disk.
func onDisk(records ...string) string {
	s := ""
	for _, r := range records {
		s += number(len(r)) + r
	}
	return s
}

// readPlainly is the records that stand whole at the beginning of s, and what is behind them.
func readPlainly(s string) (records []string, behind string) {
	for len(s) >= 8 {
		n := int(int64(binary.LittleEndian.Uint64([]byte(s))))
		if n < 0 || n > 16384 || n > len(s)-8 {
			break
		}
		records, s = append(records, s[8:8+n]), s[8+n:]
	}
	return records, s
}

// plain is a disk with a log on it as the chapters tell of them: the disk's bytes as two texts, the log's numbers.
type plain struct {
	size          int
	synced, loose string
	stop          int // how many calls of the disk are to come up to the one at which the power goes; 0: no Stop
	dead          bool
	open          bool // whether there is a log
	count, safe   int
}

func (p *plain) all() string { return p.synced + p.loose }

// goes counts a call of the disk that would answer OK, and tells whether the power goes at it.
func (p *plain) goes() bool {
	if p.stop > 0 {
		p.stop--
		p.dead = p.stop == 0
	}
	return p.dead
}

// write is a disk's Append.
func (p *plain) write(s string) api.Errno {
	switch {
	case p.dead:
		return api.ErrDead
	case len(p.all())+len(s) > p.size:
		return api.ErrFull
	}
	p.loose += s
	if p.goes() {
		return api.ErrDead
	}
	return api.OK
}

// keep is a disk's Cut of some that are there, or its Sync.
func (p *plain) keep(n int) api.Errno {
	if p.dead || p.goes() {
		return api.ErrDead
	}
	p.synced, p.loose = p.all()[:n], ""
	return api.OK
}

// Kinds of steps: calls of a log, then those of its disk.
const (
	anOpen = iota
	anAppend
	aSync
	aStop
	aCrash
	aWrite
	kinds
)

// step is a call: an Append or a write to the disk of s, a Stop or a Crash with n.
type step struct {
	kind, n int
	s       string
}

func (x step) String() string {
	switch x.kind {
	case anOpen:
		return "Open"
	case anAppend:
		return fmt.Sprintf("Append(%.20q, of %d)", x.s, len(x.s))
	case aSync:
		return "Sync()"
	case aStop:
		return fmt.Sprintf("Stop(%d)", x.n)
	case aCrash:
		return fmt.Sprintf("Crash(%d)", x.n)
	}
	return fmt.Sprintf("on the disk: %.40q, of %d", x.s, len(x.s))
}

func open() step          { return step{kind: anOpen} }
func app(s string) step   { return step{kind: anAppend, s: s} }
func sync() step          { return step{kind: aSync} }
func stop(n int) step     { return step{kind: aStop, n: n} }
func crash(n int) step    { return step{kind: aCrash, n: n} }
func wrote(s string) step { return step{kind: aWrite, s: s} }

// do is what a plain disk and log answer to a step: records and an error. There must be a log for an Append and a Sync.
func (p *plain) do(x step) ([]string, api.Errno) {
	switch x.kind {
	case anOpen:
		return p.opened()
	case anAppend:
		return nil, p.append(x.s)
	case aSync:
		e := p.keep(len(p.all()))
		if e == api.OK {
			p.safe = p.count
		}
		return nil, e
	case aStop:
		if p.stop = 0; x.n >= 1 && !p.dead {
			p.stop = x.n
		}
	case aCrash:
		count := len(p.loose) + 1
		n := (x.n%count + count) % count
		*p = plain{size: p.size, synced: p.synced + p.loose[:n]}
	case aWrite:
		return nil, p.write(x.s)
	}
	return nil, api.OK
}

func (p *plain) opened() ([]string, api.Errno) {
	p.open, p.count, p.safe = false, 0, 0
	records, behind := readPlainly(p.all())
	if e := p.keep(len(p.all()) - len(behind)); e != api.OK {
		return nil, e
	}
	p.open, p.count, p.safe = true, len(records), len(records)
	return records, api.OK
}

func (p *plain) append(s string) api.Errno {
	if len(s) > 16384 {
		return api.ErrLong
	}
	e := p.write(onDisk(s))
	if e == api.OK {
		p.count++
	}
	return e
}

// real is a disk with a log on it, if there is one.
type real struct {
	d *disk.Disk
	l *Log
}

// do is what a disk and its log answer to a step, told as plain ones do. A Crash takes the log away, as the power of a machine would.
func (a *real) do(t *testing.T, x step) ([]string, api.Errno) {
	t.Helper()
	switch x.kind {
	case anOpen:
		l, records, e := Open(a.d)
		a.l = l
		if (l == nil) != (e != api.OK) {
			t.Fatalf("P4: Open: %v beside %v", l, e)
		}
		return texts(records), e
	case anAppend:
		return nil, a.l.Append([]byte(x.s))
	case aSync:
		return nil, a.l.Sync()
	case aStop:
		a.d.Stop(x.n)
	case aCrash:
		a.d.Crash(x.n)
		a.l = nil
	case aWrite:
		return nil, a.d.Append([]byte(x.s))
	}
	return nil, api.OK
}

func texts(l [][]byte) []string {
	var out []string
	for _, b := range l {
		out = append(out, string(b))
	}
	return out
}

// same holds all that can be asked of a disk and its log against plain ones.
func same(t *testing.T, a *real, p *plain, row ...step) {
	t.Helper()
	b, e := a.d.Read()
	if want := p.all(); !p.dead && (string(b) != want || e != api.OK) || a.d.Dead() != p.dead || a.d.Synced() != len(p.synced) {
		t.Fatalf("P1101: size %d, %v: on the disk %.80q, %d synced, Dead %v; want %.80q, %d, %v", p.size, row, b, a.d.Synced(), a.d.Dead(), want, len(p.synced), p.dead)
	}
	if (a.l != nil) != p.open {
		t.Fatalf("P1101: size %d, %v: a log: %v, want %v", p.size, row, a.l != nil, p.open)
	}
	if a.l != nil && (a.l.Count() != p.count || a.l.Safe() != p.safe) {
		t.Fatalf("P1101: size %d, %v: %d records, %d safe; want %d, %d", p.size, row, a.l.Count(), a.l.Safe(), p.count, p.safe)
	}
}

// run does a row of steps on a new disk and holds each answer, and what is there behind each, against plain ones. An Append or a Sync without a log is left out.
func run(t *testing.T, size int, row ...step) (*real, *plain) {
	t.Helper()
	a, p := &real{d: disk.New(size)}, &plain{size: size}
	for i, x := range row {
		if !p.open && (x.kind == anAppend || x.kind == aSync) {
			continue
		}
		records, e := a.do(t, x)
		want, wantErr := p.do(x)
		if !slices.Equal(records, want) || e != wantErr {
			t.Fatalf("P1101: size %d, %v: the last one answers %.80q, %v; want %.80q, %v", size, row[:i+1], records, e, want, wantErr)
		}
		same(t, a, p, row[:i+1]...)
	}
	return a, p
}

// diskOf is a disk with so much room behind s; so many bytes of s are synced.
func diskOf(s string, synced, room int) *disk.Disk {
	d := disk.New(len(s) + room)
	d.Append([]byte(s[:synced]))
	d.Sync()
	d.Append([]byte(s[synced:]))
	return d
}

// promise is what is looked at, with the number of the promise that it falls under ahead: P1101, if it names no other.
func promise(what string) string {
	if regexp.MustCompile("^P[0-9]").MatchString(what) {
		return what
	}
	return "P1101: " + what
}

// opens opens a log and holds what it tells, and what is left on the disk, against what it must.
func opens(t *testing.T, what string, d *disk.Disk, want ...string) *Log {
	t.Helper()
	l, records, e := Open(d)
	if e != api.OK || l == nil || !slices.Equal(texts(records), want) {
		t.Fatalf("%s: Open tells %d records, %.80q, %v; want %d, %.80q", promise(what), len(records), records, e, len(want), want)
	}
	counts(t, what, l, len(want), len(want))
	holds(t, what, d, onDisk(want...), len(onDisk(want...)))
	return l
}

// counts holds a log's numbers against what they must be.
func counts(t *testing.T, what string, l *Log, count, safe int) {
	t.Helper()
	if l.Count() != count || l.Safe() != safe {
		t.Fatalf("%s: %d records, %d safe; want %d, %d", promise(what), l.Count(), l.Safe(), count, safe)
	}
}

// holds holds what stands on a disk against what must.
func holds(t *testing.T, what string, d *disk.Disk, want string, synced int) {
	t.Helper()
	b, e := d.Read()
	if string(b) != want || e != api.OK || d.Synced() != synced {
		t.Fatalf("%s: on the disk %d bytes, %.80q, %v, %d synced; want %d, %.80q, %d synced", promise(what), len(b), b, e, d.Synced(), len(want), want, synced)
	}
}

// answers holds what a call answers against what it must.
func answers(t *testing.T, what string, got, want api.Errno) {
	t.Helper()
	if got != want {
		t.Fatalf("%s: %v, want %v", promise(what), got, want)
	}
}

// refuses holds a refused Open against what it must answer.
func refuses(t *testing.T, what string, d *disk.Disk, want api.Errno) {
	t.Helper()
	if l, records, e := Open(d); l != nil || len(records) != 0 || e != want {
		t.Fatalf("%s: Open answers a log: %v, %.80q, %v; want none, %v", promise(what), l != nil, records, e, want)
	}
}

// text is so many bytes, hardly two of them side by side alike.
func text(n int) string {
	b := make([]byte, n)
	for i := range b {
		b[i] = byte(i*7 + i>>8)
	}
	return string(b)
}

// far are numbers of all sizes.
func far() []int {
	l := []int{math.MinInt, math.MinInt + 1, math.MaxInt - 1, math.MaxInt}
	for shift := 0; shift < 63; shift++ {
		l = append(l, 1<<shift-1, 1<<shift, 1<<shift+1, -1<<shift-1, -1<<shift, -1<<shift+1)
	}
	return l
}

func anyBytes(r *rand.Rand, n int) string {
	b := make([]byte, n)
	for i := range b {
		b[i] = byte(r.IntN(256))
	}
	return string(b)
}

// anyRecords are some records of few bytes, many of them of none.
func anyRecords(r *rand.Rand) []string {
	l := make([]string, r.IntN(6))
	for i := range l {
		l[i] = anyBytes(r, r.IntN(2)*r.IntN(12))
	}
	return l
}
