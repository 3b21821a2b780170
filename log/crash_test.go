package log

import (
	"math/rand/v2"
	"slices"
	"testing"

	"comitia/api"
	"comitia/disk"
)

// onlooker knows of a log only what its calls answered: what was safe, and all that may be there.
type onlooker struct {
	safe, all []string
	unsure    bool // whether the last one of all did not count: the power went at it
}

// append takes in what an Append answered; off: whether the power was gone ahead of it.
func (o *onlooker) append(s string, e api.Errno, off bool) {
	if e == api.OK || e == api.ErrDead && !off {
		o.all = append(o.all, s)
		o.unsure = e != api.OK
	}
}

// sync takes in what a Sync answered.
func (o *onlooker) sync(e api.Errno) {
	if e == api.OK {
		o.safe = slices.Clone(o.all)
	}
}

// opened holds what Open tells against what was seen: all, if nothing was lost; else a beginning of the records, each whole, with all that were safe.
func (o *onlooker) opened(t *testing.T, l *Log, records []string, lost bool, row []step) {
	t.Helper()
	n := len(records)
	if n < len(o.safe) || n > len(o.all) || !lost && n < len(o.all) || !slices.Equal(records, o.all[:n]) {
		t.Fatalf("P1102: %v: Open tells %.200q; %.200q were safe, %.200q there", row, records, o.safe, o.all)
	}
	*o = onlooker{safe: slices.Clone(records), all: slices.Clone(records)}
}

// counts holds a log's numbers against what was seen.
func (o *onlooker) counts(t *testing.T, l *Log, row []step) {
	t.Helper()
	count := len(o.all)
	if o.unsure {
		count--
	}
	if l.Count() != count || l.Safe() != len(o.safe) {
		t.Fatalf("P1102: %v: %d records, %d safe; %q were told or appended, %q safe", row, l.Count(), l.Safe(), o.all, o.safe)
	}
}

// look does a row of steps on a new disk, with the onlooker beside it; behind each Crash, and in the end, the log is opened.
func look(t *testing.T, size int, row ...step) {
	t.Helper()
	d, o := disk.New(size), &onlooker{}
	l, _, _ := Open(d)
	row = append(row, crash(0))
	for i, x := range row {
		off := d.Dead()
		switch x.kind {
		case anAppend:
			o.append(x.s, l.Append([]byte(x.s)), off)
		case aSync:
			o.sync(l.Sync())
		case aStop:
			d.Stop(x.n)
		case aCrash:
			d.Crash(x.n)
			fallthrough
		case anOpen:
			again, records, e := Open(d)
			if e == api.OK {
				l = again
				o.opened(t, l, texts(records), x.kind == aCrash, row[:i+1])
			} else if e != api.ErrDead || x.kind == aCrash {
				t.Fatalf("P1102: %v: Open answers %v", row[:i+1], e)
			}
		}
		o.counts(t, l, row[:i+1])
	}
}

// TestEveryCrash: some records, some of them safe, and every number of bytes that a Crash may leave of the others.
func TestEveryCrash(t *testing.T) {
	for _, all := range [][]string{{}, {""}, {"a"}, {"", ""}, {"abc", "", "de"}, {"", "", "x", ""}, {text(20), "b", text(9)}} {
		for safe := range len(all) + 1 {
			loose := len(onDisk(all[safe:]...))
			for pick := range loose + 1 {
				d := disk.New(200)
				l := opens(t, "a new disk", d)
				for i, s := range all {
					if i == safe {
						answers(t, "Sync", l.Sync(), api.OK)
					}
					answers(t, "Append", l.Append([]byte(s)), api.OK)
				}
				if safe == len(all) {
					answers(t, "Sync", l.Sync(), api.OK)
				}
				counts(t, "P1102: ahead of a Crash", l, len(all), safe)
				d.Crash(pick)
				stay, end := safe, 0
				for stay < len(all) && end+8+len(all[stay]) <= pick {
					end += 8 + len(all[stay])
					stay++
				}
				opens(t, "P1102: behind a Crash", d, all[:stay]...)
			}
		}
	}
}

// TestCrashesOneBehindAnother: rounds of a few records, a Sync or none, and every Crash.
func TestCrashesOneBehindAnother(t *testing.T) {
	rounds := [][]step{{}, {app("a")}, {app(""), app("bc")}, {app("d"), sync()}, {sync(), app("ef")}, {app("g"), sync(), app("")}}
	picks := []int{0, 1, 7, 8, 9, 10, 17, 18, 19}
	for _, a := range rounds {
		for _, b := range rounds {
			for _, c := range rounds {
				for _, x := range picks {
					for _, y := range picks {
						look(t, 200, slices.Concat(a, []step{crash(x)}, b, []step{crash(y)}, c, []step{crash(x * y)})...)
					}
				}
			}
		}
	}
}

// TestTheGreatestRecordsCrash: at bytes here and there of records of the greatest length.
func TestTheGreatestRecordsCrash(t *testing.T) {
	one, two := text(16384), text(16383)
	for _, pick := range []int{0, 1, 7, 8, 9, 8191, 16391, 16392, 16393, 16399, 16400, 16401, 32774, 32775, 32776, 32782} {
		d := disk.New(api.MaxDisk)
		l := opens(t, "a new disk", d)
		answers(t, "Append", l.Append([]byte(one)), api.OK)
		answers(t, "Sync", l.Sync(), api.OK)
		answers(t, "Append", l.Append([]byte(two)), api.OK)
		answers(t, "Append", l.Append([]byte(one)), api.OK)
		d.Crash(pick)
		want := []string{one}
		if pick >= 16391 {
			want = append(want, two)
		}
		if pick >= 16391+16392 {
			want = append(want, one)
		}
		opens(t, "P1102: behind a Crash", d, want...)
	}
	look(t, api.MaxDisk, app(one), sync(), app(two), app(one), crash(16391+16392), app(one), app(text(16000)), crash(20000))
}

// anyStep is a step of any kind; records and numbers are small, but for a few.
func anyStep(r *rand.Rand, size int) step {
	switch x := (step{kind: r.IntN(kinds)}); x.kind {
	case anAppend:
		if r.IntN(50) == 0 {
			return app(text(16383 + r.IntN(3)))
		}
		return app(anyBytes(r, r.IntN(2)*r.IntN(size/6+2)))
	case aStop:
		return stop(r.IntN(9) - 1)
	case aCrash:
		if r.IntN(5) == 0 {
			return crash(far()[r.IntN(len(far()))])
		}
		return crash(r.IntN(size + 2))
	case aWrite:
		return wrote(anyJunk(r))
	default:
		return x
	}
}

// anyJunk is bytes that others may have written: whole records, beginnings of some, lengths that may not be, any ones.
func anyJunk(r *rand.Rand) string {
	s := onDisk(anyRecords(r)...)
	switch r.IntN(5) {
	case 0:
		return s[:r.IntN(len(s)+1)]
	case 1:
		return s + number(unfit()[r.IntN(30)]) + "ab"
	case 2:
		return anyBytes(r, r.IntN(12))
	}
	return s
}

// anyRow is a row of steps, a log's own more often than others.
func anyRow(r *rand.Rand, size, count int) []step {
	l := make([]step, count)
	for i := range l {
		l[i] = anyStep(r, size)
		if r.IntN(2) == 0 {
			l[i] = []step{app(anyBytes(r, r.IntN(9))), app(""), sync(), app("x")}[r.IntN(4)]
		}
	}
	return l
}

// TestNothingSafeIsLost looks on at many rows, in which nobody else writes to the disk.
func TestNothingSafeIsLost(t *testing.T) {
	r := rand.New(rand.NewPCG(11, 1))
	for range 10000 {
		size := r.IntN(200)
		row := slices.DeleteFunc(anyRow(r, size, r.IntN(30)), func(x step) bool { return x.kind == aWrite })
		look(t, size, row...)
	}
}

// TestOpenIsCrashed: the power goes at Open itself, and the Crash behind it takes no safe record.
func TestOpenIsCrashed(t *testing.T) {
	for first := range 30 {
		for second := range 30 {
			look(t, 100, app("ab"), sync(), app("cde"), app("f"), crash(first), app("ghi"), stop(1), open(), crash(second), app("j"), stop(1), sync(), crash(second))
		}
	}
}
