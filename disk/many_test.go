package disk

import (
	"math/rand/v2"
	"strings"
	"testing"

	"comitia/api"
)

// TestAllShortRows does every row of a few steps on small disks.
func TestAllShortRows(t *testing.T) {
	l := rows(app(""), app("a"), app("bcd"), sync(), cut(0), cut(1), cut(3), stop(0), stop(1), stop(2), crash(0), crash(1), crash(-1))
	var row []step
	var walk func(size, more int)
	walk = func(size, more int) {
		run(t, size, row...)
		if more == 0 {
			return
		}
		for _, x := range l {
			row = append(row, x)
			walk(size, more-1)
			row = row[:len(row)-1]
		}
	}
	for _, size := range []int{0, 1, 4, 5} {
		walk(size, 5)
	}
}

func TestManyRows(t *testing.T) {
	r := rand.New(rand.NewPCG(10, 10))
	for range 20000 {
		size := r.IntN(40)
		row := anyRow(r, size, r.IntN(40))
		d, p := run(t, size, row...)
		pick := far()[r.IntN(len(far()))]
		settled(t, d, p, pick, row...)
	}
}

func TestManyRowsOnGreatDisks(t *testing.T) {
	r := rand.New(rand.NewPCG(10, 11))
	for range 60 {
		size := api.MaxDisk - 3 + r.IntN(6)
		run(t, size, anyRow(r, size, 60)...)
	}
}

// onlooker knows of a disk only what its calls answered: what was synced, and all that must be there while there is power.
type onlooker struct{ safe, all string }

// see takes in what a call answered; off: whether the power was gone ahead of it.
func (o *onlooker) see(x step, e api.Errno, off bool) {
	switch {
	case x.kind == anAppend && !off && e != api.ErrFull:
		o.all += x.s
	case x.kind == aSync && e == api.OK:
		o.safe = o.all
	case x.kind == aCut && e == api.OK:
		o.safe, o.all = o.all[:x.n], o.all[:x.n]
	}
}

// crash looks at what is there behind a Crash: all that was synced, and of what was appended behind it a front.
func (o *onlooker) crash(t *testing.T, d *Disk, row []step) {
	t.Helper()
	b, _ := d.Read()
	if !strings.HasPrefix(string(b), o.safe) || !strings.HasPrefix(o.all, string(b)) || d.Synced() != len(b) {
		t.Fatalf("P1003: %v: %q, %d synced; %q was safe, %q there", row, b, d.Synced(), o.safe, o.all)
	}
	o.safe, o.all = string(b), string(b)
}

// TestWhatWasSyncedStays looks on at many rows, and at a Crash behind each of them.
func TestWhatWasSyncedStays(t *testing.T) {
	r := rand.New(rand.NewPCG(10, 12))
	for range 20000 {
		size := r.IntN(40)
		d, o := New(size), onlooker{}
		row := append(anyRow(r, size, r.IntN(30)), crash(r.IntN(50)))
		for i, x := range row {
			off := d.Dead()
			_, e := do(d, x)
			o.see(x, e, off)
			if x.kind == aCrash {
				o.crash(t, d, row[:i+1])
			}
			if b, e := d.Read(); e == api.OK && string(b) != o.all || d.Synced() != len(o.safe) {
				t.Fatalf("P1003: %v: %q, %d synced, want %q, %q", row[:i+1], b, d.Synced(), o.all, o.safe)
			}
		}
	}
}

// TestNothingIsLostWithoutACut: whatever else is done, what was synced once is the beginning of all that is read.
func TestNothingIsLostWithoutACut(t *testing.T) {
	r := rand.New(rand.NewPCG(10, 13))
	for range 5000 {
		d, safe := New(60), ""
		for _, x := range anyRow(r, 20, 40) {
			if x.kind == aCut {
				continue
			}
			_, e := do(d, x)
			b, _ := d.Read()
			if !d.Dead() && !strings.HasPrefix(string(b), safe) || d.Synced() < len(safe) {
				t.Fatalf("P1003: %v: %q, %d synced; %q was safe", x, b, d.Synced(), safe)
			}
			if x.kind == aSync && e == api.OK {
				safe = string(b)
			}
		}
	}
}

// stepOf makes a step of two numbers.
func stepOf(kind, n byte) step {
	x := step{kind: int(kind) % kinds, n: int(int8(n))}
	if x.kind == anAppend {
		x = app(text(int(n) % 24))
	}
	return x
}

func FuzzDisk(f *testing.F) {
	f.Add(10, []byte{anAppend, 3, aCrash, 2})
	f.Add(10, []byte{anAppend, 5, aSync, 0, aStop, 2, anAppend, 2, anAppend, 1, aCrash, 255, aCut, 4})
	f.Add(-1, []byte{aStop, 1, anAppend, 24, aCrash, 128, aRead, 0})
	f.Fuzz(func(t *testing.T, size int, b []byte) {
		var row []step
		for ; len(b) > 1; b = b[2:] {
			row = append(row, stepOf(b[0], b[1]))
		}
		d, p := run(t, size, row...)
		settled(t, d, p, size, row...)
	})
}
