package log

import (
	"math/rand/v2"
	"slices"
	"strings"
	"testing"

	"comitia/api"
	"comitia/disk"
)

// TestAllShortRows does every row of a few steps on small disks, behind an Open.
func TestAllShortRows(t *testing.T) {
	l := []step{open(), app(""), app("ab"), sync(), stop(1), stop(2), crash(0), crash(9), crash(-1), wrote("\x01"), wrote(number(-1))}
	var walk func(size, more int, row []step)
	walk = func(size, more int, row []step) {
		if more == 0 {
			run(t, size, row...)
			return
		}
		for _, x := range l {
			walk(size, more-1, append(row, x))
		}
	}
	for _, size := range []int{0, 8, 17, 40} {
		walk(size, 4, []step{open()})
	}
}

func TestManyRows(t *testing.T) {
	r := rand.New(rand.NewPCG(11, 2))
	for range 10000 {
		size := r.IntN(250)
		run(t, size, append([]step{open()}, anyRow(r, size, r.IntN(40))...)...)
	}
}

func TestManyRowsOnGreatDisks(t *testing.T) {
	r := rand.New(rand.NewPCG(11, 3))
	for range 60 {
		size := api.MaxDisk - r.IntN(20)
		row := append([]step{open()}, anyRow(r, size, 60)...)
		run(t, size, row...)
	}
}

// TestManyBytes holds what Open tells of any bytes against a plain reader.
func TestManyBytes(t *testing.T) {
	r := rand.New(rand.NewPCG(11, 4))
	for range 20000 {
		s := ""
		for range r.IntN(5) {
			s += anyJunk(r)
		}
		want, _ := readPlainly(s)
		opens(t, "any bytes", diskOf(s, r.IntN(len(s)+1), r.IntN(3)), want...)
	}
}

// changed is s with one byte of it another one.
func changed(r *rand.Rand, s string) string {
	b := []byte(s)
	if len(b) > 0 {
		b[r.IntN(len(b))] ^= 1 << r.IntN(8)
	}
	return string(b)
}

// TestBytesChanged: records one of whose bytes was changed on the disk.
func TestBytesChanged(t *testing.T) {
	r := rand.New(rand.NewPCG(11, 5))
	for range 20000 {
		s := changed(r, onDisk(anyRecords(r)...))
		want, _ := readPlainly(s)
		opens(t, "a byte changed", diskOf(s, len(s), 0), want...)
	}
}

// TestWhatIsToldStoodThere: the records, each with its length, are a beginning of the bytes, and what is behind begins with none.
func TestWhatIsToldStoodThere(t *testing.T) {
	r := rand.New(rand.NewPCG(11, 6))
	for range 10000 {
		s := changed(r, anyJunk(r)+anyJunk(r))
		_, l, _ := Open(diskOf(s, 0, 0))
		rest, begins := strings.CutPrefix(s, onDisk(texts(l)...))
		_, none, _ := Open(diskOf(rest, 0, 0))
		if !begins || len(none) != 0 {
			t.Fatalf("P1101: %q: Open tells %q, then %q", s, l, none)
		}
	}
}

// stepOf makes a step of two numbers.
func stepOf(kind, n byte) step {
	switch x := (step{kind: int(kind) % kinds, n: int(int8(n))}); x.kind {
	case anAppend:
		return app(text(int(n) % 40))
	case aWrite:
		return wrote(string([]byte{n}))
	default:
		return x
	}
}

func FuzzLog(f *testing.F) {
	f.Add(100, []byte{anOpen, 0, anAppend, 3, aSync, 0, anAppend, 5, aCrash, 10, anOpen, 0})
	f.Add(60, []byte{anOpen, 0, anAppend, 5, aSync, 0, aStop, 2, anAppend, 2, anAppend, 1, aCrash, 255, anOpen, 0, aSync, 0})
	f.Add(20, []byte{aWrite, 1, aWrite, 0, aStop, 1, anOpen, 0, aCrash, 1, anOpen, 0, anAppend, 12, anAppend, 0})
	f.Fuzz(func(t *testing.T, size int, b []byte) {
		size = min(max(size, 0), api.MaxDisk)
		row := []step{open()}
		for ; len(b) > 1; b = b[2:] {
			row = append(row, stepOf(b[0], b[1]))
		}
		run(t, size, append(row, crash(size), open())...)
		look(t, size, slices.DeleteFunc(row, func(x step) bool { return x.kind == aWrite })...)
	})
}

func FuzzOpen(f *testing.F) {
	f.Add([]byte(onDisk("ab", "", "cde") + "x"))
	f.Add([]byte(number(-1) + "ab"))
	f.Add([]byte(onDisk("ab") + number(16385) + "cde"))
	f.Fuzz(func(t *testing.T, b []byte) {
		b = b[:min(len(b), api.MaxDisk)]
		d := disk.New(len(b))
		d.Append(b)
		want, _ := readPlainly(string(b))
		opens(t, "any bytes", d, want...)
		opens(t, "any bytes, again", d, want...)
	})
}
