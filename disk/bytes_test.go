package disk

import (
	"math"
	"strings"
	"testing"

	"comitia/api"
)

// has holds what a disk tells against what it must.
func has(t *testing.T, what string, d *Disk, bytes string, synced int) {
	t.Helper()
	b, e := d.Read()
	if string(b) != bytes || e != api.OK || d.Synced() != synced || d.Dead() {
		t.Fatalf("P1001: %s: %.80q, %v, %d synced, Dead %v; want %.80q, %d synced", what, b, e, d.Synced(), d.Dead(), bytes, synced)
	}
}

// answers holds what a call answers against what it must.
func answers(t *testing.T, what string, got, want api.Errno) {
	t.Helper()
	if got != want {
		t.Fatalf("P1001: %s: %v, want %v", what, got, want)
	}
}

// hasRoom holds how much room is left: so many bytes find it, one more does not.
func hasRoom(t *testing.T, what string, d *Disk, room int) {
	t.Helper()
	was, _ := d.Read()
	synced := d.Synced()
	answers(t, what+": one byte too many", d.Append(make([]byte, room+1)), api.ErrFull)
	has(t, what+": one byte too many", d, string(was), synced)
	answers(t, what+": just as many as find room", d.Append([]byte(text(room))), api.OK)
	has(t, what+": just as many as find room", d, string(was)+text(room), synced)
	answers(t, what+": full", d.Append([]byte{1}), api.ErrFull)
	answers(t, what+": full, none", d.Append(nil), api.OK)
	answers(t, what+": full, none", d.Append([]byte{}), api.OK)
	has(t, what+": full", d, string(was)+text(room), synced)
}

func TestNewOfAnySize(t *testing.T) {
	sizes := map[int]int{0: 0, 1: 1, 2: 2, 10: 10, 255: 255, 256: 256, 65535: 65535, 65536: 65536, 65537: 65536, 65538: 65536, 131072: 65536, 131073: 65536, -1: 0, -2: 0, -65536: 0}
	for _, n := range far() {
		sizes[n] = min(max(n, 0), 65536)
	}
	for size, room := range sizes {
		d := New(size)
		has(t, "new", d, "", 0)
		hasRoom(t, "new", d, room)
	}
}

func TestAppendInPieces(t *testing.T) {
	whole := text(1000)
	for _, piece := range []int{1, 2, 3, 10, 499, 500, 1000} {
		d := New(len(whole))
		for at := 0; at < len(whole); at += piece {
			has(t, "ahead of a piece", d, whole[:at], 0)
			answers(t, "a piece", d.Append([]byte(whole[at:min(at+piece, len(whole))])), api.OK)
		}
		has(t, "all pieces", d, whole, 0)
		hasRoom(t, "all pieces", d, 0)
	}
}

// TestAppendByteByByte fills the greatest disk, so that every place of one is looked at.
func TestAppendByteByByte(t *testing.T) {
	d, whole := New(api.MaxDisk), text(api.MaxDisk)
	for i := range whole {
		answers(t, "a byte", d.Append([]byte{whole[i]}), api.OK)
		if i%1000 == 0 {
			answers(t, "Sync", d.Sync(), api.OK)
		}
	}
	has(t, "full", d, whole, 65001)
	hasRoom(t, "full", d, 0)
}

func TestAppendOfTooMuch(t *testing.T) {
	for size := range 20 {
		for there := range size + 1 {
			for _, more := range []int{1, 2, 3, 100, 65536, 1 << 20} {
				d := New(size)
				answers(t, "Append", d.Append([]byte(text(there))), api.OK)
				answers(t, "too much", d.Append(make([]byte, size-there+more)), api.ErrFull)
				has(t, "too much", d, text(there), 0)
				hasRoom(t, "too much", d, size-there)
			}
		}
	}
}

func TestAppendBehindSyncCutAndCrash(t *testing.T) {
	for name, behind := range map[string]func(d *Disk){
		"Sync":  func(d *Disk) { d.Sync() },
		"Cut":   func(d *Disk) { d.Cut(7) },
		"Crash": func(d *Disk) { d.Crash(2) },
	} {
		d := New(12)
		d.Append([]byte("hello"))
		d.Sync()
		d.Append([]byte("12345"))
		behind(d)
		n := map[string]int{"Sync": 10, "Cut": 7, "Crash": 7}[name]
		has(t, name, d, "hello12345"[:n], n)
		hasRoom(t, name, d, 12-n)
		has(t, name, d, "hello12345"[:n]+text(12-n), n)
	}
}

// TestRoomBehindCutAndCrash: what was cut off or lost takes no room any more, whatever there was.
func TestRoomBehindCutAndCrash(t *testing.T) {
	for size := range 9 {
		for n := range size + 1 {
			d := New(size)
			d.Append([]byte(text(size)))
			d.Cut(n)
			hasRoom(t, "behind a Cut", d, size-n)
			d.Cut(0)
			hasRoom(t, "behind a Cut of all", d, size)

			d = New(size)
			d.Append([]byte(text(size)))
			d.Crash(n)
			hasRoom(t, "behind a Crash", d, size-n)
		}
	}
}

func TestNothingIsReadTwice(t *testing.T) {
	d := New(300)
	every := text(256)
	answers(t, "Append", d.Append([]byte(every)), api.OK)
	for range 3 {
		has(t, "read again", d, every, 0)
	}
	answers(t, "Append", d.Append([]byte("\x00\xff\x00")), api.OK)
	has(t, "bytes of noughts", d, every+"\x00\xff\x00", 0)
}

func TestSync(t *testing.T) {
	d := New(10)
	answers(t, "Sync of none", d.Sync(), api.OK)
	has(t, "Sync of none", d, "", 0)
	for _, row := range []struct {
		more, bytes string
		synced      int
	}{{"abc", "abc", 0}, {"", "abc", 3}, {"d", "abcd", 3}, {"ef", "abcdef", 4}, {"ghij", "abcdefghij", 6}, {"", "abcdefghij", 10}} {
		answers(t, "Append", d.Append([]byte(row.more)), api.OK)
		has(t, "behind an Append", d, row.bytes, row.synced)
		for range 2 {
			answers(t, "Sync", d.Sync(), api.OK)
			has(t, "behind a Sync", d, row.bytes, len(row.bytes))
		}
	}
	answers(t, "an Append that is refused", d.Append([]byte("x")), api.ErrFull)
	has(t, "an Append that is refused", d, "abcdefghij", 10)
}

// filled is a disk with some bytes that are synced, and some that are not.
func filled(synced, loose int) *Disk {
	d, s := New(synced+loose+3), []byte(text(synced+loose))
	d.Append(s[:synced])
	d.Sync()
	d.Append(s[synced:])
	return d
}

// TestCut cuts at every place; what is left is synced, so that no Crash takes any of it.
func TestCut(t *testing.T) {
	for synced := range 5 {
		for loose := range 5 {
			for n := range synced + loose + 1 {
				d := filled(synced, loose)
				answers(t, "Cut", d.Cut(n), api.OK)
				has(t, "Cut", d, text(synced + loose)[:n], n)
				for pick := range loose + 2 {
					d.Crash(pick)
					has(t, "Cut, then a Crash", d, text(synced + loose)[:n], n)
				}
				hasRoom(t, "Cut", d, synced+loose+3-n)
			}
		}
	}
}

func TestCutWhereItMayNotBe(t *testing.T) {
	for synced := range 5 {
		for loose := range 5 {
			all := synced + loose
			for _, n := range append(far(), all+1, all+2, all+3, all+4, -all, -all-1) {
				if n >= 0 && n <= all {
					continue
				}
				d := filled(synced, loose)
				answers(t, "Cut", d.Cut(n), api.ErrArg)
				has(t, "Cut", d, text(all), synced)
				d.Crash(0)
				has(t, "Cut, then a Crash", d, text(all)[:synced], synced)
			}
		}
	}
}

func TestCutAgain(t *testing.T) {
	d := filled(5, 5)
	for n := 10; n >= 0; n-- {
		for range 2 {
			answers(t, "Cut", d.Cut(n), api.OK)
			has(t, "Cut", d, text(10)[:n], n)
		}
		answers(t, "Cut", d.Cut(n+1), api.ErrArg)
		has(t, "Cut", d, text(10)[:n], n)
	}
}

// TestCutLeavesNothingBehind: bytes that were cut off do not come again.
func TestCutLeavesNothingBehind(t *testing.T) {
	d := filled(5, 5)
	d.Cut(3)
	d.Append(nil)
	d.Append([]byte("x"))
	has(t, "behind a Cut", d, text(3)+"x", 3)
	d.Cut(0)
	d.Append(make([]byte, 5))
	has(t, "noughts behind a Cut", d, strings.Repeat("\x00", 5), 0)
	d.Crash(3)
	d.Append([]byte("ab"))
	has(t, "behind a Crash", d, "\x00\x00\x00ab", 3)
}

func TestTheGreatestDiskCut(t *testing.T) {
	d, whole := New(math.MaxInt), text(api.MaxDisk)
	answers(t, "Append", d.Append([]byte(whole)), api.OK)
	answers(t, "Cut", d.Cut(api.MaxDisk+1), api.ErrArg)
	has(t, "full", d, whole, 0)
	for _, n := range []int{65536, 65535, 32769, 32768, 257, 256, 255, 1, 0} {
		answers(t, "Cut", d.Cut(n), api.OK)
		has(t, "Cut", d, whole[:n], n)
	}
}
