package log

import (
	"math"
	"slices"
	"strings"
	"testing"

	"comitia/api"
	"comitia/disk"
)

func TestOpenOfANewDisk(t *testing.T) {
	for _, size := range append(far(), 0, 7, 8, 100, 65536) {
		d := disk.New(size)
		for range 3 {
			opens(t, "a new disk", d)
		}
		d.Crash(size)
		opens(t, "a new disk, crashed", d)
	}
}

// sizes are lengths of records: the least, the greatest, and those at which another of a length's bytes comes into play.
func sizes() []int {
	return []int{0, 1, 2, 3, 7, 8, 9, 16, 127, 128, 255, 256, 257, 511, 512, 4095, 4096, 16382, 16383, 16384}
}

func TestOpenOfOneRecord(t *testing.T) {
	for _, n := range sizes() {
		s := text(n)
		d := diskOf(onDisk(s), 0, 10)
		opens(t, "one record", d, s)
		opens(t, "one record again", d, s)
		opens(t, "one record lacks a byte", diskOf(onDisk(s)[:8+n-1], 0, 10))
		opens(t, "one record and a byte", diskOf(onDisk(s)+"\x00", 0, 10), s)
		opens(t, "one record and another of none", diskOf(onDisk(s, ""), 0, 10), s, "")
	}
}

// TestOpenOfRecordsInAnyOrder: three of some lengths, one behind the other.
func TestOpenOfRecordsInAnyOrder(t *testing.T) {
	for _, a := range sizes() {
		for _, b := range sizes() {
			for _, c := range []int{0, 1, 300, 16384} {
				l := []string{text(a), strings.Repeat("\x00", b), strings.Repeat("\xff", c)}
				opens(t, "three records", diskOf(onDisk(l...), 0, 0), l...)
			}
		}
	}
}

// TestOpenOfRecordsThatLookLikeLengths: what a record says is nothing to those behind it.
func TestOpenOfRecordsThatLookLikeLengths(t *testing.T) {
	l := []string{number(-1), onDisk("a", ""), number(1 << 14), "", number(0), number(math.MinInt) + "x", onDisk("b")[:5]}
	opens(t, "records like lengths", diskOf(onDisk(l...), 0, 0), l...)
	slices.Reverse(l)
	opens(t, "records like lengths", diskOf(onDisk(l...), 0, 0), l...)
}

// TestOpenOfAFullDisk: of many records of none, and of the greatest ones.
func TestOpenOfAFullDisk(t *testing.T) {
	many := make([]string, api.MaxDisk/8)
	opens(t, "many records of none", diskOf(onDisk(many...), 0, 0), many...)
	great := []string{text(16384), text(16384), text(16384), text(api.MaxDisk - 3*16392 - 8)}
	opens(t, "great records", diskOf(onDisk(great...), 0, 0), great...)
	every := make([]string, 256)
	for i := range every {
		every[i] = string([]byte{byte(i)})
	}
	opens(t, "each byte", diskOf(onDisk(every...), 0, 0), every...)
}

// TestOpenOfBytesThatEnd at each place, within lengths and within records: of what is synced, and of what is not.
func TestOpenOfBytesThatEnd(t *testing.T) {
	for _, l := range [][]string{{"a"}, {"", ""}, {"abc", "", "de"}, {"", "abcdefghij", "k", ""}, {text(300), "x"}} {
		s := onDisk(l...)
		for end := range len(s) + 1 {
			whole, at := 0, 0
			for whole < len(l) && at+8+len(l[whole]) <= end {
				at += 8 + len(l[whole])
				whole++
			}
			for _, synced := range []int{0, at / 2, at, min(at+1, end), end} {
				d := diskOf(s[:end], synced, 9)
				opens(t, "bytes that end", d, l[:whole]...)
				opens(t, "bytes that end, again", d, l[:whole]...)
			}
		}
	}
}

// TestOpenOfManyLengths: as many bytes as it says are there, then one lacks.
func TestOpenOfManyLengths(t *testing.T) {
	bytes := text(16400)
	for n := 0; n <= len(bytes); n++ {
		if n > 600 && n < 16200 {
			n += 60
		}
		there, lacks := opensOne(t, n, bytes[:n]), opensOne(t, n, bytes[:max(n-1, 0)])
		if n <= 16384 && there != n || n > 16384 && there != -1 || n > 0 && lacks != -1 {
			t.Fatalf("P1101: a length of %d: %d, %d where a byte lacks", n, there, lacks)
		}
	}
}

// opensOne is how long the one record is that stands behind a length, -1 if none.
func opensOne(t *testing.T, n int, s string) int {
	t.Helper()
	_, l, e := Open(diskOf(number(n)+s, 0, 0))
	if e != api.OK || len(l) > 1 || len(l) == 1 && string(l[0]) != s {
		t.Fatalf("P1101: a length of %d: %v, %d records", n, e, len(l))
	}
	if len(l) == 0 {
		return -1
	}
	return len(l[0])
}

// unfit are lengths that may not be, also such whose lowest bytes alone could be.
func unfit() []int {
	l := []int{-1, -2, -8, -16384, -16385, 16385, 16386, 32768, 65535, 65536, math.MinInt + 2, math.MinInt + 3, math.MinInt + 16384}
	for shift := 14; shift < 63; shift++ {
		l = append(l, 1<<shift+1, 1<<shift+2, -1<<shift, -1<<shift+1, -1<<shift+2)
	}
	for _, n := range far() {
		if n < 0 || n > 16384 {
			l = append(l, n)
		}
	}
	return l
}

// TestOpenOfLengthsThatMayNotBe: they stand at no record, and what is behind them is none, however it looks.
func TestOpenOfLengthsThatMayNotBe(t *testing.T) {
	for _, n := range unfit() {
		for _, ahead := range [][]string{nil, {""}, {"ab"}, {"abc", "", "defg"}} {
			for _, behind := range []string{"", "a", "ab", onDisk("ab"), onDisk("", "", ""), text(16385), strings.Repeat("\x00", 17000)} {
				d := diskOf(onDisk(ahead...)+number(n)+behind, 0, 5)
				opens(t, "a length that may not be", d, ahead...)
				opens(t, "a length that may not be, again", d, ahead...)
			}
		}
	}
}

// TestOpenOfGreatLengths: all bytes that they tell are there, as many as a disk can have.
func TestOpenOfGreatLengths(t *testing.T) {
	for _, n := range []int{16385, 16386, 20000, 32767, 32768, 40000, 65528} {
		opens(t, "a great length", diskOf(onDisk(text(n)), 0, 0))
	}
	opens(t, "a great length behind others", diskOf(onDisk("a", text(16384), text(16385), "b"), 0, 0), "a", text(16384))
}

// TestOpenOfAnyByteInALength: each of a length's eight bytes counts.
func TestOpenOfAnyByteInALength(t *testing.T) {
	for at := range 8 {
		for x := range 256 {
			b := []byte(number(0))
			b[at] = byte(x)
			s := string(b) + text(16400)
			want, _ := readPlainly(s)
			n := x << (8 * at)
			if at < 7 && n <= 16384 != (len(want) > 0 && len(want[0]) == n) {
				t.Fatalf("P1101: a plain reader is wrong: %d at %d", x, at)
			}
			opens(t, "a byte of a length", diskOf(s, 0, 0), want...)
		}
	}
}

// TestWhatWasToldIsSafe: no Crash takes any of it, however little was synced ahead, and whether or not anything was cut off.
func TestWhatWasToldIsSafe(t *testing.T) {
	l := []string{"ab", "", "cde"}
	for _, behind := range []string{"", "x", number(-1), onDisk("abcd")[:11]} {
		s := onDisk(l...) + behind
		for synced := range len(s) + 1 {
			for pick := range len(s) + 2 {
				d := diskOf(s, synced, 30)
				opens(t, "Open", d, l...)
				d.Crash(pick)
				opens(t, "Open, then a Crash", d, l...)
			}
		}
	}
}

// TestRoomBehindOpen: what was cut off takes no room, and is not there when others are appended.
func TestRoomBehindOpen(t *testing.T) {
	for _, behind := range []string{"", "x", number(-1), number(1<<14+1) + "abc", onDisk("abcdefghijklm")[:20]} {
		d := diskOf(onDisk("ab", "c")+behind, 3, 20-len(behind))
		l := opens(t, "Open", d, "ab", "c")
		answers(t, "one byte too many", l.Append(make([]byte, 13)), api.ErrFull)
		answers(t, "just as many as find room", l.Append([]byte(text(12))), api.OK)
		opens(t, "full", d, "ab", "c", text(12))
	}
}

// TestOpenOfADeadDisk: whatever the power went at, and whatever stands there.
func TestOpenOfADeadDisk(t *testing.T) {
	for _, s := range []string{"", "x", onDisk("ab"), onDisk("ab", "") + "x", number(-1)} {
		for name, call := range map[string]func(d *disk.Disk) api.Errno{
			"Append": func(d *disk.Disk) api.Errno { return d.Append(nil) },
			"Sync":   func(d *disk.Disk) api.Errno { return d.Sync() },
			"Cut":    func(d *disk.Disk) api.Errno { return d.Cut(0) },
			"Open":   func(d *disk.Disk) api.Errno { _, _, e := Open(d); return e },
		} {
			d := diskOf(s, 0, 20)
			d.Stop(1)
			answers(t, name, call(d), api.ErrDead)
			for range 3 {
				refuses(t, name, d, api.ErrDead)
				if !d.Dead() || d.Synced() != 0 {
					t.Fatalf("P1101: %s: Dead %v, %d synced", name, d.Dead(), d.Synced())
				}
			}
			d.Crash(-1)
			want, _ := readPlainly(s)
			opens(t, name+", then a Crash", d, want...)
		}
	}
}

// TestOpenAtAStop: its Cut is a call of the disk, also where nothing is cut off; at the Stop it is not done.
func TestOpenAtAStop(t *testing.T) {
	for _, l := range [][]string{nil, {""}, {"ab", "cde"}} {
		for _, behind := range []string{"", "x", number(-1), onDisk("abcd")[:11]} {
			s := onDisk(l...) + behind
			for synced := range len(s) + 1 {
				for pick := range len(s) - synced + 1 {
					d := diskOf(s, synced, 9)
					d.Stop(1)
					refuses(t, "Open at a Stop", d, api.ErrDead)
					if !d.Dead() || d.Synced() != synced {
						t.Fatalf("P1101: Open at a Stop: Dead %v, %d synced, want %d", d.Dead(), d.Synced(), synced)
					}
					d.Crash(pick)
					holds(t, "Open at a Stop, then a Crash", d, s[:synced+pick], synced+pick)
					want, _ := readPlainly(s[:synced+pick])
					opens(t, "Open at a Stop, then a Crash", d, want...)
				}
			}
		}
	}
}

// TestOpenAheadOfAStop: it is one call of those that a Stop counts, no more.
func TestOpenAheadOfAStop(t *testing.T) {
	for _, behind := range []string{"", "x", onDisk("abcd")[:11]} {
		for n := 2; n < 6; n++ {
			d := diskOf(onDisk("ab")+behind, 0, 9)
			d.Stop(n)
			for range n - 1 {
				opens(t, "ahead of the Stop", d, "ab")
			}
			refuses(t, "at the Stop", d, api.ErrDead)
		}
	}
}

// TestOpenAgain: it tells the same, and all that was appended in between.
func TestOpenAgain(t *testing.T) {
	d := disk.New(1000)
	var all []string
	for i := range 20 {
		l := opens(t, "again", d, all...)
		for k := range i % 4 {
			answers(t, "Append", l.Append([]byte(text(i*k))), api.OK)
			all = append(all, text(i*k))
			counts(t, "Append", l, len(all), len(all)-k-1)
		}
		opens(t, "again, at once", d, all...)
	}
}
