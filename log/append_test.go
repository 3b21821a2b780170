package log

import (
	"testing"

	"comitia/api"
	"comitia/disk"
)

func TestAppend(t *testing.T) {
	for _, n := range append(sizes(), 5, 100, 1000) {
		d := disk.New(api.MaxDisk)
		l := opens(t, "a new disk", d)
		answers(t, "Append", l.Append([]byte("ahead")), api.OK)
		answers(t, "Append", l.Append([]byte(text(n))), api.OK)
		counts(t, "Append", l, 2, 0)
		holds(t, "Append", d, onDisk("ahead", text(n)), 0)
		answers(t, "Append", l.Append([]byte("behind")), api.OK)
		counts(t, "Append", l, 3, 0)
		opens(t, "opened again", d, "ahead", text(n), "behind")
	}
}

// TestAppendOfEachLength up to the greatest: what stands on the disk is its length and it.
func TestAppendOfEachLength(t *testing.T) {
	whole := text(16384)
	d := disk.New(api.MaxDisk)
	l := opens(t, "a new disk", d)
	for n := range 16385 {
		answers(t, "Append", l.Append([]byte(whole[:n])), api.OK)
		b, _ := d.Read()
		if string(b) != number(n)+whole[:n] {
			t.Fatalf("P1101: of %d bytes: %d on the disk, %.40q", n, len(b), b)
		}
		d.Cut(0)
	}
	counts(t, "Append of each", l, 16385, 0)
}

func TestAppendOfTooMuch(t *testing.T) {
	for _, n := range []int{16385, 16386, 16392, 20000, 32768, 65535, 65536, 65537, 65536 + 8, 1 << 17, 1<<17 + 3, 1 << 24} {
		for _, size := range []int{0, 10, 16384, 16393, api.MaxDisk} {
			d := disk.New(size)
			l := opens(t, "a new disk", d)
			answers(t, "too much", l.Append(make([]byte, n)), api.ErrLong)
			counts(t, "too much", l, 0, 0)
			holds(t, "too much", d, "", 0)
		}
	}
}

// TestAppendCountsBytesNotRoom: a list may have spare room beyond what a record may have.
func TestAppendCountsBytesNotRoom(t *testing.T) {
	d := disk.New(api.MaxDisk)
	l := opens(t, "a new disk", d)
	answers(t, "Append", l.Append(make([]byte, 3, 100000)), api.OK)
	answers(t, "Append", l.Append(make([]byte, 16385, 100000)), api.ErrLong)
	opens(t, "opened again", d, "\x00\x00\x00")
}

// TestAppendOfNone: a record all the same.
func TestAppendOfNone(t *testing.T) {
	d := disk.New(100)
	l := opens(t, "a new disk", d)
	for i, b := range [][]byte{nil, {}, make([]byte, 0, 9)} {
		answers(t, "none", l.Append(b), api.OK)
		counts(t, "none", l, i+1, 0)
	}
	opens(t, "none", d, "", "", "")
}

// TestAppendTillItIsFull: to the byte, the length's eight too; of what finds no room nothing is there, and less may find some.
func TestAppendTillItIsFull(t *testing.T) {
	for room := range 60 {
		for n := range 60 {
			d := disk.New(12 + room)
			l := opens(t, "a new disk", d)
			answers(t, "Append", l.Append([]byte("abcd")), api.OK)
			e, want := api.ErrFull, []string{"abcd"}
			if 8+n <= room {
				e, want = api.OK, append(want, text(n))
			}
			answers(t, "full", l.Append([]byte(text(n))), e)
			counts(t, "full", l, len(want), 0)
			holds(t, "full", d, onDisk(want...), 0)
			if e == api.ErrFull && room >= 8 {
				answers(t, "less", l.Append([]byte(text(room-8))), api.OK)
				want = append(want, text(room-8))
				counts(t, "less", l, 2, 0)
			}
			opens(t, "full, opened again", d, want...)
		}
	}
}

func TestTheGreatestDiskFull(t *testing.T) {
	d := disk.New(api.MaxDisk)
	l := opens(t, "a new disk", d)
	for i := range 8192 {
		answers(t, "none", l.Append(nil), api.OK)
		counts(t, "none", l, i+1, 0)
	}
	answers(t, "full", l.Append(nil), api.ErrFull)
	counts(t, "full", l, 8192, 0)
	answers(t, "Sync", l.Sync(), api.OK)
	counts(t, "Sync", l, 8192, 8192)
	opens(t, "full", d, make([]string, 8192)...)
}

func TestSync(t *testing.T) {
	d := disk.New(200)
	l := opens(t, "a new disk", d)
	count := 0
	for _, more := range []int{0, 1, 0, 2, 3, 0, 1} {
		safe := count
		for range more {
			answers(t, "Append", l.Append([]byte("abc")), api.OK)
			count++
			counts(t, "Append", l, count, safe)
		}
		for range 2 {
			answers(t, "Sync", l.Sync(), api.OK)
			counts(t, "Sync", l, count, count)
			if d.Synced() != 11*count {
				t.Fatalf("P1101: Sync: %d bytes synced, want %d", d.Synced(), 11*count)
			}
		}
	}
}

// begun is a log of two safe records and one more, with room for twenty bytes.
func begun(t *testing.T) (*Log, *disk.Disk) {
	t.Helper()
	d := disk.New(10 + 8 + 9 + 20)
	l := opens(t, "a new disk", d)
	answers(t, "Append", l.Append([]byte("ab")), api.OK)
	answers(t, "Append", l.Append(nil), api.OK)
	answers(t, "Sync", l.Sync(), api.OK)
	answers(t, "Append", l.Append([]byte("c")), api.OK)
	counts(t, "begun", l, 3, 2)
	return l, d
}

// TestWhileThePowerIsGone: nothing counts as appended, and no more is safe, however often it is tried.
func TestWhileThePowerIsGone(t *testing.T) {
	for name, call := range map[string]func(d *disk.Disk, l *Log) api.Errno{
		"its own Append":    func(d *disk.Disk, l *Log) api.Errno { return l.Append(nil) },
		"its own Sync":      func(d *disk.Disk, l *Log) api.Errno { return l.Sync() },
		"the disk's Append": func(d *disk.Disk, l *Log) api.Errno { return d.Append(nil) },
		"the disk's Sync":   func(d *disk.Disk, l *Log) api.Errno { return d.Sync() },
	} {
		l, d := begun(t)
		d.Stop(1)
		answers(t, name, call(d, l), api.ErrDead)
		counts(t, name, l, 3, 2)
		for _, n := range []int{0, 1, 12, 13, 1000, 16384} {
			answers(t, "Append, the power gone", l.Append(make([]byte, n)), api.ErrDead)
			answers(t, "Sync, the power gone", l.Sync(), api.ErrDead)
			answers(t, "too much, the power gone", l.Append(make([]byte, 16385)), api.ErrLong)
			counts(t, "the power gone", l, 3, 2)
			if d.Synced() != 18 {
				t.Fatalf("P1101: the power gone: %d bytes synced", d.Synced())
			}
		}
		d.Crash(9)
		opens(t, "then a Crash", d, "ab", "", "c")
	}
}

// TestAppendAtAStop: it does not count, but its bytes may stay, as many as a Crash leaves.
func TestAppendAtAStop(t *testing.T) {
	for _, s := range []string{"", "x", text(12)} {
		for n := 1; n <= 4; n++ {
			all := onDisk("c")
			for range n - 1 {
				all += onDisk("")
			}
			all += onDisk(s)
			for pick := range len(all) + 1 {
				l, d := begunWith(t, 100)
				d.Stop(n)
				for i := range n - 1 {
					answers(t, "ahead of the Stop", l.Append(nil), api.OK)
					counts(t, "ahead of the Stop", l, 4+i, 2)
				}
				answers(t, "at the Stop", l.Append([]byte(s)), api.ErrDead)
				counts(t, "at the Stop", l, 2+n, 2)
				d.Crash(pick)
				holds(t, "then a Crash", d, onDisk("ab", "")+all[:pick], 18+pick)
				want, _ := readPlainly(onDisk("ab", "") + all[:pick])
				opens(t, "then a Crash", d, want...)
			}
		}
	}
}

// begunWith is a log as begun has it, on a disk with more room.
func begunWith(t *testing.T, room int) (*Log, *disk.Disk) {
	t.Helper()
	d := disk.New(27 + room)
	d.Append([]byte(onDisk("ab", "")))
	l := opens(t, "begun", d, "ab", "")
	answers(t, "Append", l.Append([]byte("c")), api.OK)
	return l, d
}

// TestSyncAtAStop: nothing more is safe, and a Crash may take what was not.
func TestSyncAtAStop(t *testing.T) {
	for pick := range 10 {
		l, d := begun(t)
		d.Stop(1)
		answers(t, "Sync at the Stop", l.Sync(), api.ErrDead)
		counts(t, "Sync at the Stop", l, 3, 2)
		d.Crash(pick)
		want := []string{"ab", "", "c"}[:2+pick/9]
		holds(t, "then a Crash", d, onDisk("ab", "", "c")[:18+pick], 18+pick)
		opens(t, "then a Crash", d, want...)
	}
}

// TestEachCallIsOneOfTheDisk: so a Stop counts it once, and what is refused not at all.
func TestEachCallIsOneOfTheDisk(t *testing.T) {
	for n := 1; n < 12; n++ {
		for start := range 2 {
			l, d := begunWith(t, 200)
			d.Stop(n)
			for i := start; i < start+n-1; i++ {
				answers(t, "too much", l.Append(make([]byte, 16385)), api.ErrLong)
				answers(t, "no room", l.Append(make([]byte, 193)), api.ErrFull)
				if i%2 == 0 {
					answers(t, "Append", l.Append([]byte("xyz")), api.OK)
				} else {
					answers(t, "Sync", l.Sync(), api.OK)
				}
			}
			if d.Dead() {
				t.Fatalf("P1101: the power is gone ahead of the Stop of %d", n)
			}
			answers(t, "at the Stop", l.Sync(), api.ErrDead)
		}
	}
}

// TestWhichErrorIsFirst: too much is told ahead of what the disk says.
func TestWhichErrorIsFirst(t *testing.T) {
	l, d := begun(t)
	answers(t, "too much, no room", l.Append(make([]byte, 16385)), api.ErrLong)
	answers(t, "no room", l.Append(make([]byte, 16384)), api.ErrFull)
	d.Stop(1)
	answers(t, "too much ahead of a Stop", l.Append(make([]byte, 16385)), api.ErrLong)
	answers(t, "no room ahead of a Stop", l.Append(make([]byte, 13)), api.ErrFull)
	counts(t, "refused", l, 3, 2)
	if d.Dead() {
		t.Fatal("P1101: what is refused ahead of the disk's own errors uses up a Stop")
	}
	answers(t, "at the Stop", l.Append(nil), api.ErrDead)
	answers(t, "no room, the power gone", l.Append(make([]byte, 13)), api.ErrDead)
	answers(t, "too much, the power gone", l.Append(make([]byte, 16385)), api.ErrLong)
	counts(t, "the power gone", l, 3, 2)
}
