package disk

import (
	"math"
	"testing"

	"comitia/api"
)

// pickedOf is which of count a number picks, by going on and on from 0: for small numbers alone.
func pickedOf(pick, count int) int {
	at := 0
	for ; pick > 0; pick-- {
		if at++; at == count {
			at = 0
		}
	}
	for ; pick < 0; pick++ {
		if at--; at < 0 {
			at = count - 1
		}
	}
	return at
}

func TestCrash(t *testing.T) {
	for synced := range 4 {
		for loose := range 12 {
			for pick := -40; pick <= 40; pick++ {
				d, n := filled(synced, loose), synced+pickedOf(pick, loose+1)
				d.Crash(pick)
				has(t, "Crash", d, text(synced + loose)[:n], n)
				hasRoom(t, "Crash", d, synced+loose+3-n)
			}
		}
	}
}

// TestCrashByFarNumbers: the greatest and the least ones, by what is known of their rests.
func TestCrashByFarNumbers(t *testing.T) {
	for _, x := range []struct{ pick, loose, stays int }{
		{math.MaxInt, 0, 0}, {math.MaxInt, 1, 1}, {math.MaxInt, 2, 1}, {math.MaxInt, 3, 3}, {math.MaxInt, 4, 2}, {math.MaxInt, 6, 0}, {math.MaxInt, 7, 7}, {math.MaxInt, 9, 7},
		{math.MinInt, 0, 0}, {math.MinInt, 1, 0}, {math.MinInt, 2, 1}, {math.MinInt, 3, 0}, {math.MinInt, 4, 2}, {math.MinInt, 6, 6}, {math.MinInt, 7, 0}, {math.MinInt, 9, 2},
		{math.MinInt + 1, 1, 1}, {math.MinInt + 1, 2, 2}, {math.MinInt + 1, 9, 3}, {math.MaxInt - 1, 1, 0}, {math.MaxInt - 1, 9, 6},
		{1 << 32, 2, 1}, {1 << 32, 9, 6}, {-1 << 32, 9, 4}, {1<<32 + 1, 3, 1}, {1 << 53, 9, 2}, {1<<53 + 1, 9, 3}, {1<<53 + 1, 1, 1}, {-1<<53 - 1, 9, 7},
	} {
		d := filled(5, x.loose)
		d.Crash(x.pick)
		has(t, "Crash", d, text(5 + x.loose)[:5+x.stays], 5+x.stays)
	}
}

// TestCrashByAnyNumber holds numbers of all sizes against a plain disk.
func TestCrashByAnyNumber(t *testing.T) {
	for _, n := range far() {
		for loose := range 20 {
			row := rows(app("ab"), sync(), app(text(loose)), crash(n))
			run(t, 30, row...)
			run(t, 30, append(row, app("cd"), crash(n))...)
		}
	}
}

func TestCrashOfTheGreatestDisk(t *testing.T) {
	whole := text(api.MaxDisk)
	for _, x := range []struct{ synced, pick, stays int }{
		{0, 0, 0}, {0, 65536, 65536}, {0, 65537, 0}, {0, -1, 65536}, {0, 12345, 12345}, {0, math.MaxInt, 32768}, {0, math.MinInt, 32768}, {0, math.MaxInt - 1, 32767}, {0, math.MinInt + 1, 32769},
		{1, 65535, 65536}, {1, 65536, 1}, {65535, 0, 65535}, {65535, 1, 65536}, {65535, 2, 65535}, {65536, 99, 65536}, {32768, 32768, 65536}, {32768, 32769, 32768},
	} {
		d := New(api.MaxDisk)
		d.Append([]byte(whole[:x.synced]))
		d.Sync()
		d.Append([]byte(whole[x.synced:]))
		d.Crash(x.pick)
		has(t, "Crash", d, whole[:x.stays], x.stays)
	}
}

// TestCrashAgain: what a Crash left is synced, so another one takes nothing.
func TestCrashAgain(t *testing.T) {
	for first := range 6 {
		for second := -8; second < 8; second++ {
			d := filled(2, 5)
			d.Crash(first)
			for range 3 {
				d.Crash(second)
				has(t, "Crash", d, text(7)[:2+first], 2+first)
			}
			d.Append([]byte("xyz"))
			d.Crash(second)
			n := pickedOf(second, 4)
			has(t, "Crash behind an Append", d, text(7)[:2+first]+"xyz"[:n], 2+first+n)
		}
	}
}

func TestCrashOfAnEmptyDisk(t *testing.T) {
	for _, size := range []int{-1, 0, 1, 5, api.MaxDisk} {
		for _, pick := range far() {
			d := New(size)
			d.Crash(pick)
			has(t, "Crash", d, "", 0)
			d.Crash(pick)
			has(t, "Crash", d, "", 0)
		}
		d := New(size)
		d.Crash(3)
		hasRoom(t, "Crash", d, min(max(size, 0), api.MaxDisk))
	}
}

// TestCrashWithAStop: no Stop is set behind it, however far off it was.
func TestCrashWithAStop(t *testing.T) {
	for n := -1; n < 6; n++ {
		for passed := range max(n, 1) {
			for pick := range 4 {
				d := filled(2, 3)
				d.Stop(n)
				for range passed {
					answers(t, "ahead of the one", d.Append(nil), api.OK)
				}
				d.Crash(pick)
				has(t, "Crash with a Stop", d, text(5)[:2+pick], 2+pick)
				for range 10 {
					answers(t, "no Stop", d.Sync(), api.OK)
					answers(t, "no Stop", d.Append(nil), api.OK)
					answers(t, "no Stop", d.Cut(2+pick), api.OK)
				}
				has(t, "no Stop", d, text(5)[:2+pick], 2+pick)
			}
		}
	}
}

// TestCrashBringsThePowerBack: and all may be done then, also another Stop.
func TestCrashBringsThePowerBack(t *testing.T) {
	for x, want := range done() {
		for pick := range 20 {
			d, _, _ := gone(t, x)
			d.Crash(pick)
			n := 2 + pick%(len(want)-1)
			has(t, "Crash", d, want[:n], n)
			hasRoom(t, "Crash", d, 20-n)
			answers(t, "Cut", d.Cut(1), api.OK)
			answers(t, "Append", d.Append([]byte("x")), api.OK)
			answers(t, "Sync", d.Sync(), api.OK)
			has(t, "used again", d, "ax", 2)
			d.Stop(1)
			answers(t, "another Stop", d.Append([]byte("y")), api.ErrDead)
			isOff(t, "another Stop", d, 2)
			d.Crash(1)
			has(t, "another Crash", d, "axy", 3)
		}
	}
}
