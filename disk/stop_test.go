package disk

import (
	"math"
	"testing"

	"comitia/api"
)

// deadly are all calls that answer an error, each in a way that would answer OK and in ways that would not, on a disk of twenty bytes.
func deadly() []step {
	return rows(app(""), app("x"), app(text(7)), app(text(21)), app(text(70000)), sync(), cut(0), cut(1), cut(4), cut(-1), cut(21), cut(math.MaxInt), cut(math.MinInt), read())
}

// done are calls that count, on a disk that has "ab" synced and "cd" behind, of twenty bytes; each with what is there when the power goes at it.
func done() map[step]string {
	return map[step]string{
		app(""): "abcd", app("x"): "abcdx", app(text(16)): "abcd" + text(16),
		sync(): "abcd",
		cut(0): "abcd", cut(1): "abcd", cut(2): "abcd", cut(3): "abcd", cut(4): "abcd",
	}
}

// begun are the steps that make such a disk.
func begun() []step { return rows(app("ab"), sync(), app("cd")) }

// isOff holds a disk against one whose power is gone.
func isOff(t *testing.T, what string, d *Disk, synced int) {
	t.Helper()
	if b, e := d.Read(); len(b) != 0 || e != api.ErrDead || !d.Dead() || d.Synced() != synced {
		t.Fatalf("P1001: %s: Read %q, %v, Dead %v, Synced %d; want none, dead, %d", what, b, e, d.Dead(), d.Synced(), synced)
	}
}

// TestStopAtEachCall: an Append is done, not synced; a Sync and a Cut are not; each answers ErrDead.
func TestStopAtEachCall(t *testing.T) {
	for x, want := range done() {
		for _, n := range []int{1, 2, 3, 10} {
			for pick := range 20 {
				d, _ := run(t, 20, begun()...)
				d.Stop(n)
				for range n - 1 {
					answers(t, "ahead of the one", d.Append(nil), api.OK)
				}
				has(t, "ahead of the one", d, "abcd", 2)
				_, e := do(d, x)
				answers(t, x.String(), e, api.ErrDead)
				isOff(t, x.String(), d, 2)
				d.Crash(pick)
				stays := 2 + pick%(len(want)-1)
				has(t, x.String()+", then a Crash", d, want[:stays], stays)
			}
		}
	}
}

// TestStopCountsEachCall: ahead of the one at which the power goes all are done as ever, whichever they are.
func TestStopCountsEachCall(t *testing.T) {
	l := rows(app(""), app("x"), sync(), cut(0))
	for _, a := range l {
		for _, b := range l {
			for _, c := range l {
				for n := 1; n <= 4; n++ {
					row := append(begun(), stop(n), a, b, c)
					d, p := run(t, 20, row...)
					if d.Dead() != (n <= 3) {
						t.Fatalf("P1001: %v: Dead %v", row, d.Dead())
					}
					settled(t, d, p, 1, row...)
				}
			}
		}
	}
}

func TestNoStop(t *testing.T) {
	for _, n := range far() {
		if n >= 1 {
			continue
		}
		for _, row := range [][]step{rows(stop(n)), rows(stop(1), stop(n)), rows(stop(3), stop(n)), rows(stop(n), stop(n))} {
			for range 50 {
				row = append(row, app("a"), sync(), cut(0))
			}
			d, _ := run(t, 20, row...)
			has(t, "no Stop", d, "", 0)
		}
	}
}

// TestStopFarOff: a Stop of a great number does not come.
func TestStopFarOff(t *testing.T) {
	for _, n := range far() {
		if n < 200 {
			continue
		}
		d := New(20)
		d.Stop(n)
		for range 199 {
			answers(t, "ahead of the one", d.Sync(), api.OK)
		}
		has(t, "ahead of the one", d, "", 0)
	}
}

func TestStopOfEachNumber(t *testing.T) {
	for n := 1; n <= 300; n++ {
		d := New(20)
		d.Stop(n)
		for i := 1; i < n; i++ {
			answers(t, "ahead of the one", d.Sync(), api.OK)
		}
		answers(t, "the one", d.Sync(), api.ErrDead)
		isOff(t, "the one", d, 0)
	}
}

// TestALaterStopTakesThePlace: it counts from where it is told, whatever the one ahead had left.
func TestALaterStopTakesThePlace(t *testing.T) {
	for first := range 6 {
		for passed := range max(first, 1) {
			for later := -1; later < 6; later++ {
				row := rows(app("ab"), stop(first))
				for range passed {
					row = append(row, sync())
				}
				row = append(row, stop(later))
				for i := 1; i <= 10; i++ {
					row = append(row, app("c"))
					d, _ := run(t, 20, row...)
					if want := later >= 1 && i >= later; d.Dead() != want {
						t.Fatalf("P1001: %v: Dead %v", row, d.Dead())
					}
				}
			}
		}
	}
}

// TestRefusedCallsDoNotCount: nor do those that are none of the three.
func TestRefusedCallsDoNotCount(t *testing.T) {
	others := rows(app(text(17)), app(text(70000)), cut(-1), cut(5), cut(math.MaxInt), cut(math.MinInt), read())
	for x, want := range done() {
		for n := 1; n <= 3; n++ {
			d, _ := run(t, 20, begun()...)
			d.Stop(n)
			for i := n; i >= 1; i-- {
				for _, o := range others {
					_, e := do(d, o)
					answers(t, o.String(), e, map[int]api.Errno{anAppend: api.ErrFull, aCut: api.ErrArg, aRead: api.OK}[o.kind])
					has(t, o.String(), d, "abcd", 2)
				}
				if i > 1 {
					answers(t, "ahead of the one", d.Append(nil), api.OK)
				}
			}
			_, e := do(d, x)
			answers(t, x.String(), e, api.ErrDead)
			isOff(t, x.String(), d, 2)
			d.Crash(-1)
			has(t, x.String(), d, want, len(want))
		}
	}
}

// gone is a disk whose power went at a call, with a plain one beside it.
func gone(t *testing.T, x step) (*Disk, *plain, []step) {
	t.Helper()
	row := append(begun(), stop(1), x)
	d, p := run(t, 20, row...)
	isOff(t, x.String(), d, 2)
	return d, p, row
}

// TestWhileThePowerIsGone: each call answers ErrDead, whatever else could be said, and changes nothing.
func TestWhileThePowerIsGone(t *testing.T) {
	for at := range done() {
		for _, x := range deadly() {
			for pick := range 20 {
				d, p, row := gone(t, at)
				for range 3 {
					if s, e := do(d, x); s != "" || e != api.ErrDead {
						t.Fatalf("P1001: the power is gone: %v answers %q, %v", x, s, e)
					}
					isOff(t, x.String(), d, 2)
				}
				settled(t, d, p, pick, row...)
			}
		}
	}
}

// TestAllCallsWhileThePowerIsGone: also one behind the other they change nothing.
func TestAllCallsWhileThePowerIsGone(t *testing.T) {
	for at, want := range done() {
		for pick := range 20 {
			d, _, _ := gone(t, at)
			for _, x := range append(deadly(), stop(0), stop(1), stop(2), stop(-1)) {
				do(d, x)
				isOff(t, x.String(), d, 2)
			}
			d.Crash(pick)
			stays := 2 + pick%(len(want)-1)
			has(t, "then a Crash", d, want[:stays], stays)
		}
	}
}

// TestAStopWhileThePowerIsGone: it neither brings the power back nor is there when it comes back.
func TestAStopWhileThePowerIsGone(t *testing.T) {
	for at := range done() {
		for _, n := range far() {
			d, p, row := gone(t, at)
			d.Stop(n)
			isOff(t, "Stop", d, 2)
			answers(t, "Sync behind a Stop", d.Sync(), api.ErrDead)
			settled(t, d, p, 0, append(row, stop(n))...)
			for range 5 {
				answers(t, "behind a Crash", d.Sync(), api.OK)
			}
		}
	}
}

// TestWhichErrorIsFirst: where there is power, what a call is refused for comes ahead of a Stop.
func TestWhichErrorIsFirst(t *testing.T) {
	for _, n := range []int{0, 1, 2} {
		d, _ := run(t, 20, append(begun(), stop(n))...)
		answers(t, "too much", d.Append([]byte(text(17))), api.ErrFull)
		answers(t, "below 0", d.Cut(-1), api.ErrArg)
		answers(t, "too far", d.Cut(5), api.ErrArg)
		has(t, "refused", d, "abcd", 2)
	}
	for at := range done() {
		d, _, _ := gone(t, at)
		answers(t, "too much, the power gone", d.Append([]byte(text(21))), api.ErrDead)
		answers(t, "below 0, the power gone", d.Cut(-1), api.ErrDead)
		answers(t, "too far, the power gone", d.Cut(21), api.ErrDead)
	}
}

func TestDeadOfADiskWithPower(t *testing.T) {
	d := New(20)
	for _, x := range append(deadly(), stop(5), stop(0), crash(1), crash(0)) {
		do(d, x)
		if d.Dead() {
			t.Fatalf("P1001: %v: the power is gone", x)
		}
	}
}
