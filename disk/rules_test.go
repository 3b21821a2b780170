package disk

import (
	"bytes"
	"math"
	"math/rand/v2"
	"slices"
	"testing"

	"comitia/api"
)

// anyStep is a step of any kind and number; seldom one of a number that may not be.
func anyStep(r *rand.Rand, size int) step {
	x := step{kind: r.IntN(kinds)}
	if x.kind == anAppend {
		x.s = anyBytes(r, r.IntN(size/3+2))
		return x
	}
	switch r.IntN(8) {
	case 0:
		x.n = far()[r.IntN(len(far()))]
	case 1:
		x.n = -r.IntN(5)
	default:
		x.n = r.IntN(size + 2)
	}
	if x.kind == aStop && r.IntN(4) > 0 {
		x.n = r.IntN(6)
	}
	return x
}

func anyRow(r *rand.Rand, size, count int) []step {
	l := make([]step, count)
	for i := range l {
		l[i] = anyStep(r, size)
	}
	return l
}

func TestAnyNumbersEndWithoutAPanic(t *testing.T) {
	big := make([]byte, 70000)
	for _, size := range far() {
		d := New(size)
		for _, n := range far() {
			d.Append([]byte("abc"))
			d.Cut(n)
			d.Stop(n)
			d.Append(nil)
			d.Crash(n)
			d.Append(big)
			d.Read()
		}
	}
}

// TestADiskThatNewDidNotMake has no room, and panics nowhere.
func TestADiskThatNewDidNotMake(t *testing.T) {
	for _, n := range far() {
		var d Disk
		d.Append([]byte("abc"))
		d.Append(nil)
		d.Sync()
		d.Cut(n)
		d.Stop(n)
		d.Sync()
		d.Crash(n)
		d.Read()
		d.Dead()
		d.Synced()
	}
}

// roomy is bytes in a list with spare room that is written on.
func roomy(r *rand.Rand, n int) []byte {
	return []byte(anyBytes(r, n+r.IntN(9)))[:n]
}

func TestWhatIsHandedInStays(t *testing.T) {
	r := rand.New(rand.NewPCG(10, 1))
	for range 3000 {
		d := New(r.IntN(30))
		for range 6 {
			b := roomy(r, r.IntN(12))
			was := slices.Clone(b[:cap(b)])
			d.Append(b)
			do(d, anyStep(r, 30))
			d.Append(b)
			if !bytes.Equal(b[:cap(b)], was) {
				t.Fatalf("P2: %q, or its spare room, became %q", was, b[:cap(b)])
			}
		}
	}
}

// scribble writes all over a list and its spare room.
func scribble(b []byte) {
	b = b[:cap(b)]
	for i := range b {
		b[i] ^= 0xff
	}
}

// TestWhatIsHandedInIsNotKept: what becomes of it and its spare room is nothing to the disk.
func TestWhatIsHandedInIsNotKept(t *testing.T) {
	r := rand.New(rand.NewPCG(10, 2))
	for range 2000 {
		d, p := New(60), newPlain(60)
		for range 5 {
			b := roomy(r, r.IntN(12))
			p.do(app(string(b)))
			d.Append(b)
			scribble(b)
			same(t, d, p)
		}
		settled(t, d, p, r.IntN(60))
	}
}

// TestAnswersAreNewMemory: what becomes of them and their spare room is nothing to the disk nor to other answers.
func TestAnswersAreNewMemory(t *testing.T) {
	r := rand.New(rand.NewPCG(10, 3))
	for range 2000 {
		size := r.IntN(40)
		row := anyRow(r, size, r.IntN(8))
		d, p := run(t, size, row...)
		first, _ := d.Read()
		second, _ := d.Read()
		want := slices.Clone(second)
		scribble(first)
		first = append(first, "more"...)
		same(t, d, p, row...)
		scribble(first)
		if !bytes.Equal(second, want) {
			t.Fatalf("P2: an answer hangs on what became of another: %q, want %q", second, want)
		}
		for _, x := range anyRow(r, size, 6) {
			p.do(x)
			do(d, x)
		}
		if !bytes.Equal(second, want) {
			t.Fatalf("P2: an answer hangs on what became of the disk: %q, want %q", second, want)
		}
		same(t, d, p, row...)
	}
}

// TestAnAnswerIsAppended: a disk's own answer, all of it and a piece, goes behind it like any other bytes.
func TestAnAnswerIsAppended(t *testing.T) {
	d := New(20)
	d.Append([]byte("abcde"))
	b, _ := d.Read()
	answers(t, "Append", d.Append(b), api.OK)
	answers(t, "Append", d.Append(b[1:3]), api.OK)
	has(t, "appended", d, "abcdeabcdebc", 0)
	d.Cut(1)
	answers(t, "Append", d.Append(b), api.OK)
	has(t, "appended behind a Cut", d, "aabcde", 1)
}

// TestNoListIsAnEmptyOne: nil and an empty one are appended alike; where nothing is there, no bytes are read.
func TestNoListIsAnEmptyOne(t *testing.T) {
	for _, b := range [][]byte{nil, {}, make([]byte, 0, 9)} {
		d := New(5)
		answers(t, "none", d.Append(b), api.OK)
		has(t, "none", d, "", 0)
		d.Append([]byte("ab"))
		answers(t, "none", d.Append(b), api.OK)
		has(t, "none", d, "ab", 0)
		d.Stop(1)
		answers(t, "none, at a Stop", d.Append(b), api.ErrDead)
		isOff(t, "none, at a Stop", d, 0)
		answers(t, "none, the power gone", d.Append(b), api.ErrDead)
	}
}

// TestAnErrorChangesNothing: a disk at which refused calls are made goes on as one at which they are not.
func TestAnErrorChangesNothing(t *testing.T) {
	r := rand.New(rand.NewPCG(10, 4))
	for range 3000 {
		size := r.IntN(20)
		d, p := New(size), newPlain(size)
		for _, x := range anyRow(r, size, 12) {
			refused := rows(app(text(size-len(p.all())+1)), cut(-1), cut(len(p.all())+1), cut(math.MaxInt))
			if p.dead {
				refused = append(refused, app(""), app("x"), sync(), cut(0), read(), stop(1))
			}
			for _, y := range refused {
				do(d, y)
			}
			s, e := do(d, x)
			if want, wantErr := p.do(x); s != want || e != wantErr {
				t.Fatalf("P5: %v answers %q, %v; want %q, %v", x, s, e, want, wantErr)
			}
			same(t, d, p, x)
		}
	}
}

// TestTheSameCallsAnswerTheSame: looking in between, or not, is nothing to them.
func TestTheSameCallsAnswerTheSame(t *testing.T) {
	r := rand.New(rand.NewPCG(10, 5))
	for range 2000 {
		size := r.IntN(30)
		one, two := New(size), New(size)
		for _, x := range anyRow(r, size, 15) {
			one.Read()
			one.Dead()
			one.Synced()
			s, e := do(one, x)
			if again, f := do(two, x); s != again || e != f {
				t.Fatalf("P3: %v: %q, %v, then %q, %v", x, s, e, again, f)
			}
		}
		a, e := one.Read()
		b, f := two.Read()
		if !bytes.Equal(a, b) || e != f || one.Dead() != two.Dead() || one.Synced() != two.Synced() {
			t.Fatalf("P3: %q, %v and %q, %v", a, e, b, f)
		}
	}
}

// TestDisksDoNotTouchOneAnother: step by step in turn, each is as it would be alone.
func TestDisksDoNotTouchOneAnother(t *testing.T) {
	r := rand.New(rand.NewPCG(10, 6))
	for range 500 {
		disks, plains := make([]*Disk, 4), make([]*plain, 4)
		for i := range disks {
			size := r.IntN(30)
			disks[i], plains[i] = New(size), newPlain(size)
		}
		for range 40 {
			i, x := r.IntN(4), anyStep(r, 30)
			s, e := do(disks[i], x)
			if want, wantErr := plains[i].do(x); s != want || e != wantErr {
				t.Fatalf("P7: %v answers %q, %v; want %q, %v", x, s, e, want, wantErr)
			}
			for j := range disks {
				same(t, disks[j], plains[j], x)
			}
		}
	}
}

// TestDisksSideBySide: each in a goroutine of its own.
func TestDisksSideBySide(t *testing.T) {
	t.Parallel()
	done := make(chan bool)
	for i := range uint64(8) {
		go func() {
			r := rand.New(rand.NewPCG(10, 100+i))
			good := true
			for range 300 {
				d, p := New(50), newPlain(50)
				for _, x := range anyRow(r, 50, 20) {
					s, e := do(d, x)
					want, wantErr := p.do(x)
					good = good && s == want && e == wantErr
				}
				good = good && d.Dead() == p.dead && d.Synced() == len(p.synced)
			}
			done <- good
		}()
	}
	for range 8 {
		if !<-done {
			t.Error("P7: disks side by side touch one another")
		}
	}
}
