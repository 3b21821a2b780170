package log

import (
	"bytes"
	"math/rand/v2"
	"slices"
	"testing"

	"comitia/api"
	"comitia/disk"
)

// useAll calls all that a log has.
func useAll(l *Log, b []byte) {
	l.Append(b)
	l.Count()
	l.Safe()
	l.Sync()
	l.Append(nil)
	l.Count()
	l.Safe()
}

// TestAnyBytesEndWithoutAPanic: also where the power goes, at Open or behind it.
func TestAnyBytesEndWithoutAPanic(t *testing.T) {
	r := rand.New(rand.NewPCG(11, 10))
	for range 10000 {
		s := anyBytes(r, r.IntN(40)) + anyJunk(r)
		if r.IntN(2) == 0 {
			s = anyJunk(r) + s
		}
		d := diskOf(s, r.IntN(len(s)+1), r.IntN(60))
		d.Stop(r.IntN(6))
		for range 3 {
			if l, _, _ := Open(d); l != nil {
				useAll(l, []byte(anyBytes(r, r.IntN(40))))
			}
			d.Crash(r.IntN(40))
		}
	}
	for _, n := range far() {
		d := disk.New(n)
		d.Append([]byte(number(n)))
		d.Append([]byte(number(n)))
		l, _, _ := Open(d)
		useAll(l, make([]byte, 70000))
		useAll(l, make([]byte, 16384))
	}
}

// TestALogThatOpenDidNotMake panics nowhere.
func TestALogThatOpenDidNotMake(t *testing.T) {
	for _, b := range [][]byte{nil, {1, 2}, make([]byte, 16384), make([]byte, 16385)} {
		var first, second Log
		useAll(&first, b)
		second.Sync()
		useAll(&second, b)
		if l, _, e := Open(new(disk.Disk)); e == api.OK {
			useAll(l, b)
		}
	}
}

// TestALogWhoseDiskCrashed, and was not opened again, panics nowhere; nor do two on one disk.
func TestALogWhoseDiskCrashed(t *testing.T) {
	for pick := range 20 {
		l, d := begun(t)
		d.Crash(pick)
		useAll(l, []byte("ab"))
		other, _, _ := Open(d)
		useAll(l, []byte("cd"))
		useAll(other, []byte("ef"))
		d.Cut(0)
		useAll(l, []byte("cd"))
		useAll(other, []byte("ef"))
		opens(t, "used all the same", d, "cd", "", "ef", "")
	}
}

// roomy is bytes in a list with spare room that is written on.
func roomy(r *rand.Rand, n int) []byte {
	return []byte(anyBytes(r, n+r.IntN(20)))[:n]
}

// scribble writes all over a list and its spare room.
func scribble(b []byte) {
	b = b[:cap(b)]
	for i := range b {
		b[i] ^= 0xff
	}
}

func TestWhatIsHandedInStays(t *testing.T) {
	r := rand.New(rand.NewPCG(11, 11))
	for range 3000 {
		d := disk.New(r.IntN(90))
		d.Stop(r.IntN(9))
		l, _, e := Open(d)
		if e != api.OK {
			continue
		}
		for range 5 {
			b := roomy(r, r.IntN(12))
			was := slices.Clone(b[:cap(b)])
			l.Append(b)
			l.Sync()
			l.Append(b)
			if !bytes.Equal(b[:cap(b)], was) {
				t.Fatalf("P2: %q, or its spare room, became %q", was, b[:cap(b)])
			}
		}
	}
}

// TestWhatIsHandedInIsNotKept: what becomes of it and its spare room is nothing to the log.
func TestWhatIsHandedInIsNotKept(t *testing.T) {
	r := rand.New(rand.NewPCG(11, 12))
	for range 2000 {
		d := disk.New(1000)
		l := opens(t, "a new disk", d)
		var want []string
		for range 5 {
			b := roomy(r, r.IntN(12))
			want = append(want, string(b))
			answers(t, "Append", l.Append(b), api.OK)
			scribble(b)
			holds(t, "P2: what was handed in is changed", d, onDisk(want...), 0)
		}
		opens(t, "P2: what was handed in is changed", d, want...)
	}
}

// TestAnswersAreNewMemory: what becomes of records, their list and the spare rooms is nothing to the disk, to one another, nor to another answer.
func TestAnswersAreNewMemory(t *testing.T) {
	r := rand.New(rand.NewPCG(11, 13))
	for range 3000 {
		want := anyRecords(r)
		d := diskOf(onDisk(want...), 0, 40)
		_, first, _ := Open(d)
		l, second, _ := Open(d)
		for i := range first {
			scribble(first[i])
			first[i] = append(first[i], "more"...)
			scribble(first[i])
			if rest := texts(first)[i+1:]; !slices.Equal(rest, want[i+1:]) {
				t.Fatalf("P2: records hang on what became of another: %q, want %q", rest, want[i+1:])
			}
		}
		room := first[:cap(first)]
		for i := range room {
			room[i] = []byte("x")
		}
		answers(t, "Append", l.Append([]byte("yz")), api.OK)
		if !slices.Equal(texts(second), want) {
			t.Fatalf("P2: records hang on what became of others: %q, want %q", second, want)
		}
		opens(t, "P2: records are changed", d, append(want, "yz")...)
	}
}

// TestARecordHasNoRoomOfAnother: an append to one, as long as it may be, is to be seen in no other.
func TestARecordHasNoRoomOfAnother(t *testing.T) {
	want := []string{"", "a", "", "bc", text(100), ""}
	_, l, _ := Open(diskOf(onDisk(want...), 0, 0))
	for _, b := range l {
		_ = append(b, make([]byte, cap(b)-len(b))...)
	}
	for i := len(l) - 1; i >= 0; i-- {
		_ = append(l[i], "some more of it"...)
	}
	if !slices.Equal(texts(l), want) {
		t.Fatalf("P2: records share room: %q, want %q", l, want)
	}
}

// TestARecordIsAppended: an answer goes behind all like any other bytes.
func TestARecordIsAppended(t *testing.T) {
	d := diskOf(onDisk("abc", ""), 0, 40)
	l, records, _ := Open(d)
	answers(t, "Append", l.Append(records[0]), api.OK)
	answers(t, "Append", l.Append(records[1]), api.OK)
	answers(t, "Append", l.Append(records[0][1:2]), api.OK)
	opens(t, "appended", d, "abc", "", "abc", "", "b")
}

// TestNothingIsAnsweredBesideAnError, whatever stands on the disk.
func TestNothingIsAnsweredBesideAnError(t *testing.T) {
	for _, s := range []string{"", "x", onDisk("ab", ""), onDisk("ab", "") + "x"} {
		d := diskOf(s, 0, 9)
		d.Stop(1)
		for range 2 {
			if l, records, e := Open(d); l != nil || records != nil || e != api.ErrDead {
				t.Fatalf("P4: %v, %q beside %v", l, records, e)
			}
		}
	}
}

// TestAnErrorChangesNothing: a log to which refused calls are made goes on as one to which they are not.
func TestAnErrorChangesNothing(t *testing.T) {
	r := rand.New(rand.NewPCG(11, 14))
	for range 3000 {
		size := r.IntN(120)
		a, p := &real{d: disk.New(size)}, &plain{size: size}
		for _, x := range append([]step{open()}, anyRow(r, size, 15)...) {
			if !p.open && (x.kind == anAppend || x.kind == aSync) {
				continue
			}
			if p.open {
				a.l.Append(make([]byte, 16385))
				if room := size - len(p.all()); room < 16392 {
					a.l.Append(make([]byte, max(room-7, 0)))
				}
			}
			if p.open && p.dead {
				a.l.Append(nil)
				a.l.Sync()
				Open(a.d)
			}
			records, e := a.do(t, x)
			want, wantErr := p.do(x)
			if !slices.Equal(records, want) || e != wantErr {
				t.Fatalf("P5: %v answers %q, %v; want %q, %v", x, records, e, want, wantErr)
			}
			same(t, a, p, x)
		}
	}
}

// TestARefusedOpenLeavesALogAlone: one that was opened ahead of it goes on counting as it did.
func TestARefusedOpenLeavesALogAlone(t *testing.T) {
	l, d := begun(t)
	d.Stop(1)
	refuses(t, "Open at a Stop", d, api.ErrDead)
	counts(t, "a refused Open", l, 3, 2)
	d.Crash(-1)
	opens(t, "then a Crash", d, "ab", "", "c")
	counts(t, "another Open", l, 3, 2)
}

// TestTheSameCallsAnswerTheSame: asking for the numbers in between, or not, is nothing to them.
func TestTheSameCallsAnswerTheSame(t *testing.T) {
	r := rand.New(rand.NewPCG(11, 15))
	for range 2000 {
		size := r.IntN(120)
		one, two := &real{d: disk.New(size)}, &real{d: disk.New(size)}
		for _, x := range append([]step{open()}, anyRow(r, size, 15)...) {
			if one.l == nil && (x.kind == anAppend || x.kind == aSync) {
				continue
			}
			s, e := one.do(t, x)
			if one.l != nil {
				one.l.Count()
				one.l.Safe()
			}
			if again, f := two.do(t, x); !slices.Equal(s, again) || e != f {
				t.Fatalf("P3: %v: %q, %v, then %q, %v", x, s, e, again, f)
			}
		}
		if one.l != nil && *one.l != (Log{disk: one.d, count: two.l.count, safe: two.l.safe}) {
			t.Fatalf("P3: %v and %v", *one.l, *two.l)
		}
	}
}

// TestLogsDoNotTouchOneAnother: step by step in turn, each is as it would be alone.
func TestLogsDoNotTouchOneAnother(t *testing.T) {
	r := rand.New(rand.NewPCG(11, 16))
	for range 300 {
		logs, plains := make([]*real, 4), make([]*plain, 4)
		for i := range logs {
			size := r.IntN(120)
			logs[i], plains[i] = &real{d: disk.New(size)}, &plain{size: size}
		}
		for range 60 {
			i, x := r.IntN(4), anyStep(r, 100)
			if !plains[i].open && (x.kind == anAppend || x.kind == aSync) {
				x = open()
			}
			records, e := logs[i].do(t, x)
			if want, wantErr := plains[i].do(x); !slices.Equal(records, want) || e != wantErr {
				t.Fatalf("P7: %v answers %q, %v; want %q, %v", x, records, e, want, wantErr)
			}
			for j := range logs {
				same(t, logs[j], plains[j], x)
			}
		}
	}
}

// TestOpenAnswersANewLog, each time: what one counts is nothing to the others.
func TestOpenAnswersANewLog(t *testing.T) {
	d := disk.New(100)
	first := opens(t, "first", d)
	second := opens(t, "second", d)
	answers(t, "Append", first.Append([]byte("a")), api.OK)
	counts(t, "first", first, 1, 0)
	counts(t, "second", second, 0, 0)
	answers(t, "Sync", second.Sync(), api.OK)
	counts(t, "first", first, 1, 0)
	counts(t, "second", second, 0, 0)
}

// TestLogsSideBySide: each in a goroutine of its own.
func TestLogsSideBySide(t *testing.T) {
	t.Parallel()
	done := make(chan bool)
	for i := range uint64(8) {
		go func() {
			r := rand.New(rand.NewPCG(11, 100+i))
			good := true
			for range 300 {
				want := anyRecords(r)
				d := diskOf(onDisk(want...)+"x", 0, 30)
				l, records, e := Open(d)
				good = good && e == api.OK && slices.Equal(texts(records), want)
				good = good && l.Append([]byte("ab")) == api.OK && l.Sync() == api.OK && l.Safe() == len(want)+1
			}
			done <- good
		}()
	}
	for range 8 {
		if !<-done {
			t.Error("P7: logs side by side touch one another")
		}
	}
}
