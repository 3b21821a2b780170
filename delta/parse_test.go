package delta

import (
	"reflect"
	"strings"
	"testing"

	"comitia/api"
)

// alike tells whether two deltas are the same, by the library's means.
func alike(a, b api.Delta) bool {
	if len(a.Op)+len(b.Op) == 0 {
		a.Op, b.Op = nil, nil
	}
	return reflect.DeepEqual(a, b)
}

// read holds what Parse answers against what it must.
func read(t *testing.T, what, b string, want api.Delta) {
	t.Helper()
	if got, e := Parse([]byte(b)); e != api.OK || !alike(got, want) {
		t.Errorf("P802: Parse, %s: %#v, %v, want %#v", what, got, e, want)
	}
}

// refused holds Parse's error against what it must be; beside it nothing is answered.
func refused(t *testing.T, what, b string, want api.Errno) {
	t.Helper()
	got, e := Parse([]byte(b))
	if e != want {
		t.Errorf("P802: Parse, %s: %v, want %v", what, e, want)
	}
	if !alike(got, api.Delta{}) {
		t.Errorf("P4: Parse, %s: %#v beside an error", what, got)
	}
}

func TestParse(t *testing.T) {
	for _, d := range []api.Delta{edit(), add(), remove(), {Kind: api.Edit}, {Kind: api.Add}, {Kind: api.Remove}} {
		read(t, "a valid one", plainDelta(d), d)
	}
	for _, b := range bounds() {
		for _, n := range []int{0, 1, b.most} {
			d := add()
			*b.at(&d) = n
			read(t, b.what, plainDelta(d), d)
		}
	}
	for _, o := range []api.Op{nil, {keep(120)}, {put("\x00")}, rows(40, cut(1)), rows(40, put(text(120)))} {
		d := with(edit(), func(d *api.Delta) { d.Op = o })
		read(t, "an operation", plainDelta(d), d)
	}
	for i := range 32 {
		d := api.Delta{Kind: api.Edit}
		d.Hash[i] = byte(1 + i)
		read(t, "a hash", plainDelta(d), d)
	}
}

func TestParseCutOffAndMore(t *testing.T) {
	refused(t, "no bytes", "", api.ErrCut)
	for _, d := range []api.Delta{edit(), add(), remove(), {}, with(edit(), func(d *api.Delta) { d.Op = rows(255, put("x")) }), with(edit(), func(d *api.Delta) { d.Author.D, d.Kind = -1, 9 })} {
		whole := plainDelta(d)
		for k := range len(whole) {
			refused(t, "cut off", whole[:k], api.ErrCut)
		}
		for _, more := range []string{"\x00", "\x01", "\xff", eightNoughts, whole} {
			refused(t, "with more behind", whole+more, api.ErrMore)
		}
	}
}

func TestParseOfNil(t *testing.T) {
	if d, e := Parse(nil); e != api.ErrCut || !alike(d, api.Delta{}) {
		t.Errorf("P802: Parse of nil: %#v, %v", d, e)
	}
}

// TestParseWhatCheckRefuses: what can be written, and may not be.
func TestParseWhatCheckRefuses(t *testing.T) {
	for _, b := range bounds() {
		for _, n := range []int{-1, b.most + 1, b.most + 1<<32} {
			d := add()
			*b.at(&d) = n
			refused(t, b.what, plainDelta(d), api.ErrArg)
		}
	}
	for kind := range 256 {
		if kind < 1 || kind > 3 {
			refused(t, "a kind of an edit", plainDelta(with(edit(), func(d *api.Delta) { d.Kind = kind })), api.ErrKind)
			refused(t, "a kind", plainDelta(with(add(), func(d *api.Delta) { d.Kind = kind })), api.ErrKind)
		}
	}
	for _, who := range []api.Addr{{U: 1}, {D: 1}, {D: -1}} {
		refused(t, "an Edit with Who", plainDelta(with(edit(), func(d *api.Delta) { d.Who = who })), api.ErrArg)
	}
	for _, d := range []api.Delta{add(), remove()} {
		refused(t, "an operation", plainDelta(with(d, func(d *api.Delta) { d.Op = api.Op{keep(1)} })), api.ErrArg)
	}
	refused(t, "an author and a kind", plainDelta(with(edit(), func(d *api.Delta) { d.Author.U, d.Kind = 8, 0 })), api.ErrArg)
}

// badTexts are texts that OpParse refuses, and by which error.
func badTexts() map[string]api.Errno {
	whole := plainOp(edit().Op)
	return map[string]api.Errno{
		"":                                     api.ErrCut,
		whole[:1]:                              api.ErrCut,
		whole[:len(whole)-1]:                   api.ErrCut,
		"\x02" + whole[1:]:                     api.ErrMore,
		whole + "\x00":                         api.ErrMore,
		"\x00\x00":                             api.ErrMore,
		"\x29":                                 api.ErrMany,
		"\xff" + whole[1:]:                     api.ErrMany,
		plainOp(rows(41, keep(1))):             api.ErrMany,
		plainOp(api.Op{{}}):                    api.ErrKind,
		plainOp(api.Op{keep(0)}):               api.ErrArg,
		plainOp(api.Op{put(text(121))}):        api.ErrLong,
		"\x01" + plainPart(keep(0)) + "\x00":   api.ErrMore,
		"\x28" + strings.Repeat("\x00", 65000): api.ErrMore,
	}
}

func TestParseWhatOpParseRefuses(t *testing.T) {
	for inside, want := range badTexts() {
		for _, d := range []api.Delta{edit(), add(), remove()} {
			whole := plainAround(d, inside)
			refused(t, "an operation's text", whole, want)
			refused(t, "an operation's text, cut behind it", whole[:len(whole)-1], api.ErrCut)
			refused(t, "an operation's text, more behind it", whole+"\x00", api.ErrMore)
			refused(t, "an operation's text and an author", plainAround(with(d, func(d *api.Delta) { d.Author.D = 3 }), inside), want)
			refused(t, "an operation's text and an id", plainAround(with(d, func(d *api.Delta) { d.Id = -1 }), inside), want)
			refused(t, "an operation's text and a kind", plainAround(with(d, func(d *api.Delta) { d.Kind = 0 }), inside), want)
			refused(t, "an operation's text and Who", plainAround(with(d, func(d *api.Delta) { d.Who.U = 8 }), inside), want)
		}
	}
}

// TestParseOfLengthsThatDoNotFit: the text's length says where Who stands.
func TestParseOfLengthsThatDoNotFit(t *testing.T) {
	whole := plainDelta(edit())
	inside := plainOp(edit().Op)
	long := func(n int) string {
		return whole[:textAt] + plainByte(n) + plainByte(n/256) + whole[opAt:]
	}
	read(t, "as it is", long(len(inside)), edit())
	for _, n := range []int{0, 1, len(inside) - 1} {
		refused(t, "a length too short", long(n), api.ErrMore)
	}
	for _, n := range []int{len(inside) + 1, 256 + len(inside), 65535} {
		refused(t, "a length too long", long(n), api.ErrCut)
	}
}
