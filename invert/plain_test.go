package invert

import (
	"math/rand/v2"
	"slices"

	"comitia/api"
	"comitia/op"
)

func keep(n int) api.Comp { return api.Comp{Kind: api.Keep, N: n} }

func put(s string) api.Comp { return api.Comp{Kind: api.Put, S: s} }

func cut(n int) api.Comp { return api.Comp{Kind: api.Cut, N: n} }

// text is n bytes, any ones, no two neighbours alike.
func text(n int) string {
	b := make([]byte, n)
	for i := range b {
		b[i] = byte(i*37 + 200)
	}
	return string(b)
}

// applied is what o makes of doc, byte by byte, however long that is, and of each byte of doc its place there; -1 if it is cut.
func applied(doc string, o api.Op) (string, []int) {
	var out []byte
	var places []int
	for _, c := range o {
		switch c.Kind {
		case api.Keep:
			for range c.N {
				out, places = append(out, doc[len(places)]), append(places, len(out)) // both of what was there ahead of this byte
			}
		case api.Put:
			out = append(out, c.S...)
		case api.Cut:
			places = append(places, slices.Repeat([]int{-1}, c.N)...)
		}
	}
	return string(out), places
}

// plainly is Op, as the words say it, byte by byte: what stands where it stood is kept, all else of doc is put, all else of what came out is cut.
func plainly(doc string, o api.Op) (api.Op, api.Errno) {
	if op.In(o) != len(doc) {
		return nil, api.ErrSize
	}
	out, places := applied(doc, o)
	var back api.Op
	var lost []byte
	at := 0
	change := func(to int) {
		if len(lost) > 0 {
			back = append(back, put(string(lost)))
		}
		if to > at {
			back = append(back, cut(to-at))
		}
		lost, at = nil, to
	}
	for i, place := range places {
		if place < 0 {
			lost = append(lost, doc[i])
			continue
		}
		change(place)
		if last := len(back) - 1; last >= 0 && back[last].Kind == api.Keep {
			back[last].N++
		} else {
			back = append(back, keep(1))
		}
		at++
	}
	change(len(out))
	return back, api.OK
}

// normal tells whether an operation is written as P403 says.
func normal(o api.Op) bool {
	for i, c := range o {
		if c.Kind == api.Put && (c.S == "" || c.N != 0) || c.Kind != api.Put && (c.N < 1 || c.S != "") {
			return false
		}
		if i > 0 && (o[i-1].Kind == c.Kind || o[i-1].Kind == api.Cut && c.Kind == api.Put) {
			return false
		}
	}
	return true
}

// anyOver is an operation of any parts over in bytes, each part of at most that many bytes, and of about so many parts at most.
func anyOver(r *rand.Rand, in, parts, most int) api.Op {
	o := api.Op{}
	for in > 0 {
		n := 1 + r.IntN(min(most, in))
		if len(o) >= parts {
			n = min(in, api.MaxText)
		}
		switch r.IntN(3) {
		case 0:
			o = append(o, keep(n))
			in -= n
		case 1:
			o = append(o, cut(n))
			in -= n
		case 2:
			if len(o) < parts {
				o = append(o, put(anyText(r, 1+r.IntN(most))))
			}
		}
	}
	for r.IntN(2) == 0 {
		o = append(o, put(anyText(r, 1+r.IntN(most))))
	}
	return o
}

// shortOver is a valid operation over in bytes that makes at most 120 of them.
func shortOver(r *rand.Rand, in int) api.Op {
	for {
		if o := anyOver(r, in, 30, 1+r.IntN(8)); op.Out(o) <= 120 && op.Check(o) == api.OK {
			return o
		}
	}
}

func anyText(r *rand.Rand, n int) string {
	b := make([]byte, n)
	for i := range b {
		b[i] = byte(r.Uint32())
	}
	return string(b)
}

// each is all operations of up to n of these parts.
func each(n int, parts ...api.Comp) []api.Op {
	out := []api.Op{nil}
	for from := 0; n > 0; n-- {
		to := len(out)
		for _, o := range out[from:to] {
			for _, c := range parts {
				out = append(out, append(slices.Clone(o), c))
			}
		}
		from = to
	}
	return out
}
