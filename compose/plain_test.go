package compose

import (
	"math/rand/v2"
	"slices"

	"comitia/api"
	"comitia/op"
)

func keep(n int) api.Comp { return api.Comp{Kind: api.Keep, N: n} }

func put(s string) api.Comp { return api.Comp{Kind: api.Put, S: s} }

func cut(n int) api.Comp { return api.Comp{Kind: api.Cut, N: n} }

// text is n bytes, any ones, no two neighbours alike.
func text(n int) string {
	b := make([]byte, n)
	for i := range b {
		b[i] = byte(i*37 + 200)
	}
	return string(b)
}

// traced is what an operation does, byte by byte: of each byte that comes out its place in the document, or, if it was put, -1 less the byte.
func traced(o api.Op) []int {
	var out []int
	at := 0
	for _, c := range o {
		switch c.Kind {
		case api.Keep:
			for range c.N {
				out = append(out, at)
				at++
			}
		case api.Put:
			for _, b := range []byte(c.S) {
				out = append(out, -1-int(b))
			}
		case api.Cut:
			at += c.N
		}
	}
	return out
}

// follow is what b does behind a, byte by byte.
func follow(a, b []int) []int {
	var out []int
	for _, n := range b {
		if n >= 0 {
			n = a[n]
		}
		out = append(out, n)
	}
	return out
}

// written is the one normal operation over in bytes that does what is traced.
func written(in int, trace []int) api.Op {
	var out api.Op
	at := 0
	var text []byte
	change := func(to int) {
		if len(text) > 0 {
			out = append(out, put(string(text)))
		}
		if to > at {
			out = append(out, cut(to-at))
		}
		text, at = nil, to
	}
	for _, n := range trace {
		if n < 0 {
			text = append(text, byte(-1-n))
			continue
		}
		change(n)
		if last := len(out) - 1; last >= 0 && out[last].Kind == api.Keep {
			out[last].N++
		} else {
			out = append(out, keep(1))
		}
		at++
	}
	change(in)
	return out
}

// plainly is Two, as the words say it, byte by byte.
func plainly(a, b api.Op) (api.Op, api.Errno) {
	if op.In(b) != op.Out(a) {
		return nil, api.ErrSize
	}
	return written(op.In(a), follow(traced(a), traced(b))), api.OK
}

// normal tells whether an operation is written as P403 says.
func normal(o api.Op) bool {
	for i, c := range o {
		if c.Kind == api.Put && (c.S == "" || c.N != 0) || c.Kind != api.Put && (c.N < 1 || c.S != "") {
			return false
		}
		if i > 0 && (o[i-1].Kind == c.Kind || o[i-1].Kind == api.Cut && c.Kind == api.Put) {
			return false
		}
	}
	return true
}

// anyOver is an operation of any parts over in bytes, each part of at most that many bytes, and of about so many parts at most.
func anyOver(r *rand.Rand, in, parts, most int) api.Op {
	o := api.Op{}
	for in > 0 {
		n := 1 + r.IntN(min(most, in))
		if len(o) >= parts {
			n = min(in, api.MaxText)
		}
		switch r.IntN(3) {
		case 0:
			o = append(o, keep(n))
			in -= n
		case 1:
			o = append(o, cut(n))
			in -= n
		case 2:
			if len(o) < parts {
				o = append(o, put(anyText(r, 1+r.IntN(most))))
			}
		}
	}
	for r.IntN(2) == 0 {
		o = append(o, put(anyText(r, 1+r.IntN(most))))
	}
	return o
}

func anyText(r *rand.Rand, n int) string {
	b := make([]byte, n)
	for i := range b {
		b[i] = byte(r.Uint32())
	}
	return string(b)
}

// each is all operations of up to n of these parts.
func each(n int, parts ...api.Comp) []api.Op {
	out := []api.Op{nil}
	for from := 0; n > 0; n-- {
		to := len(out)
		for _, o := range out[from:to] {
			for _, c := range parts {
				out = append(out, append(slices.Clone(o), c))
			}
		}
		from = to
	}
	return out
}

// byIn sorts operations by how many bytes they go over.
func byIn(l []api.Op) map[int][]api.Op {
	out := map[int][]api.Op{}
	for _, o := range l {
		out[op.In(o)] = append(out[op.In(o)], o)
	}
	return out
}
