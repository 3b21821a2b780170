package transform

import (
	"math/rand/v2"
	"slices"

	"comitia/api"
	"comitia/op"
)

func keep(n int) api.Comp { return api.Comp{Kind: api.Keep, N: n} }

func put(s string) api.Comp { return api.Comp{Kind: api.Put, S: s} }

func cut(n int) api.Comp { return api.Comp{Kind: api.Cut, N: n} }

// text is n bytes, any ones, no two neighbours alike.
func text(n int) string {
	b := make([]byte, n)
	for i := range b {
		b[i] = byte(i*37 + 200)
	}
	return string(b)
}

// laid is what an operation does, laid beside the document: what it puts ahead of each byte (and behind the last one), and whether it keeps that byte.
// As Normal has it, a text stands right behind the last byte that is kept.
func laid(o api.Op) (texts []string, kept []bool) {
	texts = []string{""}
	at := 0 // where texts are put
	for _, c := range o {
		switch c.Kind {
		case api.Put:
			texts[at] += c.S
			continue
		case api.Keep:
			at = len(kept) + c.N
		}
		for range c.N {
			texts, kept = append(texts, ""), append(kept, c.Kind == api.Keep)
		}
	}
	return texts, kept
}

// pen writes an operation as P403 says, byte by byte.
type pen struct {
	out  api.Op
	text string
	cuts int
}

// change writes what is put and cut at a place.
func (p *pen) change() {
	if p.text != "" {
		p.out = append(p.out, put(p.text))
	}
	if p.cuts > 0 {
		p.out = append(p.out, cut(p.cuts))
	}
	p.text, p.cuts = "", 0
}

func (p *pen) keeps(n int) {
	if n == 0 {
		return
	}
	p.change()
	if last := len(p.out) - 1; last >= 0 && p.out[last].Kind == api.Keep {
		p.out[last].N += n
		return
	}
	p.out = append(p.out, keep(n))
}

// byteOf writes what one that keeps a byte, or cuts it, does to it, if it is still there.
func (p *pen) byteOf(there, keeps bool) {
	switch {
	case there && keeps:
		p.keeps(1)
	case there:
		p.cuts++
	}
}

// plainly is Pair, byte by byte: ahead of each byte stands a's text, then b's.
func plainly(a, b api.Op) (x, y api.Op, e api.Errno) {
	if op.In(a) != op.In(b) {
		return nil, nil, api.ErrSize
	}
	aTexts, aKept := laid(a)
	bTexts, bKept := laid(b)
	var p, q pen
	for i := range aTexts {
		p.text += aTexts[i]
		q.keeps(len(aTexts[i]))
		p.keeps(len(bTexts[i]))
		q.text += bTexts[i]
		if i < len(aKept) {
			p.byteOf(bKept[i], aKept[i])
			q.byteOf(aKept[i], bKept[i])
		}
	}
	p.change()
	q.change()
	return p.out, q.out, api.OK
}

// applied is what o makes of doc, byte by byte, however long that is.
func applied(doc string, o api.Op) string {
	var out []byte
	for _, c := range o {
		switch c.Kind {
		case api.Keep:
			out = append(out, doc[:c.N]...)
			doc = doc[c.N:]
		case api.Put:
			out = append(out, c.S...)
		case api.Cut:
			doc = doc[c.N:]
		}
	}
	return string(out) + doc
}

// normal tells whether an operation is written as P403 says.
func normal(o api.Op) bool {
	for i, c := range o {
		if c.Kind == api.Put && (c.S == "" || c.N != 0) || c.Kind != api.Put && (c.N < 1 || c.S != "") {
			return false
		}
		if i > 0 && (o[i-1].Kind == c.Kind || o[i-1].Kind == api.Cut && c.Kind == api.Put) {
			return false
		}
	}
	return true
}

// anyOver is an operation of any parts over in bytes, each part of at most that many bytes, and of about so many parts at most.
func anyOver(r *rand.Rand, in, parts, most int) api.Op {
	o := api.Op{}
	for in > 0 {
		n := 1 + r.IntN(min(most, in))
		if len(o) >= parts {
			n = min(in, api.MaxText)
		}
		switch r.IntN(3) {
		case 0:
			o = append(o, keep(n))
			in -= n
		case 1:
			o = append(o, cut(n))
			in -= n
		case 2:
			if len(o) < parts {
				o = append(o, put(anyText(r, 1+r.IntN(most))))
			}
		}
	}
	for r.IntN(2) == 0 {
		o = append(o, put(anyText(r, 1+r.IntN(most))))
	}
	return o
}

func anyText(r *rand.Rand, n int) string {
	b := make([]byte, n)
	for i := range b {
		b[i] = byte(r.Uint32())
	}
	return string(b)
}

// each is all operations of up to n of these parts.
func each(n int, parts ...api.Comp) []api.Op {
	out := []api.Op{nil}
	for from := 0; n > 0; n-- {
		to := len(out)
		for _, o := range out[from:to] {
			for _, c := range parts {
				out = append(out, append(slices.Clone(o), c))
			}
		}
		from = to
	}
	return out
}

// byIn sorts operations by how many bytes they go over.
func byIn(l []api.Op) map[int][]api.Op {
	out := map[int][]api.Op{}
	for _, o := range l {
		out[op.In(o)] = append(out[op.In(o)], o)
	}
	return out
}
