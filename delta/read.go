package delta

import (
	"comitia/api"
	"comitia/code"
	"comitia/op"
)

// OpParse is the operation that was written as b.
func OpParse(b []byte) (api.Op, api.Errno) {
	r := code.New(b)
	o := parts(r)
	e := r.End()
	if e == api.OK {
		e = op.Check(o)
	}
	if e != api.OK {
		return nil, e
	}
	return o, api.OK
}

// parts reads how many parts there are, and them; the Reader keeps what went wrong.
func parts(r *code.Reader) api.Op {
	var o api.Op
	octet, number, text := r.Byte, r.Int, r.Text
	left := octet()
	if left > api.MaxComps {
		r.Fail(api.ErrMany) // ahead of the parts: that they are cut must not be told instead
		return nil
	}
next:
	if left == 0 {
		return o
	}
	o = append(o, part(octet, number, text))
	left--
	goto next
}

// part reads one part by a Reader's methods.
func part(octet, number func() int, text func() string) api.Comp {
	var c api.Comp
	c.Kind = octet()
	c.N = number()
	c.S = text()
	return c
}

// Parse is the delta that was written as b.
func Parse(b []byte) (api.Delta, api.Errno) {
	r := code.New(b)
	d, text := fields(r)
	e := r.End()
	if e != api.OK {
		goto refused
	}
	d.Op, e = OpParse([]byte(text))
	if e != api.OK {
		goto refused
	}
	e = Check(d)
	if e != api.OK {
		goto refused
	}
	return d, api.OK
refused:
	return api.Delta{}, e
}

// fields reads all of a delta but its operation, and the text of that: what it says counts only when all was read.
func fields(r *code.Reader) (d api.Delta, text string) {
	number := r.Int
	d.Author = addr(number)
	d.Id = number()
	d.Version = number()
	d.Hash = hash(r.Byte)
	d.Kind = r.Byte()
	text = r.Text()
	d.Who = addr(number)
	return d, text
}

// addr reads a user.
func addr(number func() int) api.Addr {
	var a api.Addr
	a.D = number()
	a.U = number()
	return a
}

// hash reads a sum, byte by byte.
func hash(octet func() int) api.Hash {
	var h api.Hash
	i := 0
next:
	if i == len(h) {
		return h
	}
	h[i] = byte(octet())
	i++
	goto next
}
