package sign

import (
	"comitia/api"
	"comitia/code"
	"comitia/delta"
)

// Parse is the entry that was written as b.
func Parse(b []byte) (api.Entry, api.Errno) {
	r := code.New(b)
	e, text := fields(r)
	err := r.End()
	if err != api.OK {
		goto refused
	}
	e.Op, err = delta.OpParse([]byte(text))
	if err != api.OK {
		goto refused
	}
	if e.At < 0 {
		err = api.ErrArg
		goto refused
	}
	return e, api.OK
refused:
	return api.Entry{}, err
}

// fields reads all of an entry but its operation, and the text of that: what it says counts only when all was read.
func fields(r *code.Reader) (e api.Entry, text string) {
	e.S.Body = []byte(r.Text())
	e.S.Mac = hash(r)
	e.At = r.Int()
	text = r.Text()
	e.Hash = hash(r)
	e.Mac = hash(r)
	return e, text
}

// hash reads a sum, or a sign.
func hash(r *code.Reader) api.Hash {
	var h api.Hash
	left := h[:]
next:
	left[0] = byte(r.Byte())
	left = left[1:]
	if len(left) > 0 {
		goto next
	}
	return h
}
