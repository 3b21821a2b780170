package sign

import (
	"slices"

	"comitia/api"
	"comitia/code"
	"comitia/delta"
)

// Core is what an entry's hash is over.
func Core(e api.Entry) []byte {
	out := code.Text(nil, string(e.S.Body))
	out = append(out, e.S.Mac[:]...)
	out = code.Int(out, e.At)
	return code.Text(out, string(delta.OpBytes(e.Op)))
}

// Bytes is an entry as bytes.
func Bytes(e api.Entry) []byte {
	return slices.Concat(Core(e), e.Hash[:], e.Mac[:])
}
