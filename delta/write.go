package delta

import (
	"comitia/api"
	"comitia/code"
)

// OpBytes is an operation as bytes.
func OpBytes(o api.Op) []byte {
	out := code.Byte(nil, len(o))
	for _, c := range o {
		out = append(out, partBytes(c)...) // a part by itself: code's writes copy all that stands ahead of them
	}
	return out
}

func partBytes(c api.Comp) []byte {
	return code.Text(code.Int(code.Byte(nil, c.Kind), c.N), c.S)
}

// Bytes is a delta as bytes.
func Bytes(d api.Delta) []byte {
	out := addrBytes(nil, d.Author)
	out = code.Int(out, d.Id)
	out = code.Int(out, d.Version)
	out = append(out, d.Hash[:]...)
	out = code.Byte(out, d.Kind)
	out = code.Text(out, string(OpBytes(d.Op)))
	return addrBytes(out, d.Who)
}

// addrBytes is b with a user behind it.
func addrBytes(b []byte, a api.Addr) []byte {
	return code.Int(code.Int(b, a.D), a.U)
}
