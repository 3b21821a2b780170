package log

import (
	"comitia/api"
	"comitia/code"
)

// whole is the records that b begins with, as far as they are whole, and where they end.
func whole(b []byte) (records [][]byte, end int) {
	r := code.New(b)
next:
	record := one(r)
	if failed(r.End()) {
		return records, end
	}
	records = append(records, record)
	end += len(stored(record))
	goto next
}

// failed tells an error of a Reader from bytes that are left for other records.
func failed(e api.Errno) bool {
	return e != api.OK && e != api.ErrMore
}

// one reads a record; where none stands whole, the Reader has an error then.
func one(r *code.Reader) []byte {
	size := r.Int()
	if size < 0 || size > maxRecord {
		r.Fail(api.ErrOver)
		return nil
	}
	return list(r.Byte, size)
}

// list is so many bytes, each as it is read.
func list(read func() int, size int) []byte {
	out := make([]byte, size)
	at := 0
next:
	if at == size {
		return out
	}
	out[at] = byte(read())
	at++
	goto next
}
