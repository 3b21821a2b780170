package sign_test

import (
	"fmt"

	"comitia/api"
	"comitia/sign"
)

// hello is the delta of README.md, by which a user of domain 1 puts a text into an empty document.
func hello() api.Delta {
	return api.Delta{Author: api.Addr{D: 1, U: 7}, Id: 5, Version: 3, Kind: api.Edit, Op: api.Op{{Kind: api.Put, S: "hi"}}}
}

func secrets() api.Keys {
	return api.Keys{[]byte("k0"), []byte("k1"), []byte("k2")}
}

func ExampleOpen() {
	s := sign.Delta(secrets(), hello())
	d, e := sign.Open(secrets(), s)
	fmt.Println(d.Author, e)
	s.Mac[0]++
	_, e = sign.Open(secrets(), s)
	fmt.Println(e)
	s.Body = s.Body[:9]
	_, e = sign.Open(secrets(), s)
	fmt.Println(e, "(whatever Mac is)")
	// Output:
	// {1 7} ok
	// sign
	// cut (whatever Mac is)
}

func ExampleCheck() {
	s := sign.Delta(secrets(), hello())
	e := sign.Entry(secrets(), 0, api.Hash{}, s, 3, hello().Op)
	fmt.Println(sign.Check(secrets(), 0, e), sign.Check(secrets(), 1, e), sign.Check(secrets(), 3, e))
	e.At++
	fmt.Println(sign.Check(secrets(), 0, e))
	fmt.Println(sign.Check(secrets(), 0, api.Entry{}), "(signs of noughts are none)")
	// Output:
	// true false false
	// false
	// false (signs of noughts are none)
}

func ExampleParse() {
	e := sign.Entry(secrets(), 0, api.Hash{}, sign.Delta(secrets(), hello()), 3, hello().Op)
	b := sign.Bytes(e)
	back, err := sign.Parse(b)
	fmt.Println(len(b), err, sign.Same(back, e))
	_, err = sign.Parse(b[:len(b)-1])
	fmt.Println(err)
	_, err = sign.Parse(append(b, 0))
	fmt.Println(err)
	// Output:
	// 219 ok true
	// cut
	// more
}
