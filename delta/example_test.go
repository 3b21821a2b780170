package delta_test

import (
	"fmt"

	"comitia/api"
	"comitia/delta"
)

// hello is the delta of README.md, by which somebody puts a text into an empty document.
func hello() api.Delta {
	return api.Delta{Author: api.Addr{D: 1, U: 7}, Id: 5, Version: 3, Kind: api.Edit, Op: api.Op{{Kind: api.Put, S: "hi"}}}
}

func ExampleCheck() {
	d := hello()
	fmt.Println(delta.Check(d))
	d.Kind = api.Add
	fmt.Println(delta.Check(d), "(an Add has no operation)")
	fmt.Println(delta.Check(api.Delta{}), "(a delta of no kind)")
	// Output:
	// ok
	// arg (an Add has no operation)
	// kind (a delta of no kind)
}

func ExampleParse() {
	b := delta.Bytes(hello())
	back, e := delta.Parse(b)
	fmt.Println(len(b), e, delta.Same(back, hello()))
	_, e = delta.Parse(b[:len(b)-1])
	fmt.Println(e)
	_, e = delta.Parse(append(b, 0))
	fmt.Println(e)
	// Output:
	// 97 ok true
	// cut
	// more
}

func ExampleOpBytes() {
	fmt.Printf("% x\n", delta.OpBytes(hello().Op))
	fmt.Printf("% x\n", delta.OpBytes(nil))
	// Output:
	// 01 02 00 00 00 00 00 00 00 00 02 00 68 69
	// 00
}

func ExampleOpParse() {
	o, e := delta.OpParse(delta.OpBytes(hello().Op))
	fmt.Println(o, e)
	_, e = delta.OpParse([]byte{41}) // more parts than may be: what stands behind is not looked at
	fmt.Println(e)
	// Output:
	// [{2 0 hi}] ok
	// many
}
