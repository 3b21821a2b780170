package wavelet_test

import (
	"fmt"

	"comitia/api"
	"comitia/sign"
	"comitia/wavelet"
)

// What README.md shows.
func Example() {
	keys := api.Keys{[]byte("key of nought"), []byte("key of one"), []byte("key of two")}
	id, a := api.Id{Host: 1, N: 7}, api.Addr{D: 0, U: 3}
	s := wavelet.New(id, a)
	fmt.Printf("%q %v %d\n", s.Doc, s.People, s.Version)
	o := api.Op{{Kind: api.Put, S: "hello"}}
	d := api.Delta{Author: a, Version: s.Version, Hash: s.Hash, Kind: api.Edit, Op: o}
	e := sign.Entry(keys, id.Host, s.Hash, sign.Delta(keys, d), s.Version, o)
	n, err := wavelet.Do(s, e)
	fmt.Printf("%q %v %d %v\n", n.Doc, n.People, n.Version, err)
	same, err := wavelet.Do(n, e)
	fmt.Println(wavelet.Same(same, n), err)
	states, err := wavelet.Fold(id, a, []api.Entry{e})
	fmt.Println(len(states), err, wavelet.Same(states[0], s), wavelet.Same(states[1], n))
	// Output:
	// "" [{0 3}] 0
	// "hello" [{0 3}] 1 ok
	// true stale
	// 2 ok true true
}

// The chapter's example.
func ExampleNew() {
	s := wavelet.New(api.Id{Host: 0, N: 0}, api.Addr{D: 2, U: 7})
	fmt.Println(len(s.Doc), len(s.People))
	// Output:
	// 0 1
}

// Somebody is let in, and takes the first one out.
func ExampleDo() {
	var keys api.Keys
	a, b := api.Addr{D: 0, U: 3}, api.Addr{D: 2, U: 1}
	s := wavelet.New(api.Id{Host: 1, N: 7}, a)
	for _, d := range []api.Delta{
		{Author: b, Kind: api.Add, Who: b},
		{Author: a, Kind: api.Add, Who: b},
		{Author: b, Kind: api.Remove, Who: a},
		{Author: a, Kind: api.Remove, Who: b},
	} {
		e := sign.Entry(keys, s.Id.Host, s.Hash, sign.Delta(keys, d), s.Version, nil)
		n, err := wavelet.Do(s, e)
		fmt.Println(n.People, n.Version, err)
		s = n
	}
	// Output:
	// [{0 3}] 0 may
	// [{0 3} {2 1}] 1 ok
	// [{2 1}] 2 ok
	// [{2 1}] 2 may
}

func ExampleFold() {
	states, err := wavelet.Fold(api.Id{}, api.Addr{}, nil)
	fmt.Println(len(states), err)
	states, err = wavelet.Fold(api.Id{}, api.Addr{}, make([]api.Entry, 40))
	fmt.Println(len(states), err, "(entries that hold no delta)")
	states, err = wavelet.Fold(api.Id{}, api.Addr{}, make([]api.Entry, 41))
	fmt.Println(len(states), err)
	// Output:
	// 1 ok
	// 0 cut (entries that hold no delta)
	// 0 many
}
