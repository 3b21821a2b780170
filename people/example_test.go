package people_test

import (
	"fmt"

	"comitia/api"
	"comitia/people"
)

// What README.md shows.
func Example() {
	l, e := people.Add(nil, api.Addr{D: 1, U: 3})
	l, e = people.Add(l, api.Addr{D: 0, U: 7})
	fmt.Println(l, e)
	same, e := people.Add(l, api.Addr{D: 0, U: 7})
	fmt.Println(same, e)
	fmt.Println(people.Has(l, api.Addr{D: 1, U: 3}), people.Domain(l, 2))
	l, e = people.Remove(l, api.Addr{D: 1, U: 3})
	fmt.Println(l, e)
	// Output:
	// [{0 7} {1 3}] ok
	// [{0 7} {1 3}] is
	// true false
	// [{0 7}] ok
}

// The chapter's example.
func ExampleRemove() {
	l, e := people.Remove(nil, api.Addr{D: 0, U: 0})
	fmt.Println(len(l), e)
	// Output:
	// 0 none
}
