package log_test

import (
	"fmt"

	"comitia/api"
	"comitia/disk"
	"comitia/log"
)

// What README.md shows.
func Example() {
	d := disk.New(100)
	l, records, e := log.Open(d)
	fmt.Printf("%q %v\n", records, e)
	fmt.Println(l.Append([]byte("hello")), l.Append(nil))
	fmt.Println(l.Sync(), l.Count(), l.Safe())
	fmt.Println(l.Append([]byte("you")), l.Count(), l.Safe())
	d.Crash(9)
	l, records, e = log.Open(d)
	fmt.Printf("%q %v\n", records, e)
	fmt.Println(l.Count(), l.Safe())
	// Output:
	// [] ok
	// ok ok
	// ok 2 2
	// ok 3 2
	// ["hello" ""] ok
	// 2 2
}

// The chapter's example.
func ExampleOpen() {
	l, records, e := log.Open(disk.New(100))
	fmt.Println(len(records), e, l.Count(), l.Safe())
	// Output:
	// 0 ok 0 0
}

func ExampleLog_Append() {
	d := disk.New(20)
	l, _, _ := log.Open(d)
	fmt.Println(l.Append([]byte("hello")), l.Append(nil), l.Append(make([]byte, 1<<14+1)), l.Count())
	b, e := d.Read()
	fmt.Printf("%q %v\n", b, e)
	d.Stop(1)
	fmt.Println(l.Sync() == api.ErrDead, l.Append(nil) == api.ErrDead, l.Count(), l.Safe())
	// Output:
	// ok full long 1
	// "\x05\x00\x00\x00\x00\x00\x00\x00hello" ok
	// true true 1 0
}
