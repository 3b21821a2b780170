package disk_test

import (
	"fmt"

	"comitia/disk"
)

// tell prints what a disk has.
func tell(d *disk.Disk) {
	b, e := d.Read()
	fmt.Printf("%q %v, %d synced\n", b, e, d.Synced())
}

// What README.md shows.
func Example() {
	d := disk.New(10)
	fmt.Println(d.Append([]byte("hello")), d.Sync(), d.Synced())
	d.Stop(1)
	fmt.Println(d.Append([]byte("you")), d.Dead())
	tell(d)
	d.Crash(2)
	tell(d)
	fmt.Println(d.Cut(5))
	tell(d)
	// Output:
	// ok ok 5
	// dead true
	// "" dead, 5 synced
	// "helloyo" ok, 7 synced
	// ok
	// "hello" ok, 5 synced
}

// The chapter's example.
func ExampleDisk_Crash() {
	d := disk.New(10)
	d.Append([]byte("abc"))
	tell(d)
	d.Crash(2)
	tell(d)
	// Output:
	// "abc" ok, 0 synced
	// "ab" ok, 2 synced
}

func ExampleDisk_Append() {
	d := disk.New(10)
	fmt.Println(d.Append([]byte("hello")), d.Sync(), d.Append([]byte("you")))
	tell(d)
	fmt.Println(d.Append([]byte("all")), "(nothing is done)")
	fmt.Println(d.Cut(6))
	tell(d)
	fmt.Println(d.Cut(7), "(nothing is done)")
	// Output:
	// ok ok ok
	// "helloyou" ok, 5 synced
	// full (nothing is done)
	// ok
	// "helloy" ok, 6 synced
	// arg (nothing is done)
}

func ExampleDisk_Stop() {
	d := disk.New(10)
	d.Stop(2)
	fmt.Println(d.Append([]byte("ab")), d.Append([]byte("cd")), d.Dead())
	tell(d)
	d.Crash(3)
	tell(d)
	// Output:
	// ok dead true
	// "" dead, 0 synced
	// "abc" ok, 3 synced
}
