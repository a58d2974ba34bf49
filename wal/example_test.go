package wal_test

import (
	"fmt"

	"gauze/api"
	"gauze/blocks"
	"gauze/wal"
)

// The example of README.md, with a crash behind it.
func ExampleOpen() {
	d := blocks.New(api.MinSize)
	log, e := wal.Open(d)
	if e != api.OK {
		return
	}
	defer log.Drop() // lets go of what was put, if something goes wrong ahead of Commit
	log.Put(0, "one")
	log.Put(7, "two")
	e = log.Commit()
	fmt.Println(e == api.OK)

	d.Crash(nil)
	again, e := wal.Open(d)
	fmt.Println(e == api.OK, again.Blocks())
	for _, at := range []int{0, 1, 7} {
		data, e := again.Get(at)
		fmt.Printf("%d %q %d\n", at, data[:4], e)
	}
	// Output:
	// true
	// true 210
	// 0 "one\x00" 0
	// 1 "\x00\x00\x00\x00" 0
	// 7 "two\x00" 0
}
