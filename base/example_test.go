package base_test

import (
	"fmt"

	"gauze/api"
	"gauze/base"
	"gauze/blocks"
)

// The example of README.md, with a crash behind it.
func ExampleOpen() {
	d := blocks.New(api.MinSize)
	b, e := base.Open(d)
	if e != api.OK {
		return
	}
	e = b.Do([]api.Deed{
		{Node: api.Node{Path: "d", Kind: api.Dir, Mode: api.NewDir}},
		{Node: api.Node{Path: "d/a", Kind: api.File, Mode: api.NewFile, Tag: 1, Data: "one"}},
		{Node: api.Node{Path: "e", Kind: api.File, Mode: api.NewFile, Data: "two"}},
	})
	fmt.Println(e)
	e = b.Do([]api.Deed{{Take: true, Node: api.Node{Path: "d"}}})
	fmt.Println(e)

	d.Crash(nil)
	again, e := base.Open(d)
	fmt.Println(e)
	list, e := again.Nodes()
	fmt.Println(list, e)
	_, e = again.Read("d/a")
	fmt.Println(e == api.ErrNone)
	// Output:
	// 0
	// 0
	// 0
	// [{e 1 420 0 two}] 0
	// true
}
