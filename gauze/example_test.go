package gauze_test

import (
	"fmt"

	"gauze/api"
	"gauze/blocks"
	"gauze/gauze"
)

// The example of README.md, with a crash behind it.
func ExampleOpen() {
	lower := []api.Item{
		{Path: "d", Kind: api.Dir, Mode: api.NewDir},
		{Path: "d/a", Kind: api.File, Mode: api.NewFile, Data: "one"},
		{Path: "e", Kind: api.File, Mode: api.NewFile, Data: "two"},
	}
	d := blocks.New(api.MinSize)
	f, e := gauze.Open(d, lower)
	if e != api.OK {
		return
	}
	f.Write("d/b", "three")
	f.Remove("d/a")
	f.Rename("e", "x")
	names, _ := f.List("d")
	fmt.Println(names)
	item, _ := f.Stat("x")
	fmt.Println(item.Data)
	fmt.Println(f.Layer())

	d.Crash(nil)
	again, e := gauze.Open(d, lower)
	fmt.Println(e)
	fmt.Println(again.Tree())
	// Output:
	// [b]
	// two
	// [{d 2 493  false} {d/a 3 0  false} {d/b 1 420 three false} {e 3 0  false} {x 1 420 two false}]
	// 0
	// [{d 2 493  false} {d/b 1 420 three false} {x 1 420 two false}]
}

// The examples of DOC.md.
func ExampleFS_Remove() {
	lower := []api.Item{{Path: "d", Kind: api.Dir}, {Path: "d/a", Kind: api.File}, {Path: "e", Kind: api.File, Mode: 7, Data: "1"}}
	f, _ := gauze.Open(blocks.New(api.MinSize), lower)
	fmt.Println(f.Remove("d/a"), f.Layer())
	fmt.Println(f.Remove("d"), f.Layer())
	fmt.Println(f.Mkdir("d"), f.Layer())
	names, e := f.List("d")
	fmt.Println(names, e)
	// Output:
	// 0 [{d 2 0  false} {d/a 3 0  false}]
	// 0 [{d 3 0  false}]
	// 0 [{d 2 493  true}]
	// [] 0
}

func ExampleFS_Rename() {
	lower := []api.Item{{Path: "d", Kind: api.Dir}, {Path: "d/a", Kind: api.File}, {Path: "e", Kind: api.File, Mode: 7, Data: "1"}}
	f, _ := gauze.Open(blocks.New(api.MinSize), lower)
	fmt.Println(f.Chmod("e", 0), f.Layer())
	fmt.Println(f.Rename("e", "x"), f.Layer())
	// Output:
	// 0 [{e 1 0 1 false}]
	// 0 [{e 3 0  false} {x 1 0 1 false}]
}
