package layer_test

import (
	"fmt"

	"gauze/api"
	"gauze/layer"
)

// The example of README.md.
func ExampleMerge() {
	lower := []api.Item{
		{Path: "d", Kind: api.Dir, Mode: api.NewDir},
		{Path: "d/a", Kind: api.File, Mode: api.NewFile, Data: "old"},
		{Path: "e", Kind: api.File, Mode: api.NewFile, Data: "below"},
	}
	upper := []api.Item{
		{Path: "d", Kind: api.Dir, Mode: api.NewDir},
		{Path: "d/a", Kind: api.File, Mode: api.NewFile, Data: "new"},
		{Path: "e", Kind: api.White},
	}
	seen, e := layer.Merge(lower, upper)
	fmt.Println(e == api.OK)
	for _, item := range seen {
		fmt.Printf("%s %q\n", item.Path, item.Data)
	}
	// Output:
	// true
	// d ""
	// d/a "new"
}
