package layer

import (
	"slices"
	"strings"
	"testing"

	"gauze/api"
)

func file(path, data string) api.Item {
	return api.Item{Path: path, Kind: api.File, Mode: 5, Data: data}
}

func dir(path string) api.Item { return api.Item{Path: path, Kind: api.Dir, Mode: 6} }

func opaque(path string) api.Item {
	return api.Item{Path: path, Kind: api.Dir, Mode: 7, Opaque: true}
}

func white(path string) api.Item { return api.Item{Path: path, Kind: api.White} }

func plain(path string) api.Item { return api.Item{Path: path, Kind: api.Dir, Mode: 7} }

func list(items ...api.Item) []api.Item { return items }

// numbered are so many items of one kind, each in the root.
func numbered(n int, kind int) []api.Item {
	var l []api.Item
	for i := range n {
		l = append(l, api.Item{Path: "n" + string([]byte{byte('a' + i/26), byte('a' + i%26)}), Kind: kind})
	}
	return l
}

// deep is a tree with a File beside a Dir at every depth.
func deep() []api.Item {
	return list(
		dir("a"), dir("a/b"), dir("a/b/c"), file("a/b/c/x", "4"), file("a/b/x", "3"), file("a/x", "2"),
		file("x", "1"),
	)
}

func expect(t *testing.T, name string, lower, upper, want []api.Item) {
	t.Helper()
	got, e := Merge(lower, upper)
	if e != api.OK || !slices.Equal(got, want) {
		t.Errorf("%s: Merge = %+v, %d, want %+v", name, got, e, want)
	}
}

func refuse(t *testing.T, name string, lower, upper []api.Item, want api.Errno) {
	t.Helper()
	if got, e := Merge(lower, upper); e != want || len(got) != 0 {
		t.Errorf("%s: Merge = %+v, %d, want the error %d", name, got, e, want)
	}
}

// P3: what the layer has is seen in the place of what the tree has.
func TestMergeTakesTheLayerFirst(t *testing.T) {
	expect(t, "nothing", nil, nil, nil)
	expect(t, "empty lists", list(), list(), nil)
	expect(t, "no layer", deep(), nil, deep())
	expect(t, "no tree", nil, deep(), deep())
	expect(t, "a file over a file", list(file("x", "old")), list(api.Item{Path: "x", Kind: api.File, Mode: 1, Data: "new"}), list(api.Item{Path: "x", Kind: api.File, Mode: 1, Data: "new"}))
	expect(t, "an empty file over a file", list(file("x", "old")), list(file("x", "")), list(file("x", "")))
	expect(t, "a file over a directory", deep(), list(file("a", "n")), list(file("a", "n"), file("x", "1")))
	expect(t, "a directory over a file", list(file("x", "1")), list(dir("x"), file("x/y", "2")), list(dir("x"), file("x/y", "2")))
	expect(t, "a mode over a mode", list(dir("d"), file("d/f", "")), list(plain("d")), list(plain("d"), file("d/f", "")))
	expect(t, "a file more", list(dir("d"), file("d/f", "1")), list(dir("d"), file("d/g", "2")), list(dir("d"), file("d/f", "1"), file("d/g", "2")))
}

// P3: a White hides what shines through, and all below it, at every depth.
func TestMergeWhites(t *testing.T) {
	expect(t, "depth 1", deep(), list(white("a")), list(file("x", "1")))
	expect(t, "depth 2", deep(), list(dir("a"), white("a/b")), list(dir("a"), file("a/x", "2"), file("x", "1")))
	expect(t, "depth 3", deep(), list(dir("a"), dir("a/b"), white("a/b/c")), list(dir("a"), dir("a/b"), file("a/b/x", "3"), file("a/x", "2"), file("x", "1")))
	expect(t, "depth 4", deep(), list(dir("a"), dir("a/b"), dir("a/b/c"), white("a/b/c/x")), list(dir("a"), dir("a/b"), dir("a/b/c"), file("a/b/x", "3"), file("a/x", "2"), file("x", "1")))
	expect(t, "a file", deep(), list(white("x")), deep()[:6])
	expect(t, "over nothing", list(file("x", "1")), list(white("y")), list(file("x", "1")))
	expect(t, "over no tree", nil, list(white("y")), nil)
	expect(t, "a path that only begins so", list(dir("a"), file("a/x", ""), file("a-", ""), file("ab", "")), list(white("a")), list(file("a-", ""), file("ab", "")))
}

// P3: nothing shines through below an Opaque directory, at every depth; it is told as not Opaque.
func TestMergeOpaque(t *testing.T) {
	expect(t, "depth 1", deep(), list(opaque("a")), list(plain("a"), file("x", "1")))
	expect(t, "depth 2", deep(), list(dir("a"), opaque("a/b")), list(dir("a"), plain("a/b"), file("a/x", "2"), file("x", "1")))
	expect(t, "depth 3", deep(), list(dir("a"), dir("a/b"), opaque("a/b/c")), list(dir("a"), dir("a/b"), plain("a/b/c"), file("a/b/x", "3"), file("a/x", "2"), file("x", "1")))
	expect(t, "depth 4", list(dir("a"), dir("a/b"), dir("a/b/c"), dir("a/b/c/d")), list(dir("a"), dir("a/b"), dir("a/b/c"), opaque("a/b/c/d")), list(dir("a"), dir("a/b"), dir("a/b/c"), plain("a/b/c/d")))
	expect(t, "a plain directory in it", deep(), list(opaque("a"), dir("a/b")), list(plain("a"), dir("a/b"), file("x", "1")))
	expect(t, "two plain directories in it", deep(), list(opaque("a"), dir("a/b"), dir("a/b/c")), list(plain("a"), dir("a/b"), dir("a/b/c"), file("x", "1")))
	expect(t, "a file of its own", deep(), list(opaque("a"), file("a/x", "n")), list(plain("a"), file("a/x", "n"), file("x", "1")))
	expect(t, "a White in it", deep(), list(opaque("a"), white("a/x")), list(plain("a"), file("x", "1")))
	expect(t, "over a file", list(file("x", "1")), list(opaque("x")), list(plain("x")))
	expect(t, "over nothing", nil, list(opaque("x")), list(plain("x")))
}

// P3: what is told is in the order of the paths, whatever the order of the lists.
func TestMergeInOrder(t *testing.T) {
	want := list(file("-", ""), file(".a", ""), file("0", ""), file("_", ""), dir("a"), file("a-b", ""), file("a.b", ""), file("a/b", ""), file("a0", ""), file("aa", ""))
	expect(t, "a tree", want, nil, want)
	back := slices.Clone(want)
	slices.Reverse(back)
	expect(t, "a tree turned round", back, nil, want)
	expect(t, "a layer turned round", nil, back, want)
	expect(t, "both", list(file("c", "1"), file("a", "1")), list(file("d", "2"), file("b", "2"), file("a", "2")), list(file("a", "2"), file("b", "2"), file("c", "1"), file("d", "2")))
}

// bad are lists that are neither trees nor layers.
func bad() map[string][]api.Item {
	return map[string][]api.Item{
		"no path":                  list(file("", "")),
		"a path with too many":     list(dir("a"), dir("a/b"), dir("a/b/c"), dir("a/b/c/d"), file("a/b/c/d/e", "")),
		"a step too long":          list(file("ninebytes", "")),
		"a step that is ..":        list(file("..", "")),
		"a step that is empty":     list(dir("a"), file("a/", "")),
		"a large letter":           list(file("A", "")),
		"kind 0":                   list(api.Item{Path: "a"}),
		"kind 4":                   list(api.Item{Path: "a", Kind: 4}),
		"kind -1":                  list(api.Item{Path: "a", Kind: -1}),
		"a mode too small":         list(api.Item{Path: "a", Kind: api.File, Mode: -1}),
		"a mode too great":         list(api.Item{Path: "a", Kind: api.File, Mode: api.MaxMode + 1}),
		"a directory's mode":       list(api.Item{Path: "a", Kind: api.Dir, Mode: api.MaxMode + 1}),
		"too much data":            list(file("a", strings.Repeat("d", api.MaxData+1))),
		"a directory with data":    list(api.Item{Path: "a", Kind: api.Dir, Data: "d"}),
		"an opaque file":           list(api.Item{Path: "a", Kind: api.File, Opaque: true}),
		"two of one path":          list(file("a", ""), file("b", ""), file("a", "")),
		"two kinds of one path":    list(dir("a"), file("a", "")),
		"no parent":                list(dir("a"), file("b/c", "")),
		"no parent's parent":       list(dir("a/b"), file("a/b/c", "")),
		"a file as parent":         list(file("a", ""), file("a/b", "")),
		"a file as parent, behind": list(file("a/b", ""), file("a", "")),
		"too many":                 numbered(api.MaxItems+1, api.File),
		"far too many":             numbered(26*26, api.Dir),
	}
}

// P3: ErrTree, whatever the layer is; ErrLayer.
func TestMergeRefusesBadLists(t *testing.T) {
	for name, l := range bad() {
		refuse(t, name, l, nil, api.ErrTree)
		refuse(t, name+", and again", l, l, api.ErrTree)
		refuse(t, name, nil, l, api.ErrLayer)
		refuse(t, name, deep(), l, api.ErrLayer)
	}
}

// P3: a tree has neither Whites nor Opaque directories.
func TestMergeRefusesLayersAsTrees(t *testing.T) {
	for _, l := range [][]api.Item{list(white("a")), list(opaque("a")), list(dir("a"), white("a/b")), list(dir("a"), opaque("a/b"))} {
		refuse(t, "a layer as tree", l, nil, api.ErrTree)
		if _, e := Merge(nil, l); e != api.OK {
			t.Errorf("%+v is a layer, and not %d", l, e)
		}
	}
}

// P3: a White has no mode, no data, nothing in it, and is not Opaque.
func TestMergeRefusesBadWhites(t *testing.T) {
	refuse(t, "mode", nil, list(api.Item{Path: "a", Kind: api.White, Mode: 1}), api.ErrLayer)
	refuse(t, "data", nil, list(api.Item{Path: "a", Kind: api.White, Data: "d"}), api.ErrLayer)
	refuse(t, "opaque", nil, list(api.Item{Path: "a", Kind: api.White, Opaque: true}), api.ErrLayer)
	refuse(t, "parent", deep(), list(white("a"), white("a/b")), api.ErrLayer)
	refuse(t, "a file in it", deep(), list(white("a"), file("a/b", "")), api.ErrLayer)
	refuse(t, "the parent in the tree alone", deep(), list(white("a/b")), api.ErrLayer)
	refuse(t, "a file's parent in the tree alone", deep(), list(file("a/n", "")), api.ErrLayer)
	refuse(t, "beside another kind", nil, list(white("a"), file("a", "")), api.ErrLayer)
	refuse(t, "too many", nil, numbered(api.MaxItems+1, api.White), api.ErrLayer)
}

// P3: the greatest that may be, and one more.
func TestMergeLimits(t *testing.T) {
	most := list(
		api.Item{Path: "eightbyt", Kind: api.Dir, Mode: api.MaxMode},
		api.Item{Path: "eightbyt/eightbyt", Kind: api.Dir},
		api.Item{Path: "eightbyt/eightbyt/eightbyt", Kind: api.Dir},
		api.Item{Path: "eightbyt/eightbyt/eightbyt/eightbyt", Kind: api.File, Mode: api.MaxMode, Data: strings.Repeat("\xff", api.MaxData)},
	)
	expect(t, "as tree", most, nil, most)
	expect(t, "as layer", nil, most, most)
	full := numbered(api.MaxItems, api.File)
	expect(t, "a full tree", full, nil, full)
	expect(t, "a full layer", nil, full, full)
	expect(t, "both full, the same", full, full, full)
	expect(t, "all hidden", full, numbered(api.MaxItems, api.White), nil)
	refuse(t, "one more", full, list(file("x", "")), api.ErrFull)
	expect(t, "one more, one less", full, list(file("zz", ""), white("naa")), append(slices.Clone(full[1:]), file("zz", "")))
	refuse(t, "two more, one less", full, list(file("zz", ""), file("zy", ""), white("naa")), api.ErrFull)
	refuse(t, "a White over nothing counts for nothing", full, list(file("zz", ""), white("zy")), api.ErrFull)
	refuse(t, "twice as many", full, deepNumbered(), api.ErrFull)
}

// deepNumbered is a full layer, none of it at a path of numbered.
func deepNumbered() []api.Item {
	l := list(dir("d"))
	for _, item := range numbered(api.MaxItems-1, api.File) {
		item.Path = "d/" + item.Path
		l = append(l, item)
	}
	return l
}

// P1: of several errors the first named is answered.
func TestMergeOrderOfErrors(t *testing.T) {
	full := numbered(api.MaxItems, api.File)
	tooMany := numbered(api.MaxItems+1, api.File)
	badLayer := list(file("x", ""), file("y/z", ""))
	refuse(t, "tree, layer", tooMany, tooMany, api.ErrTree)
	refuse(t, "tree, full", tooMany, list(file("x", "")), api.ErrTree)
	refuse(t, "layer, full", full, badLayer, api.ErrLayer)
	refuse(t, "layer that is too long, full", full, append(deepNumbered(), file("x", "")), api.ErrLayer)
}
