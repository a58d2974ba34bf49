package gauze

import (
	"fmt"
	"slices"
	"strings"
	"testing"

	"gauze/api"
	"gauze/blocks"
	"gauze/layer"
)

func file(path, data string) api.Item {
	return api.Item{Path: path, Kind: api.File, Mode: 5, Data: data}
}

func dir(path string) api.Item { return api.Item{Path: path, Kind: api.Dir, Mode: 6} }

func white(path string) api.Item { return api.Item{Path: path, Kind: api.White} }

func newFile(path, data string) api.Item {
	return api.Item{Path: path, Kind: api.File, Mode: api.NewFile, Data: data}
}

func newDir(path string) api.Item { return api.Item{Path: path, Kind: api.Dir, Mode: api.NewDir} }

func newOpaque(path string) api.Item {
	return api.Item{Path: path, Kind: api.Dir, Mode: api.NewDir, Opaque: true}
}

// moded is an item with another mode.
func moded(item api.Item, mode int) api.Item {
	item.Mode = mode
	return item
}

func list(items ...api.Item) []api.Item { return items }

// below is the tree that most tests lie over.
func below() []api.Item {
	return list(
		dir("d"), file("d/a", "1"), dir("d/e"), dir("d/e/i"), file("d/e/i/x", "2"), file("d/e/y", "3"),
		file("f", "4"), dir("g"),
	)
}

// call is one of the calls that change something.
type call struct {
	name string
	path string
	to   string
	data string
	mode int
}

func write(path, data string) call    { return call{name: "Write", path: path, data: data} }
func mkdir(path string) call          { return call{name: "Mkdir", path: path} }
func chmod(path string, m int) call   { return call{name: "Chmod", path: path, mode: m} }
func remove(path string) call         { return call{name: "Remove", path: path} }
func rename(from, to string) call     { return call{name: "Rename", path: from, to: to} }
func calls(all ...call) []call        { return all }
func fill(path, b string, n int) call { return write(path, strings.Repeat(b, n)) }

func (c call) do(f *FS) api.Errno {
	switch c.name {
	case "Write":
		return f.Write(c.path, c.data)
	case "Mkdir":
		return f.Mkdir(c.path)
	case "Chmod":
		return f.Chmod(c.path, c.mode)
	case "Remove":
		return f.Remove(c.path)
	}
	return f.Rename(c.path, c.to)
}

// brief is the beginning of what is told.
func brief(what any) string {
	return fmt.Sprintf("%.300q", fmt.Sprintf("%+v", what))
}

func open(t *testing.T, d *blocks.Disk, lower []api.Item) *FS {
	t.Helper()
	f, e := Open(d, lower)
	if f == nil || e != api.OK {
		t.Fatalf("Open = %v, %d", f, e)
	}
	return f
}

func do(t *testing.T, f *FS, want api.Errno, all ...call) {
	t.Helper()
	for _, c := range all {
		if e := c.do(f); e != want {
			t.Errorf("%s = %d, want %d", brief(c), e, want)
		}
	}
}

// with is a file system on a new disk, behind these calls.
func with(t *testing.T, lower []api.Item, all ...call) (*blocks.Disk, *FS) {
	t.Helper()
	d := blocks.New(api.MinSize)
	f := open(t, d, lower)
	do(t, f, api.OK, all...)
	return d, f
}

// tells: this is the layer, and all that the calls tell fits it.
func tells(t *testing.T, f *FS, lower []api.Item, want ...api.Item) {
	t.Helper()
	if l := f.Layer(); !slices.Equal(l, want) {
		t.Errorf("Layer = %s, want %s", brief(l), brief(want))
	}
	seen, e := layer.Merge(lower, want)
	if l := f.Tree(); !slices.Equal(l, seen) || e != api.OK {
		t.Errorf("Tree = %s, want %s", brief(l), brief(seen))
	}
	for _, item := range seen {
		if got, e := f.Stat(item.Path); got != item || e != api.OK {
			t.Errorf("Stat(%q) = %s, %d, want %s", item.Path, brief(got), e, brief(item))
		}
	}
	lists(t, f, seen)
}

// lists: List tells these items' last steps, by directory.
func lists(t *testing.T, f *FS, seen []api.Item) {
	t.Helper()
	dirs := []string{""}
	in := map[string][]string{}
	for _, item := range seen {
		at := strings.LastIndex(item.Path, "/")
		in[item.Path[:max(at, 0)]] = append(in[item.Path[:max(at, 0)]], item.Path[at+1:])
		if item.Kind == api.Dir {
			dirs = append(dirs, item.Path)
		} else {
			refuseList(t, f, item.Path, api.ErrKind)
		}
	}
	for _, path := range dirs {
		if l, e := f.List(path); !slices.Equal(l, in[path]) || e != api.OK {
			t.Errorf("List(%q) = %q, %d, want %q", path, l, e, in[path])
		}
	}
}

// has is tells, of what Open finds behind a crash, too.
func has(t *testing.T, d *blocks.Disk, f *FS, lower []api.Item, want ...api.Item) {
	t.Helper()
	tells(t, f, lower, want...)
	c := d.Copy()
	c.Crash(nil)
	tells(t, open(t, c, lower), lower, want...)
}

func refuseStat(t *testing.T, f *FS, path string, want api.Errno) {
	t.Helper()
	if got, e := f.Stat(path); got != (api.Item{}) || e != want {
		t.Errorf("Stat(%.20q) = %s, %d, want the error %d", path, brief(got), e, want)
	}
}

func refuseList(t *testing.T, f *FS, path string, want api.Errno) {
	t.Helper()
	if got, e := f.List(path); len(got) != 0 || e != want {
		t.Errorf("List(%.20q) = %s, %d, want the error %d", path, brief(got), e, want)
	}
}

func refuseOpen(t *testing.T, what string, d *blocks.Disk, lower []api.Item, want api.Errno) {
	t.Helper()
	if f, e := Open(d, lower); f != nil || e != want {
		t.Errorf("Open of %s = %v, %d, want the error %d", what, f, e, want)
	}
}

// numbered are so many files in the root.
func numbered(n int) []api.Item {
	var l []api.Item
	for i := range n {
		l = append(l, file(fmt.Sprintf("n%02d", i), ""))
	}
	return l
}

// noTrees are lists that are no trees.
func noTrees() [][]api.Item {
	return [][]api.Item{
		list(white("a")), list(newOpaque("a")), list(file("a/b", "")), list(file("a", ""), file("a/b", "")),
		list(file("a", ""), dir("a")), list(dir("a"), dir("b"), dir("a")), numbered(api.MaxItems + 1), numbered(1000),
		list(moded(dir("a"), -1)), list(moded(file("a", ""), api.MaxMode+1)), list(api.Item{}), list(api.Item{Path: "a"}),
		list(file("a", strings.Repeat("x", api.MaxData+1))), list(api.Item{Path: "a", Kind: api.Dir, Data: "x"}),
		list(file("", "")), list(file("A", "")), list(file("a/", "")), list(file("ninebytes", "")), list(api.Item{Path: "a", Kind: 4}),
		list(dir("a"), dir("a/b"), dir("a/b/c"), dir("a/b/c/d"), dir("a/b/c/d/e")),
	}
}

func noPaths() []string {
	return []string{
		"/", "/a", "a/", "a//b", ".", "..", "d/..", "d/./a", "A", "a b", "ninebytes", "a/b/c/d/e", "d/e/i/x/z", "\xff", "a\x00",
		strings.Repeat("a", 1<<16), strings.Repeat("a/", 1<<16),
	}
}

// P10: what is no disk, or too small a one, is refused, ahead of what is no tree, and of the disk being dead.
func TestOpenRefusesSmallDisks(t *testing.T) {
	for n := -1; n < api.MinSize; n++ {
		alive, dead := blocks.New(n), blocks.New(n)
		dead.Die(0)
		for _, d := range []*blocks.Disk{alive, dead} {
			refuseOpen(t, "a small disk", d, below(), api.ErrArg)
			refuseOpen(t, "a small disk", d, list(white("a")), api.ErrArg)
		}
	}
	for _, d := range []*blocks.Disk{nil, {}} {
		refuseOpen(t, "no disk", d, below(), api.ErrArg)
		refuseOpen(t, "no disk", d, list(white("a")), api.ErrArg)
	}
}

// P10: what is no tree is refused, ahead of the disk being dead; the disk is left as it was.
func TestOpenRefusesWhatIsNoTree(t *testing.T) {
	d, _ := with(t, below(), write("n", "1"))
	dead := blocks.New(api.MinSize)
	dead.Die(0)
	d.Fail(0)
	for _, lower := range noTrees() {
		refuseOpen(t, brief(lower), d, lower, api.ErrTree)
		refuseOpen(t, brief(lower), dead, lower, api.ErrTree)
	}
	if d.Failed() != 0 {
		t.Error("Open has changed the disk")
	}
	refuseOpen(t, "a disk that fails", d, below(), api.ErrDisk)
	has(t, d, open(t, d, below()), below(), newFile("n", "1"))
}

// P10: a new disk has no layer, whatever its size and the tree.
func TestOpenOfANewDisk(t *testing.T) {
	shuffled := below()
	slices.Reverse(shuffled)
	for _, lower := range [][]api.Item{nil, {}, below(), shuffled, numbered(api.MaxItems)} {
		for _, n := range []int{api.MinSize, api.MinSize + 1, 4096} {
			d := blocks.New(n)
			has(t, d, open(t, d, lower), lower)
		}
	}
}

// P10: a disk that is dead, or fails, is told of.
func TestOpenOfADiskThatFails(t *testing.T) {
	d, _ := with(t, below(), write("n", "1"))
	d.Fail(0)
	refuseOpen(t, "a disk that fails", d, below(), api.ErrDisk)
	for die := range 2 {
		d.Die(die)
		refuseOpen(t, "a disk that dies", d, below(), api.ErrDisk)
		d.Crash(nil)
	}
	has(t, d, open(t, d, below()), below(), newFile("n", "1"))
}

// P11: what is no path is refused, and what is not seen is told of; the root is listed and has no Stat.
func TestStatAndListRefuse(t *testing.T) {
	_, f := with(t, below(), remove("d/a"), remove("f"), mkdir("f"), write("h", ""))
	for _, path := range noPaths() {
		refuseStat(t, f, path, api.ErrArg)
		refuseList(t, f, path, api.ErrArg)
	}
	refuseStat(t, f, "", api.ErrArg)
	for _, path := range []string{"d/a", "d/a/b", "none", "d/none", "f/none", "h/none", "d/e/i/none", "a", "y", "e"} {
		refuseStat(t, f, path, api.ErrNone)
		refuseList(t, f, path, api.ErrNone)
	}
	for _, path := range []string{"h", "d/e/y", "d/e/i/x"} {
		refuseList(t, f, path, api.ErrKind)
	}
}

// P11: what is told is in the order of the paths, byte by byte, and List tells last steps in theirs.
func TestToldInOrder(t *testing.T) {
	lower := list(file("a/b", "1"), dir("a"), file("a-b", "2"), file("a.b", "3"), file("a0", "4"), file("-", "5"))
	d, f := with(t, lower, write("a/b-", ""), write("_", ""), remove("a.b"), mkdir("a/b."), write("a/b./z", ""), write("a/0", ""))
	has(t, d, f, lower, newFile("_", ""), dir("a"), white("a.b"), newFile("a/0", ""), newFile("a/b-", ""), newDir("a/b."), newFile("a/b./z", ""))
	for path, want := range map[string][]string{
		"": {"-", "_", "a", "a-b", "a0"}, "a": {"0", "b", "b-", "b."}, "a/b.": {"z"},
	} {
		if l, e := f.List(path); !slices.Equal(l, want) || e != api.OK {
			t.Errorf("List(%q) = %q, %d", path, l, e)
		}
	}
}

// P11: what is seen is never Opaque, though the layer may be.
func TestSeenIsNotOpaque(t *testing.T) {
	d, f := with(t, below(), remove("g"), mkdir("g"))
	if item, e := f.Stat("g"); item != newDir("g") || e != api.OK {
		t.Errorf("Stat = %+v, %d", item, e)
	}
	for _, item := range f.Tree() {
		if item.Opaque {
			t.Errorf("%+v is seen", item)
		}
	}
	has(t, d, f, below(), newOpaque("g"))
}
