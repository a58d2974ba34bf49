package base

import (
	"fmt"
	"slices"
	"strings"
	"testing"

	"gauze/api"
	"gauze/blocks"
)

func file(path, data string) api.Node {
	return api.Node{Path: path, Kind: api.File, Mode: api.NewFile, Tag: 7, Data: data}
}

func dir(path string) api.Node {
	return api.Node{Path: path, Kind: api.Dir, Mode: api.NewDir, Tag: 9}
}

// full is a file with as much data as there may be.
func full(path, fill string) api.Node {
	return file(path, strings.Repeat(fill, api.MaxData))
}

func put(list ...api.Node) []api.Deed {
	var deeds []api.Deed
	for _, n := range list {
		deeds = append(deeds, api.Deed{Node: n})
	}
	return deeds
}

func take(list ...string) []api.Deed {
	var deeds []api.Deed
	for _, path := range list {
		deeds = append(deeds, api.Deed{Take: true, Node: api.Node{Path: path}})
	}
	return deeds
}

func all(lists ...[]api.Deed) []api.Deed { return slices.Concat(lists...) }

func open(t *testing.T, d *blocks.Disk) *Base {
	t.Helper()
	b, e := Open(d)
	if b == nil || e != api.OK {
		t.Fatalf("Open = %v, %d", b, e)
	}
	return b
}

// with is a disk of a base that has these nodes.
func with(t *testing.T, list ...api.Node) *blocks.Disk {
	t.Helper()
	d := blocks.New(api.MinSize)
	b := open(t, d)
	for part := range slices.Chunk(list, api.MaxDeeds) {
		do(t, b, api.OK, put(part...))
	}
	return d
}

// brief is the beginning of what is told.
func brief(what any) string {
	return fmt.Sprintf("%.300q", fmt.Sprintf("%+v", what))
}

func do(t *testing.T, b *Base, want api.Errno, deeds []api.Deed) {
	t.Helper()
	if e := b.Do(deeds); e != want {
		t.Errorf("Do(%s) = %d, want %d", brief(deeds), e, want)
	}
}

func has(t *testing.T, b *Base, want ...api.Node) {
	t.Helper()
	list, e := b.Nodes()
	if e != api.OK || !slices.Equal(list, want) {
		t.Errorf("Nodes = %s, %d, want %s", brief(list), e, brief(want))
	}
	for _, n := range want {
		if got, e := b.Read(n.Path); got != n || e != api.OK {
			t.Errorf("Read(%q) = %s, %d, want %s", n.Path, brief(got), e, brief(n))
		}
	}
}

// hasSure is has, of what is on the disk behind a crash, too.
func hasSure(t *testing.T, d *blocks.Disk, b *Base, want ...api.Node) {
	t.Helper()
	has(t, b, want...)
	c := d.Copy()
	c.Crash(nil)
	has(t, open(t, c), want...)
}

// refuse: Read answers an error, and a node of zeros.
func refuse(t *testing.T, b *Base, path string, want api.Errno) {
	t.Helper()
	if got, e := b.Read(path); got != (api.Node{}) || e != want {
		t.Errorf("Read(%.20q) = %s, %d, want the error %d", path, brief(got), e, want)
	}
}

func noPaths() []string {
	return []string{
		"", "/", "/a", "a/", "a//b", ".", "..", "a/..", "A", "a b", "ninebytes", "a/b/c/d/e", "\xff", "a\x00",
		strings.Repeat("a", 1<<16), strings.Repeat("a/", 1<<16),
	}
}

// P7: what is no disk, or too small a one, is refused; that it is dead comes behind.
func TestOpenRefusesSmallDisks(t *testing.T) {
	for n := -1; n < api.MinSize; n++ {
		alive, dead := blocks.New(n), blocks.New(n)
		dead.Die(0)
		for _, d := range []*blocks.Disk{alive, dead} {
			if b, e := Open(d); b != nil || e != api.ErrArg {
				t.Errorf("Open of %d blocks = %v, %d", n, b, e)
			}
		}
	}
	for _, d := range []*blocks.Disk{nil, {}} {
		if b, e := Open(d); b != nil || e != api.ErrArg {
			t.Errorf("Open of no disk = %v, %d", b, e)
		}
	}
}

// P7: a new disk has no nodes, and takes some, whatever its size.
func TestOpenOfANewDisk(t *testing.T) {
	for _, n := range []int{api.MinSize, api.MinSize + 1, 1000, 4096, 5000} {
		d := blocks.New(n)
		b := open(t, d)
		hasSure(t, d, b)
		do(t, b, api.OK, put(file("a", "1")))
		hasSure(t, d, b, file("a", "1"))
	}
}

// P7: a disk that is dead, or fails, is told of.
func TestOpenOfADiskThatFails(t *testing.T) {
	d := with(t, file("a", "1"))
	d.Fail(0)
	if b, e := Open(d); b != nil || e != api.ErrDisk || d.Failed() != 1 {
		t.Errorf("Open of a disk that fails = %v, %d", b, e)
	}
	has(t, open(t, d), file("a", "1"))
	for die := range 2 {
		d.Die(die)
		if b, e := Open(d); b != nil || e != api.ErrDisk {
			t.Errorf("Open of a disk that dies behind %d = %v, %d", die, b, e)
		}
		d.Crash(nil)
		has(t, open(t, d), file("a", "1"))
	}
}

// P7: nodes are told in the order of their paths, byte by byte, however they came in.
func TestNodesInOrder(t *testing.T) {
	want := []api.Node{
		file("-", ""), file(".a", ""), file("0", ""), file("_", ""), dir("a"), file("a-b", ""), file("a.b", ""),
		dir("a/b"), file("a/b/c", ""), file("a0", ""), file("aa", ""), file("b", ""),
	}
	d := blocks.New(api.MinSize)
	b := open(t, d)
	do(t, b, api.OK, put(want[4], want[7]))
	for i := range want {
		do(t, b, api.OK, put(want[i*5%len(want)]))
	}
	hasSure(t, d, b, want...)
}

// P7: Read refuses what is no path, and tells where nothing is.
func TestRead(t *testing.T) {
	b := open(t, with(t, dir("a"), file("a/b", "1"), file("c", "2")))
	for _, path := range noPaths() {
		refuse(t, b, path, api.ErrArg)
	}
	for _, path := range []string{"b", "a/c", "a/b/c", "c/a", "a-", "x/y/z", "a/b/c/d"} {
		refuse(t, b, path, api.ErrNone)
	}
	has(t, b, dir("a"), file("a/b", "1"), file("c", "2"))
}

// P7: a node comes back as it was put: each mode and tag, each length of data, each byte.
func TestNodesComeBack(t *testing.T) {
	every := make([]byte, 256)
	for i := range every {
		every[i] = byte(i)
	}
	long := "eightbyt/eightbyt/eightbyt/eightbyt"
	d := with(t, dir(long[:8]), dir(long[:17]), dir(long[:26]))
	b := open(t, d)
	back := func(n api.Node) {
		t.Helper()
		do(t, b, api.OK, put(n))
		if got, e := b.Read(n.Path); got != n || e != api.OK {
			t.Errorf("Read = %s, %d, want %s", brief(got), e, brief(n))
		}
		if got, e := open(t, d).Read(n.Path); got != n || e != api.OK {
			t.Errorf("Open, Read = %s, %d, want %s", brief(got), e, brief(n))
		}
	}
	for mode := range api.MaxMode + 1 {
		back(api.Node{Path: "m", Kind: api.File, Mode: mode})
		back(api.Node{Path: "d", Kind: api.Dir, Mode: mode, Tag: api.MaxTag})
	}
	for tag := range api.MaxTag + 1 {
		back(api.Node{Path: "m", Kind: api.File, Tag: tag})
		back(api.Node{Path: "d", Kind: api.Dir, Tag: tag, Mode: api.MaxMode})
	}
	for n := range api.MaxData + 1 {
		back(file("x", strings.Repeat("\x00", n)))
		back(file(long, strings.Repeat("\xff", n)))
		back(file(long, strings.Repeat("z", api.MaxData-n)))
	}
	back(file("x", string(every)))
}

// P8: what are no deeds is refused, wherever it stands, whatever else is wrong, and on a dead disk too.
func TestDoRefusesWrongDeeds(t *testing.T) {
	d := with(t, dir("a"), file("f", "1"))
	b := open(t, d)
	wrong := [][]api.Deed{slices.Repeat(put(file("f", "2")), api.MaxDeeds+1), slices.Repeat(take("none"), 1000)}
	for _, path := range noPaths() {
		wrong = append(wrong, put(file(path, "")), put(dir(path)), take(path))
	}
	for _, kind := range []int{-1 << 63, -1, 0, api.White, 4, 257, 258, 1<<63 - 1} {
		wrong = append(wrong, put(api.Node{Path: "n", Kind: kind}))
	}
	for _, kind := range []int{api.File, api.Dir} {
		for _, mode := range []int{-1 << 63, -1, api.MaxMode + 1, 1 << 16, 1<<63 - 1} {
			wrong = append(wrong, put(api.Node{Path: "n", Kind: kind, Mode: mode}))
		}
		for _, tag := range []int{-1 << 63, -1, api.MaxTag + 1, 1 << 16, 1<<63 - 1} {
			wrong = append(wrong, put(api.Node{Path: "n", Kind: kind, Tag: tag}))
		}
		for _, size := range []int{api.MaxData + 1, 512, 1 << 16, 1<<16 + 1} {
			wrong = append(wrong, put(api.Node{Path: "n", Kind: kind, Data: strings.Repeat("x", size)}))
		}
	}
	wrong = append(wrong, put(api.Node{Path: "n", Kind: api.Dir, Data: "x"}))
	for _, l := range wrong {
		do(t, b, api.ErrArg, l)
		do(t, b, api.ErrArg, all(take("none"), l))
		do(t, b, api.ErrArg, all(put(file("new", "")), l, take("f")))
	}
	hasSure(t, d, b, dir("a"), file("f", "1"))
	d.Die(0)
	for _, l := range wrong {
		do(t, b, api.ErrArg, l)
	}
}

// P8: as many deeds as may be are done.
func TestAsManyDeedsAsMayBe(t *testing.T) {
	d := blocks.New(api.MinSize)
	b := open(t, d)
	do(t, b, api.OK, nil)
	do(t, b, api.OK, []api.Deed{})
	hasSure(t, d, b)
	do(t, b, api.OK, slices.Repeat(put(file("a", "1")), api.MaxDeeds))
	hasSure(t, d, b, file("a", "1"))
	do(t, b, api.OK, slices.Repeat(all(take("a"), put(file("a", "2"))), api.MaxDeeds/2))
	hasSure(t, d, b, file("a", "2"))
}

// P8: of a node that is taken away only the path counts.
func TestTakeLooksAtThePathAlone(t *testing.T) {
	for _, n := range []api.Node{
		{Kind: api.File}, {Kind: api.Dir}, {Kind: 99}, {Mode: -1}, {Tag: 1 << 40}, {Data: strings.Repeat("x", 1000)},
	} {
		n.Path = "a"
		d := with(t, dir("a"))
		b := open(t, d)
		do(t, b, api.OK, []api.Deed{{Take: true, Node: n}})
		hasSure(t, d, b)
		do(t, b, api.ErrNone, []api.Deed{{Take: true, Node: n}})
	}
}

// P8: what is taken away goes with all below it, and with nothing else.
func TestTake(t *testing.T) {
	d := with(t, dir("a"), dir("a/b"), dir("a/b/c"), file("a/b/c/d", "1"), file("a/b-", "2"), file("a-b", "3"), file("a.b", "4"),
		file("a0", "5"), dir("b"), file("b/a", "6"), dir("aa"), file("aa/b", "7"))
	b := open(t, d)
	for _, path := range []string{"c", "a/c", "a/b/c/x", "b/b", "a-", "b/a/x"} {
		do(t, b, api.ErrNone, take(path))
	}
	do(t, b, api.OK, take("a/b"))
	hasSure(t, d, b, dir("a"), file("a-b", "3"), file("a.b", "4"), file("a/b-", "2"), file("a0", "5"), dir("aa"), file("aa/b", "7"), dir("b"), file("b/a", "6"))
	do(t, b, api.OK, take("a"))
	hasSure(t, d, b, file("a-b", "3"), file("a.b", "4"), file("a0", "5"), dir("aa"), file("aa/b", "7"), dir("b"), file("b/a", "6"))
	do(t, b, api.OK, take("b/a", "aa", "a0"))
	hasSure(t, d, b, file("a-b", "3"), file("a.b", "4"), dir("b"))
	do(t, b, api.ErrNone, take("b", "b"))
	do(t, b, api.OK, take("b", "a.b", "a-b"))
	hasSure(t, d, b)
}

// P8: a node needs a directory to stand in, and replaces only what is of its kind.
func TestPutRefused(t *testing.T) {
	d := with(t, dir("d"), file("f", "1"))
	b := open(t, d)
	for _, n := range []api.Node{file("x/y", ""), dir("x/y"), file("d/x/y", ""), file("f/x/y", ""), dir("a/b/c/d")} {
		do(t, b, api.ErrNone, put(n))
	}
	for _, n := range []api.Node{file("f/x", ""), dir("f/x"), dir("f"), file("d", "")} {
		do(t, b, api.ErrKind, put(n))
	}
	hasSure(t, d, b, dir("d"), file("f", "1"))
}

// P8: what is put stands in the place of what was; what is below a Dir stays.
func TestPutReplaces(t *testing.T) {
	d := with(t, dir("d"), dir("d/e"), full("d/e/f", "x"), full("g", "y"))
	b := open(t, d)
	other := api.Node{Path: "d", Kind: api.Dir, Mode: 0, Tag: 255}
	do(t, b, api.OK, put(other))
	hasSure(t, d, b, other, dir("d/e"), full("d/e/f", "x"), full("g", "y"))
	do(t, b, api.OK, put(file("g", "short"), dir("d/e")))
	hasSure(t, d, b, other, dir("d/e"), full("d/e/f", "x"), file("g", "short"))
	do(t, b, api.OK, put(file("g", ""), full("g", "z"), full("d/e/f", "w")))
	hasSure(t, d, b, other, dir("d/e"), full("d/e/f", "w"), full("g", "z"))
}

// P1, P8: the first error is answered, and nothing is done of all deeds.
func TestFirstError(t *testing.T) {
	d := with(t, dir("d"), file("d/a", "1"), file("f", "2"))
	b := open(t, d)
	good := all(put(file("new", ""), dir("d/b"), file("f", "other")), take("d/a"))
	none, kind := take("none"), put(dir("f"))
	do(t, b, api.ErrNone, all(good, none, kind))
	do(t, b, api.ErrKind, all(good, kind, none))
	do(t, b, api.ErrNone, all(none, good, kind))
	do(t, b, api.ErrKind, all(kind, good))
	do(t, b, api.ErrNone, all(take("d"), put(file("d/a", ""))))
	hasSure(t, d, b, dir("d"), file("d/a", "1"), file("f", "2"))
	do(t, b, api.OK, put(file("z", "")))
	hasSure(t, d, b, dir("d"), file("d/a", "1"), file("f", "2"), file("z", ""))
}

// P8: the deeds are done in turn: each finds what those ahead of it have left.
func TestDeedsLeanOnThoseAhead(t *testing.T) {
	d := blocks.New(api.MinSize)
	b := open(t, d)
	deep := []api.Node{dir("a"), dir("a/b"), dir("a/b/c"), file("a/b/c/d", "deep")}
	do(t, b, api.ErrNone, put(deep[1], deep[0]))
	do(t, b, api.OK, put(deep...))
	hasSure(t, d, b, deep...)
	do(t, b, api.ErrKind, put(file("a", "")))
	do(t, b, api.OK, all(take("a"), put(file("a", "now"))))
	hasSure(t, d, b, file("a", "now"))
	do(t, b, api.ErrKind, all(take("a"), put(file("a", ""), file("a/b", ""))))
	do(t, b, api.OK, all(take("a"), put(dir("a"), file("a/b", "1")), take("a"), put(file("a", "last"))))
	hasSure(t, d, b, file("a", "last"))
	do(t, b, api.ErrNone, take("a", "a"))
	do(t, b, api.OK, all(put(dir("x"), full("x/y", "y"), file("x/z", "")), take("x")))
	hasSure(t, d, b, file("a", "last"))
	do(t, b, api.OK, all(put(full("x", "y")), take("x"), put(dir("x")), put(file("x/y", "3")), take("a")))
	hasSure(t, d, b, dir("x"), file("x/y", "3"))
	do(t, b, api.OK, all(take("x"), put(dir("x"))))
	hasSure(t, d, b, dir("x"))
}
