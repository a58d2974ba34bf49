package gauze

import (
	"testing"

	"gauze/api"
)

// removals take away all of some files.
func removals(items []api.Item) []call {
	var all []call
	for _, item := range items {
		all = append(all, remove(item.Path))
	}
	return all
}

// whites are in the place of these items.
func whites(items []api.Item) []api.Item {
	var l []api.Item
	for _, item := range items {
		l = append(l, white(item.Path))
	}
	return l
}

// P12: as many items as may be are seen, and not one more, though the layer has room.
func TestNoMoreSeen(t *testing.T) {
	lower := numbered(api.MaxItems - 1)
	d, f := with(t, lower)
	do(t, f, api.OK, fill("x", "x", api.MaxData))
	do(t, f, api.ErrFull, write("y", ""), mkdir("y"), fill("y", "y", api.MaxData))
	has(t, d, f, lower, newFile("x", fill("x", "x", api.MaxData).data))
	do(t, f, api.OK, write("x", ""), chmod("n00", 1), rename("x", "y"), rename("n01", "z"), rename("z", "n02"))
	do(t, f, api.OK, mkdir("x"))
	do(t, f, api.ErrFull, write("x/a", ""), mkdir("x/a"), write("n01", ""), mkdir("n01"))
	do(t, f, api.OK, rename("y", "x/a"), remove("x/a"), write("n01", "1"))
	has(t, d, f, lower, moded(file("n00", ""), 1), newFile("n01", "1"), file("n02", ""), newDir("x"))
}

// P12, P13: the layer has as many items as may be, and not one more, though few are seen.
func TestNoMoreInTheLayer(t *testing.T) {
	lower := append(numbered(api.MaxItems-2), dir("d"), file("d/a", "1"))
	gone := numbered(api.MaxItems - 2)
	d, f := with(t, lower, append(removals(gone), write("x", "1"), write("y", "2"))...)
	want := append(whites(gone), newFile("x", "1"), newFile("y", "2"))
	has(t, d, f, lower, want...)
	do(t, f, api.ErrFull, write("z", ""), mkdir("z"), chmod("d", 1), chmod("d/a", 1), write("d/a", ""), write("d/b", ""),
		mkdir("d/b"), remove("d/a"), rename("x", "d/a"), rename("x", "d/b"), rename("d/a", "x"), rename("d/a", "z"))
	do(t, f, api.ErrBusy, remove("d"))
	has(t, d, f, lower, want...)
	do(t, f, api.OK, write("x", "3"), chmod("x", 1), rename("x", "z"), rename("z", "x"), write("n00", ""), remove("n00"), mkdir("n00"), remove("n00"))
	do(t, f, api.OK, remove("y"), rename("x", "d/a"))
	has(t, d, f, lower, append(list(dir("d"), moded(file("d/a", "3"), 1)), whites(gone)...)...)
	do(t, f, api.OK, remove("d/a"))
	do(t, f, api.ErrFull, write("x", ""))
	do(t, f, api.OK, remove("d"), write("x", ""))
	do(t, f, api.ErrFull, write("y", ""))
	has(t, d, f, lower, append(append(list(white("d")), whites(gone)...), newFile("x", ""))...)
}

// P12: it is the end that counts: a Rename may need more in the middle.
func TestFullAtTheEndAlone(t *testing.T) {
	lower := numbered(api.MaxItems)
	d, f := with(t, lower)
	for i, item := range lower {
		do(t, f, api.OK, chmod(item.Path, i))
	}
	do(t, f, api.ErrFull, write("x", ""), rename("n00", "x"))
	do(t, f, api.OK, rename("n00", "n01"))
	want := append(list(white("n00"), moded(file("n01", ""), 0)), f.Layer()[2:]...)
	has(t, d, f, lower, want...)
	do(t, f, api.OK, rename("n01", "n00"), write("n01", "x"))
	do(t, f, api.ErrFull, write("x", ""), mkdir("x"), rename("n39", "x"))
}

// P12: ErrFull comes behind the errors that are named.
func TestFullBehindOtherErrors(t *testing.T) {
	lower := append(numbered(api.MaxItems-2), dir("d"), file("d/a", ""))
	_, f := with(t, lower)
	do(t, f, api.ErrArg, write("x/", ""), mkdir(""), fill("x", "x", api.MaxData+1), chmod("d", -1))
	do(t, f, api.ErrNone, write("x/y", ""), mkdir("x/y"), rename("x", "y"), rename("n00", "x/y"))
	do(t, f, api.ErrKind, write("n00/y", ""), mkdir("n00/y"), rename("d", "x"), rename("n00", "n01/y"), write("d", ""))
	do(t, f, api.ErrThere, mkdir("d"), mkdir("n00"))
	do(t, f, api.ErrBusy, remove("d"))
	do(t, f, api.ErrFull, write("x", ""), mkdir("x"), mkdir("d/b"))
}

// P14: the longest way for a File, with as much as it may have, is one change too.
func TestRenameFromDepthToDepth(t *testing.T) {
	from, to := "eightbyt/eightbyt/eightbyt/eightbyt", "anothers/anothers/anothers/anothers"
	most := file(from, fill("", "x", api.MaxData).data)
	lower := list(dir(from[:8]), dir(from[:17]), dir(from[:26]), most, dir(to[:8]), dir(to[:17]), dir(to[:26]), file(to, "1"))
	up := list(dir(to[:8]), dir(to[:17]), dir(to[:26]), file(to, most.Data), dir(from[:8]), dir(from[:17]), dir(from[:26]), white(from))
	d, f := with(t, lower, rename(from, to))
	has(t, d, f, lower, up...)
	do(t, f, api.OK, rename(to, from))
	up[3], up[7] = white(to), most
	has(t, d, f, lower, up...)
}
