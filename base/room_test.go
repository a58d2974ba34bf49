package base

import (
	"slices"
	"strconv"
	"testing"

	"gauze/api"
	"gauze/blocks"
)

// fulls are so many full files in a directory ("": in the root).
func fulls(in string, n int, fill string) []api.Node {
	var list []api.Node
	for i := range n {
		list = append(list, full(in+"f"+strconv.Itoa(100+i), fill))
	}
	return list
}

func doAll(t *testing.T, b *Base, deeds []api.Deed) {
	t.Helper()
	for part := range slices.Chunk(deeds, api.MaxDeeds) {
		do(t, b, api.OK, part)
	}
}

func pathsOf(list []api.Node) []string {
	var paths []string
	for _, n := range list {
		paths = append(paths, n.Path)
	}
	return paths
}

// P8: as many nodes as there may be, all full, have room on the smallest disk, again and again.
func TestAsManyNodesAsMayBe(t *testing.T) {
	d := blocks.New(api.MinSize)
	b := open(t, d)
	for _, fill := range []string{"a", "\x00", "\xff"} {
		want := fulls("", api.MaxNodes, fill)
		doAll(t, b, put(want...))
		hasSure(t, d, b, want...)
		do(t, b, api.ErrFull, put(file("more", "")))
		do(t, b, api.ErrFull, put(dir("more")))
		again := slices.Clone(want)
		slices.Reverse(again)
		doAll(t, b, put(again...))
		hasSure(t, d, b, want...)
		doAll(t, b, take(pathsOf(want)...))
		hasSure(t, d, b)
	}
}

// P1, P8: where there are as many nodes as may be, other errors come ahead, what is there may be replaced, and each deed counts what those ahead of it have left.
func TestFull(t *testing.T) {
	list := append(fulls("", api.MaxNodes-1, "x"), dir("z"))
	d := with(t, list...)
	b := open(t, d)
	do(t, b, api.ErrNone, put(file("none/a", "")))
	do(t, b, api.ErrKind, put(file("f100/a", "")))
	do(t, b, api.ErrKind, put(dir("f100")))
	do(t, b, api.ErrFull, put(file("z/a", "")))
	do(t, b, api.ErrFull, all(put(file("a", "")), take("f100")))
	do(t, b, api.ErrFull, all(take("f100"), put(file("a", ""), file("b", ""))))
	do(t, b, api.ErrFull, all(put(file("a", "")), take("none")))
	do(t, b, api.ErrNone, all(take("none"), put(file("a", ""))))
	hasSure(t, d, b, list...)
	do(t, b, api.OK, all(put(full("f100", "y")), take("f158"), put(full("z/a", "y"))))
	list[0] = full("f100", "y")
	list = append(slices.Delete(list, 58, 59), full("z/a", "y"))
	hasSure(t, d, b, list...)
	do(t, b, api.OK, all(take("f101"), put(dir("f101")), take("z"), put(dir("z"), file("z/b", ""))))
	do(t, b, api.ErrFull, put(file("a", "")))
}

// P8: one Do may take away all that there may be, and put as much as it may, with room for it.
func TestGreatestDo(t *testing.T) {
	d := with(t, append([]api.Node{dir("d")}, fulls("d/", api.MaxNodes-1, "x")...)...)
	b := open(t, d)
	for _, fill := range []string{"a", "b", "c"} {
		now := append([]api.Node{dir("d")}, fulls("d/", api.MaxDeeds-2, fill)...)
		do(t, b, api.OK, all(take("d"), put(now...)))
		hasSure(t, d, b, now...)
		more := fulls("d/", api.MaxNodes-1, fill)
		doAll(t, b, put(more...))
		hasSure(t, d, b, append(now[:1], more...)...)
	}
}

// P8: however many nodes go in one Do, what is put ahead of that, into slots that were free, has room beside what is put behind it.
func TestGreatestDoOfSome(t *testing.T) {
	for n := range api.MaxNodes {
		d := with(t, append([]api.Node{dir("d")}, fulls("d/", n, "x")...)...)
		b := open(t, d)
		now := fulls("", api.MaxDeeds-1, "y")
		ahead := min(len(now), api.MaxNodes-1-n)
		do(t, b, api.OK, all(put(now[:ahead]...), take("d"), put(now[ahead:]...)))
		hasSure(t, d, b, now...)
	}
}

// P8: on no size of disk is there less room.
func TestRoomOnGreaterDisks(t *testing.T) {
	for _, n := range []int{api.MinSize + 1, 500, 4096} {
		b := open(t, blocks.New(n))
		want := fulls("", api.MaxNodes, "a")
		doAll(t, b, put(want...))
		has(t, b, want...)
	}
}
