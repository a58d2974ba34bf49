package gauze

import (
	"slices"
	"strings"
	"testing"

	"gauze/api"
)

// deed is calls that are done, and the layer behind them.
type deed struct {
	calls []call
	want  []api.Item
}

func expectLayers(t *testing.T, deeds []deed) {
	t.Helper()
	for _, c := range deeds {
		d, f := with(t, below(), c.calls...)
		has(t, d, f, below(), c.want...)
		if t.Failed() {
			t.Fatalf("behind %s", brief(c.calls))
		}
	}
}

// P12: a File has the new data, and its mode, or NewFile; its parents are copied up as they are seen.
func TestWrite(t *testing.T) {
	most := strings.Repeat("\x00\xff", api.MaxData/2)
	expectLayers(t, []deed{
		{calls(write("n", "x")), list(newFile("n", "x"))},
		{calls(write("n", "")), list(newFile("n", ""))},
		{calls(write("n", most)), list(newFile("n", most))},
		{calls(write("n", most), write("n", "y")), list(newFile("n", "y"))},
		{calls(write("eightbyt", "x")), list(newFile("eightbyt", "x"))},
		{calls(write("f", "x")), list(file("f", "x"))},
		{calls(write("f", "4")), list(file("f", "4"))},
		{calls(write("f", "")), list(file("f", ""))},
		{calls(chmod("f", 0), write("f", "x")), list(moded(file("f", "x"), 0))},
		{calls(write("n", "x"), chmod("n", 7), write("n", "y")), list(moded(file("n", "y"), 7))},
		{calls(write("g/n", "x")), list(dir("g"), newFile("g/n", "x"))},
		{calls(write("d/e/i/n", "x")), list(dir("d"), dir("d/e"), dir("d/e/i"), newFile("d/e/i/n", "x"))},
		{calls(write("d/e/i/x", "x")), list(dir("d"), dir("d/e"), dir("d/e/i"), file("d/e/i/x", "x"))},
		{calls(chmod("d", 1), write("d/e/n", "x")), list(moded(dir("d"), 1), dir("d/e"), newFile("d/e/n", "x"))},
	})
}

// P12: a File in the place of a White is new, and in an Opaque directory too, even where the tree has one.
func TestWriteWhereSomethingWas(t *testing.T) {
	expectLayers(t, []deed{
		{calls(remove("f"), write("f", "x")), list(newFile("f", "x"))},
		{calls(remove("d/a"), write("d/a", "x")), list(dir("d"), newFile("d/a", "x"))},
		{calls(remove("g"), write("g", "x")), list(newFile("g", "x"))},
		{calls(remove("g"), mkdir("g"), write("g/n", "x")), list(newOpaque("g"), newFile("g/n", "x"))},
		{
			calls(remove("d/e/i/x"), remove("d/e/i"), remove("d/e/y"), remove("d/e"), mkdir("d/e"), write("d/e/y", "x")),
			list(dir("d"), newOpaque("d/e"), newFile("d/e/y", "x")),
		},
	})
}

// P12: a directory is new, and Opaque just if there was a White.
func TestMkdir(t *testing.T) {
	expectLayers(t, []deed{
		{calls(mkdir("n")), list(newDir("n"))},
		{calls(mkdir("n"), mkdir("n/m"), mkdir("n/m/o"), mkdir("n/m/o/p")), list(newDir("n"), newDir("n/m"), newDir("n/m/o"), newDir("n/m/o/p"))},
		{calls(mkdir("d/e/i/n")), list(dir("d"), dir("d/e"), dir("d/e/i"), newDir("d/e/i/n"))},
		{calls(remove("f"), mkdir("f")), list(newOpaque("f"))},
		{calls(remove("g"), mkdir("g")), list(newOpaque("g"))},
		{calls(remove("g"), mkdir("g"), mkdir("g/h")), list(newOpaque("g"), newDir("g/h"))},
		{calls(remove("d/a"), mkdir("d/a")), list(dir("d"), newOpaque("d/a"))},
		{calls(remove("g"), write("g", ""), remove("g"), mkdir("g")), list(newOpaque("g"))},
		{calls(write("n", ""), remove("n"), mkdir("n")), list(newDir("n"))},
	})
}

// P12, P16: what was in a directory does not come back when it is made again, nor below it.
func TestMadeAgain(t *testing.T) {
	empty := calls(remove("d/a"), remove("d/e/i/x"), remove("d/e/i"), remove("d/e/y"), remove("d/e"))
	gone := append(slices.Clone(empty), remove("d"))
	behind := func(all ...call) []call { return append(slices.Clone(gone), all...) }
	expectLayers(t, []deed{
		{empty, list(dir("d"), white("d/a"), white("d/e"))},
		{gone, list(white("d"))},
		{behind(mkdir("d")), list(newOpaque("d"))},
		{behind(mkdir("d"), mkdir("d/e")), list(newOpaque("d"), newDir("d/e"))},
		{behind(mkdir("d"), mkdir("d/e"), mkdir("d/e/i")), list(newOpaque("d"), newDir("d/e"), newDir("d/e/i"))},
		{behind(mkdir("d"), mkdir("d/e"), remove("d/e")), list(newOpaque("d"))},
		{behind(mkdir("d"), write("d/a", "n"), remove("d/a"), write("d/a", "m")), list(newOpaque("d"), newFile("d/a", "m"))},
		{behind(mkdir("d"), mkdir("d/e"), remove("d/e"), remove("d")), list(white("d"))},
		{behind(write("d", "n"), remove("d"), mkdir("d")), list(newOpaque("d"))},
		{behind(rename("f", "d"), rename("d", "f"), mkdir("d")), list(newOpaque("d"), file("f", "4"))},
	})
}

// P12: what has its mode changed is copied up with all else, and stays Opaque if it was.
func TestChmod(t *testing.T) {
	expectLayers(t, []deed{
		{calls(chmod("f", 0)), list(moded(file("f", "4"), 0))},
		{calls(chmod("f", api.MaxMode)), list(moded(file("f", "4"), api.MaxMode))},
		{calls(chmod("f", 5)), list(file("f", "4"))},
		{calls(chmod("f", 1), chmod("f", 2)), list(moded(file("f", "4"), 2))},
		{calls(write("f", "x"), chmod("f", 2)), list(moded(file("f", "x"), 2))},
		{calls(chmod("d", 1)), list(moded(dir("d"), 1))},
		{calls(chmod("d/e/i/x", 1)), list(dir("d"), dir("d/e"), dir("d/e/i"), moded(file("d/e/i/x", "2"), 1))},
		{calls(write("d/n", ""), chmod("d", 1)), list(moded(dir("d"), 1), newFile("d/n", ""))},
		{calls(remove("g"), mkdir("g"), chmod("g", 1)), list(moded(newOpaque("g"), 1))},
		{calls(mkdir("n"), chmod("n", 1)), list(moded(newDir("n"), 1))},
	})
}

// P13: a White is left just where the tree shines through.
func TestRemove(t *testing.T) {
	expectLayers(t, []deed{
		{calls(remove("f")), list(white("f"))},
		{calls(remove("g")), list(white("g"))},
		{calls(remove("d/a")), list(dir("d"), white("d/a"))},
		{calls(remove("d/e/i/x")), list(dir("d"), dir("d/e"), dir("d/e/i"), white("d/e/i/x"))},
		{calls(chmod("f", 1), remove("f")), list(white("f"))},
		{calls(chmod("g", 1), remove("g")), list(white("g"))},
		{calls(write("n", ""), remove("n")), nil},
		{calls(mkdir("n"), remove("n")), nil},
		{calls(mkdir("n"), write("n/m", ""), remove("n/m")), list(newDir("n"))},
		{calls(write("g/n", ""), remove("g/n")), list(dir("g"))},
		{calls(remove("f"), write("f", ""), remove("f")), list(white("f"))},
		{calls(remove("g"), mkdir("g"), write("g/n", ""), remove("g/n")), list(newOpaque("g"))},
		{calls(remove("g"), mkdir("g"), remove("g")), list(white("g"))},
	})
}

// P13: with a directory all that the layer has below it goes, and nothing beside it.
func TestRemoveTakesWhatIsBelow(t *testing.T) {
	expectLayers(t, []deed{
		{calls(remove("d/e/i/x"), remove("d/e/i")), list(dir("d"), dir("d/e"), white("d/e/i"))},
		{calls(remove("d/e/y"), remove("d/e/i/x"), remove("d/e/i"), remove("d/e")), list(dir("d"), white("d/e"))},
		{calls(write("g-", ""), write("g.a", ""), write("g0", ""), chmod("g", 1), remove("g")), list(white("g"), newFile("g-", ""), newFile("g.a", ""), newFile("g0", ""))},
		{
			calls(remove("d/e/i/x"), write("d/e/i-x", "n"), chmod("d/e/i", 1), remove("d/e/i")),
			list(dir("d"), dir("d/e"), white("d/e/i"), newFile("d/e/i-x", "n")),
		},
	})
}

// P14: the File has its mode and data at its new path, and where it was is a White just if the tree shines through.
func TestRename(t *testing.T) {
	expectLayers(t, []deed{
		{calls(rename("f", "n")), list(white("f"), file("n", "4"))},
		{calls(rename("f", "g/n")), list(white("f"), dir("g"), file("g/n", "4"))},
		{calls(rename("d/e/i/x", "n")), list(dir("d"), dir("d/e"), dir("d/e/i"), white("d/e/i/x"), file("n", "2"))},
		{calls(rename("d/e/i/x", "g/n")), list(dir("d"), dir("d/e"), dir("d/e/i"), white("d/e/i/x"), dir("g"), file("g/n", "2"))},
		{calls(rename("d/a", "d/b")), list(dir("d"), white("d/a"), file("d/b", "1"))},
		{calls(write("n", "x"), rename("n", "m")), list(newFile("m", "x"))},
		{calls(write("n", "x"), chmod("n", 7), rename("n", "d/e/m")), list(dir("d"), dir("d/e"), moded(file("d/e/m", "x"), 7))},
		{calls(write("f", "x"), rename("f", "n")), list(white("f"), file("n", "x"))},
		{calls(remove("f"), write("f", "x"), rename("f", "n")), list(white("f"), newFile("n", "x"))},
		{calls(remove("g"), mkdir("g"), write("g/n", "x"), rename("g/n", "g/m")), list(newOpaque("g"), newFile("g/m", "x"))},
	})
}

// P14: a File of the tree, one of the layer, and a White give place.
func TestRenameOnto(t *testing.T) {
	expectLayers(t, []deed{
		{calls(rename("f", "d/a")), list(dir("d"), file("d/a", "4"), white("f"))},
		{calls(rename("d/a", "f")), list(dir("d"), white("d/a"), file("f", "1"))},
		{calls(write("n", "x"), chmod("f", 1), rename("n", "f")), list(newFile("f", "x"))},
		{calls(write("n", "x"), write("m", "y"), rename("n", "m")), list(newFile("m", "x"))},
		{calls(write("n", "x"), rename("f", "n")), list(white("f"), file("n", "4"))},
		{calls(remove("g"), rename("f", "g")), list(white("f"), file("g", "4"))},
		{calls(remove("f"), rename("d/a", "f")), list(dir("d"), white("d/a"), file("f", "1"))},
		{calls(rename("f", "n"), rename("n", "f")), list(file("f", "4"))},
		{calls(rename("d/a", "d/b"), rename("d/b", "d/a")), list(dir("d"), file("d/a", "1"))},
	})
}

// P14: a File that is renamed to its own path stays, and is not even copied up.
func TestRenameOntoItself(t *testing.T) {
	expectLayers(t, []deed{
		{calls(rename("f", "f")), nil},
		{calls(rename("d/e/i/x", "d/e/i/x")), nil},
		{calls(write("n", "x"), rename("n", "n")), list(newFile("n", "x"))},
		{calls(write("f", "x"), rename("f", "f")), list(file("f", "x"))},
	})
	_, f := with(t, below(), remove("f"))
	do(t, f, api.ErrNone, rename("f", "f"), rename("none", "none"), rename("none/a", "none/a"))
	do(t, f, api.ErrKind, rename("d", "d"), rename("g", "g"))
}

// P12, P13, P14: what may not be is refused ahead of all else, and a limit is not.
func TestWrongArguments(t *testing.T) {
	d, f := with(t, below())
	for _, path := range append(noPaths(), "") {
		do(t, f, api.ErrArg, write(path, ""), mkdir(path), chmod(path, 0), remove(path),
			rename(path, "n"), rename("f", path), rename("none", path), rename("d", path), rename(path, path))
	}
	for _, n := range []int{api.MaxData + 1, 512, 1 << 16} {
		do(t, f, api.ErrArg, fill("f", "x", n), fill("d", "x", n), fill("none/n", "x", n), fill("f/n", "x", n))
	}
	for _, mode := range []int{-1 << 63, -1, api.MaxMode + 1, 1 << 16, 1<<63 - 1} {
		do(t, f, api.ErrArg, chmod("f", mode), chmod("d", mode), chmod("none", mode))
	}
	has(t, d, f, below())
}

// P12, P13, P14: the errors, in their order; where one is answered nothing has changed.
func TestRefused(t *testing.T) {
	ahead := calls(remove("d/a"), remove("g"), mkdir("g"), write("h", "5"))
	d, f := with(t, below(), ahead...)
	was := f.Layer()
	for _, parent := range []string{"none", "d/a", "f/none", "h/none", "d/none", "d/e/none", "d/a/b", "g/none"} {
		do(t, f, api.ErrNone, write(parent+"/n", ""), mkdir(parent+"/n"), rename("f", parent+"/n"), rename("h", parent+"/n"))
	}
	for _, parent := range []string{"f", "h", "d/e/y"} {
		do(t, f, api.ErrKind, write(parent+"/n", ""), mkdir(parent+"/n"), rename("f", parent+"/n"), rename("h", parent+"/n"))
	}
	for _, path := range []string{"d", "g", "d/e", "d/e/i"} {
		do(t, f, api.ErrKind, write(path, ""), rename("f", path), rename("h", path), rename(path, "n"), rename(path, "none/n"), rename(path, path+"/n"))
		do(t, f, api.ErrThere, mkdir(path))
	}
	do(t, f, api.ErrThere, mkdir("f"), mkdir("h"), mkdir("d/e/y"), mkdir("d/e/i/x"))
	for _, path := range []string{"none", "d/a", "d/a/b", "none/n", "f/n", "g/n", "a", "e"} {
		do(t, f, api.ErrNone, chmod(path, 0), remove(path), rename(path, "n"), rename(path, "d"), rename(path, "f/n"), rename(path, path))
	}
	do(t, f, api.ErrBusy, remove("d"), remove("d/e"), remove("d/e/i"))
	has(t, d, f, below(), was...)
}

// P13: a directory is busy by what the layer has, what shines through, or both, and not by Whites.
func TestBusy(t *testing.T) {
	_, f := with(t, below(), write("g/n", ""), mkdir("m"), mkdir("m/o"), remove("d/e/y"))
	do(t, f, api.ErrBusy, remove("g"), remove("m"), remove("d/e"), remove("d/e/i"))
	do(t, f, api.OK, remove("g/n"), remove("g"), remove("m/o"), remove("m"), remove("d/e/i/x"), remove("d/e/i"), remove("d/e"))
	do(t, f, api.ErrBusy, remove("d"))
	do(t, f, api.OK, remove("d/a"), remove("d"))
	tells(t, f, below(), white("d"), white("g"))
}
