package gauze

import (
	"math/rand"
	"reflect"
	"runtime"
	"slices"
	"strings"
	"testing"
	"time"
	"unsafe"

	"gauze/api"
	"gauze/base"
	"gauze/blocks"
)

// P2: the list that is handed in is not written into, nor what stands behind it, whatever is answered and done.
func TestOpenLeavesItsArguments(t *testing.T) {
	for _, l := range append(noTrees(), nil, below(), numbered(api.MaxItems)) {
		roomy := slices.Concat(l, list(file("spare", ""), white("room")))
		slices.Reverse(roomy[:len(l)])
		was := slices.Clone(roomy)
		if f, e := Open(blocks.New(api.MinSize), roomy[:len(l)]); e == api.OK {
			f.Write("z", "")
			f.Remove("f")
			f.Rename("n00", "n01")
			f.Tree()
		}
		if !slices.Equal(roomy, was) {
			t.Errorf("wrote into %s", brief(was))
		}
	}
}

// text is a text that can be written into, behind the back of whoever keeps it.
func text(s string) (string, []byte) {
	b := []byte(s)
	return unsafe.String(unsafe.SliceData(b), len(b)), b
}

// P2: the tree is not kept as it was handed in: the list, and what stands behind its texts, may change.
func TestOpenKeepsNothing(t *testing.T) {
	path, pathBytes := text("d")
	child, childBytes := text("d/a")
	data, dataBytes := text("1")
	lower := list(dir(path), file(child, data))
	d := blocks.New(api.MinSize)
	f := open(t, d, lower)
	clear(lower)
	pathBytes[0], childBytes[0], dataBytes[0] = 'x', 'x', 'x'
	has(t, d, f, list(dir("d"), file("d/a", "1")))
	do(t, f, api.OK, chmod("d/a", 7), write("d/b", "2"))
	has(t, d, f, list(dir("d"), file("d/a", "1")), dir("d"), moded(file("d/a", "1"), 7), newFile("d/b", "2"))
}

// P2: nor are the texts of the other calls.
func TestChangesKeepNothing(t *testing.T) {
	for _, n := range []int{1, 300, api.MaxData} {
		d, f := with(t, below())
		var scrawl [][]byte
		own := func(s string) string {
			kept, b := text(s)
			scrawl = append(scrawl, b)
			return kept
		}
		data := strings.Repeat("a", n)
		do(t, f, api.OK, write(own("n"), own(data)), mkdir(own("m")), chmod(own("d"), 1), remove(own("g")), mkdir(own("g")),
			rename(own("n"), own("m/n")), rename(own("f"), own("o")), remove(own("d/a")))
		f.Stat(own("d/e"))
		f.List(own("d/e"))
		for _, b := range scrawl {
			for i := range b {
				b[i] = 'x'
			}
		}
		has(t, d, f, below(), moded(dir("d"), 1), white("d/a"), white("f"), newOpaque("g"), newDir("m"), newFile("m/n", data), file("o", "4"))
	}
}

// P2: each list that comes out is new memory, its spare room too.
func TestAnswersNewMemory(t *testing.T) {
	want := list(dir("d"), newFile("d/n", "1"), white("f"), newDir("m"))
	d, f := with(t, below(), write("d/n", "1"), remove("f"), mkdir("m"))
	for _, tell := range []func() []api.Item{f.Tree, f.Layer} {
		first, second := tell(), tell()
		was := slices.Clone(second)
		first = first[:cap(first)]
		for i := range first {
			first[i] = file("scrawl", "over")
		}
		if !slices.Equal(second, was) {
			t.Error("two answers share their memory")
		}
		has(t, d, f, below(), want...)
	}
	for _, path := range []string{"", "d"} {
		first, _ := f.List(path)
		second, _ := f.List(path)
		was := slices.Clone(second)
		first = first[:cap(first)]
		for i := range first {
			first[i] = "scrawl"
		}
		if !slices.Equal(second, was) {
			t.Error("two answers share their memory")
		}
		has(t, d, f, below(), want...)
	}
}

// P2: an answer that is out stays as it is, whatever is done behind it.
func TestAnswersStay(t *testing.T) {
	_, f := with(t, below(), write("d/n", "1"))
	tree, over := f.Tree(), f.Layer()
	names, _ := f.List("d")
	treeWas, overWas, namesWas := slices.Clone(tree), slices.Clone(over), slices.Clone(names)
	do(t, f, api.OK, write("d/n", "2"), write("a", ""), remove("d/a"), chmod("d", 1), rename("f", "d/f"))
	if !slices.Equal(tree, treeWas) || !slices.Equal(over, overWas) || !slices.Equal(names, namesWas) {
		t.Error("an answer has changed")
	}
}

// P2: the same calls on the same disk answer the same, and leave the same; two file systems do not meet.
func TestSameAgain(t *testing.T) {
	run := func() (*blocks.Disk, []any) {
		w := &world{r: rand.New(rand.NewSource(7))}
		lower := w.someTree()
		d := blocks.New(api.MinSize)
		f := open(t, d, lower)
		other := open(t, blocks.New(api.MinSize), lower)
		var told []any
		for range 100 {
			c := w.someCall(itemsOf(f.Tree()))
			told = append(told, c.do(f), f.Tree(), f.Layer())
			other.Write("other", c.path)
		}
		d.Die(3)
		told = append(told, f.Write("last", ""))
		return d, told
	}
	d, told := run()
	for range 5 {
		again, toldAgain := run()
		if !reflect.DeepEqual(told, toldAgain) || !reflect.DeepEqual(d, again) {
			t.Fatal("the same calls have not done the same")
		}
	}
}

// P1: no call leaves a goroutine behind, whatever it answers.
func TestEndsItsGoroutines(t *testing.T) {
	was := runtime.NumGoroutine()
	for range 20 {
		d, f := with(t, below(), changes()[0], write("d/n", "1"))
		refusals(t, f)
		tells(t, f, below(), dir("d"), newFile("d/n", "1"), newFile("z", ""))
		d.Die(0)
		do(t, f, api.ErrDisk, write("d/n", "2"))
	}
	for range 1000 {
		if runtime.NumGoroutine() <= was {
			return
		}
		time.Sleep(time.Millisecond)
	}
	t.Errorf("%d goroutines, and ahead of it %d", runtime.NumGoroutine(), was)
}

// bears makes all calls on a file system of which anything may be on the disk.
func bears(t *testing.T, d *blocks.Disk, lower []api.Item) {
	t.Helper()
	f := open(t, d, lower)
	every := append(f.Tree(), f.Layer()...)
	for _, item := range append(every, below()...) {
		f.Stat(item.Path)
		f.List(item.Path)
		for _, c := range calls(chmod(item.Path, 1), write(item.Path, "x"), rename(item.Path, "f"), remove(item.Path), mkdir(item.Path), write(item.Path+"/z", "")) {
			c.do(f)
		}
	}
	f.Tree()
	f.Layer()
}

// P1: no disk leads the calls astray, whatever stands on it.
func TestForeignDisk(t *testing.T) {
	r := rand.New(rand.NewSource(8))
	for range 200 {
		d := blocks.New(api.MinSize)
		for at := range d.Blocks() {
			block := make([]byte, 1+r.Intn(blocks.Size))
			for i := range block {
				block[i] = byte(r.Intn(1 + r.Intn(256)))
			}
			d.Write(at, string(block))
		}
		bears(t, d, below())
	}
	for _, slot := range []string{
		"\x01\x00\x00\x01\x01\x00\x00a", "\x02\x00\x00\x02\x03\x00\x00a/b", "\x01\x01\xff\x02\x05\x00\x01a/b/cx", "\x02\x00\x01\x01\x01\x00\x00d",
	} {
		d := blocks.New(api.MinSize)
		d.Write(api.LogSize, slot)
		d.Write(api.LogSize+2, "\x02\x00\x05\x03\x01\x00\x00g")
		bears(t, d, below())
	}
}

// P1: nor does a base that has nodes of all sorts, more than a layer may, nor a layer that lay over another tree.
func TestForeignBase(t *testing.T) {
	for tag := range 5 {
		d := blocks.New(api.MinSize)
		b, _ := base.Open(d)
		b.Do([]api.Deed{{Node: api.Node{Path: "d", Kind: api.Dir, Tag: tag}}, {Node: api.Node{Path: "d/a", Kind: api.Dir, Tag: tag}}})
		for _, item := range numbered(api.MaxNodes - 4) {
			b.Do([]api.Deed{{Node: api.Node{Path: item.Path, Kind: api.File, Mode: 1, Tag: tag, Data: "x"}}})
		}
		bears(t, d, below())
	}
	for _, lower := range append(smallTrees(), below(), numbered(api.MaxItems)) {
		d, _ := with(t, below(), remove("f"), mkdir("f"), write("d/e/n", ""), remove("g"), mkdir("m"), write("m/n", ""))
		bears(t, d, lower)
	}
}
