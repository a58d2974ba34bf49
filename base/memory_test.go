package base

import (
	"math/rand"
	"reflect"
	"slices"
	"strings"
	"testing"
	"unsafe"

	"gauze/api"
	"gauze/blocks"
)

// P2: what is handed in is not written into, nor what stands behind it, whatever is answered.
func TestDoLeavesItsArguments(t *testing.T) {
	b := open(t, with(t, dir("a"), file("a/b", "1")))
	for _, deeds := range [][]api.Deed{
		put(file("n", "1"), dir("m")),
		all(put(file("n", "2")), take("a", "n")),
		take("none"),
		put(file("", "")),
	} {
		roomy := all(deeds, take("spare"), put(file("room", "")))
		was := slices.Clone(roomy)
		b.Do(roomy[:len(deeds)])
		if !slices.Equal(roomy, was) {
			t.Errorf("Do wrote into %s", brief(was))
		}
	}
}

// P2: each list that comes out is new memory, its spare room too.
func TestNodesAnswersNewMemory(t *testing.T) {
	want := []api.Node{dir("a"), file("a/b", "1"), file("c", "2")}
	b := open(t, with(t, want...))
	first, _ := b.Nodes()
	second, _ := b.Nodes()
	first = first[:cap(first)]
	for i := range first {
		first[i] = file("scrawl", "over")
	}
	if !slices.Equal(second, want) {
		t.Error("two answers share their memory")
	}
	has(t, b, want...)
}

// P2: what is handed in is not kept: what stands behind the texts and the list may change.
func TestDoKeepsNothing(t *testing.T) {
	for _, n := range []int{1, 240, 256, api.MaxData} {
		d := blocks.New(api.MinSize)
		b := open(t, d)
		path, data := []byte("path"), []byte(strings.Repeat("a", n))
		deeds := put(file(unsafe.String(&path[0], len(path)), unsafe.String(&data[0], n)))
		do(t, b, api.OK, deeds)
		path[0] = 'x'
		for i := range data {
			data[i] = 'b'
		}
		deeds[0] = api.Deed{}
		hasSure(t, d, b, file("path", strings.Repeat("a", n)))
	}
}

// P2: the same calls on the same disk answer the same, and leave the same.
func TestSameAgain(t *testing.T) {
	run := func() (*blocks.Disk, []any) {
		d := blocks.New(api.MinSize)
		b := open(t, d)
		var told []any
		r := rand.New(rand.NewSource(5))
		for range 60 {
			told = append(told, b.Do(someDeeds(r, false)))
			list, e := b.Nodes()
			told = append(told, append([]api.Node{}, list...), e)
		}
		d.Die(3)
		told = append(told, b.Do(put(file("last", ""))))
		return d, told
	}
	d, told := run()
	for range 5 {
		again, toldAgain := run()
		if !reflect.DeepEqual(told, toldAgain) || !reflect.DeepEqual(d, again) {
			t.Fatal("the same calls have not done the same")
		}
	}
}

// bears makes all calls on a base of a disk that it has not written; what it tells must be nodes, in order.
func bears(t *testing.T, d *blocks.Disk) {
	t.Helper()
	b := open(t, d)
	list, e := b.Nodes()
	if e != api.OK || len(list) > api.MaxNodes {
		t.Fatalf("Nodes = %s, %d", brief(list), e)
	}
	for i, n := range list {
		if !isNode(n) || i > 0 && list[i-1].Path >= n.Path {
			t.Fatalf("Nodes = %s", brief(list))
		}
		if got, e := b.Read(n.Path); got != n || e != api.OK {
			t.Fatalf("Read(%q) = %s, %d", n.Path, brief(got), e)
		}
	}
	for _, n := range list {
		b.Do(put(n))
		b.Do(take(n.Path))
		b.Do(put(dir(n.Path)))
	}
	b.Do(put(fulls("", api.MaxDeeds, "x")...))
	b.Nodes()
}

// P1: no disk leads the calls astray, whatever stands on it.
func TestForeignDisk(t *testing.T) {
	for first := range 256 {
		for _, rest := range []string{"\x00", "\x01", "\xff", "a", "/", "\x01\x00\x00\x00\x01\x00\x00a", "\x02\x00\x00\x00\x01\x00\x01aa"} {
			d := blocks.New(api.MinSize)
			for at := range d.Blocks() {
				d.Write(at, string([]byte{byte(first)})+strings.Repeat(rest, 255/len(rest)))
			}
			bears(t, d)
		}
	}
	r := rand.New(rand.NewSource(6))
	for range 300 {
		d := blocks.New(api.MinSize)
		for at := range d.Blocks() {
			block := make([]byte, 1+r.Intn(blocks.Size))
			for i := range block {
				block[i] = byte(r.Intn(1 + r.Intn(256)))
			}
			d.Write(at, string(block))
		}
		bears(t, d)
	}
}

// P1: what a slot says of its lengths is not trusted.
func TestForeignSlots(t *testing.T) {
	rest := strings.Repeat("a", slotBlocks*blocks.Size-headSize)
	for path := range 256 {
		for data := range 1 << 10 {
			for _, more := range []byte{0, 1 << 6, 1 << 7} {
				head := []byte{api.File, 0, 0, 0, byte(path), byte(data>>8) | more, byte(data)}
				n, ok := decode(string(head) + rest)
				may := path >= 1 && path <= api.MaxStep && data <= api.MaxData && more == 0
				if ok != may || ok && n != (api.Node{Path: rest[:path], Kind: api.File, Data: rest[:data]}) {
					t.Fatalf("a path of %d bytes, data of %d: %s, %t", path, data, brief(n), ok)
				}
			}
		}
	}
}
