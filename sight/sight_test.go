package sight

import (
	"slices"
	"strings"
	"testing"
	"unsafe"

	"gauze/api"
	"gauze/paths"
)

// at puts something of each sort at a path: nothing, a File, a Dir, and, in a layer, an Opaque Dir and a White.
func at(path string, upper bool) [][]api.Item {
	sorts := [][]api.Item{nil, {{Path: path, Kind: api.File}}, {{Path: path, Kind: api.Dir}}}
	if upper {
		sorts = append(sorts, []api.Item{{Path: path, Kind: api.Dir, Opaque: true}}, []api.Item{{Path: path, Kind: api.White}})
	}
	return sorts
}

// all are all trees, or layers, on these paths.
func all(list []string, upper bool) []*paths.Map[api.Item] {
	lists := [][]api.Item{nil}
	for _, path := range list {
		var more [][]api.Item
		for _, l := range lists {
			for _, n := range at(path, upper) {
				more = append(more, slices.Concat(l, n))
			}
		}
		lists = more
	}
	byList := Tree
	if upper {
		byList = Layer
	}
	var maps []*paths.Map[api.Item]
	for _, l := range lists {
		if m, ok := byList(l); ok {
			maps = append(maps, m)
		}
	}
	return maps
}

// isClear is the document's word for it.
func isClear(v View, dir string) bool {
	if dir == "" {
		return true
	}
	below, _ := v.Tree.Get(dir)
	over, covered := v.Over.Get(dir)
	return below.Kind == api.Dir && (!covered || over.Kind == api.Dir && !over.Opaque) && isClear(v, dir[:max(0, strings.LastIndex(dir, "/"))])
}

// The tree shines through, and is seen, as the document says, in every tree and layer on a line of directories.
func TestShinesThrough(t *testing.T) {
	line := []string{"a", "a/b", "a/b/c"}
	count := 0
	for _, tree := range all(line, false) {
		for _, over := range all(line, true) {
			v := View{Tree: tree, Over: over}
			seen := v.Seen()
			for _, path := range append(line, "a/b/c/d", "n") {
				below, there := tree.Get(path)
				want := there && isClear(v, path[:max(0, strings.LastIndex(path, "/"))])
				if got := v.ShinesThrough(path); got != want {
					t.Errorf("%v shines through at %s: %t", v, path, got)
				}
				_, covered := over.Get(path)
				if item, isSeen := seen.Get(path); !covered && (isSeen != want || want && item != below) {
					t.Errorf("%v is seen at %s: %v", v, path, item)
				}
				count++
			}
		}
	}
	if count < 300 {
		t.Errorf("only %d paths", count)
	}
}

// What is no tree may be a layer still.
func TestTreesAndLayers(t *testing.T) {
	for _, l := range [][]api.Item{{{Path: "a", Kind: api.White}}, {{Path: "a", Kind: api.Dir, Opaque: true}}} {
		if _, ok := Tree(l); ok {
			t.Errorf("%v is no tree", l)
		}
		if m, ok := Layer(l); !ok || m.Len() != 1 {
			t.Errorf("%v is a layer", l)
		}
	}
	for _, l := range [][]api.Item{{{Path: "a"}}, {{Path: "a/b", Kind: api.File}}, make([]api.Item, api.MaxItems+1)} {
		if _, ok := Layer(l); ok {
			t.Errorf("%v is no layer", l)
		}
	}
}

// P2: what is made of a list has texts of its own.
func TestTextsOfItsOwn(t *testing.T) {
	path, data := []byte("a"), []byte("1")
	l := []api.Item{{Path: unsafe.String(&path[0], 1), Kind: api.File, Data: unsafe.String(&data[0], 1)}}
	for _, byList := range []func([]api.Item) (*paths.Map[api.Item], bool){Tree, Layer} {
		path[0], data[0] = 'a', '1'
		m, ok := byList(l)
		path[0], data[0] = 'x', 'x'
		if item, there := m.Get("a"); !ok || !there || item != (api.Item{Path: "a", Kind: api.File, Data: "1"}) {
			t.Errorf("a = %v, %t", item, there)
		}
	}
}
