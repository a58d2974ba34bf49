package layer

import (
	"maps"
	"math/rand"
	"slices"
	"strings"
	"testing"

	"gauze/api"
)

// model tells what is seen another way than the program: it goes down from the root, and carries with it whether the tree still shines.
func model(lower, upper []api.Item) []api.Item {
	tree, over := map[string]api.Item{}, map[string]api.Item{}
	for _, item := range lower {
		tree[item.Path] = item
	}
	for _, item := range upper {
		over[item.Path] = item
	}
	both := maps.Clone(tree)
	maps.Copy(both, over)
	var seen []api.Item
	var descend func(dir string, shines bool)
	descend = func(dir string, shines bool) {
		for path := range both {
			at := strings.LastIndex(path, "/")
			if path[:max(at, 0)] != dir {
				continue
			}
			below, isBelow := tree[path]
			item, isOver := over[path]
			switch {
			case isOver && item.Kind == api.White:
				continue
			case isOver:
				through := shines && isBelow && below.Kind == api.Dir && item.Kind == api.Dir && !item.Opaque
				item.Opaque = false
				seen = append(seen, item)
				descend(path, through)
			case isBelow && shines:
				seen = append(seen, below)
				descend(path, true)
			}
		}
	}
	descend("", true)
	slices.SortFunc(seen, func(a, b api.Item) int { return strings.Compare(a.Path, b.Path) })
	return seen
}

// place is what may stand at a path of one of the lists: nothing, or an item.
type place func(path string) []api.Item

func treePlaces() []place {
	return []place{
		func(string) []api.Item { return nil },
		func(path string) []api.Item { return list(file(path, "below")) },
		func(path string) []api.Item { return list(dir(path)) },
	}
}

func layerPlaces() []place {
	return append(treePlaces(),
		func(path string) []api.Item { return list(white(path)) },
		func(path string) []api.Item { return list(opaque(path)) },
	)
}

// lists are all lists that have one of the places at each path, as far as each item has its parent.
func lists(paths []string, places []place) [][]api.Item {
	all := [][]api.Item{nil}
	for _, path := range paths {
		var more [][]api.Item
		for _, l := range all {
			for _, p := range places {
				if n := slices.Concat(l, p(path)); standing(n) {
					more = append(more, n)
				}
			}
		}
		all = more
	}
	return all
}

func standing(l []api.Item) bool {
	for _, item := range l {
		at := strings.LastIndex(item.Path, "/")
		parent := func(other api.Item) bool { return other.Path == item.Path[:max(at, 0)] && other.Kind == api.Dir }
		if at >= 0 && !slices.ContainsFunc(l, parent) {
			return false
		}
	}
	return true
}

// P3: every tree and every layer on a line of directories with a path beside it.
func TestMergeAllSmall(t *testing.T) {
	paths := []string{"a", "a/b", "a/b/c", "a/b/c/d", "a/e", "f"}
	trees, layers := lists(paths, treePlaces()), lists(paths, layerPlaces())
	if len(trees) < 40 || len(layers) < 200 {
		t.Fatalf("only %d trees and %d layers", len(trees), len(layers))
	}
	for _, lower := range trees {
		for _, upper := range layers {
			expect(t, "small", lower, upper, model(lower, upper))
		}
	}
}

// wild is some list on four depths, shuffled.
func wild(r *rand.Rand, places []place) []api.Item {
	var l []api.Item
	dirs := []string{""}
	for range r.Intn(3 * api.MaxItems) {
		path := dirs[r.Intn(len(dirs))] + string([]byte{"ab-."[r.Intn(4)], "ab-"[r.Intn(3)]})
		same := func(item api.Item) bool { return item.Path == path }
		if len(l) == api.MaxItems || slices.ContainsFunc(l, same) {
			continue
		}
		n := places[r.Intn(len(places))](path)
		l = append(l, n...)
		if len(n) == 1 && n[0].Kind == api.Dir && strings.Count(path, "/") < api.MaxSteps-1 {
			dirs = append(dirs, path+"/")
		}
	}
	r.Shuffle(len(l), func(i, k int) { l[i], l[k] = l[k], l[i] })
	return l
}

// P3: trees and layers up to the greatest.
func TestMergeSomeGreat(t *testing.T) {
	r := rand.New(rand.NewSource(1))
	full := 0
	for range 3000 {
		lower, upper := wild(r, treePlaces()), wild(r, layerPlaces())
		want := model(lower, upper)
		if len(want) > api.MaxItems {
			full++
			refuse(t, "great", lower, upper, api.ErrFull)
			continue
		}
		expect(t, "great", lower, upper, want)
	}
	if full == 0 || full > 2000 {
		t.Errorf("%d of 3000 are too great to be seen", full)
	}
}
