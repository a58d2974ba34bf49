package layer

import (
	"gauze/api"
	"gauze/paths"
)

// view is a tree with a layer over it. Both are only read, so that several may look at once.
type view struct {
	tree *paths.Map[api.Item]
	over *paths.Map[api.Item]
}

// seen gathers all that is seen. No path comes from both sides, so it does not show which of them select takes first.
func (v view) seen() *paths.Map[api.Item] {
	above := make(chan api.Item)
	below := make(chan api.Item)
	go v.sendLayer(above)
	go v.sendTree(below)
	seen := &paths.Map[api.Item]{}
	for above != nil || below != nil {
		select {
		case item, more := <-above:
			if !more {
				above = nil
				continue
			}
			seen.Put(item.Path, item)
		case item, more := <-below:
			if !more {
				below = nil
				continue
			}
			seen.Put(item.Path, item)
		}
	}
	return seen
}

// sendLayer sends what is seen of the layer's own.
func (v view) sendLayer(to chan<- api.Item) {
	defer close(to)
	for item := range v.over.All() {
		if item.Kind == api.White {
			continue
		}
		item.Opaque = false
		to <- item
	}
}

// sendTree sends what is seen of the tree: what shines through where the layer has nothing.
func (v view) sendTree(to chan<- api.Item) {
	defer close(to)
	for item := range v.tree.All() {
		if _, covered := v.over.Get(item.Path); !covered && v.isClear(paths.Parent(item.Path)) {
			to <- item
		}
	}
}

// isClear tells whether a directory of the tree is clear. (The parent of what the tree has is always a Dir of the tree, or the root, so only the layer can be in the way.)
func (v view) isClear(dir string) bool {
	if dir == paths.Root {
		return true
	}
	over, covered := v.over.Get(dir)
	if covered && (over.Kind != api.Dir || over.Opaque) {
		return false
	}
	return v.isClear(paths.Parent(dir))
}
