package sight

import (
	"gauze/api"
	"gauze/paths"
)

// View is a tree with a layer over it. Both are only read here, so that several may look at once.
type View struct {
	Tree *paths.Map[api.Item]
	Over *paths.Map[api.Item]
}

// Seen gathers all that is seen, none of it Opaque. No path comes from both sides, so it does not show which of them select takes first.
func (v View) Seen() *paths.Map[api.Item] {
	above := make(chan api.Item)
	below := make(chan api.Item)
	go v.sendLayer(above)
	go v.sendTree(below)
	seen := &paths.Map[api.Item]{}
	for above != nil || below != nil {
		select {
		case item, more := <-above:
			if !more {
				above = nil
				continue
			}
			seen.Put(item.Path, item)
		case item, more := <-below:
			if !more {
				below = nil
				continue
			}
			seen.Put(item.Path, item)
		}
	}
	return seen
}

// ShinesThrough tells whether the tree shines through at a path.
func (v View) ShinesThrough(path string) bool {
	_, there := v.Tree.Get(path)
	return there && v.isClear(paths.Parent(path))
}

// sendLayer sends what is seen of the layer's own.
func (v View) sendLayer(to chan<- api.Item) {
	defer close(to)
	for item := range v.Over.All() {
		if item.Kind == api.White {
			continue
		}
		item.Opaque = false
		to <- item
	}
}

// sendTree sends what is seen of the tree: what shines through where the layer has nothing.
func (v View) sendTree(to chan<- api.Item) {
	defer close(to)
	for item := range v.Tree.All() {
		if _, covered := v.Over.Get(item.Path); !covered && v.ShinesThrough(item.Path) {
			to <- item
		}
	}
}

// isClear tells whether a directory of the tree is clear. (The parent of what the tree has is always a Dir of the tree, or the root, so only the layer can be in the way.)
func (v View) isClear(dir string) bool {
	if dir == paths.Root {
		return true
	}
	over, covered := v.Over.Get(dir)
	if covered && (over.Kind != api.Dir || over.Opaque) {
		return false
	}
	return v.isClear(paths.Parent(dir))
}
