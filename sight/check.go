// Package sight: trees and layers by path, and what is seen of the one through the other: see DOC.md, 'Words'.
package sight

import (
	"strings"

	"gauze/api"
	"gauze/paths"
)

// Tree is the items of a tree by path; false: the list is no tree.
func Tree(list []api.Item) (*paths.Map[api.Item], bool) { return byPath(list, fitsTree) }

// Layer is the items of a layer by path; false: the list is no layer.
func Layer(list []api.Item) (*paths.Map[api.Item], bool) { return byPath(list, fitsLayer) }

// Own is an item with texts of its own: what is handed in is not to be kept.
func Own(item api.Item) api.Item {
	item.Path = strings.Clone(item.Path)
	item.Data = strings.Clone(item.Data)
	return item
}

// byPath is a list's items by path; false: they are too many, one of them does not fit, two have one path, or one has no directory to stand in.
func byPath(list []api.Item, fits func(api.Item) bool) (*paths.Map[api.Item], bool) {
	if len(list) > api.MaxItems {
		return nil, false
	}
	items := &paths.Map[api.Item]{}
	for _, item := range list {
		if !fits(item) {
			return nil, false
		}
		if _, there := items.Get(item.Path); there {
			return nil, false
		}
		item = Own(item)
		items.Put(item.Path, item)
	}
	// A parent may come behind its children in the list, so all must stand first.
	for item := range items.All() {
		if !hasParent(items, item.Path) {
			return nil, false
		}
	}
	return items, true
}

func hasParent(items *paths.Map[api.Item], path string) bool {
	parent := paths.Parent(path)
	if parent == paths.Root {
		return true
	}
	item, there := items.Get(parent)
	return there && item.Kind == api.Dir
}

// fitsTree tells whether an item may stand in a tree.
func fitsTree(item api.Item) bool {
	return fitsLayer(item) && item.Kind != api.White && !item.Opaque
}

// fitsLayer tells whether an item may stand in a layer.
func fitsLayer(item api.Item) bool {
	if !paths.Valid(item.Path) || item.Mode < 0 || item.Mode > api.MaxMode {
		return false
	}
	switch item.Kind {
	case api.File:
		return len(item.Data) <= api.MaxData && !item.Opaque
	case api.Dir:
		return item.Data == ""
	case api.White:
		return item.Mode == 0 && item.Data == "" && !item.Opaque
	}
	return false
}
