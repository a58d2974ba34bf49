// Package layer: trees and layers: see DOC.md.
package layer

import (
	"slices"

	"gauze/api"
	"gauze/sight"
)

// Merge is a tree, seen through a layer (P3).
func Merge(lower []api.Item, upper []api.Item) ([]api.Item, api.Errno) {
	tree, ok := sight.Tree(lower)
	if !ok {
		return nil, api.ErrTree
	}
	over, ok := sight.Layer(upper)
	if !ok {
		return nil, api.ErrLayer
	}
	seen := sight.View{Tree: tree, Over: over}.Seen()
	if seen.Len() > api.MaxItems {
		return nil, api.ErrFull
	}
	return slices.Collect(seen.All()), api.OK
}
