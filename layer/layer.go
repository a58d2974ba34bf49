// Package layer: trees and layers: see DOC.md.
package layer

import (
	"slices"

	"gauze/api"
)

// Merge is a tree, seen through a layer (P3).
func Merge(lower []api.Item, upper []api.Item) ([]api.Item, api.Errno) {
	tree, ok := byPath(lower, fitsTree)
	if !ok {
		return nil, api.ErrTree
	}
	over, ok := byPath(upper, fitsLayer)
	if !ok {
		return nil, api.ErrLayer
	}
	seen := view{tree: tree, over: over}.seen()
	if seen.Len() > api.MaxItems {
		return nil, api.ErrFull
	}
	return slices.Collect(seen.All()), api.OK
}
