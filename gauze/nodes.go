package gauze

import (
	"gauze/api"
	"gauze/paths"
)

// The tags tell apart what a base has no kinds for: to it a White is a File, and an Opaque directory a Dir.
const (
	tagWhite  = 1
	tagOpaque = 2
)

// nodeOf is how a base has an item of the layer.
func nodeOf(item api.Item) api.Node {
	n := api.Node{Path: item.Path, Kind: item.Kind, Mode: item.Mode, Data: item.Data}
	if item.Kind == api.White {
		n.Kind, n.Tag = api.File, tagWhite
	}
	if item.Opaque {
		n.Tag = tagOpaque
	}
	return n
}

// itemOf is the item of the layer that a base has as a node.
func itemOf(n api.Node) api.Item {
	item := api.Item{Path: n.Path, Kind: n.Kind, Mode: n.Mode, Data: n.Data, Opaque: n.Tag == tagOpaque}
	if n.Tag == tagWhite {
		item.Kind = api.White
	}
	return item
}

// layerOf is the layer that a base has.
func layerOf(nodes []api.Node) *paths.Map[api.Item] {
	over := &paths.Map[api.Item]{}
	for _, n := range nodes {
		over.Put(n.Path, itemOf(n))
	}
	return over
}
