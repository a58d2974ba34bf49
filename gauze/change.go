package gauze

import (
	"slices"

	"gauze/api"
	"gauze/paths"
	"gauze/sight"
)

// change is what a call is about to do: the view as it will be, and the deeds that make the base such. It needs no more than MaxDeeds: a Rename, which needs the most, has up to three parents to copy up on either side, and three deeds beside them.
type change struct {
	seen  *paths.Map[api.Item] // ahead of the change
	view  sight.View
	deeds []api.Deed
}

func (f *FS) begin() *change {
	return &change{
		seen: f.view.Seen(),
		view: sight.View{Tree: f.view.Tree, Over: f.view.Over.Clone()},
	}
}

// end makes sure of a change. The base answers ErrDisk itself, behind a call that did so.
func (f *FS) end(c *change) api.Errno {
	if c.view.Over.Len() > api.MaxItems || c.view.Seen().Len() > api.MaxItems {
		return api.ErrFull
	}
	if e := f.base.Do(c.deeds); e != api.OK {
		return e
	}
	f.view = c.view
	return api.OK
}

// copyUp puts what is seen at a path into the layer, its parents first, if the layer has nothing there.
func (c *change) copyUp(path string) {
	if path == paths.Root {
		return
	}
	if _, there := c.view.Over.Get(path); there {
		return
	}
	c.copyUp(paths.Parent(path))
	item, _ := c.seen.Get(path)
	c.put(item)
}

// put puts an item into the layer, in the place of what it has there.
func (c *change) put(item api.Item) {
	item = sight.Own(item)
	n := nodeOf(item)
	old, there := c.view.Over.Get(item.Path)
	if there && nodeOf(old).Kind != n.Kind {
		c.take(item.Path)
	}
	c.view.Over.Put(item.Path, item)
	c.deeds = append(c.deeds, api.Deed{Node: n})
}

// take takes what the layer has at a path, and all below it, out of the layer.
func (c *change) take(path string) {
	if _, there := c.view.Over.Get(path); !there {
		return
	}
	for _, item := range slices.Collect(c.view.Over.All()) {
		if item.Path == path || paths.IsBelow(item.Path, path) {
			c.view.Over.Delete(item.Path)
		}
	}
	c.deeds = append(c.deeds, api.Deed{Take: true, Node: api.Node{Path: path}})
}

// remove lets nothing be seen at a path.
func (c *change) remove(path string) {
	c.take(path)
	if c.view.ShinesThrough(path) {
		c.copyUp(paths.Parent(path))
		c.put(api.Item{Path: path, Kind: api.White})
	}
}
