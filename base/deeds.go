package base

import (
	"slices"

	"gauze/api"
	"gauze/paths"
	"gauze/wal"
)

// areDeeds tells whether Do may be asked for these.
func areDeeds(l []api.Deed) bool {
	if len(l) > api.MaxDeeds {
		return false
	}
	for _, deed := range l {
		// Of what is taken away nothing counts but the path.
		if !paths.Valid(deed.Node.Path) || !deed.Take && !isNode(deed.Node) {
			return false
		}
	}
	return true
}

// isNode tells whether there may be such a node.
func isNode(n api.Node) bool {
	if !paths.Valid(n.Path) || n.Mode < 0 || n.Mode > api.MaxMode || n.Tag < 0 || n.Tag > api.MaxTag {
		return false
	}
	switch n.Kind {
	case api.File:
		return len(n.Data) <= api.MaxData
	case api.Dir:
		return n.Data == ""
	}
	return false
}

// work is deeds that are being done: the nodes as they have left them so far, which is what stands in the log's transaction, too.
type work struct {
	log   *wal.Log
	nodes *paths.Map[placed]
}

func (w work) do(deed api.Deed) api.Errno {
	if deed.Take {
		return w.take(deed.Node.Path)
	}
	return w.put(deed.Node)
}

// take takes away what is at a path, and all below it.
func (w work) take(path string) api.Errno {
	if _, there := w.nodes.Get(path); !there {
		return api.ErrNone
	}
	for _, p := range slices.Collect(w.nodes.All()) {
		if p.node.Path != path && !paths.IsBelow(p.node.Path, path) {
			continue
		}
		w.nodes.Delete(p.node.Path)
		if e := clearSlot(w.log, p.slot); e != api.OK {
			return e
		}
	}
	return api.OK
}

// put puts a node into the slot of what it replaces, or into a free one.
func (w work) put(n api.Node) api.Errno {
	if e := w.checkParent(n.Path); e != api.OK {
		return e
	}
	old, there := w.nodes.Get(n.Path)
	if there && old.node.Kind != n.Kind {
		return api.ErrKind
	}
	slot := old.slot
	if !there {
		if w.nodes.Len() >= api.MaxNodes {
			return api.ErrFull
		}
		slot = freeSlot(w.nodes)
	}
	w.nodes.Put(n.Path, placed{slot: slot, node: n})
	return fillSlot(w.log, slot, n)
}

// checkParent tells why a path has no directory to stand in, or OK.
func (w work) checkParent(path string) api.Errno {
	parent := paths.Parent(path)
	if parent == paths.Root {
		return api.OK
	}
	p, there := w.nodes.Get(parent)
	if !there {
		return api.ErrNone
	}
	if p.node.Kind != api.Dir {
		return api.ErrKind
	}
	return api.OK
}
