package base

import (
	"gauze/api"
	"gauze/blocks"
	"gauze/paths"
	"gauze/wal"
)

// The log has a slot for each node that there may be. A slot has two blocks, in which the longest path and the most data have room. The first block alone tells whether it is free: so even deeds that take away every node and put as many as they may change no more than MaxNodes first blocks and MaxDeeds second ones, which one transaction has room for.
const (
	slotBlocks = 2
	headSize   = 7
)

// placed is a node, and the slot that has it.
type placed struct {
	slot int
	node api.Node
}

// readSlots is all that the slots have, by path.
func readSlots(log *wal.Log) (*paths.Map[placed], api.Errno) {
	nodes := &paths.Map[placed]{}
	for slot := range api.MaxNodes {
		text, e := readSlot(log, slot)
		if e != api.OK {
			return nil, e
		}
		if n, ok := decode(text); ok {
			nodes.Put(n.Path, placed{slot: slot, node: n})
		}
	}
	return nodes, api.OK
}

// freeSlot is a slot that has none of the nodes. There is one as long as they are fewer than there may be.
func freeSlot(nodes *paths.Map[placed]) int {
	var used [api.MaxNodes]bool
	for p := range nodes.All() {
		used[p.slot] = true
	}
	slot := 0
	for used[slot] {
		slot++
	}
	return slot
}

// readSlot is the text of a slot's blocks.
func readSlot(log *wal.Log, slot int) (string, api.Errno) {
	text := ""
	for i := range slotBlocks {
		block, e := log.Get(slot*slotBlocks + i)
		if e != api.OK {
			return "", e
		}
		text += block
	}
	return text, api.OK
}

func fillSlot(log *wal.Log, slot int, n api.Node) api.Errno {
	text := encode(n)
	for i := range slotBlocks {
		end := min(len(text), blocks.Size)
		if e := log.Put(slot*slotBlocks+i, text[:end]); e != api.OK {
			return e
		}
		text = text[end:]
	}
	return api.OK
}

func clearSlot(log *wal.Log, slot int) api.Errno { return log.Put(slot*slotBlocks, "") }

// encode is a node as a slot has it: the head, with the lengths of what comes behind it, the path, the data.
func encode(n api.Node) string {
	head := [headSize]byte{
		byte(n.Kind),
		byte(n.Mode >> 8), byte(n.Mode),
		byte(n.Tag),
		byte(len(n.Path)),
		byte(len(n.Data) >> 8), byte(len(n.Data)),
	}
	return string(head[:]) + n.Path + n.Data
}

// decode is the node that a slot has; false: it is free. What no Do has written counts as free: it must not lead astray.
func decode(text string) (api.Node, bool) {
	pathEnd := headSize + int(text[4])
	dataEnd := pathEnd + int(text[5])<<8 + int(text[6])
	if dataEnd > len(text) {
		return api.Node{}, false
	}
	n := api.Node{
		Path: text[headSize:pathEnd],
		Kind: int(text[0]),
		Mode: int(text[1])<<8 | int(text[2]),
		Tag:  int(text[3]),
		Data: text[pathEnd:dataEnd],
	}
	return n, isNode(n)
}
