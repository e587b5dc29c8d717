package tree

import (
	"cmp"
	"slices"
)

// maxEntries is how many entries a node may have: few, since whatever is put into
// it makes a copy of them.
const maxEntries = 5

// node has at least one entry, by rising keys. It is never changed, since several
// trees may share it: whoever puts something into it gets new ones.
type node struct {
	entries []entry
}

// entry has a value, if its node is a leaf; else a node below it, whose least key
// is its own.
type entry struct {
	key   uint32
	value string
	below *node
}

func (n *node) isLeaf() bool { return n.entries[0].below == nil }

// way tells which is the first entry that has the key, or one above it, in it or below it.
func (n *node) way(key uint32) int {
	i, isThere := slices.BinarySearchFunc(n.entries, key, func(e entry, key uint32) int {
		return cmp.Compare(e.key, key)
	})
	if isThere || n.isLeaf() {
		return i
	}
	return max(i-1, 0)
}

// put answers the one or two nodes that are to be instead of this one.
func (n *node) put(e entry) []entry {
	i := n.way(e.key)
	ahead, behind := n.entries[:i], n.entries[i:]
	if !n.isLeaf() {
		return split(slices.Concat(ahead, behind[0].below.put(e), behind[1:]))
	}
	if len(behind) > 0 && behind[0].key == e.key {
		behind = behind[1:]
	}
	return split(slices.Concat(ahead, []entry{e}, behind))
}

// split lays entries into a node, or into two, if they are too many for one.
func split(entries []entry) []entry {
	if len(entries) <= maxEntries {
		return []entry{above(entries)}
	}
	half := len(entries) / 2
	return []entry{above(entries[:half]), above(entries[half:])}
}

func above(entries []entry) entry {
	return entry{key: entries[0].key, below: &node{entries: entries}}
}

// walk tells whether it is to go on behind this node.
func (n *node) walk(from, to uint32, yield func(uint32, string) bool) bool {
	for _, e := range n.entries[n.way(from):] {
		if e.key > to {
			return false
		}
		if e.below != nil {
			if !e.below.walk(from, to, yield) {
				return false
			}
		} else if !yield(e.key, e.value) {
			return false
		}
	}
	return true
}
