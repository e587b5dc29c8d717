// Package tree keeps texts by rising keys. A tree is a value: a copy of it stays
// as it was, whatever is put into the other one.
package tree

import "iter"

// Tree is empty as it is declared.
type Tree struct {
	root  *node
	count int
}

// Len tells how many keys there are.
func (t Tree) Len() int { return t.count }

// Get tells what was put under a key, and whether anything was.
func (t Tree) Get(key uint32) (string, bool) {
	for _, value := range t.Range(key, key) {
		return value, true
	}
	return "", false
}

// Put lays a text under a key, instead of one that was there.
func (t *Tree) Put(key uint32, value string) {
	if _, isThere := t.Get(key); !isThere {
		t.count++
	}
	e := entry{key: key, value: value}
	if t.root == nil {
		t.root = &node{entries: []entry{e}}
		return
	}
	parts := t.root.put(e)
	t.root = parts[0].below
	if len(parts) > 1 {
		t.root = &node{entries: parts}
	}
}

// Range goes through the keys from one to another, both of them included. What
// is put into the tree meanwhile it does not see.
func (t Tree) Range(from, to uint32) iter.Seq2[uint32, string] {
	return func(yield func(uint32, string) bool) {
		if t.root != nil {
			t.root.walk(from, to, yield)
		}
	}
}
