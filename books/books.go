// Package books keeps what a cold store has: its boxes, its tubes, and what was
// poured from which into which.
package books

import (
	"firn/api"
	"firn/tree"
)

// Books have just what the commands so far have done.
type Books struct {
	tree  tree.Tree
	limit int
}

// Do does a command, and tells what it answers. Behind an error the books are as
// they were.
func (b *Books) Do(c api.Command) ([]int, api.Errno) {
	t := transaction{Tree: b.tree}
	if e := t.refused(c); e != api.OK {
		return nil, e
	}
	numbers := t.perform(c)
	if t.Len() > b.limit {
		return nil, api.ErrFull
	}
	b.tree = t.Tree
	return numbers, api.OK
}
