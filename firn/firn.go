// Package firn keeps the books of a cold store: see DOC.md.
package firn

import (
	"firn/api"
	"firn/books"
	"firn/disk"
	"firn/wire"
)

// sectorsPerEntry is how many sectors of a disk there are for each box, each tube,
// and each pair of which one was poured into the other. The longest record has less
// than one sector: there is always room for them all in each half of the disk.
const sectorsPerEntry = 8

// Ledger is the books, and the disk on which they stand.
type Ledger struct {
	disk  disk.Disk
	books books.Books
}

// Encode writes a command as a frame (P3).
func Encode(c api.Command) (string, api.Errno) { return wire.Encode(c) }

// Decode reads it (P3).
func Decode(frame string) (api.Command, api.Errno) { return wire.Decode(frame) }

// Numbers tells a reply's numbers and its error; and whether it is one (P3).
func Numbers(reply string) ([]int, api.Errno, api.Errno) { return wire.Numbers(reply) }

// Open finds a ledger in an image (P5).
func Open(image string) (*Ledger, []api.Write, api.Errno) {
	d, text, isThere := disk.Find(image)
	if !isThere {
		return nil, nil, api.ErrImage
	}
	b, isThere := books.Read(text, len(image)/api.Sector/sectorsPerEntry)
	if !isThere {
		return nil, nil, api.ErrImage
	}
	return &Ledger{disk: d, books: b}, nil, api.OK
}

// Do does what a frame says: the reply, and what is to be written (P4).
func (l *Ledger) Do(frame string) (string, []api.Write) {
	c, e := wire.Decode(frame)
	if e != api.OK {
		return wire.Reply(e, nil), nil
	}
	numbers, e := l.books.Do(c)
	reply := wire.Reply(e, numbers)
	if e != api.OK || c.Kind >= api.Show {
		return reply, nil
	}
	return reply, l.disk.Keep(l.books.Text())
}
