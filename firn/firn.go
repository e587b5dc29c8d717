// Package firn keeps the books of a cold store: see DOC.md.
package firn

import (
	"strings"

	"firn/api"
	"firn/books"
	"firn/wire"
)

// sectorsPerEntry is how many sectors of a disk there are for each box, each tube,
// and each pair of which one was poured into the other.
const sectorsPerEntry = 8

// Ledger is the books.
type Ledger struct {
	books books.Books
}

// Encode writes a command as a frame (P3).
func Encode(c api.Command) (string, api.Errno) { return wire.Encode(c) }

// Decode reads it (P3).
func Decode(frame string) (api.Command, api.Errno) { return wire.Decode(frame) }

// Numbers tells a reply's numbers and its error; and whether it is one (P3).
func Numbers(reply string) ([]int, api.Errno, api.Errno) { return wire.Numbers(reply) }

// Open finds a ledger in an image (P5).
func Open(image string) (*Ledger, []api.Write, api.Errno) {
	sectors := len(image) / api.Sector
	if len(image)%api.Sector != 0 || sectors < api.MinSectors || sectors > api.MaxSectors {
		return nil, nil, api.ErrImage
	}
	// As long as nothing is written, what has anything on it is no ledger's disk.
	if strings.Trim(image, "\x00") != "" {
		return nil, nil, api.ErrImage
	}
	return &Ledger{books: books.Empty(sectors / sectorsPerEntry)}, nil, api.OK
}

// Do does what a frame says: the reply, and what is to be written (P4).
func (l *Ledger) Do(frame string) (string, []api.Write) {
	c, e := wire.Decode(frame)
	if e != api.OK {
		return wire.Reply(e, nil), nil
	}
	numbers, e := l.books.Do(c)
	return wire.Reply(e, numbers), nil
}
