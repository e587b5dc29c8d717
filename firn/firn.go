// Package firn keeps the books of a cold store: see DOC.md.
package firn

import (
	"firn/api"
	"firn/wire"
)

// Ledger is the books.
type Ledger struct{}

// Encode writes a command as a frame (P3).
func Encode(c api.Command) (string, api.Errno) { return wire.Encode(c) }

// Decode reads it (P3).
func Decode(frame string) (api.Command, api.Errno) { return wire.Decode(frame) }

// Numbers tells a reply's numbers and its error; and whether it is one (P3).
func Numbers(reply string) ([]int, api.Errno, api.Errno) { return wire.Numbers(reply) }

// Open finds a ledger in an image (P5).
func Open(image string) (*Ledger, []api.Write, api.Errno) { return nil, nil, api.OK }

// Do does what a frame says: the reply, and what is to be written (P4).
func (l *Ledger) Do(frame string) (string, []api.Write) { return "", nil }
