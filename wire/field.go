// Package wire writes commands as bytes, and reads commands and replies from them.
package wire

import "firn/api"

// field is a number that may belong to a kind of commands.
type field int

const (
	tube field = iota
	other
	donor
	volume
	box
	x
	y
	side
	// turns is the N of Turn: it lies where side does, but has a limit of its own.
	turns
)

const maxTurns = 3

// fieldsOf tells what belongs to a kind, in the order of the frame; nil for what is no kind.
func fieldsOf(kind int) []field {
	switch kind {
	case api.NewBox:
		return []field{box, side}
	case api.Register:
		return []field{tube, donor, volume, box, x, y}
	case api.Move, api.Return:
		return []field{tube, box, x, y}
	case api.Aliquot:
		return []field{tube, other, volume, box, x, y}
	case api.Pour:
		return []field{tube, other, volume}
	case api.Use:
		return []field{tube, volume}
	case api.Take, api.Show, api.Up, api.Down:
		return []field{tube}
	case api.Withdraw, api.Of:
		return []field{donor}
	case api.Turn:
		return []field{box, turns}
	case api.Flip, api.Content:
		return []field{box}
	}
	return nil
}

// limits tells the least and the greatest number that a field may have.
func (f field) limits() (least, greatest int) {
	switch f {
	case tube, other:
		return 1, api.MaxTube
	case donor:
		return 1, api.MaxDonor
	case volume:
		return 1, api.MaxVolume
	case box:
		return 1, api.MaxBox
	case side:
		return 1, api.MaxSide
	case turns:
		return 1, maxTurns
	}
	return 0, api.MaxSide - 1
}

func (f field) allows(n int) bool {
	least, greatest := f.limits()
	return least <= n && n <= greatest
}

// of tells where in a command the field lies.
func (f field) of(c *api.Command) *int {
	switch f {
	case tube:
		return &c.Tube
	case other:
		return &c.Other
	case donor:
		return &c.Donor
	case volume:
		return &c.Volume
	case box:
		return &c.Box
	case x:
		return &c.X
	case y:
		return &c.Y
	}
	return &c.N
}
