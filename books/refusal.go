package books

import "firn/api"

// refusal is the first error of a command in the document's table. There the errors
// of each kind stand by rising numbers: the first one is the least of those that
// hold, and they may be asked in any order.
type refusal struct {
	first api.Errno
}

func (r *refusal) ask(e api.Errno, holds bool) {
	if holds && (r.first == api.OK || e < r.first) {
		r.first = e
	}
}

// refused tells a command's error, and OK, if it has none.
func (t *transaction) refused(c api.Command) api.Errno {
	var r refusal
	t.askTube(c, &r)
	t.askOther(c, &r)
	t.askDonor(c, &r)
	t.askBox(c, &r)
	return r.first
}

// askTube asks of Tube.
func (t *transaction) askTube(c api.Command, r *refusal) {
	record, isThere := t.tube(c.Tube)
	switch c.Kind {
	case api.Aliquot, api.Pour:
		r.ask(api.ErrOrder, c.Other <= c.Tube)
		r.ask(api.ErrVolume, record.left < c.Volume)
		fallthrough
	case api.Move, api.Take:
		r.ask(api.ErrStatus, record.status != api.Stored)
		fallthrough
	case api.Show, api.Up, api.Down:
		r.ask(api.ErrTube, !isThere)
	case api.Use:
		r.ask(api.ErrVolume, record.left < c.Volume || record.used+c.Volume > api.MaxVolume)
		r.ask(api.ErrStatus, record.status == api.Destroyed)
		r.ask(api.ErrTube, !isThere)
	case api.Return:
		r.ask(api.ErrStatus, record.status != api.Out)
		r.ask(api.ErrTube, !isThere)
	case api.Register:
		r.ask(api.ErrTube, isThere)
	}
}

// askOther asks of Other.
func (t *transaction) askOther(c api.Command, r *refusal) {
	record, isThere := t.tube(c.Other)
	switch c.Kind {
	case api.Aliquot:
		r.ask(api.ErrTube, isThere)
	case api.Pour:
		r.ask(api.ErrVolume, record.left+c.Volume > api.MaxVolume)
		r.ask(api.ErrVolume, t.poured(c.Tube, c.Other)+c.Volume > api.MaxVolume)
		r.ask(api.ErrStatus, record.status != api.Stored)
		r.ask(api.ErrTube, !isThere)
	}
}

// askDonor asks of Donor; to Register, any will do.
func (t *transaction) askDonor(c api.Command, r *refusal) {
	if c.Kind == api.Withdraw || c.Kind == api.Of {
		r.ask(api.ErrDonor, len(t.of(c.Donor)) == 0)
	}
}

// askBox asks of Box, and of the place in it.
func (t *transaction) askBox(c api.Command, r *refusal) {
	side, p := t.side(c.Box), placeAt(c.X, c.Y)
	switch c.Kind {
	case api.Register, api.Move, api.Aliquot, api.Return:
		occupant := t.occupant(c.Box, p)
		isOwn := c.Kind == api.Move && occupant == c.Tube
		r.ask(api.ErrPlace, !p.isIn(side) || occupant != 0 && !isOwn)
		fallthrough
	case api.Turn, api.Flip, api.Content:
		r.ask(api.ErrBox, side == 0)
	case api.NewBox:
		r.ask(api.ErrBox, side != 0)
	}
}
