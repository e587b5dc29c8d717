package books

import "firn/api"

// perform does a command that is not refused, and tells what it answers.
func (t *transaction) perform(c api.Command) []int {
	switch c.Kind {
	case api.NewBox:
		t.setSide(c.Box, c.N)
	case api.Register:
		t.register(c)
	case api.Move:
		t.move(c)
	case api.Aliquot:
		t.aliquot(c)
	case api.Pour:
		t.pour(c)
	case api.Use:
		t.use(c)
	case api.Take:
		t.take(c)
	case api.Return:
		t.giveBack(c)
	case api.Withdraw:
		return []int{t.withdraw(c)}
	case api.Turn:
		t.turn(c)
	case api.Flip:
		t.flip(c)
	case api.Show:
		return t.show(c)
	case api.Content:
		return t.content(c)
	case api.Of:
		return t.of(c.Donor)
	case api.Up:
		return kin(c.Tube, t.addAbove)
	case api.Down:
		return kin(c.Tube, t.addBelow)
	}
	return nil
}

func (t *transaction) register(c api.Command) {
	record := tube{donor: c.Donor, began: c.Volume, left: c.Volume}
	record.store(c.Box, placeAt(c.X, c.Y))
	t.setTube(c.Tube, record)
}

func (t *transaction) move(c api.Command) {
	t.change(c.Tube, func(record *tube) {
		record.store(c.Box, placeAt(c.X, c.Y))
	})
}

func (t *transaction) aliquot(c api.Command) {
	from, _ := t.tube(c.Tube)
	record := tube{donor: from.donor}
	record.store(c.Box, placeAt(c.X, c.Y))
	t.setTube(c.Other, record)
	t.pour(c)
}

func (t *transaction) pour(c api.Command) {
	t.change(c.Tube, func(record *tube) { record.left -= c.Volume })
	t.change(c.Other, func(record *tube) { record.left += c.Volume })
	t.setPoured(c.Tube, c.Other, t.poured(c.Tube, c.Other)+c.Volume)
}

func (t *transaction) use(c api.Command) {
	t.change(c.Tube, func(record *tube) {
		record.left -= c.Volume
		record.used += c.Volume
	})
}

func (t *transaction) take(c api.Command) {
	t.change(c.Tube, func(record *tube) { record.leave(api.Out) })
}

func (t *transaction) giveBack(c api.Command) {
	t.change(c.Tube, func(record *tube) {
		record.store(c.Box, placeAt(c.X, c.Y))
		record.thaws = min(record.thaws+1, api.MaxThaws)
	})
}

// withdraw tells how many tubes it destroyed.
func (t *transaction) withdraw(c api.Command) int {
	var g group
	g.add(t.of(c.Donor)...)
	t.addBelow(&g)
	count := 0
	for number, record := range t.tubes() {
		if g[number] && record.status != api.Destroyed {
			t.change(number, destroy)
			count++
		}
	}
	return count
}

func destroy(record *tube) {
	record.lost, record.left = record.left, 0
	record.leave(api.Destroyed)
}

func (t *transaction) turn(c api.Command) {
	side := t.side(c.Box)
	for number := range t.in(c.Box) {
		t.change(number, func(record *tube) {
			for range c.N {
				record.place = record.turned(side)
			}
		})
	}
}

func (t *transaction) flip(c api.Command) {
	side := t.side(c.Box)
	for number := range t.in(c.Box) {
		t.change(number, func(record *tube) { record.place = record.flipped(side) })
	}
}

func (t *transaction) show(c api.Command) []int {
	record, _ := t.tube(c.Tube)
	return record.numbers()
}

func (t *transaction) content(c api.Command) []int {
	var list []int
	for number, record := range t.in(c.Box) {
		list = append(list, number, record.x(), record.y())
	}
	return list
}
