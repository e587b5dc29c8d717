package firn_test

import (
	"maps"
	"math/rand"
	"slices"

	"firn/api"
)

// modelTube is what the document says that a tube has.
type modelTube struct {
	donor, began, left, used, lost, status, thaws int
	box, x, y                                     int
}

// model is the document's table, in plain steps: what the program is held against.
type model struct {
	sides  map[int]int
	tubes  map[int]modelTube
	poured map[[2]int]int
}

func newModel() model {
	return model{map[int]int{}, map[int]modelTube{}, map[[2]int]int{}}
}

func (m model) clone() model {
	return model{maps.Clone(m.sides), maps.Clone(m.tubes), maps.Clone(m.poured)}
}

// size is how many boxes, tubes and pairs there are.
func (m model) size() int { return len(m.sides) + len(m.tubes) + len(m.poured) }

// place tells the error of laying a tube somewhere.
func (m model) place(tube int, c api.Command) api.Errno {
	side, isThere := m.sides[c.Box]
	if !isThere {
		return api.ErrBox
	}
	if c.X >= side || c.Y >= side {
		return api.ErrPlace
	}
	for number, t := range m.tubes {
		if number != tube && t.status == api.Stored && t.box == c.Box && t.x == c.X && t.y == c.Y {
			return api.ErrPlace
		}
	}
	return api.OK
}

// check goes through the errors as they stand in the table.
func (m model) check(c api.Command) api.Errno {
	t, tubeIs := m.tubes[c.Tube]
	o, otherIs := m.tubes[c.Other]
	_, boxIs := m.sides[c.Box]
	first := func(holds bool, e api.Errno) api.Errno {
		if holds {
			return e
		}
		return api.OK
	}
	var list []api.Errno
	switch c.Kind {
	case api.NewBox:
		list = []api.Errno{first(boxIs, api.ErrBox)}
	case api.Register:
		list = []api.Errno{first(tubeIs, api.ErrTube), m.place(c.Tube, c)}
	case api.Move:
		list = []api.Errno{first(!tubeIs, api.ErrTube), first(t.status != api.Stored, api.ErrStatus), m.place(c.Tube, c)}
	case api.Aliquot:
		list = []api.Errno{first(!tubeIs || otherIs, api.ErrTube), first(c.Other < c.Tube, api.ErrOrder),
			first(t.status != api.Stored, api.ErrStatus), first(t.left < c.Volume, api.ErrVolume), m.place(c.Other, c)}
	case api.Pour:
		list = []api.Errno{first(!tubeIs || !otherIs, api.ErrTube), first(c.Other <= c.Tube, api.ErrOrder),
			first(t.status != api.Stored || o.status != api.Stored, api.ErrStatus),
			first(t.left < c.Volume || o.left+c.Volume > 1000000 || m.poured[[2]int{c.Tube, c.Other}]+c.Volume > 1000000, api.ErrVolume)}
	case api.Use:
		list = []api.Errno{first(!tubeIs, api.ErrTube), first(t.status == api.Destroyed, api.ErrStatus),
			first(t.left < c.Volume || t.used+c.Volume > 1000000, api.ErrVolume)}
	case api.Take:
		list = []api.Errno{first(!tubeIs, api.ErrTube), first(t.status != api.Stored, api.ErrStatus)}
	case api.Return:
		list = []api.Errno{first(!tubeIs, api.ErrTube), first(t.status != api.Out, api.ErrStatus), m.place(c.Tube, c)}
	case api.Withdraw, api.Of:
		list = []api.Errno{first(len(m.of(c.Donor)) == 0, api.ErrDonor)}
	case api.Turn, api.Flip, api.Content:
		list = []api.Errno{first(!boxIs, api.ErrBox)}
	default:
		list = []api.Errno{first(!tubeIs, api.ErrTube)}
	}
	for _, e := range list {
		if e != api.OK {
			return e
		}
	}
	return api.OK
}

func (m model) of(donor int) []int {
	var list []int
	for number, t := range m.tubes {
		if t.donor == donor {
			list = append(list, number)
		}
	}
	slices.Sort(list)
	return list
}

// reach goes along what was poured until it finds nothing new; way 0 is down, 1 is up.
func (m model) reach(start []int, way int) []int {
	reached := map[int]bool{}
	work := slices.Clone(start)
	for len(work) > 0 {
		number := work[0]
		work = work[1:]
		for pair := range m.poured {
			if next := pair[1-way]; pair[way] == number && !reached[next] {
				reached[next] = true
				work = append(work, next)
			}
		}
	}
	return slices.Sorted(maps.Keys(reached))
}

// pour is the table's POURED.
func (m model) pour(from, to, volume int) {
	f, t := m.tubes[from], m.tubes[to]
	f.left -= volume
	t.left += volume
	m.tubes[from], m.tubes[to] = f, t
	m.poured[[2]int{from, to}] += volume
}

func (m model) withdraw(donor int) int {
	all := m.of(donor)
	count := 0
	for _, number := range slices.Concat(all, m.reach(all, 0)) {
		t := m.tubes[number]
		if t.status != api.Destroyed {
			count++
			m.tubes[number] = modelTube{donor: t.donor, began: t.began, used: t.used, lost: t.left, status: api.Destroyed, thaws: t.thaws}
		}
	}
	return count
}

// relay lays each tube of a box somewhere else.
func (m model) relay(box int, to func(x, y int) (int, int)) {
	for number, t := range maps.Clone(m.tubes) {
		if t.status == api.Stored && t.box == box {
			t.x, t.y = to(t.x, t.y)
			m.tubes[number] = t
		}
	}
}

// change does a command that has no error, and tells what it answers.
func (m model) change(c api.Command) []int {
	t := m.tubes[c.Tube]
	switch c.Kind {
	case api.NewBox:
		m.sides[c.Box] = c.N
	case api.Register:
		m.tubes[c.Tube] = modelTube{donor: c.Donor, began: c.Volume, left: c.Volume, status: api.Stored, box: c.Box, x: c.X, y: c.Y}
	case api.Move, api.Return:
		if c.Kind == api.Return && t.thaws < 9 {
			t.thaws++
		}
		t.status, t.box, t.x, t.y = api.Stored, c.Box, c.X, c.Y
		m.tubes[c.Tube] = t
	case api.Aliquot:
		m.tubes[c.Other] = modelTube{donor: t.donor, status: api.Stored, box: c.Box, x: c.X, y: c.Y}
		m.pour(c.Tube, c.Other, c.Volume)
	case api.Pour:
		m.pour(c.Tube, c.Other, c.Volume)
	case api.Use:
		t.left, t.used = t.left-c.Volume, t.used+c.Volume
		m.tubes[c.Tube] = t
	case api.Take:
		t.status, t.box, t.x, t.y = api.Out, 0, 0, 0
		m.tubes[c.Tube] = t
	case api.Withdraw:
		return []int{m.withdraw(c.Donor)}
	case api.Turn:
		for range c.N {
			m.relay(c.Box, func(x, y int) (int, int) { return m.sides[c.Box] - 1 - y, x })
		}
	case api.Flip:
		m.relay(c.Box, func(x, y int) (int, int) { return m.sides[c.Box] - 1 - x, y })
	}
	return m.tell(c)
}

// tell is what a command answers that changes nothing.
func (m model) tell(c api.Command) []int {
	switch c.Kind {
	case api.Show:
		t := m.tubes[c.Tube]
		return []int{t.donor, t.began, t.left, t.used, t.lost, t.status, t.thaws, t.box, t.x, t.y}
	case api.Content:
		var list []int
		for _, number := range slices.Sorted(maps.Keys(m.tubes)) {
			if t := m.tubes[number]; t.status == api.Stored && t.box == c.Box {
				list = append(list, number, t.x, t.y)
			}
		}
		return list
	case api.Of:
		return m.of(c.Donor)
	case api.Up:
		return m.reach([]int{c.Tube}, 1)
	case api.Down:
		return m.reach([]int{c.Tube}, 0)
	}
	return nil
}

// player makes up commands, many of which may be done.
type player struct {
	r *rand.Rand
	// names are the numbers of tubes that it takes.
	names []int
	boxes int
}

func (p player) pick(list ...int) int { return list[p.r.Intn(len(list))] }

// tube is mostly one that has the status; 0 is that of one that is not there.
func (p player) tube(m model, status int) int {
	var list []int
	for _, number := range p.names {
		if m.tubes[number].status == status {
			list = append(list, number)
		}
	}
	if len(list) == 0 || p.r.Intn(5) == 0 {
		return p.pick(p.names...)
	}
	return p.pick(list...)
}

// volume is mostly near what may be.
func (p player) volume(t, o modelTube, poured int) int {
	volume := p.pick(1, 2, 3, 5, 7, 10, 100, 300000, 1000000, t.left, t.left+1, t.left/2, t.left/3, 1000000-o.left, 1000001-o.left, 1000000-t.used, 1000001-t.used, 1000000-poured, 1000001-poured)
	return max(1, min(volume, 1000000))
}

func (p player) command(m model) api.Command {
	kind := p.pick(1, 2, 3, 4, 4, 5, 5, 5, 5, 6, 6, 7, 8, 8, 10, 11, 12, 13, 14, 15, 16)
	if p.r.Intn(250) == 0 {
		kind = api.Withdraw
	}
	status := api.Stored
	if kind == api.Return {
		status = api.Out
	}
	c := api.Command{Kind: kind, Tube: p.tube(m, status), Other: p.tube(m, api.Stored), Donor: 1 + p.r.Intn(6), Box: 1 + p.r.Intn(p.boxes)}
	switch {
	case kind == api.Register:
		c.Tube = p.tube(m, 0)
	case kind == api.Aliquot:
		c.Other = p.tube(m, 0)
	case c.Other < c.Tube && p.r.Intn(5) > 0:
		c.Tube, c.Other = c.Other, c.Tube
	}
	c.Volume = p.volume(m.tubes[c.Tube], m.tubes[c.Other], m.poured[[2]int{c.Tube, c.Other}])
	c.X, c.Y, c.N = p.r.Intn(5), p.r.Intn(5), p.pick(1, 2, 3, 4, 5, 5, 5, 5)
	if kind == api.Turn {
		c.N = 1 + p.r.Intn(3)
	}
	return trimmed(c)
}

// trimmed has just what belongs to its kind.
func trimmed(c api.Command) api.Command {
	s := shapes[c.Kind-1]
	for _, p := range everyPart {
		if !s.has(p.name) {
			*p.at(&c) = 0
		}
	}
	return c
}
