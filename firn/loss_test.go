package firn_test

import (
	"math/rand"
	"slices"
	"strconv"
	"testing"

	"firn/api"
	"firn/firn"
)

// ofAllKinds are commands of each kind, most of which are done on a disk that has the
// room; some of them are refused, and some change nothing.
func ofAllKinds() []api.Command {
	return []api.Command{
		newBox(1, 3), newBox(1, 2), register(5, 2, 100, 1, 0, 1), register(5, 2, 100, 1, 0, 0), use(5, 3), use(5, 98), show(5),
		aliquot(5, 9, 30, 1, 2, 2), aliquot(5, 9, 30, 1, 2, 2), down(5), register(12, 3, 999990, 1, 0, 0), pour(9, 12, 20), take(12), pour(5, 12, 7),
		giveBack(12, 1, 1, 1), pour(5, 12, 7), pour(5, 12, 8), up(12), move(5, 1, 1, 2), move(5, 1, 1, 2), move(5, 1, 3, 3), take(5), take(5), use(5, 1),
		giveBack(5, 1, 2, 0), turn(1, 1), turn(1, 2), turn(1, 3), turn(2, 1), flip(1), flip(2), content(1), of(2), withdraw(9),
		withdraw(3), withdraw(2), withdraw(2), use(5, 1), register(998, 99, 1, 1, 1, 1), turn(1, 1), withdraw(99), newBox(9, 1), newBox(9, 2),
	}
}

// P7: wherever the power is lost in a command's writes, and whatever of them has
// lasted, the command is there wholly or not at all; of every number.
func TestLossAtEachPlace(t *testing.T) {
	for sectors, kinds := range map[int]int{16: 9, 17: 9, 23: 9, 48: 11, 63: 11, 64: 11} {
		t.Run(strconv.Itoa(sectors), func(t *testing.T) {
			t.Parallel()
			r := rand.New(rand.NewSource(int64(sectors)))
			s, whole := newStore(t, sectors), everything()
			written := map[int]int{}
			for _, c := range ofAllKinds() {
				u := begin(s, c, whole)
				u.wantAll(s, r)
				s.write(u.writes)
				if len(u.writes) > 0 {
					written[c.Kind]++
				}
			}
			if len(written) != kinds {
				t.Errorf("%d kinds of commands have answered writes, want %d", len(written), kinds)
			}
		})
	}
}

// load lays so many tubes onto a great disk, and a box for each 25 of them.
func load(s *store, tubes int) {
	s.t.Helper()
	for i := range tubes {
		if i%25 == 0 {
			s.ok(newBox(8-i/25, 5))
		}
		s.ok(register(101+i, 50+i, 1000000-i, 8-i/25, i%5, i/5%5))
	}
}

// P7: the same where a command has many writes: on great disks, with room for all
// kinds, and on full ones.
func TestLossAtEachPlaceOfMany(t *testing.T) {
	full := []api.Command{use(101, 65536), move(125, 7, 4, 4), turn(8, 1), take(113), newBox(1, 1), giveBack(113, 8, 2, 2), pour(101, 102, 5), flip(8), withdraw(60), withdraw(50)}
	for _, c := range []struct {
		sectors, tubes int
		commands       []api.Command
	}{
		{255, 16, ofAllKinds()}, {256, 16, ofAllKinds()}, {255, 29, full}, {256, 30, full},
	} {
		t.Run(strconv.Itoa(c.sectors)+"/"+strconv.Itoa(c.tubes), func(t *testing.T) {
			t.Parallel()
			s := newStore(t, c.sectors)
			load(s, c.tubes)
			loseMany(s, c.commands)
		})
	}
}

// loseMany asks behind what was torn just for the numbers that the commands are about,
// since there is so much of it.
func loseMany(s *store, commands []api.Command) {
	s.t.Helper()
	r := rand.New(rand.NewSource(1))
	whole, part := everything(), glance([]int{5, 9, 12, 101, 102, 111, 113, 125, 998}, 9, 3)
	for _, c := range commands {
		v := begin(openStore(s.t, s.image), c, part)
		u := begin(s, c, whole)
		for l := range losses(r, s.image, u.writes) {
			if l.torn {
				v.wantEither(s.t, l)
			} else {
				u.wantEither(s.t, l)
			}
		}
		s.write(u.writes)
	}
}

// drawSmall is a command for a disk that takes just one box and one tube.
func drawSmall(r *rand.Rand) api.Command {
	box, x, y := 7, r.Intn(2), r.Intn(2)
	switch r.Intn(8) {
	case 0:
		return newBox(box, 2)
	case 1:
		return register(511, 1, 1000000, box, x, y)
	case 2:
		return move(511, box, x, y)
	case 3:
		return use(511, 1+r.Intn(1000))
	case 4:
		return take(511)
	case 5:
		return giveBack(511, box, x, y)
	case 6:
		return turn(box, 1+r.Intn(3))
	}
	return flip(box)
}

func smallView() view { return glance([]int{1, 510, 511, 512}, api.MaxBox, 2) }

// P7: each of more than 300 commands that answer writes on one disk, with every loss.
func TestEveryLossOfManyCommands(t *testing.T) {
	t.Parallel()
	for _, sectors := range []int{api.MinSectors, api.MinSectors + 1, api.MaxSectors} {
		r := rand.New(rand.NewSource(int64(sectors)))
		s, v := newStore(t, sectors), smallView()
		for written := 0; written < 330; {
			u := begin(s, drawSmall(r), v)
			if len(u.writes) == 0 {
				continue
			}
			written++
			u.wantAll(s, r)
			if r.Intn(3) > 0 {
				s.write(u.writes)
				continue
			}
			s.image = lose(r, s.image, u.writes)
			s.open()
		}
	}
}

// P7: every loss in a command's writes, every loss in those of another one on each
// disk that was left, and so on; from an empty image on, and behind so many commands
// that what the program may count has come to a byte more.
func TestEveryLossBehindEveryLoss(t *testing.T) {
	for _, ahead := range []int{0, 1, 2, 3, 4, 253, 254, 255, 256, 257, 510, 511, 512} {
		t.Run(strconv.Itoa(ahead), func(t *testing.T) {
			t.Parallel()
			r := rand.New(rand.NewSource(int64(ahead)))
			s, next := newStore(t, 16), []api.Command{newBox(8, 2), newBox(9, 3), flip(9)}
			for i := range ahead {
				switch i {
				case 0:
					s.ok(newBox(7, 2))
				case 1:
					s.ok(register(511, 1, 1000000, 7, 0, 1))
					next = []api.Command{use(511, 258), take(511), use(511, 999999-258-ahead)}
				default:
					s.ok(use(511, 1))
				}
			}
			loseEach(t, r, s.image, next, smallView())
		})
	}
}

// loseEach does the first command, and behind each of its losses those that come next.
func loseEach(t *testing.T, r *rand.Rand, image []byte, commands []api.Command, v view) {
	t.Helper()
	s := openStore(t, image)
	u := begin(s, commands[0], v)
	seen := map[string]bool{}
	for l := range losses(r, image, u.writes) {
		u.wantEither(t, l)
		if len(commands) > 1 && !seen[string(l.image)] {
			seen[string(l.image)] = true
			loseEach(t, r, l.image, commands[1:], v)
		}
	}
}

// P7: a loss, an Open, further commands, a loss in the midst of their writes, and so
// on, on one disk. What is found is held against the document's table, too.
func TestLossAgainAndAgain(t *testing.T) {
	for _, sectors := range []int{16, 17, 40, 63, 128, 255, 256} {
		for seed := range int64(3) {
			t.Run(strconv.Itoa(sectors)+"/"+strconv.FormatInt(seed, 10), func(t *testing.T) {
				t.Parallel()
				p := player{r: rand.New(rand.NewSource(seed)), names: some[:min(len(some), 1+sectors/16)], boxes: 1 + sectors/100}
				loseOften(newStore(t, sectors), p)
			})
		}
	}
}

// loseOften goes on until more than 300 commands have answered writes.
func loseOften(s *store, p player) {
	s.t.Helper()
	m, whole := newModel(), everything()
	written, lost := 0, 0
	for written < 330 {
		c := p.command(m)
		if c.Kind == api.Withdraw && written < 300 { // there would be little left to do
			continue
		}
		if !isToBeDone(m, c, len(s.image)/api.Sector/8) {
			step(s, m, c)
			continue
		}
		for range 1 + p.r.Intn(2) { // if it is lost, once more the same, or another one
			u := begin(s, c, whole)
			wantDone(s.t, m, u)
			written++
			if p.r.Intn(3) == 0 {
				s.write(u.writes)
				m.change(c)
				break
			}
			s.image = lose(p.r, s.image, u.writes)
			lost++
			isThere := u.wantEither(s.t, loss{image: s.image})
			s.open()
			if isThere {
				m.change(c)
				break
			}
		}
	}
	if lost < 150 {
		s.t.Errorf("the power was lost just %d times", lost)
	}
	wantModel(s, m)
}

// isToBeDone tells whether a command changes something, and may not be refused.
func isToBeDone(m model, c api.Command, room int) bool {
	if c.Kind >= api.Show || m.check(c) != api.OK {
		return false
	}
	behind := m.clone()
	behind.change(c)
	return behind.size() <= room
}

// wantDone holds what a command answered against the model.
func wantDone(t *testing.T, m model, u underWay) {
	t.Helper()
	numbers, e, _ := firn.Numbers(u.reply)
	if want := m.clone().change(u.command); e != api.OK || !slices.Equal(numbers, want) {
		t.Fatalf("%+v: %d, %d, want OK, %d", u.command, e, numbers, want)
	}
}

// P7: however often the power is lost ahead of the end of a command, it may be done.
func TestLossUntilItIsDone(t *testing.T) {
	r := rand.New(rand.NewSource(1))
	v := smallView()
	for _, sectors := range []int{16, 17, 256} {
		s := newStore(t, sectors)
		for _, c := range []api.Command{newBox(7, 2), register(511, 1, 500, 7, 0, 1), use(511, 5), take(511), withdraw(1)} {
			before := v.of(s.ledger)
			for range 40 {
				u := begin(s, c, v)
				if u.reply[0] != 0 {
					t.Fatalf("%+v: %q", c, u.reply)
				}
				left := lose(r, s.image, u.writes[:len(u.writes)-1])
				if !u.wantEither(t, loss{image: left}) {
					s.image = left
				}
				s.open()
				if !v.tells(s.ledger, before) {
					t.Fatalf("%+v is there, though it was lost", c)
				}
			}
			s.do(c)
			s.open()
		}
		s.want(show(511), api.OK, 1, 500, 0, 5, 495, 3, 0, 0, 0, 0)
	}
}

// P7: the writes of an Open, if it answers any, may be lost like those of a Do.
func TestLossInOpen(t *testing.T) {
	r := rand.New(rand.NewSource(2))
	v := smallView()
	s := newStore(t, 16)
	for range 60 {
		u := begin(s, drawSmall(r), v)
		for range 10 {
			wantLossInOpen(t, r, lose(r, s.image, u.writes), v)
		}
		s.write(u.writes)
		wantLossInOpen(t, r, s.image, v)
	}
}

func wantLossInOpen(t *testing.T, r *rand.Rand, image []byte, v view) {
	t.Helper()
	ledger, writes, e := firn.Open(string(image))
	if e != api.OK {
		t.Fatalf("Open: %d", e)
	}
	want := v.of(ledger)
	for l := range losses(r, image, writes) {
		if !v.tells(openStore(t, l.image).ledger, want) {
			t.Fatalf("a loss behind %d of %d writes of an Open leaves another ledger", l.made, len(writes))
		}
	}
}

// The writes of several commands are made one behind the other, and the power is
// lost in the midst of them: those whose writes were all made are there.
func TestLossOfSeveralCommands(t *testing.T) {
	plays(t, func(t *testing.T, s *store, p player) {
		m, v := newModel(), glance(some, 3, 6)
		for range 10 {
			var list []underWay
			for range 5 {
				u := begin(s, p.command(m), v)
				if u.reply[0] == 0 {
					m.change(u.command)
				}
				list = append(list, u)
			}
			for _, u := range list {
				for range 3 {
					u.wantEither(t, loss{image: lose(p.r, s.image, u.writes)})
				}
				s.write(u.writes)
			}
		}
	})
}

func TestThirdExample(t *testing.T) {
	s := newStore(t, 256)
	s.ok(newBox(1, 3), register(5, 2, 100, 1, 0, 1), aliquot(5, 9, 30, 1, 2, 2), turn(1, 1))
	left := slices.Clone(s.image)
	s.want(withdraw(2), api.OK, 2)
	s.image = left
	s.open()
	s.want(show(5), api.OK, 2, 100, 70, 0, 0, 1, 0, 1, 1, 0)
	s.want(withdraw(2), api.OK, 2)
	s.open()
	s.want(show(5), api.OK, 2, 100, 0, 0, 70, 3, 0, 0, 0, 0)
}
