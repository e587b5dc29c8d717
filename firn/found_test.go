package firn_test

import (
	"math/rand"
	"slices"
	"strconv"
	"testing"

	"firn/api"
	"firn/firn"
)

// P5: behind each command the ledger is found again, and has the answers of one
// that never was, and those of the document's table.
func TestFoundAgain(t *testing.T) {
	plays(t, func(t *testing.T, s *store, p player) {
		m := newModel()
		other := newStore(t, len(s.image)/api.Sector)
		for range 300 {
			c := p.command(m)
			e, numbers := step(s, m, c)
			otherE, otherNumbers := other.do(c)
			if e != otherE || !slices.Equal(numbers, otherNumbers) {
				t.Fatalf("%+v: %d, %d, of one that was never found again %d, %d", c, e, numbers, otherE, otherNumbers)
			}
			s.open()
		}
		if s.sight() != other.sight() {
			t.Errorf("the ledger that was found again has other contents")
		}
	})
}

// Each kind that changes something is there behind an Open.
func TestEachKindIsFoundAgain(t *testing.T) {
	s := scene(t)
	for _, c := range []api.Command{
		newBox(3, 1), register(60, 9, 5, 1, 1, 1), move(10, 2, 3, 2), aliquot(20, 21, 7, 2, 1, 1), pour(10, 20, 3), use(20, 4),
		take(21), giveBack(30, 1, 0, 2), turn(1, 1), flip(2), withdraw(1),
	} {
		before := s.sight()
		e, _ := s.do(c)
		after := s.sight()
		if e != api.OK || before == after {
			t.Fatalf("%+v: %d, and nothing is changed", c, e)
		}
		s.open()
		if s.sight() != after {
			t.Errorf("%+v is not there behind an Open", c)
		}
	}
}

func TestSecondExampleFoundAgain(t *testing.T) {
	for sectors := 40; sectors <= api.MaxSectors; sectors += 8 {
		s := newStore(t, sectors)
		for _, step := range []struct {
			command api.Command
			numbers []int
		}{
			{newBox(1, 3), nil}, {register(5, 2, 100, 1, 0, 1), nil}, {aliquot(5, 9, 30, 1, 2, 2), nil},
			{show(9), []int{2, 0, 30, 0, 0, 1, 0, 1, 2, 2}}, {turn(1, 1), nil}, {content(1), []int{5, 1, 0, 9, 0, 2}},
			{down(5), []int{9}}, {withdraw(2), []int{2}}, {show(5), []int{2, 100, 0, 0, 70, 3, 0, 0, 0, 0}},
		} {
			s.want(step.command, api.OK, step.numbers...)
			s.open()
		}
	}
}

func TestOpenTwiceInARow(t *testing.T) {
	s := scene(t)
	want := s.sight()
	for range 5 {
		s.open()
		s.open()
		if s.sight() != want {
			t.Fatalf("another ledger behind two times Open")
		}
	}
	first, writes, e := firn.Open(string(s.image))
	if e != api.OK {
		t.Fatalf("Open: %d", e)
	}
	s.write(writes)
	s.open()
	if got := (&store{t: t, ledger: first, image: s.image}).sight(); got != want {
		t.Errorf("the ledger of the first Open is another one behind the second")
	}
}

// Both ledgers go on, each on its own disk.
func TestOpenOfACopy(t *testing.T) {
	for seed := range int64(8) {
		p := player{r: rand.New(rand.NewSource(seed)), names: some, boxes: 2}
		s, m := newStore(t, 256), newModel()
		for range 100 {
			step(s, m, p.command(m))
		}
		other, otherModel := openStore(t, s.image), m.clone()
		for range 300 {
			step(s, m, p.command(m))
			step(other, otherModel, p.command(otherModel))
			if p.r.Intn(10) == 0 {
				s.open()
			}
			if p.r.Intn(10) == 0 {
				other.open()
			}
		}
		wantModel(s, m)
		wantModel(other, otherModel)
	}
}

// What is not written is not there, and does not hinder what is written later.
func TestDoWithoutItsWrites(t *testing.T) {
	p := player{r: rand.New(rand.NewSource(5)), names: some, boxes: 2}
	s, m := newStore(t, 200), newModel()
	for range 400 {
		image := slices.Clone(s.image)
		lost := m.clone()
		for range 1 + p.r.Intn(4) {
			step(s, lost, p.command(lost))
		}
		s.image = image
		s.open()
		wantNumbers(s, m)
		step(s, m, p.command(m))
	}
	wantModel(s, m)
}

// wantNumbers asks for what the model has, of a few tubes and boxes.
func wantNumbers(s *store, m model) {
	s.t.Helper()
	for _, n := range some {
		step(s, m, show(n))
	}
	step(s, m, content(1))
	step(s, m, content(2))
}

// P4, P5: a disk that is filled to N / 8 goes on, however many commands there were,
// and whether it is found again or not.
func TestFullDisksGoOn(t *testing.T) {
	for _, sectors := range small {
		t.Run(strconv.Itoa(sectors), func(t *testing.T) {
			s, m := newStore(t, sectors), newModel()
			fill(s, m)
			if m.size() != sectors/8 {
				t.Fatalf("%d boxes, tubes and pairs on a full disk", m.size())
			}
			p := player{r: rand.New(rand.NewSource(int64(sectors))), names: append(keysOf(m), 998), boxes: 2}
			for i := range 3000 {
				step(s, m, p.command(m))
				if i%7 == 0 {
					s.open()
				}
			}
			wantModel(s, m)
		})
	}
}

// fill does what makes the disk just full.
func fill(s *store, m model) {
	s.t.Helper()
	room := len(s.image) / api.Sector / 8
	for _, c := range growth() {
		behind := m.clone()
		if m.check(c) != api.OK {
			continue
		}
		behind.change(c)
		if behind.size() <= room {
			s.ok(c)
			m.change(c)
		}
	}
}

func keysOf(m model) []int {
	var list []int
	for n := range m.tubes {
		list = append(list, n)
	}
	slices.Sort(list)
	return list
}

// P6: what changes something is written, and what does not is not. That the writes
// are such as may be asks every store.
func TestWhatIsWritten(t *testing.T) {
	for _, sectors := range small {
		s, m := newStore(t, sectors), newModel()
		p := player{r: rand.New(rand.NewSource(int64(sectors))), names: some, boxes: 2}
		for range 500 {
			c := p.command(m)
			before := slices.Clone(s.image)
			told, _ := step(s, m, c)
			if told != api.OK || c.Kind >= api.Show {
				if !slices.Equal(before, s.image) {
					t.Fatalf("%+v: %d, and something is written", c, told)
				}
			}
		}
		if ledger, writes, e := firn.Open(string(s.image)); ledger == nil || e != api.OK || len(writes) > 0 && writes[len(writes)-1].Sector != -1 {
			t.Errorf("Open: %d, %d writes", e, len(writes))
		}
	}
}

// P2: lists of writes are as they came out, whatever is called later.
func TestWritesStay(t *testing.T) {
	s, m := newStore(t, 128), newModel()
	p := player{r: rand.New(rand.NewSource(11)), names: some, boxes: 2}
	var lists, copies [][]api.Write
	for i := range 1000 {
		c := p.command(m)
		frame, _ := firn.Encode(c)
		reply, writes := s.ledger.Do(frame)
		s.write(writes)
		if reply[0] == 0 {
			m.change(c)
		}
		lists, copies = append(lists, writes), append(copies, slices.Clone(writes))
		if i%50 == 0 {
			s.open()
		}
	}
	if !slices.EqualFunc(lists, copies, slices.Equal[[]api.Write]) {
		t.Errorf("writes of earlier have changed")
	}
}
