package firn_test

import (
	"math/rand"
	"slices"
	"testing"

	"firn/api"
	"firn/firn"
)

// P2: ledgers know nothing of one another, though they are asked in turns.
func TestLedgersBesideOneAnother(t *testing.T) {
	var stores []*store
	var models []model
	for range 5 {
		stores, models = append(stores, newStore(t, 256)), append(models, newModel())
	}
	p := player{r: rand.New(rand.NewSource(7)), names: some, boxes: 2}
	for range 3000 {
		i := p.r.Intn(len(stores))
		step(stores[i], models[i], p.command(models[i]))
	}
	late := newStore(t, 256)
	late.refuse(api.ErrBox, content(1), content(2))
	late.refuse(api.ErrTube, show(1), show(999))
}

// P2: the same calls have the same answers, whatever other ledgers do.
func TestSameCallsSameAnswers(t *testing.T) {
	type answer struct {
		reply  string
		writes []api.Write
	}
	play := func(between func()) []answer {
		var list []answer
		image := zeros(200 * api.Sector)
		ledger, _, _ := firn.Open(image)
		m := newModel()
		p := player{r: rand.New(rand.NewSource(8)), names: some, boxes: 2}
		for range 1000 {
			c := p.command(m)
			frame, _ := firn.Encode(c)
			reply, writes := ledger.Do(frame)
			list = append(list, answer{reply, writes})
			if reply[0] == 0 {
				m.change(c)
			}
			between()
		}
		return list
	}
	same := func(a, b answer) bool { return a.reply == b.reply && slices.Equal(a.writes, b.writes) }
	first := play(func() {})
	other := newStore(t, 256)
	other.ok(newBox(1, 5), register(1, 1, 1000, 1, 0, 0))
	for range 3 {
		again := play(func() {
			other.do(use(1, 1))
			other.do(turn(1, 1))
		})
		if !slices.EqualFunc(first, again, same) {
			t.Fatalf("the same calls have other answers")
		}
	}
}

// P2: what came out is the caller's, and may be changed.
func TestWritesAreNewMemory(t *testing.T) {
	s, m := newStore(t, 256), newModel()
	p := player{r: rand.New(rand.NewSource(9)), names: some, boxes: 2}
	for range 500 {
		c := p.command(m)
		frame, _ := firn.Encode(c)
		reply, writes := s.ledger.Do(frame)
		for i := range writes {
			writes[i] = api.Write{Sector: -7, Data: "spoilt"}
		}
		numbers, e, _ := firn.Numbers(reply)
		if want := m.check(c); want != api.OK || e == api.ErrFull {
			if e != want && e != api.ErrFull {
				t.Fatalf("%+v: %d, want %d", c, e, want)
			}
			continue
		}
		if want := m.change(c); !slices.Equal(numbers, want) {
			t.Fatalf("%+v: %d, want %d", c, numbers, want)
		}
	}
}
