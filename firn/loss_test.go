package firn_test

import (
	"fmt"
	"math/rand"
	"slices"
	"strings"
	"testing"

	"firn/api"
	"firn/firn"
)

// lose tells an image that may be left, if the power is lost in these writes: those
// ahead of a flush have lasted, of those behind it some have, of one just some bytes.
func lose(r *rand.Rand, image []byte, writes []api.Write) []byte {
	count := r.Intn(len(writes) + 1)
	flushed := 0
	for i, w := range writes[:count] {
		if w.Sector == -1 {
			flushed = i + 1
		}
	}
	part := flushed + r.Intn(count-flushed+1)
	left := slices.Clone(image)
	for i, w := range writes[:count] {
		if w.Sector == -1 || i >= flushed && r.Intn(2) == 0 {
			continue
		}
		data := w.Data
		if i == part {
			data = data[:r.Intn(len(data))]
		}
		copy(left[w.Sector*api.Sector:], data)
	}
	return left
}

// glance is what a ledger tells of the tubes and boxes of a play.
func glance(s *store) string {
	s.t.Helper()
	var b strings.Builder
	for _, n := range some {
		for _, c := range []api.Command{show(n), up(n), down(n)} {
			e, numbers := s.do(c)
			fmt.Fprintln(&b, e, numbers)
		}
	}
	for n := 1; n <= 3; n++ {
		e, numbers := s.do(content(n))
		fmt.Fprintln(&b, e, numbers)
	}
	return b.String()
}

// P7: whatever is left, the command under way is there wholly or not at all, and
// all that was answered ahead is; however often the power is lost.
func TestLoss(t *testing.T) {
	plays(t, func(t *testing.T, s *store, p player) {
		m := newModel()
		for range 40 {
			c := p.command(m)
			frame, _ := firn.Encode(c)
			before := glance(s)
			reply, writes := s.ledger.Do(frame)
			after := glance(s)
			for range 6 {
				got := glance(openStore(t, lose(p.r, s.image, writes)))
				if got != before && got != after {
					t.Fatalf("%+v: what is left is neither what was nor what is to be", c)
				}
			}
			if p.r.Intn(2) == 0 {
				s.write(writes)
			} else {
				s.image = lose(p.r, s.image, writes)
				s.open()
			}
			if reply[0] == 0 && glance(s) == after {
				m.change(c)
			}
		}
	})
}

func TestThirdExample(t *testing.T) {
	s := newStore(t, 256)
	s.ok(newBox(1, 3), register(5, 2, 100, 1, 0, 1), aliquot(5, 9, 30, 1, 2, 2), turn(1, 1))
	left := slices.Clone(s.image)
	s.want(withdraw(2), api.OK, 2)
	s.image = left
	s.open()
	s.want(show(5), api.OK, 2, 100, 70, 0, 0, 1, 0, 1, 1, 0)
	s.want(withdraw(2), api.OK, 2)
	s.open()
	s.want(show(5), api.OK, 2, 100, 0, 0, 70, 3, 0, 0, 0, 0)
}
