package firn_test

import (
	"strconv"
	"testing"

	"firn/api"
)

// growth are commands of which each adds one or two to the boxes, tubes and pairs
// that there are.
func growth() []api.Command {
	list := []api.Command{newBox(1, 5), register(1, 1, 1000, 1, 0, 0), newBox(2, 5), register(3, 2, 1000, 1, 1, 0), pour(1, 3, 1), aliquot(1, 2, 5, 2, 0, 0)}
	for n := 4; n <= 26; n++ {
		list = append(list, register(n, 1+n%3, 100, 1, (n-2)%5, (n-2)/5))
		if n%3 == 0 {
			list = append(list, pour(1, n, 2))
		}
		list = append(list, aliquot(n, 100+n, 2, 2, (n-3)%5, (n-3)/5))
	}
	return list
}

// small are the sizes of disks that tell N / 8 from what is near it.
var small = []int{16, 17, 23, 24, 25, 31, 32, 39, 40, 48, 56, 64, 127, 128, 192, 248, 255, 256}

// P4: what makes no more than N / 8 is never refused as too much; and if what makes
// more is, it changes nothing.
func TestFull(t *testing.T) {
	for _, sectors := range small {
		t.Run(strconv.Itoa(sectors), func(t *testing.T) {
			s, m := newStore(t, sectors), newModel()
			before := s.sight()
			for _, c := range growth() {
				e, _ := step(s, m, c)
				after := s.sight()
				if e != api.OK && after != before {
					t.Fatalf("%+v: %d, and something is changed", c, e)
				}
				before = after
			}
			if m.size() < sectors/8 {
				t.Errorf("%d boxes, tubes and pairs are too few for this test", m.size())
			}
		})
	}
}

// A disk that has N / 8 goes on with all that makes it no more.
func TestWhatAFullDiskDoes(t *testing.T) {
	s := newStore(t, 56)
	s.ok(newBox(1, 2), register(1, 1, 100, 1, 0, 0), register(2, 2, 100, 1, 1, 0), aliquot(1, 3, 10, 1, 0, 1), pour(1, 2, 5))
	for range 40 {
		s.ok(pour(1, 2, 1), use(1, 1), move(3, 1, 1, 1), turn(1, 1), flip(1))
		s.ok(take(2), take(3), move(1, 1, 0, 0), giveBack(3, 1, 0, 1), giveBack(2, 1, 1, 0))
		s.want(content(1), api.OK, 1, 0, 0, 2, 1, 0, 3, 0, 1)
	}
	s.want(withdraw(1), api.OK, 3)
	s.want(withdraw(1), api.OK, 0)
}

// What the table refuses has the table's error, on a full disk, too.
func TestErrorsOfTheTableOnAFullDisk(t *testing.T) {
	s, m := newStore(t, 16), newModel()
	for _, c := range []api.Command{
		newBox(1, 5), register(1, 1, 100, 1, 0, 0),
		newBox(1, 5), register(1, 1, 1, 1, 1, 1), register(2, 1, 1, 9, 0, 0), register(2, 1, 1, 1, 0, 0),
		aliquot(1, 1, 1, 1, 1, 1), aliquot(2, 3, 1, 1, 1, 1), aliquot(1, 2, 101, 1, 1, 1), aliquot(1, 2, 1, 9, 1, 1), aliquot(1, 2, 1, 1, 0, 0),
		pour(1, 2, 1), pour(1, 1, 1), use(1, 101),
		newBox(2, 1), register(2, 1, 1, 1, 1, 1), aliquot(1, 2, 1, 1, 1, 1),
		show(1), content(1), of(1), up(1), down(1), use(1, 1), move(1, 1, 4, 4), take(1), giveBack(1, 1, 0, 0), turn(1, 1), flip(1), withdraw(1), show(1),
	} {
		step(s, m, c)
	}
}

// The greatest disk takes a whole box.
func TestGreatestDisk(t *testing.T) {
	s := newStore(t, api.MaxSectors)
	s.ok(newBox(9, 5))
	for i := range 25 {
		s.ok(register(999-i, 99, 1000000, 9, i%5, i/5))
	}
	s.refuse(api.ErrPlace, register(1, 1, 1, 9, 4, 4))
	for i := range 6 {
		s.ok(use(999-i, 1000), pour(975, 999-i, 1000))
	}
	if _, numbers := s.do(content(9)); len(numbers) != 75 {
		t.Errorf("Content has %d numbers", len(numbers))
	}
	s.want(down(975), api.OK, 994, 995, 996, 997, 998, 999)
	s.want(withdraw(99), api.OK, 25)
}
