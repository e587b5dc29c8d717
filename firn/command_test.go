package firn_test

import (
	"strings"
	"testing"

	"firn/api"
)

func TestSecondExample(t *testing.T) {
	s := newStore(t, 256)
	s.ok(newBox(1, 3), register(5, 2, 100, 1, 0, 1), aliquot(5, 9, 30, 1, 2, 2))
	s.want(show(9), api.OK, 2, 0, 30, 0, 0, 1, 0, 1, 2, 2)
	s.ok(turn(1, 1))
	s.want(content(1), api.OK, 5, 1, 0, 9, 0, 2)
	s.want(down(5), api.OK, 9)
	s.want(withdraw(2), api.OK, 2)
	s.want(show(5), api.OK, 2, 100, 0, 0, 70, 3, 0, 0, 0, 0)
}

func TestWhatIsNoFrame(t *testing.T) {
	s := scene(t)
	before := s.sight()
	frames := []string{"", "x", "\x00", "\x11", "\x0c", "\x0c\x00\x00\x00", "\x0c\x00\x00\x00\x00", "\x0c\x00\x00\x03\xe8",
		"\x07\x00\x00\x00\x0a\x00", "\x0a\x00\x00\x00\x01\x00\x00\x00\x04", "\x0b\x00\x00\x00\x0a", strings.Repeat("\x07", 100000)}
	for _, shape := range shapes {
		whole := shape.ordinaryFrame()
		frames = append(frames, whole[:len(whole)-1], whole+"\x00", shape.frame(0, 0), shape.frame(0, 1<<31))
	}
	for _, frame := range frames {
		if got, writes := s.ledger.Do(frame); got != "\x01\x00\x00" || len(writes) != 0 {
			t.Errorf("Do(%.40q) = %q, %d writes, want ErrFrame alone", frame, got, len(writes))
		}
	}
	if s.sight() != before {
		t.Errorf("what is no frame has changed something")
	}
}

// scene has tubes of each status: 10, 20 and 50 are Stored, 30 is Out, 40 is
// Destroyed; 50 has as much as a tube may have. There are the boxes 1 and 2.
func scene(t *testing.T) *store {
	t.Helper()
	s := newStore(t, 256)
	s.ok(newBox(1, 3), newBox(2, 5),
		register(10, 1, 100, 1, 0, 0), register(20, 2, 100, 1, 1, 0), register(30, 1, 50, 1, 2, 2),
		register(40, 3, 70, 2, 0, 0), register(50, 4, 1000000, 2, 4, 4), take(30))
	s.want(withdraw(3), api.OK, 1)
	return s
}

// refusals are commands in the scene, by the errors that hold; the first one is
// to be answered, as it stands first in the document's table.
var refusals = []struct {
	name     string
	commands []api.Command
	holds    []api.Errno
}{
	{"NewBox", []api.Command{newBox(1, 3), newBox(1, 5), newBox(2, 1)}, []api.Errno{api.ErrBox}},

	{"Register", []api.Command{register(10, 1, 1, 1, 2, 2), register(30, 1, 1, 1, 2, 2), register(40, 3, 1, 1, 2, 2)}, []api.Errno{api.ErrTube}},
	{"Register", []api.Command{register(60, 1, 1, 3, 0, 0), register(60, 9, 1, 9, 0, 0)}, []api.Errno{api.ErrBox}},
	{"Register", []api.Command{register(60, 1, 1, 1, 3, 0), register(60, 1, 1, 1, 0, 3), register(60, 1, 1, 1, 3, 3), register(60, 1, 1, 1, 0, 0), register(60, 1, 1, 2, 4, 4)}, []api.Errno{api.ErrPlace}},
	{"Register", []api.Command{register(10, 1, 1, 9, 0, 0)}, []api.Errno{api.ErrTube, api.ErrBox}},
	{"Register", []api.Command{register(10, 1, 1, 1, 0, 0), register(10, 1, 1, 1, 3, 0), register(40, 1, 1, 1, 1, 0)}, []api.Errno{api.ErrTube, api.ErrPlace}},
	{"Register", []api.Command{register(60, 1, 1, 9, 4, 4)}, []api.Errno{api.ErrBox, api.ErrPlace}},

	{"Move", []api.Command{move(60, 1, 2, 2), move(999, 1, 2, 2)}, []api.Errno{api.ErrTube}},
	{"Move", []api.Command{move(30, 1, 2, 2), move(40, 1, 2, 2), move(40, 2, 0, 0)}, []api.Errno{api.ErrStatus}},
	{"Move", []api.Command{move(10, 3, 0, 0), move(10, 9, 0, 0)}, []api.Errno{api.ErrBox}},
	{"Move", []api.Command{move(10, 1, 3, 0), move(10, 1, 0, 3), move(10, 1, 4, 4), move(10, 1, 1, 0), move(10, 2, 4, 4)}, []api.Errno{api.ErrPlace}},
	{"Move", []api.Command{move(60, 9, 0, 0)}, []api.Errno{api.ErrTube, api.ErrBox}},
	{"Move", []api.Command{move(60, 1, 0, 0), move(60, 1, 3, 0)}, []api.Errno{api.ErrTube, api.ErrPlace}},
	{"Move", []api.Command{move(30, 9, 0, 0), move(40, 9, 0, 0)}, []api.Errno{api.ErrStatus, api.ErrBox}},
	{"Move", []api.Command{move(30, 1, 0, 0), move(40, 1, 3, 0)}, []api.Errno{api.ErrStatus, api.ErrPlace}},

	{"Aliquot", []api.Command{aliquot(60, 61, 1, 1, 2, 2), aliquot(10, 20, 1, 1, 2, 2), aliquot(10, 40, 1, 1, 2, 2), aliquot(60, 50, 1, 1, 2, 2), aliquot(10, 10, 1, 1, 2, 2), aliquot(60, 60, 1, 1, 2, 2)}, []api.Errno{api.ErrTube}},
	{"Aliquot", []api.Command{aliquot(20, 15, 1, 1, 2, 2), aliquot(20, 19, 1, 1, 2, 2), aliquot(20, 1, 1, 1, 2, 2)}, []api.Errno{api.ErrOrder}},
	{"Aliquot", []api.Command{aliquot(30, 31, 1, 1, 2, 2)}, []api.Errno{api.ErrStatus}},
	{"Aliquot", []api.Command{aliquot(10, 11, 101, 1, 2, 2), aliquot(10, 11, 1000000, 1, 2, 2)}, []api.Errno{api.ErrVolume}},
	{"Aliquot", []api.Command{aliquot(10, 11, 1, 3, 0, 0)}, []api.Errno{api.ErrBox}},
	{"Aliquot", []api.Command{aliquot(10, 11, 1, 1, 3, 0), aliquot(10, 11, 1, 1, 0, 3), aliquot(10, 11, 1, 1, 0, 0), aliquot(10, 11, 1, 1, 1, 0)}, []api.Errno{api.ErrPlace}},
	{"Aliquot", []api.Command{aliquot(60, 15, 1, 1, 2, 2), aliquot(20, 10, 1, 1, 2, 2)}, []api.Errno{api.ErrTube, api.ErrOrder}},
	{"Aliquot", []api.Command{aliquot(30, 50, 1, 1, 2, 2)}, []api.Errno{api.ErrTube, api.ErrStatus}},
	{"Aliquot", []api.Command{aliquot(10, 20, 101, 1, 2, 2)}, []api.Errno{api.ErrTube, api.ErrVolume}},
	{"Aliquot", []api.Command{aliquot(10, 20, 1, 9, 0, 0), aliquot(60, 61, 1, 9, 0, 0)}, []api.Errno{api.ErrTube, api.ErrBox}},
	{"Aliquot", []api.Command{aliquot(10, 20, 1, 1, 0, 0), aliquot(60, 61, 1, 1, 3, 0)}, []api.Errno{api.ErrTube, api.ErrPlace}},
	{"Aliquot", []api.Command{aliquot(30, 29, 1, 1, 2, 2)}, []api.Errno{api.ErrOrder, api.ErrStatus}},
	{"Aliquot", []api.Command{aliquot(20, 19, 101, 1, 2, 2)}, []api.Errno{api.ErrOrder, api.ErrVolume}},
	{"Aliquot", []api.Command{aliquot(20, 19, 1, 9, 0, 0)}, []api.Errno{api.ErrOrder, api.ErrBox}},
	{"Aliquot", []api.Command{aliquot(20, 19, 1, 1, 0, 0)}, []api.Errno{api.ErrOrder, api.ErrPlace}},
	{"Aliquot", []api.Command{aliquot(30, 31, 51, 1, 2, 2), aliquot(40, 41, 1, 1, 2, 2)}, []api.Errno{api.ErrStatus, api.ErrVolume}},
	{"Aliquot", []api.Command{aliquot(30, 31, 1, 9, 0, 0)}, []api.Errno{api.ErrStatus, api.ErrBox}},
	{"Aliquot", []api.Command{aliquot(30, 31, 1, 1, 0, 0)}, []api.Errno{api.ErrStatus, api.ErrPlace}},
	{"Aliquot", []api.Command{aliquot(10, 11, 101, 9, 0, 0)}, []api.Errno{api.ErrVolume, api.ErrBox}},
	{"Aliquot", []api.Command{aliquot(10, 11, 101, 1, 0, 0)}, []api.Errno{api.ErrVolume, api.ErrPlace}},
	{"Aliquot", []api.Command{aliquot(10, 11, 1, 9, 4, 4)}, []api.Errno{api.ErrBox, api.ErrPlace}},

	{"Pour", []api.Command{pour(5, 10, 1), pour(10, 60, 1), pour(5, 6, 1)}, []api.Errno{api.ErrTube}},
	{"Pour", []api.Command{pour(20, 10, 1), pour(10, 10, 1)}, []api.Errno{api.ErrOrder}},
	{"Pour", []api.Command{pour(10, 30, 1), pour(10, 40, 1), pour(20, 30, 1)}, []api.Errno{api.ErrStatus}},
	{"Pour", []api.Command{pour(10, 20, 101), pour(10, 50, 1), pour(20, 50, 100), pour(10, 20, 1000000)}, []api.Errno{api.ErrVolume}},
	{"Pour", []api.Command{pour(60, 10, 1), pour(20, 15, 1), pour(60, 60, 1), pour(60, 5, 1)}, []api.Errno{api.ErrTube, api.ErrOrder}},
	{"Pour", []api.Command{pour(5, 30, 1), pour(30, 60, 1), pour(5, 40, 1), pour(40, 60, 1)}, []api.Errno{api.ErrTube, api.ErrStatus}},
	{"Pour", []api.Command{pour(10, 60, 101), pour(5, 50, 1)}, []api.Errno{api.ErrTube, api.ErrVolume}},
	{"Pour", []api.Command{pour(30, 10, 1), pour(40, 30, 1), pour(50, 30, 1), pour(30, 30, 1), pour(40, 40, 1)}, []api.Errno{api.ErrOrder, api.ErrStatus}},
	{"Pour", []api.Command{pour(20, 10, 101), pour(10, 10, 101), pour(50, 50, 1)}, []api.Errno{api.ErrOrder, api.ErrVolume}},
	{"Pour", []api.Command{pour(10, 30, 101), pour(30, 50, 1), pour(30, 50, 51), pour(40, 50, 1)}, []api.Errno{api.ErrStatus, api.ErrVolume}},

	{"Use", []api.Command{use(60, 1)}, []api.Errno{api.ErrTube}},
	{"Use", []api.Command{use(40, 1), use(40, 1000000)}, []api.Errno{api.ErrStatus, api.ErrVolume}},
	{"Use", []api.Command{use(10, 101), use(30, 51), use(10, 1000000)}, []api.Errno{api.ErrVolume}},

	{"Take", []api.Command{take(60)}, []api.Errno{api.ErrTube}},
	{"Take", []api.Command{take(30), take(40)}, []api.Errno{api.ErrStatus}},

	{"Return", []api.Command{giveBack(60, 1, 2, 2)}, []api.Errno{api.ErrTube}},
	{"Return", []api.Command{giveBack(10, 1, 2, 2), giveBack(40, 1, 2, 2)}, []api.Errno{api.ErrStatus}},
	{"Return", []api.Command{giveBack(30, 3, 0, 0), giveBack(30, 9, 0, 0)}, []api.Errno{api.ErrBox}},
	{"Return", []api.Command{giveBack(30, 1, 3, 0), giveBack(30, 1, 0, 3), giveBack(30, 1, 0, 0), giveBack(30, 2, 4, 4)}, []api.Errno{api.ErrPlace}},
	{"Return", []api.Command{giveBack(60, 9, 0, 0)}, []api.Errno{api.ErrTube, api.ErrBox}},
	{"Return", []api.Command{giveBack(60, 1, 0, 0), giveBack(60, 1, 3, 0)}, []api.Errno{api.ErrTube, api.ErrPlace}},
	{"Return", []api.Command{giveBack(10, 9, 0, 0), giveBack(40, 9, 0, 0)}, []api.Errno{api.ErrStatus, api.ErrBox}},
	{"Return", []api.Command{giveBack(10, 1, 0, 0), giveBack(10, 1, 1, 0), giveBack(40, 1, 3, 0)}, []api.Errno{api.ErrStatus, api.ErrPlace}},
	{"Return", []api.Command{giveBack(30, 9, 4, 4)}, []api.Errno{api.ErrBox, api.ErrPlace}},

	{"Withdraw", []api.Command{withdraw(5), withdraw(99)}, []api.Errno{api.ErrDonor}},
	{"Turn", []api.Command{turn(3, 1), turn(9, 3)}, []api.Errno{api.ErrBox}},
	{"Flip", []api.Command{flip(3), flip(9)}, []api.Errno{api.ErrBox}},
	{"Show", []api.Command{show(60), show(999), show(1)}, []api.Errno{api.ErrTube}},
	{"Content", []api.Command{content(3), content(9)}, []api.Errno{api.ErrBox}},
	{"Of", []api.Command{of(5), of(99)}, []api.Errno{api.ErrDonor}},
	{"Up", []api.Command{up(60), up(999)}, []api.Errno{api.ErrTube}},
	{"Down", []api.Command{down(60), down(1)}, []api.Errno{api.ErrTube}},
}

func TestRefusals(t *testing.T) {
	s := scene(t)
	before := s.sight()
	for _, r := range refusals {
		t.Run(r.name, func(t *testing.T) {
			s.t = t
			s.refuse(r.holds[0], r.commands...)
			if s.sight() != before {
				t.Errorf("behind %+v something is changed", r.commands)
			}
		})
	}
}

func TestNewBox(t *testing.T) {
	s := newStore(t, 256)
	for n := 1; n <= 9; n++ {
		s.refuse(api.ErrBox, content(n))
		s.ok(newBox(n, 1+n%5))
		s.want(content(n), api.OK)
		s.refuse(api.ErrBox, newBox(n, 1+n%5), newBox(n, 1))
	}
}

// A box has just the places below its side.
func TestPlacesOfBoxes(t *testing.T) {
	for side := 1; side <= 5; side++ {
		s := newStore(t, 256)
		s.ok(newBox(2, side), newBox(3, 5), register(1, 1, 1, 3, 0, 0), register(2, 1, 9, 3, 1, 0))
		for x := range 5 {
			for y := range 5 {
				tube, e := 10+5*x+y, api.OK
				if x >= side || y >= side {
					e = api.ErrPlace
				}
				s.want(register(tube, 1, 1, 2, x, y), e)
				s.ok(turn(3, 1))
			}
		}
		for x := range 5 {
			for y := range 5 {
				s.refuse(api.ErrPlace, register(99, 1, 1, 2, x, y), move(1, 2, x, y), aliquot(2, 99, 1, 2, x, y))
			}
		}
		s.ok(take(1))
		s.refuse(api.ErrPlace, giveBack(1, 2, side-1, side-1), giveBack(1, 2, 0, min(side, 4)), giveBack(1, 2, min(side, 4), 0))
		s.ok(take(10+6*(side-1)), giveBack(1, 2, side-1, side-1))
		s.want(show(1), api.OK, 1, 1, 1, 0, 0, 1, 1, 2, side-1, side-1)
	}
}

func TestRegister(t *testing.T) {
	s := newStore(t, 256)
	s.ok(newBox(9, 5), register(999, 99, 1000000, 9, 4, 3), register(1, 1, 1, 9, 0, 4))
	s.want(show(999), api.OK, 99, 1000000, 1000000, 0, 0, 1, 0, 9, 4, 3)
	s.want(show(1), api.OK, 1, 1, 1, 0, 0, 1, 0, 9, 0, 4)
	s.want(content(9), api.OK, 1, 0, 4, 999, 4, 3)
	s.want(of(99), api.OK, 999)
	s.want(up(1), api.OK)
	s.want(down(1), api.OK)
}

func TestMove(t *testing.T) {
	s := scene(t)
	s.ok(use(10, 3), move(10, 1, 0, 0))
	s.want(show(10), api.OK, 1, 100, 97, 3, 0, 1, 0, 1, 0, 0)
	s.ok(move(10, 1, 2, 1))
	s.want(show(10), api.OK, 1, 100, 97, 3, 0, 1, 0, 1, 2, 1)
	s.ok(move(20, 1, 0, 0), move(10, 2, 2, 1), move(10, 2, 2, 1))
	s.want(content(1), api.OK, 20, 0, 0)
	s.want(content(2), api.OK, 10, 2, 1, 50, 4, 4)
	s.refuse(api.ErrPlace, move(10, 2, 4, 4), move(50, 2, 2, 1))
	// The same x and y in another box are another place.
	s.ok(move(20, 1, 2, 1))
}

func TestAliquot(t *testing.T) {
	s := scene(t)
	s.ok(use(10, 1))
	s.refuse(api.ErrVolume, aliquot(10, 11, 100, 1, 2, 2))
	s.ok(aliquot(10, 11, 98, 1, 2, 2))
	s.want(show(10), api.OK, 1, 100, 1, 1, 0, 1, 0, 1, 0, 0)
	s.want(show(11), api.OK, 1, 0, 98, 0, 0, 1, 0, 1, 2, 2)
	s.refuse(api.ErrVolume, aliquot(10, 999, 2, 2, 0, 0))
	s.ok(aliquot(10, 999, 1, 2, 0, 0))
	s.want(show(10), api.OK, 1, 100, 0, 1, 0, 1, 0, 1, 0, 0)
	s.refuse(api.ErrVolume, aliquot(10, 12, 1, 2, 1, 1))
	s.want(down(10), api.OK, 11, 999)
	s.want(of(1), api.OK, 10, 11, 30, 999)
	s.ok(aliquot(50, 51, 1000000, 2, 1, 1))
	s.want(show(51), api.OK, 4, 0, 1000000, 0, 0, 1, 0, 2, 1, 1)
}

func TestPour(t *testing.T) {
	s := scene(t)
	s.ok(pour(10, 20, 60))
	s.want(show(10), api.OK, 1, 100, 40, 0, 0, 1, 0, 1, 0, 0)
	s.want(show(20), api.OK, 2, 100, 160, 0, 0, 1, 0, 1, 1, 0)
	s.refuse(api.ErrVolume, pour(10, 20, 41))
	s.ok(pour(10, 20, 40))
	s.want(show(10), api.OK, 1, 100, 0, 0, 0, 1, 0, 1, 0, 0)
	s.want(show(20), api.OK, 2, 100, 200, 0, 0, 1, 0, 1, 1, 0)
	s.refuse(api.ErrVolume, pour(10, 20, 1))
	s.want(down(10), api.OK, 20)
	s.want(up(20), api.OK, 10)
	s.want(of(2), api.OK, 20)
}

// What Other has left may be MaxVolume, and no more.
func TestPourUpToMaxVolume(t *testing.T) {
	s := scene(t)
	s.ok(use(50, 100))
	s.refuse(api.ErrVolume, pour(20, 50, 101))
	s.ok(pour(10, 50, 1), pour(20, 50, 99))
	s.want(show(50), api.OK, 4, 1000000, 1000000, 100, 0, 1, 0, 2, 4, 4)
	s.refuse(api.ErrVolume, pour(10, 50, 1), pour(20, 50, 1))
}

// What was poured from the one into the other may be MaxVolume together, and no more.
func TestPouredUpToMaxVolume(t *testing.T) {
	for _, first := range []api.Command{aliquot(2, 3, 600000, 1, 2, 0), pour(2, 3, 600000)} {
		s := newStore(t, 256)
		s.ok(newBox(1, 5), register(1, 1, 1000000, 1, 0, 0), register(2, 1, 1000000, 1, 1, 0))
		if first.Kind == api.Pour {
			s.ok(register(3, 1, 1, 1, 2, 0))
		}
		s.ok(first, use(3, 600000), pour(1, 2, 500000))
		s.refuse(api.ErrVolume, pour(2, 3, 400001))
		s.ok(pour(2, 3, 399999), pour(2, 3, 1))
		s.refuse(api.ErrVolume, pour(2, 3, 1))
		// Of another pair it is not asked.
		s.ok(pour(1, 3, 100))
		s.ok(take(3), giveBack(3, 1, 2, 0), use(3, 400000))
	}
}

func TestUse(t *testing.T) {
	s := scene(t)
	s.ok(use(10, 99))
	s.refuse(api.ErrVolume, use(10, 2))
	s.ok(use(10, 1))
	s.want(show(10), api.OK, 1, 100, 0, 100, 0, 1, 0, 1, 0, 0)
	s.refuse(api.ErrVolume, use(10, 1))
	s.ok(use(30, 50))
	s.want(show(30), api.OK, 1, 50, 0, 50, 0, 2, 0, 0, 0, 0)
}

// What was used may be MaxVolume, and no more.
func TestUseUpToMaxVolume(t *testing.T) {
	s := scene(t)
	s.ok(use(50, 999950), pour(10, 50, 100), use(50, 49))
	s.refuse(api.ErrVolume, use(50, 2), use(50, 101))
	s.ok(use(50, 1))
	s.want(show(50), api.OK, 4, 1000000, 100, 1000000, 0, 1, 0, 2, 4, 4)
	s.refuse(api.ErrVolume, use(50, 1))
}

func TestTakeAndReturn(t *testing.T) {
	s := scene(t)
	s.ok(take(10))
	s.want(show(10), api.OK, 1, 100, 100, 0, 0, 2, 0, 0, 0, 0)
	s.want(content(1), api.OK, 20, 1, 0)
	s.ok(move(20, 1, 0, 0))
	s.refuse(api.ErrPlace, giveBack(10, 1, 0, 0))
	s.ok(giveBack(10, 2, 0, 0), giveBack(30, 1, 1, 0))
	s.want(show(10), api.OK, 1, 100, 100, 0, 0, 1, 1, 2, 0, 0)
	s.want(show(30), api.OK, 1, 50, 50, 0, 0, 1, 1, 1, 1, 0)
}

func TestThaws(t *testing.T) {
	s := scene(t)
	for thaws := 1; thaws <= 15; thaws++ {
		s.ok(take(10))
		s.want(show(10), api.OK, 1, 100, 100, 0, 0, 2, min(thaws-1, 9), 0, 0, 0)
		s.ok(giveBack(10, 1, 0, 0))
		s.want(show(10), api.OK, 1, 100, 100, 0, 0, 1, min(thaws, 9), 1, 0, 0)
	}
	s.ok(aliquot(10, 11, 1, 1, 1, 1))
	s.want(show(11), api.OK, 1, 0, 1, 0, 0, 1, 0, 1, 1, 1)
}

// layout is where the tubes of a full box are.
type layout map[int][2]int

func (l layout) turned(side int) layout {
	next := layout{}
	for tube, at := range l {
		next[tube] = [2]int{side - 1 - at[1], at[0]}
	}
	return next
}

func (l layout) flipped(side int) layout {
	next := layout{}
	for tube, at := range l {
		next[tube] = [2]int{side - 1 - at[0], at[1]}
	}
	return next
}

func (l layout) content() []int {
	var list []int
	for tube := 1; tube <= len(l); tube++ {
		list = append(list, tube, l[tube][0], l[tube][1])
	}
	return list
}

func TestTurnAndFlip(t *testing.T) {
	for side := 1; side <= 5; side++ {
		s := newStore(t, 256)
		s.ok(newBox(4, side), newBox(5, 4), register(900, 1, 5, 5, 3, 1), register(901, 1, 5, 5, 0, 0), take(901))
		at := layout{}
		for i := range side * side {
			place := (i*7 + 3) % (side * side)
			x, y := place%side, place/side
			at[i+1] = [2]int{x, y}
			s.ok(register(i+1, 1, 5, 4, x, y))
		}
		for _, times := range []int{1, 2, 3, 3, 2, 1} {
			s.ok(turn(4, times))
			for range times {
				at = at.turned(side)
			}
			s.want(content(4), api.OK, at.content()...)
			s.ok(flip(4))
			at = at.flipped(side)
			s.want(content(4), api.OK, at.content()...)
			s.want(show(1), api.OK, 1, 5, 5, 0, 0, 1, 0, 4, at[1][0], at[1][1])
		}
		// What is elsewhere stays, and a place is found again where it came to lie.
		s.want(show(900), api.OK, 1, 5, 5, 0, 0, 1, 0, 5, 3, 1)
		s.want(show(901), api.OK, 1, 5, 5, 0, 0, 2, 0, 0, 0, 0)
		s.refuse(api.ErrPlace, move(900, 4, at[1][0], at[1][1]))
		s.ok(take(1), move(900, 4, at[1][0], at[1][1]))
	}
}

func TestTurnOfAnEmptyBox(t *testing.T) {
	s := newStore(t, 16)
	s.ok(newBox(1, 2), turn(1, 1), flip(1))
	s.want(content(1), api.OK)
}

// chain has tubes of the donors 1 to 5, from each of which something is in the
// next one, and beside them what has nothing to do with them.
func chain(t *testing.T) *store {
	t.Helper()
	s := newStore(t, 256)
	s.ok(newBox(1, 5))
	for i := 1; i <= 5; i++ {
		s.ok(register(10*i, i, 100, 1, i-1, 0))
	}
	s.ok(register(60, 6, 100, 1, 0, 1), register(70, 6, 100, 1, 1, 1), pour(60, 70, 5))
	// What was poured later is as good as what was poured ahead.
	s.ok(pour(40, 50, 5), pour(30, 40, 5), pour(20, 30, 5), pour(10, 20, 5))
	return s
}

func TestUpAndDown(t *testing.T) {
	s := chain(t)
	s.want(down(10), api.OK, 20, 30, 40, 50)
	s.want(down(30), api.OK, 40, 50)
	s.want(down(50), api.OK)
	s.want(up(50), api.OK, 10, 20, 30, 40)
	s.want(up(20), api.OK, 10)
	s.want(up(10), api.OK)
	s.want(up(70), api.OK, 60)
	s.want(down(60), api.OK, 70)
	// By several ways, and each of them once.
	s.ok(aliquot(10, 45, 2, 1, 3, 3), pour(45, 50, 1), pour(10, 30, 1), pour(45, 70, 1), aliquot(70, 999, 1, 1, 4, 3))
	s.want(down(10), api.OK, 20, 30, 40, 45, 50, 70, 999)
	s.want(up(50), api.OK, 10, 20, 30, 40, 45)
	s.want(up(999), api.OK, 10, 45, 60, 70)
	s.want(up(70), api.OK, 10, 45, 60)
	s.want(down(60), api.OK, 70, 999)
	s.want(down(20), api.OK, 30, 40, 50)
	// What is Out or Destroyed still came from where it came.
	s.ok(take(30))
	s.want(withdraw(2), api.OK, 4)
	s.want(up(50), api.OK, 10, 20, 30, 40, 45)
	s.want(down(20), api.OK, 30, 40, 50)
}

func TestWithdrawThroughSeveralSteps(t *testing.T) {
	s := chain(t)
	s.ok(use(30, 7), take(40), take(70))
	s.want(withdraw(2), api.OK, 4)
	s.want(show(10), api.OK, 1, 100, 95, 0, 0, 1, 0, 1, 0, 0)
	s.want(show(20), api.OK, 2, 100, 0, 0, 100, 3, 0, 0, 0, 0)
	s.want(show(30), api.OK, 3, 100, 0, 7, 93, 3, 0, 0, 0, 0)
	s.want(show(40), api.OK, 4, 100, 0, 0, 100, 3, 0, 0, 0, 0)
	s.want(show(50), api.OK, 5, 100, 0, 0, 105, 3, 0, 0, 0, 0)
	s.want(show(60), api.OK, 6, 100, 95, 0, 0, 1, 0, 1, 0, 1)
	s.want(show(70), api.OK, 6, 100, 105, 0, 0, 2, 0, 0, 0, 0)
	s.want(content(1), api.OK, 10, 0, 0, 60, 0, 1)
	// A second time, and of those who gave what was destroyed with it.
	for _, donor := range []int{2, 3, 4, 5} {
		s.want(withdraw(donor), api.OK, 0)
	}
	s.want(show(30), api.OK, 3, 100, 0, 7, 93, 3, 0, 0, 0, 0)
	s.want(withdraw(1), api.OK, 1)
	s.want(show(10), api.OK, 1, 100, 0, 0, 95, 3, 0, 0, 0, 0)
	s.want(of(2), api.OK, 20)
	s.refuse(api.ErrStatus, use(50, 1), take(40), move(20, 1, 4, 4), giveBack(40, 1, 4, 4), pour(10, 60, 1), aliquot(20, 21, 1, 1, 4, 4))
	// The places are free, and the donor may give again.
	s.ok(register(21, 2, 8, 1, 1, 0))
	s.want(withdraw(2), api.OK, 1)
	s.want(withdraw(6), api.OK, 2)
}

func TestWithdrawOfWhatIsEmpty(t *testing.T) {
	s := newStore(t, 256)
	s.ok(newBox(1, 2), register(1, 1, 10, 1, 0, 0), register(2, 2, 10, 1, 1, 0), pour(1, 2, 10), use(2, 20))
	s.want(withdraw(1), api.OK, 2)
	s.want(show(1), api.OK, 1, 10, 0, 0, 0, 3, 0, 0, 0, 0)
	s.want(show(2), api.OK, 2, 10, 0, 20, 0, 3, 0, 0, 0, 0)
}

func TestWithdrawOfOneInTheMiddle(t *testing.T) {
	s := chain(t)
	s.want(withdraw(5), api.OK, 1)
	s.want(withdraw(4), api.OK, 1)
	s.want(withdraw(1), api.OK, 3)
}

func TestOfAndContentByRisingNumbers(t *testing.T) {
	s := newStore(t, 256)
	s.ok(newBox(1, 5), newBox(2, 5))
	for i, tube := range []int{500, 7, 999, 1, 256, 255, 42} {
		s.ok(register(tube, 1+i%2, 10, 1+i%2, i%5, i/5))
	}
	s.ok(aliquot(42, 300, 1, 1, 4, 4))
	s.want(of(1), api.OK, 42, 256, 300, 500, 999)
	s.want(of(2), api.OK, 1, 7, 255)
	s.want(content(1), api.OK, 42, 1, 1, 256, 4, 0, 300, 4, 4, 500, 0, 0, 999, 2, 0)
	s.want(content(2), api.OK, 1, 3, 0, 7, 1, 0, 255, 0, 1)
}
