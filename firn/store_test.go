package firn_test

import (
	"fmt"
	"slices"
	"strings"
	"testing"

	"firn/api"
	"firn/firn"
)

// store is a ledger, and the disk on which all is written that it asks for.
type store struct {
	t      *testing.T
	ledger *firn.Ledger
	image  []byte
}

// newStore has an empty disk of so many sectors.
func newStore(t *testing.T, sectors int) *store {
	t.Helper()
	return openStore(t, make([]byte, sectors*api.Sector))
}

// openStore has a disk with this image.
func openStore(t *testing.T, image []byte) *store {
	t.Helper()
	s := &store{t: t, image: slices.Clone(image)}
	s.open()
	return s
}

// open finds the ledger again on its disk.
func (s *store) open() {
	s.t.Helper()
	ledger, writes, e := firn.Open(string(s.image))
	if e != api.OK || ledger == nil {
		s.t.Fatalf("Open of a disk of %d sectors: %d", len(s.image)/api.Sector, e)
	}
	s.ledger = ledger
	s.write(writes)
}

// write holds writes against the document's words, and makes them.
func (s *store) write(writes []api.Write) {
	s.t.Helper()
	for _, w := range writes {
		if w.Sector == -1 && w.Data == "" {
			continue
		}
		if w.Sector < 0 || w.Sector >= len(s.image)/api.Sector || len(w.Data) != api.Sector {
			s.t.Fatalf("a write of sector %d with %d bytes", w.Sector, len(w.Data))
		}
		copy(s.image[w.Sector*api.Sector:], w.Data)
	}
	if len(writes) > 0 && writes[len(writes)-1].Sector != -1 {
		s.t.Fatalf("writes without a flush at the end")
	}
}

// do tells what a command is answered.
func (s *store) do(c api.Command) (api.Errno, []int) {
	s.t.Helper()
	frame, e := firn.Encode(c)
	if e != api.OK {
		s.t.Fatalf("%+v is no command", c)
	}
	text, writes := s.ledger.Do(frame)
	numbers, told, is := firn.Numbers(text)
	if is != api.OK {
		s.t.Fatalf("%+v: %q is no reply", c, text)
	}
	if told != api.OK && len(numbers) > 0 {
		s.t.Fatalf("%+v: the error %d has numbers: %d", c, told, numbers)
	}
	if (told != api.OK || c.Kind >= api.Show) && len(writes) > 0 {
		s.t.Fatalf("%+v: what changes nothing writes %d times", c, len(writes))
	}
	s.write(writes)
	return told, numbers
}

func (s *store) want(c api.Command, e api.Errno, numbers ...int) {
	s.t.Helper()
	told, got := s.do(c)
	if told != e || !slices.Equal(got, numbers) {
		s.t.Errorf("%+v: %d, %d, want %d, %d", c, told, got, e, numbers)
	}
}

func (s *store) ok(commands ...api.Command) {
	s.t.Helper()
	for _, c := range commands {
		s.want(c, api.OK)
	}
}

func (s *store) refuse(e api.Errno, commands ...api.Command) {
	s.t.Helper()
	for _, c := range commands {
		s.want(c, e)
	}
}

// sight is all that the kinds that change nothing tell.
func (s *store) sight() string {
	s.t.Helper()
	var b strings.Builder
	tell := func(c api.Command) api.Errno {
		e, numbers := s.do(c)
		if e == api.OK {
			fmt.Fprintln(&b, c.Kind, c.Tube, c.Box, c.Donor, numbers)
		}
		return e
	}
	for n := 1; n <= api.MaxTube; n++ {
		if tell(show(n)) == api.OK {
			tell(up(n))
			tell(down(n))
		}
	}
	for n := 1; n <= api.MaxBox; n++ {
		tell(content(n))
	}
	for n := 1; n <= api.MaxDonor; n++ {
		tell(of(n))
	}
	return b.String()
}

func newBox(box, side int) api.Command { return api.Command{Kind: api.NewBox, Box: box, N: side} }

func register(tube, donor, volume, box, x, y int) api.Command {
	return api.Command{Kind: api.Register, Tube: tube, Donor: donor, Volume: volume, Box: box, X: x, Y: y}
}

func move(tube, box, x, y int) api.Command {
	return api.Command{Kind: api.Move, Tube: tube, Box: box, X: x, Y: y}
}

func aliquot(tube, other, volume, box, x, y int) api.Command {
	return api.Command{Kind: api.Aliquot, Tube: tube, Other: other, Volume: volume, Box: box, X: x, Y: y}
}

func pour(tube, other, volume int) api.Command {
	return api.Command{Kind: api.Pour, Tube: tube, Other: other, Volume: volume}
}

func use(tube, volume int) api.Command {
	return api.Command{Kind: api.Use, Tube: tube, Volume: volume}
}

func take(tube int) api.Command { return api.Command{Kind: api.Take, Tube: tube} }

func giveBack(tube, box, x, y int) api.Command {
	return api.Command{Kind: api.Return, Tube: tube, Box: box, X: x, Y: y}
}

func withdraw(donor int) api.Command { return api.Command{Kind: api.Withdraw, Donor: donor} }

func turn(box, times int) api.Command { return api.Command{Kind: api.Turn, Box: box, N: times} }

func flip(box int) api.Command { return api.Command{Kind: api.Flip, Box: box} }

func show(tube int) api.Command { return api.Command{Kind: api.Show, Tube: tube} }

func content(box int) api.Command { return api.Command{Kind: api.Content, Box: box} }

func of(donor int) api.Command { return api.Command{Kind: api.Of, Donor: donor} }

func up(tube int) api.Command { return api.Command{Kind: api.Up, Tube: tube} }

func down(tube int) api.Command { return api.Command{Kind: api.Down, Tube: tube} }
