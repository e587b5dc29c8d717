package firn_test

import (
	"math/rand"
	"slices"
	"strconv"
	"testing"

	"firn/api"
	"firn/firn"
)

// step does a command in both, and holds the answers against one another. On a disk
// that may be full what the program answers counts.
func step(s *store, m model, c api.Command) (api.Errno, []int) {
	s.t.Helper()
	e, numbers := s.do(c)
	want := m.check(c)
	if want != api.OK {
		if e != want {
			s.t.Fatalf("%+v: %d, want %d", c, e, want)
		}
		return e, nil
	}
	behind := m.clone()
	answer := behind.change(c)
	if e == api.ErrFull && c.Kind < api.Show && behind.size() > len(s.image)/api.Sector/8 {
		return e, nil
	}
	if e != api.OK || !slices.Equal(numbers, answer) {
		s.t.Fatalf("%+v: %d, %d, want OK, %d", c, e, numbers, answer)
	}
	m.change(c)
	return e, numbers
}

// some are few enough numbers for much to happen among them.
var some = []int{1, 2, 3, 4, 5, 6, 7, 8, 9, 10, 31, 32, 33, 63, 64, 127, 128, 255, 256, 257, 510, 511, 512, 513, 997, 998, 999}

// plays are the disks and the seeds to play with.
func plays(t *testing.T, play func(t *testing.T, s *store, p player)) {
	for _, sectors := range []int{16, 17, 23, 24, 40, 63, 64, 128, 200, 255, 256} {
		for seed := range int64(12) {
			t.Run(strconv.Itoa(sectors)+"/"+strconv.FormatInt(seed, 10), func(t *testing.T) {
				t.Parallel()
				p := player{r: rand.New(rand.NewSource(seed)), names: some[2*seed:], boxes: 1 + int(seed)%3}
				play(t, newStore(t, sectors), p)
			})
		}
	}
}

// P4: whatever is played, the answers are those of the document's table.
func TestPlay(t *testing.T) {
	plays(t, func(t *testing.T, s *store, p player) {
		m := newModel()
		for range 800 {
			step(s, m, p.command(m))
		}
		wantModel(s, m)
	})
}

// wantModel asks for all that the model has.
func wantModel(s *store, m model) {
	s.t.Helper()
	for n := 1; n <= api.MaxTube; n++ {
		step(s, m, show(n))
		step(s, m, up(n))
		step(s, m, down(n))
	}
	for n := 1; n <= api.MaxBox; n++ {
		step(s, m, content(n))
	}
	for n := 1; n <= api.MaxDonor; n++ {
		step(s, m, of(n))
	}
}

// account is what the commands that were done poured, by their own words.
type account struct {
	s       *store
	in, out map[int]int
}

func (a account) note(c api.Command) {
	if c.Kind == api.Aliquot || c.Kind == api.Pour {
		a.out[c.Tube] += c.Volume
		a.in[c.Other] += c.Volume
		if c.Tube >= c.Other {
			a.s.t.Fatalf("%+v: from a greater number to a lesser one", c)
		}
	}
}

// tubes is what Show tells of all tubes that there are.
func (a account) tubes() map[int][]int {
	all := map[int][]int{}
	for donor := 1; donor <= 6; donor++ {
		_, numbers := a.s.do(of(donor))
		for _, number := range numbers {
			_, all[number] = a.s.do(show(number))
		}
	}
	return all
}

// wantBalance holds P8's first sentence.
func (a account) wantBalance(tubes map[int][]int) {
	a.s.t.Helper()
	for number, n := range tubes {
		began, left, used, lost := n[1], n[2], n[3], n[4]
		if began+a.in[number] != left+used+lost+a.out[number] {
			a.s.t.Fatalf("tube %d: began %d and got %d, left %d, used %d, lost %d, gave %d", number, began, a.in[number], left, used, lost, a.out[number])
		}
	}
}

// wantOwnPlaces holds P8's second sentence.
func (a account) wantOwnPlaces(tubes map[int][]int) {
	a.s.t.Helper()
	seen := map[[3]int]int{}
	for number, n := range tubes {
		at := [3]int{n[7], n[8], n[9]}
		if n[5] != api.Stored {
			if at != [3]int{} {
				a.s.t.Fatalf("tube %d is not Stored, but is at %d", number, at)
			}
			continue
		}
		if seen[at] != 0 {
			a.s.t.Fatalf("tubes %d and %d are both at %d", seen[at], number, at)
		}
		seen[at] = number
	}
}

// wantOrder holds P8's third sentence.
func (a account) wantOrder(tubes map[int][]int) {
	a.s.t.Helper()
	for number := range tubes {
		_, above := a.s.do(up(number))
		_, below := a.s.do(down(number))
		all := slices.Concat(above, []int{number}, below)
		if !slices.IsSorted(all) || len(slices.Compact(slices.Clone(all))) != len(all) {
			a.s.t.Fatalf("tube %d: up are %d, down are %d", number, above, below)
		}
	}
}

// wantGone holds P8's fourth sentence.
func (a account) wantGone(donor int, tubes map[int][]int) {
	a.s.t.Helper()
	_, all := a.s.do(of(donor))
	for _, number := range slices.Clone(all) {
		_, below := a.s.do(down(number))
		all = append(all, below...)
	}
	for _, number := range all {
		if tubes[number][2] != 0 || tubes[number][5] != api.Destroyed {
			a.s.t.Fatalf("behind a Withdraw of %d tube %d is %d", donor, number, tubes[number])
		}
	}
}

// P8: its four sentences hold behind whatever is played.
func TestWhatFollows(t *testing.T) {
	plays(t, func(t *testing.T, s *store, p player) {
		m := newModel()
		a := account{s: s, in: map[int]int{}, out: map[int]int{}}
		for i := range 600 {
			c := p.command(m)
			e, _ := s.do(c)
			if e == api.OK {
				m.change(c)
				a.note(c)
			}
			if i%20 != 0 && c.Kind != api.Withdraw {
				continue
			}
			tubes := a.tubes()
			a.wantBalance(tubes)
			a.wantOwnPlaces(tubes)
			a.wantOrder(tubes)
			if c.Kind == api.Withdraw && e == api.OK {
				a.wantGone(c.Donor, tubes)
			}
		}
	})
}

// P1, P4: whatever bytes come, there is a reply, and ErrFrame just of what is no frame.
func TestAnyBytes(t *testing.T) {
	r := rand.New(rand.NewSource(3))
	s := scene(t)
	for range 50000 {
		frame := []byte(shapes[r.Intn(len(shapes))].frame(0, uint32(1+r.Intn(60))))
		for range r.Intn(4) {
			frame[r.Intn(len(frame))] = byte(r.Intn(20))
		}
		text, writes := s.ledger.Do(string(frame))
		s.write(writes)
		_, told, is := firn.Numbers(text)
		_, e := firn.Decode(string(frame))
		if is != api.OK || (told == api.ErrFrame) != (e == api.ErrFrame) {
			t.Fatalf("Do(%q) = %q", frame, text)
		}
		if told != api.OK && len(writes) > 0 {
			t.Fatalf("Do(%q) = %q, and writes %d times", frame, text, len(writes))
		}
	}
}
