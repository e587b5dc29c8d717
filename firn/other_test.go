package firn_test

import (
	"math/rand"
	"slices"
	"strconv"
	"testing"

	"firn/api"
	"firn/firn"
)

// wantStands asks for ErrImage; or for a ledger that stands every loss in its writes,
// and in those of the commands, one behind the other. It tells how many of these
// answered writes.
func wantStands(t *testing.T, r *rand.Rand, image []byte, v view, commands ...api.Command) int {
	t.Helper()
	if ledger, writes, e := firn.Open(string(image)); e == api.ErrImage && ledger == nil && len(writes) == 0 {
		return 0
	}
	wantLossInOpen(t, r, image, v)
	s := openStore(t, image)
	written := 0
	for _, c := range commands {
		u := begin(s, c, v)
		u.wantAll(s, r)
		written += min(len(u.writes), 1)
		if len(u.writes) > 0 && r.Intn(3) == 0 {
			s.image = lose(r, s.image, u.writes)
			s.open()
			continue
		}
		s.write(u.writes)
	}
	return written
}

// past is a disk at several times, and all the sectors that were written on it, or
// would be by other commands.
type past struct {
	times   [][]byte
	sectors []int
	pieces  []string
}

// see adds what writes are about to the past.
func (p *past) see(writes []api.Write) {
	for _, w := range writes {
		if w.Sector == -1 {
			continue
		}
		p.pieces = append(p.pieces, w.Data)
		if !slices.Contains(p.sectors, w.Sector) {
			p.sectors = append(p.sectors, w.Sector)
		}
	}
}

// smallPast is that of a disk of 16 sectors or a few more, with so many commands ahead.
func smallPast(t *testing.T, r *rand.Rand, sectors, ahead int) past {
	t.Helper()
	p := past{pieces: []string{zeros(api.Sector), string(slices.Repeat([]byte{0xff}, api.Sector))}}
	s := newStore(t, sectors)
	if ahead > 0 {
		s.ok(newBox(7, 2), register(511, 1, 1000000, 7, 0, 1))
	}
	for range ahead {
		s.ok(use(511, 1))
	}
	for range 8 {
		p.times = append(p.times, slices.Clone(s.image))
		for range 3 {
			p.see(begin(openStore(t, s.image), drawSmall(r), nil).writes)
		}
		s.do(drawSmall(r))
	}
	return p
}

// somewhere is a place in the sectors that the program writes.
func (p past) somewhere(r *rand.Rand) int {
	return p.sectors[r.Intn(len(p.sectors))] * api.Sector
}

// mixed is the disk at one of its times, with parts of other sectors laid over it,
// whichever they are.
func (p past) mixed(r *rand.Rand) []byte {
	image := slices.Clone(p.times[r.Intn(len(p.times))])
	for range 1 + r.Intn(2) {
		from, to := r.Intn(api.Sector), api.Sector
		switch r.Intn(4) {
		case 0:
			from, to = 0, from
		case 1:
			from = r.Intn(4) * 8
		case 2:
			to = from + r.Intn(api.Sector-from)
		}
		copy(image[p.somewhere(r)+from:], p.pieces[r.Intn(len(p.pieces))][from:to])
	}
	for range r.Intn(3) {
		image[p.somewhere(r)+r.Intn(api.Sector)] ^= 1 << r.Intn(8)
	}
	return image
}

// P7: whatever was laid over a disk, a ledger that is found there stands every loss.
func TestLossOnMixedDisks(t *testing.T) {
	for _, ahead := range []int{0, 1, 2, 3, 249, 250, 251, 252} {
		t.Run(strconv.Itoa(ahead), func(t *testing.T) {
			t.Parallel()
			r := rand.New(rand.NewSource(int64(ahead)))
			p := smallPast(t, r, 16+ahead%2, ahead)
			written := 0
			for range 800 {
				written += wantStands(t, r, p.mixed(r), smallView(), drawSmall(r), drawSmall(r))
			}
			if written < 200 {
				t.Errorf("just %d commands had anything to lose", written)
			}
		})
	}
}

// P7: the same with numbers of 8 bytes, here and there in the sectors of a disk.
func TestLossAmongOtherNumbers(t *testing.T) {
	numbers := []uint64{0, 1, 2, 3, 4, 5, 7, 254, 255, 256, 257, 5000, 1 << 56, 1<<56 + 1, 1<<56 + 2, 1<<63 + 3, 1<<64 - 1}
	for seed := range int64(4) {
		t.Run(strconv.FormatInt(seed, 10), func(t *testing.T) {
			t.Parallel()
			r := rand.New(rand.NewSource(seed))
			p := smallPast(t, r, 16, int(seed%2)*251)
			written := 0
			for range 1500 {
				image := slices.Clone(p.times[r.Intn(len(p.times))])
				if seed < 2 {
					image = make([]byte, len(image))
				}
				for range 1 + r.Intn(6) {
					at := p.somewhere(r) + []int{0, 8, 16, 112, 120}[r.Intn(5)]
					lay(image[at:], numbers[r.Intn(len(numbers))])
				}
				written += wantStands(t, r, image, smallView(), newBox(2, 3), drawSmall(r))
			}
			if written < 200 {
				t.Errorf("just %d commands had anything to lose", written)
			}
		})
	}
}

// lay writes a number, the high byte first.
func lay(bytes []byte, n uint64) {
	for i := range 8 {
		bytes[i] = byte(n >> (56 - 8*i))
	}
}

// P7: the same where one byte is another, be it any of those that the program wrote.
func TestLossWhereAByteIsAnother(t *testing.T) {
	for _, ahead := range []int{0, 1, 2, 251} {
		t.Run(strconv.Itoa(ahead), func(t *testing.T) {
			t.Parallel()
			r := rand.New(rand.NewSource(int64(ahead)))
			p := smallPast(t, r, 16, ahead)
			image := p.times[r.Intn(len(p.times))]
			for _, sector := range p.sectors {
				for at := sector * api.Sector; at < (sector+1)*api.Sector; at++ {
					for _, b := range []byte{0, 1, 0xff, image[at] + 1, image[at] + 2, image[at] - 1} {
						other := slices.Clone(image)
						other[at] = b
						wantStands(t, r, other, smallView(), drawSmall(r))
					}
				}
			}
		})
	}
}

// P7: the same with any bytes in the sectors that a command is about to write, and in
// those that it leaves alone.
func TestLossOverAnything(t *testing.T) {
	for _, sectors := range []int{16, 17, 64, 256} {
		t.Run(strconv.Itoa(sectors), func(t *testing.T) {
			t.Parallel()
			r := rand.New(rand.NewSource(int64(sectors)))
			s := newStore(t, sectors)
			written := 0
			for range 100 {
				c := drawSmall(r)
				u := begin(openStore(t, s.image), c, nil)
				for range 4 {
					written += wantStands(t, r, anythingIn(r, s.image, u.writes), smallView(), c)
				}
				s.write(u.writes)
				s.open()
			}
			if written < 100 {
				t.Errorf("just %d commands had anything to lose", written)
			}
		})
	}
}

// anythingIn lays any bytes over the sectors that are to be written, but for some of
// the last ones of each; or over any sector at all.
func anythingIn(r *rand.Rand, image []byte, writes []api.Write) []byte {
	image = slices.Clone(image)
	for _, w := range writes {
		if w.Sector != -1 {
			r.Read(image[w.Sector*api.Sector:][:api.Sector-r.Intn(5)])
		}
	}
	if r.Intn(3) == 0 {
		r.Read(image[r.Intn(len(image)/api.Sector)*api.Sector:][:api.Sector])
	}
	return image
}
