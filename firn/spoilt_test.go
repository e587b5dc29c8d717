package firn_test

import (
	"math/rand"
	"slices"
	"strings"
	"testing"

	"firn/api"
	"firn/books"
	"firn/disk"
	"firn/firn"
)

// every is some commands of each kind.
func every() []api.Command {
	var list []api.Command
	for _, n := range []int{1, 2, 3, 9} {
		list = append(list, newBox(n, 2), turn(n, 1), flip(n), content(n))
	}
	for _, n := range []int{10, 20, 30, 40, 50, 51, 999} {
		list = append(list, show(n), up(n), down(n), register(n, 1, 5, 1, 1, 1), move(n, 2, 3, 3), pour(10, n, 1), use(n, 1), take(n), giveBack(n, 1, 2, 1), aliquot(n, n-1, 1, 1, 1, 2), show(n))
	}
	for _, n := range []int{1, 2, 4, 99} {
		list = append(list, of(n), withdraw(n))
	}
	return list
}

// wantSome asks for ErrImage, or for some ledger that goes on with each kind, and
// that is found again as it stood.
func wantSome(t *testing.T, image []byte) {
	t.Helper()
	ledger, writes, e := firn.Open(string(image))
	if e == api.ErrImage && ledger == nil && len(writes) == 0 {
		return
	}
	if e != api.OK || ledger == nil {
		t.Fatalf("Open of what is spoilt: %v, %d writes, %d", ledger != nil, len(writes), e)
	}
	s := &store{t: t, ledger: ledger, image: slices.Clone(image)}
	s.write(writes)
	for _, c := range every() {
		s.do(c)
	}
	again := openStore(t, s.image)
	for _, c := range every() {
		e, numbers := s.do(c)
		if againE, againNumbers := again.do(c); e != againE || !slices.Equal(numbers, againNumbers) {
			t.Fatalf("%+v: %d, %d, found again %d, %d", c, e, numbers, againE, againNumbers)
		}
	}
}

// written is the image of a disk with a bit of everything on it, in both of its halves.
func written(t *testing.T) []byte {
	t.Helper()
	s := newStore(t, 88)
	s.ok(newBox(1, 3), newBox(2, 5), register(10, 1, 100, 1, 0, 0), register(20, 2, 100, 1, 1, 0), register(30, 1, 50, 1, 2, 2), register(40, 3, 70, 2, 0, 0), take(30))
	s.want(withdraw(3), api.OK, 1)
	s.ok(pour(10, 20, 5), aliquot(20, 50, 3, 2, 1, 1), use(10, 1), giveBack(30, 1, 0, 1))
	return s.image
}

// spoil is each image that has one other byte, of those that a ledger may look at;
// of sectors without anything it is one byte.
func spoil(image []byte, try func([]byte)) {
	for at, old := range image {
		if at%api.Sector > 0 && strings.Trim(string(image[at/api.Sector*api.Sector:][:api.Sector]), "\x00") == "" {
			continue
		}
		for _, b := range []byte{0, 0xff, old + 1, old ^ 1, old ^ 2, old ^ 4, old ^ 8, old ^ 0x10, old ^ 0x20, old ^ 0x40, old ^ 0x80} {
			spoilt := slices.Clone(image)
			spoilt[at] = b
			try(spoilt)
		}
	}
}

func TestSpoiltBitsAndBytes(t *testing.T) {
	t.Parallel()
	for _, image := range [][]byte{written(t), make([]byte, 16*api.Sector)} {
		spoil(image, func(spoilt []byte) { wantSome(t, spoilt) })
	}
}

func TestSpoiltSectors(t *testing.T) {
	t.Parallel()
	r := rand.New(rand.NewSource(1))
	image := written(t)
	sectors := len(image) / api.Sector
	for at := range sectors {
		sector := func(i int) []byte { return image[i*api.Sector:][:api.Sector] }
		anything := make([]byte, api.Sector)
		r.Read(anything)
		for _, other := range [][]byte{make([]byte, api.Sector), slices.Repeat([]byte{0xff}, api.Sector), anything, sector(r.Intn(sectors)), sector(0), sector(sectors / 2), sector(1), sector(sectors/2 + 1)} {
			spoilt := slices.Clone(image)
			copy(spoilt[at*api.Sector:], other)
			wantSome(t, spoilt)
		}
	}
}

func TestSpoiltMuch(t *testing.T) {
	t.Parallel()
	r := rand.New(rand.NewSource(2))
	image := written(t)
	for range 2000 {
		spoilt := slices.Clone(image)
		for range 1 + r.Intn(6) {
			at := r.Intn(len(spoilt))
			if r.Intn(2) == 0 { // where something is written
				at = r.Intn(5*api.Sector) + r.Intn(2)*len(spoilt)/2
			}
			spoilt[at] ^= 1 << r.Intn(8)
		}
		wantSome(t, spoilt)
	}
}

// A worse disk leaves what no loss of power does: of a sector the last bytes, or just
// those in the midst of it; and what is behind a flush without what is ahead of it.
func TestWorseLosses(t *testing.T) {
	t.Parallel()
	r := rand.New(rand.NewSource(5))
	s := openStore(t, written(t))
	for _, c := range []api.Command{use(10, 1), newBox(3, 1), withdraw(1)} {
		u := begin(s, c, nil)
		for range 1000 {
			left := slices.Clone(s.image)
			for _, w := range chosen(u.writes, func(int) bool { return r.Intn(2) == 0 }) {
				from, to := r.Intn(api.Sector), r.Intn(api.Sector+1)
				if w.Sector != -1 && from < to {
					copy(left[w.Sector*api.Sector+from:], w.Data[from:to])
				}
			}
			wantSome(t, left)
		}
		s.write(u.writes)
	}
}

// Sectors of several times lie beside one another.
func TestSectorsOfSeveralTimes(t *testing.T) {
	t.Parallel()
	r := rand.New(rand.NewSource(6))
	s := openStore(t, written(t))
	times := [][]byte{make([]byte, len(s.image)), slices.Clone(s.image)}
	for _, c := range []api.Command{use(10, 1), newBox(3, 1), turn(1, 1), pour(10, 20, 1), take(10), withdraw(1)} {
		s.do(c)
		times = append(times, slices.Clone(s.image))
	}
	for range 3000 {
		var mixed []byte
		for at := 0; at < len(s.image); at += api.Sector {
			mixed = append(mixed, times[r.Intn(len(times))][at:at+api.Sector]...)
		}
		wantSome(t, mixed)
	}
}

func TestAnyImage(t *testing.T) {
	r := rand.New(rand.NewSource(3))
	for range 500 {
		image := make([]byte, (api.MinSectors+r.Intn(241))*api.Sector)
		r.Read(image)
		for r.Intn(3) == 0 {
			clear(image[r.Intn(len(image)):])
		}
		wantSome(t, image)
	}
}

// An image with its sectors cut off, or with more of them, is another disk's.
func TestOtherLengths(t *testing.T) {
	image := written(t)
	for sectors := api.MinSectors; sectors < len(image)/api.Sector; sectors++ {
		wantSome(t, image[:sectors*api.Sector])
		wantSome(t, image[len(image)-sectors*api.Sector:])
	}
	small := newStore(t, 16)
	small.ok(newBox(1, 3), register(10, 1, 5, 1, 0, 0))
	for sectors := api.MinSectors; sectors <= api.MaxSectors; sectors++ {
		longer := make([]byte, sectors*api.Sector)
		copy(longer, small.image)
		wantSome(t, longer)
	}
}

// Whatever text is kept as a ledger's, with all that tells that it is whole.
func TestSpoiltTexts(t *testing.T) {
	t.Parallel()
	r := rand.New(rand.NewSource(4))
	_, text, _ := disk.Find(string(written(t)))
	v, commands := glance([]int{10, 20, 30, 40, 50}, 3, 3), every()
	found := 0
	for range 5000 {
		spoilt := []byte(text)
		for range 1 + r.Intn(3) {
			spoilt[r.Intn(len(spoilt))] = byte(r.Intn(256) & -r.Intn(2) & 15)
		}
		if r.Intn(4) == 0 {
			spoilt = spoilt[:r.Intn(len(spoilt))]
		}
		d, _, _ := disk.Find(zeros(api.MaxSectors * api.Sector))
		s := &store{t: t, image: []byte(zeros(api.MaxSectors * api.Sector))}
		s.write(d.Keep(string(spoilt)))
		wantSome(t, s.image)
		if _, isOne := books.Read(string(spoilt), api.MaxSectors); isOne {
			found++
			wantStands(t, r, s.image, v, commands[r.Intn(len(commands))])
		}
	}
	if found == 0 {
		t.Errorf("none of the texts was some ledger's")
	}
}

// More than N / 8 may lie on no disk.
func TestTooMuchOnADisk(t *testing.T) {
	s := newStore(t, api.MaxSectors)
	s.ok(newBox(1, 1), newBox(2, 1), newBox(3, 1))
	_, text, _ := disk.Find(string(s.image))
	for sectors, want := range map[int]api.Errno{16: api.ErrImage, 23: api.ErrImage, 24: api.OK, 256: api.OK} {
		d, _, _ := disk.Find(zeros(sectors * api.Sector))
		other := &store{t: t, image: []byte(zeros(sectors * api.Sector))}
		other.write(d.Keep(text))
		if _, _, e := firn.Open(string(other.image)); e != want {
			t.Errorf("three boxes on %d sectors: %d, want %d", sectors, e, want)
		}
	}
}
