package disk

import (
	"math"
	"math/rand"
	"slices"
	"strings"
	"testing"

	"firn/api"
)

// empty is the image of a disk on which nothing was ever written.
func empty(sectors int) []byte { return make([]byte, sectors*api.Sector) }

// anyText has so many bytes, none of which is like all others.
func anyText(r *rand.Rand, length int) string {
	text := make([]byte, length)
	r.Read(text)
	return string(text)
}

// made is an image on which the writes were made.
func made(t *testing.T, image []byte, writes []api.Write) []byte {
	t.Helper()
	image = slices.Clone(image)
	for _, w := range writes {
		if w.Sector == -1 && w.Data == "" {
			continue
		}
		if w.Sector < 0 || w.Sector >= len(image)/api.Sector || len(w.Data) != api.Sector {
			t.Fatalf("a write of sector %d with %d bytes", w.Sector, len(w.Data))
		}
		copy(image[w.Sector*api.Sector:], w.Data)
	}
	if len(writes) == 0 || writes[len(writes)-1].Sector != -1 {
		t.Fatalf("writes without a flush at the end")
	}
	return image
}

// wantFound asks that an image has the text.
func wantFound(t *testing.T, image []byte, want string) Disk {
	t.Helper()
	d, text, isThere := Find(string(image))
	if !isThere || text != want {
		t.Fatalf("found %v, %.20q.. of %d bytes, want %.20q.. of %d", isThere, text, len(text), want, len(want))
	}
	return d
}

func wantNone(t *testing.T, image []byte) {
	t.Helper()
	if d, text, isThere := Find(string(image)); d != (Disk{}) || text != "" || isThere {
		t.Fatalf("found %+v, %q, %v, want nothing", d, text, isThere)
	}
}

func TestEmptyDisk(t *testing.T) {
	for sectors := api.MinSectors; sectors <= api.MaxSectors; sectors++ {
		wantFound(t, empty(sectors), "")
	}
	for _, length := range []int{0, 1, api.Sector, 15 * api.Sector, 16*api.Sector - 1, 16*api.Sector + 1, 256*api.Sector + 1, 257 * api.Sector} {
		wantNone(t, make([]byte, length))
	}
}

func TestKeptIsFound(t *testing.T) {
	r := rand.New(rand.NewSource(1))
	for _, sectors := range []int{16, 17, 18, 31, 128, 255, 256} {
		image := empty(sectors)
		d := wantFound(t, image, "")
		room := (sectors/2 - 1) * api.Sector
		for _, length := range []int{1, 0, 127, 128, 129, 5, 256, 300, room - 1, room, 1, room, room - 128, 0, 0, 2} {
			text := anyText(r, length)
			image = made(t, image, d.Keep(text))
			if again := wantFound(t, image, text); again != d {
				t.Fatalf("%+v is found as %+v", d, again)
			}
		}
	}
}

func TestZerosAreText(t *testing.T) {
	image := empty(16)
	d := wantFound(t, image, "")
	for _, length := range []int{1, 2, 128, 0, 3} {
		image = made(t, image, d.Keep(string(make([]byte, length))))
		wantFound(t, image, string(make([]byte, length)))
	}
}

// losses are the images that may be left, if the power is lost in these writes, each
// of them torn at a few places.
func losses(image []byte, writes []api.Write) [][]byte {
	var left [][]byte
	lasted := slices.Clone(image)
	var behind []api.Write
	for _, w := range writes {
		if w.Sector == -1 {
			for _, b := range behind {
				copy(lasted[b.Sector*api.Sector:], b.Data)
			}
			behind = nil
			continue
		}
		behind = append(behind, w)
		for which := range 1 << len(behind) {
			left = append(left, torn(lasted, behind, which)...)
		}
	}
	return append(left, lasted)
}

// torn are the images of which those of the writes have lasted that are told, and
// of one of them just some first bytes.
func torn(image []byte, writes []api.Write, which int) [][]byte {
	var left [][]byte
	for part := -1; part < len(writes); part++ {
		for _, first := range []int{0, 1, 7, 8, 9, 16, 24, 64, 119, 120, 121, 126, 127} {
			one := slices.Clone(image)
			for i, w := range writes {
				data := w.Data
				if i == part {
					data = data[:first]
				}
				if which>>i&1 == 1 {
					copy(one[w.Sector*api.Sector:], data)
				}
			}
			left = append(left, one)
		}
	}
	return left
}

// Whatever is left, it is the text of earlier or the one that was to be kept, and
// it goes on so from there.
func TestLoss(t *testing.T) {
	r := rand.New(rand.NewSource(2))
	for _, sectors := range []int{16, 17, 64} {
		image, old := empty(sectors), ""
		for range 150 {
			d := wantFound(t, image, old)
			text := anyText(r, r.Intn(3*api.Sector))
			left := losses(image, d.Keep(text))
			for _, one := range left {
				if _, found, isThere := Find(string(one)); !isThere || found != old && found != text {
					t.Fatalf("found %v, %.20q, want %.20q or %.20q", isThere, found, old, text)
				}
			}
			wantFound(t, left[len(left)-1], text)
			image = left[r.Intn(len(left))]
			_, old, _ = Find(string(image))
		}
	}
}

// A turn that has more bytes than the one ahead of it may be torn in the midst of them.
func TestLossAsTurnsGrow(t *testing.T) {
	for _, turn := range []uint64{0xfe, 0xff, 0xfffe, 0xffff, 1<<32 - 2, 1<<32 - 1, math.MaxUint64 - 1, math.MaxUint64} {
		d := Disk{sectors: 16, turn: turn - 2}
		image := made(t, empty(16), d.Keep("eldest"))
		image = made(t, image, d.Keep("old"))
		writes := d.Keep("new")
		data := writes[len(writes)-2].Data
		for first := range data {
			one := made(t, image, writes[:2])
			copy(one[writes[len(writes)-2].Sector*api.Sector:], data[:first])
			wantFound(t, one, "old")
		}
		wantFound(t, made(t, image, writes), "new")
	}
}

// tornHead is the image on which all of these writes were made, but of the head just
// some first bytes.
func tornHead(image []byte, writes []api.Write, first int) []byte {
	image = slices.Clone(image)
	head := writes[len(writes)-2]
	for _, w := range writes[:len(writes)-2] {
		if w.Sector != -1 {
			copy(image[w.Sector*api.Sector:], w.Data)
		}
	}
	copy(image[head.Sector*api.Sector:], head.Data[:first])
	return image
}

// A head is torn, and so is the next one, which comes to lie on what is left of it.
func TestLossBehindLossAsTurnsGrow(t *testing.T) {
	for _, turn := range []uint64{2, 3, 0xff, 0x100, 0x101, 0x10000, 0x10001, 1 << 32, 0, 1} {
		d := Disk{sectors: 16, turn: turn - 3}
		image := made(t, empty(16), d.Keep("eldest"))
		image = made(t, image, d.Keep("old"))
		writes := d.Keep(strings.Repeat("new", 50))
		for first := range api.Sector {
			one := tornHead(image, writes, first)
			found := wantFound(t, one, "old")
			others := found.Keep("other")
			for second := range api.Sector {
				wantFound(t, tornHead(one, others, second), "old")
			}
			wantFound(t, made(t, one, others), "other")
		}
	}
}

func TestTurnsGoRound(t *testing.T) {
	d := Disk{sectors: 16, turn: math.MaxUint64 - 5}
	image := made(t, empty(16), d.Keep("first"))
	image = made(t, image, d.Keep("second"))
	for _, text := range strings.Split("abcdefgh", "") {
		image = made(t, image, d.Keep(text))
		wantFound(t, image, text)
	}
}

// What was kept is not found, if a bit of it is another one; nor is it with another
// head. Just the last byte of a head tells which half it is.
func TestSpoilt(t *testing.T) {
	r := rand.New(rand.NewSource(3))
	text := anyText(r, 200)
	d := Disk{sectors: 16}
	image := made(t, empty(16), d.Keep("old"))
	image = made(t, image, d.Keep(text))
	image = made(t, image, d.Keep(text+"new"))
	half := d.first(d.turn) * api.Sector
	for at := range len(image) * 8 {
		image[at/8] ^= 1 << (at % 8)
		switch at := at / 8; {
		case at == half+api.Sector-1: // as if the head had been torn
			wantFound(t, image, text)
		case at == api.Sector-1:
			wantNone(t, image)
		case at >= half && at < half+api.Sector+len(text)+3:
			wantNone(t, image)
		default:
			wantFound(t, image, text+"new")
		}
		image[at/8] ^= 1 << (at % 8)
	}
}

// wantEachLoss asks, if there is a text, that it or the next one is found wherever the
// next one's head is torn, and tells whether there is.
func wantEachLoss(t *testing.T, image []byte) bool {
	t.Helper()
	d, old, isThere := Find(string(image))
	if !isThere {
		return false
	}
	writes := d.Keep("new")
	for first := range api.Sector {
		_, text, isThere := Find(string(tornHead(image, writes, first)))
		if !isThere || text != old && text != "new" {
			t.Fatalf("a head torn behind %d bytes: found %v, %q, want %q", first, isThere, text, old)
		}
	}
	wantFound(t, made(t, image, writes), "new")
	return true
}

// turnsToTry are those at which a number of the turn comes to have more bytes, and others.
func turnsToTry() []uint64 {
	return []uint64{0, 1, 2, 3, 0xfe, 0xff, 0x100, 0x101, 0xffff, 0x10000, 1<<56 - 1, 1 << 56, math.MaxUint64 - 1, math.MaxUint64}
}

// Whatever lies in the half that is written next, the text of earlier is not lost.
func TestLossOverAnything(t *testing.T) {
	r := rand.New(rand.NewSource(5))
	for _, turn := range turnsToTry() {
		d := Disk{sectors: 16, turn: turn - 1}
		image := made(t, empty(16), d.Keep("old"))
		other := image[d.first(turn+1)*api.Sector:][:8*api.Sector]
		found := 0
		for last := range 256 {
			r.Read(other)
			other[api.Sector-1] = byte(last)
			if wantEachLoss(t, image) {
				found++
			}
		}
		if want := 255 - 254*int(turn%2); found != want {
			t.Errorf("turn %d: found %d times, want %d", turn, found, want)
		}
	}
}

// The same, where parts of a head lie there, of whichever turn and text.
func TestLossOverPartsOfHeads(t *testing.T) {
	texts := []head{{}, {length: 3}, {length: 3, sum: sumOf("new")}, {length: 5000, sum: 7}, {length: 5, sum: 7}, {length: math.MaxUint64, sum: math.MaxUint64}}
	found := 0
	for _, turn := range turnsToTry() {
		for _, ahead := range []uint64{1, 3, 257, 1<<56 + 1} {
			for _, h := range texts {
				for _, h.turn = range []uint64{turn + ahead, turn - ahead} {
					found += loseOverHead(t, turn, h)
				}
			}
		}
	}
	if found < 3000 {
		t.Errorf("just %d times was there anything to lose", found)
	}
}

// loseOverHead lays a head over the half that is written next, with other bytes ahead
// of each of some places, and tells how often there was a text.
func loseOverHead(t *testing.T, turn uint64, h head) int {
	t.Helper()
	found := 0
	d := Disk{sectors: 16, turn: turn - 2}
	image := made(t, empty(16), d.Keep("eldest"))
	image = made(t, image, d.Keep("old"))
	other := image[d.first(turn+1)*api.Sector:][:api.Sector]
	eldest := string(other)
	for _, from := range []int{0, 1, 8, 16, 120, 127} {
		for _, ahead := range []string{eldest, strings.Repeat("\x01", api.Sector)} {
			copy(other, ahead[:from]+h.text()[from:])
			if wantEachLoss(t, image) {
				found++
			}
		}
	}
	return found
}

// A head may tell of more than there is room for, or of the other half's turn.
func TestOtherHeads(t *testing.T) {
	for _, h := range []head{
		{turn: 2, length: 7*api.Sector + 1}, {turn: 2, length: 1 << 20}, {turn: 2, length: 1 << 63}, {turn: 2, length: math.MaxUint64},
		{turn: 1}, {turn: 3}, {turn: math.MaxUint64}, {turn: 2, sum: 1}, {turn: 2, length: 1}, {turn: 0, length: 1},
	} {
		image := empty(16)
		copy(image, h.text())
		wantNone(t, image)
	}
}

func TestAnyBytes(t *testing.T) {
	r := rand.New(rand.NewSource(4))
	for range 2000 {
		wantNone(t, []byte(anyText(r, (16+r.Intn(241))*api.Sector)))
	}
}

// The writes are as they came out, whatever is kept later.
func TestWritesStay(t *testing.T) {
	d := Disk{sectors: 16}
	first := d.Keep(strings.Repeat("a", 300))
	then := slices.Clone(first)
	for range 5 {
		d.Keep(strings.Repeat("b", 400))
	}
	if !slices.Equal(first, then) {
		t.Errorf("writes of earlier have changed")
	}
}
