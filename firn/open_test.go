package firn_test

import (
	"strings"
	"testing"

	"firn/api"
	"firn/firn"
)

func wantNoImage(t *testing.T, image string) {
	t.Helper()
	ledger, writes, e := firn.Open(image)
	if ledger != nil || len(writes) != 0 || e != api.ErrImage {
		t.Errorf("Open of %d bytes: %v, %d writes, %d, want ErrImage and nothing else", len(image), ledger != nil, len(writes), e)
	}
}

func zeros(count int) string { return strings.Repeat("\x00", count) }

func TestWhatIsNoImage(t *testing.T) {
	for _, count := range []int{
		0, 1, 127, 128, 129, 15 * 128, 15*128 + 127, 16*128 - 1, 16*128 + 1, 16*128 + 64, 17*128 - 1,
		255*128 + 1, 256*128 - 1, 256*128 + 1, 256*128 + 127, 257 * 128, 512 * 128, 100000 * 128,
	} {
		wantNoImage(t, zeros(count))
		wantNoImage(t, strings.Repeat("\xff", count))
	}
}

func TestEmptyImages(t *testing.T) {
	for sectors := api.MinSectors; sectors <= api.MaxSectors; sectors++ {
		s := newStore(t, sectors)
		s.refuse(api.ErrTube, show(1), up(1), down(1), show(999))
		s.refuse(api.ErrBox, content(1), content(9))
		s.refuse(api.ErrDonor, of(1), of(99))
		s.ok(newBox(1, 5), register(1, 1, 1, 1, 4, 4))
	}
}

// What nobody wrote may be refused, or be some ledger, but it does not panic.
func TestOtherImages(t *testing.T) {
	for _, sectors := range []int{16, 17, 256} {
		for at := 0; at < sectors*api.Sector; at += 61 {
			for _, b := range []byte{1, 0x80, 0xff} {
				image := []byte(zeros(sectors * api.Sector))
				image[at] = b
				ledger, writes, e := firn.Open(string(image))
				switch {
				case e == api.ErrImage && ledger == nil && len(writes) == 0:
				case e == api.OK && ledger != nil:
					s := &store{t: t, ledger: ledger, image: image}
					s.write(writes)
					s.do(newBox(1, 1))
				default:
					t.Errorf("Open with %d at %d of %d sectors: %v, %d writes, %d", b, at, sectors, ledger != nil, len(writes), e)
				}
			}
		}
	}
}
