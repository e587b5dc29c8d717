package books

import (
	"testing"

	"firn/api"
)

func TestTubeText(t *testing.T) {
	for _, record := range []tube{
		{},
		{donor: 1, status: api.Stored, box: 2, place: placeAt(3, 4), began: 5, left: 6, used: 7, lost: 8, thaws: 9},
		{donor: api.MaxDonor, status: api.Destroyed, thaws: api.MaxThaws, box: api.MaxBox, place: placeAt(4, 4),
			began: api.MaxVolume, left: api.MaxVolume, used: api.MaxVolume, lost: api.MaxVolume},
		{began: 0x010203, left: 0x040506, used: 0x070809, lost: 0x0a0b0c},
		{began: 255, left: 256, used: 65535, lost: 65536},
	} {
		if got := readTube(record.text()); got != record {
			t.Errorf("%+v came back as %+v", record, got)
		}
	}
}

func TestVolumeText(t *testing.T) {
	for n := 0; n <= api.MaxVolume; n += 1 + n%97 {
		if got := readVolume(volumeText(n)); got != n {
			t.Errorf("%d came back as %d", n, got)
		}
	}
	if got := readVolume(volumeText(api.MaxVolume)); got != api.MaxVolume {
		t.Errorf("MaxVolume came back as %d", got)
	}
}

func TestKeysStandApart(t *testing.T) {
	seen := map[uint32]bool{}
	add := func(key uint32) {
		if seen[key] {
			t.Fatalf("the key %d is there twice", key)
		}
		seen[key] = true
	}
	for n := 1; n <= api.MaxTube; n++ {
		add(tubeKey(n))
		for to := n + 1; to <= api.MaxTube; to++ {
			add(pourKey(n, to))
		}
	}
	for n := 1; n <= api.MaxBox; n++ {
		add(boxKey(n))
	}
}
