package books

import "firn/api"

// tube is a tube's record. Box and place are 0, if it is not Stored.
type tube struct {
	place
	box                     int
	donor, status, thaws    int
	began, left, used, lost int
}

// store lays the tube into a place.
func (t *tube) store(box int, p place) {
	t.status, t.box, t.place = api.Stored, box, p
}

// leave makes the tube's place free.
func (t *tube) leave(status int) {
	t.status, t.box, t.place = status, 0, 0
}

// numbers are what Show tells.
func (t tube) numbers() []int {
	return []int{t.donor, t.began, t.left, t.used, t.lost, t.status, t.thaws, t.box, t.x(), t.y()}
}

// tubeSize is how many bytes a tube's text has, sideSize that of a box.
const (
	tubeSize = 6 + 4*volumeSize
	sideSize = 1
)

// text is the record as it lies in the tree: the numbers that have a byte each,
// then the volumes.
func (t tube) text() string {
	text := []byte{byte(t.donor), byte(t.status), byte(t.thaws), byte(t.box), byte(t.x()), byte(t.y())}
	for _, volume := range [...]int{t.began, t.left, t.used, t.lost} {
		text = append(text, volumeText(volume)...)
	}
	return string(text)
}

// readTube is text backwards.
func readTube(text string) tube {
	volumes := text[6:]
	return tube{
		donor: int(text[0]), status: int(text[1]), thaws: int(text[2]),
		box: int(text[3]), place: placeAt(int(text[4]), int(text[5])),
		began: readVolume(volumes), left: readVolume(volumes[volumeSize:]),
		used: readVolume(volumes[2*volumeSize:]), lost: readVolume(volumes[3*volumeSize:]),
	}
}

// volumeSize is how many bytes api.MaxVolume has.
const volumeSize = 3

func volumeText(n int) string { return string([]byte{byte(n >> 16), byte(n >> 8), byte(n)}) }

func readVolume(text string) int { return int(text[0])<<16 | int(text[1])<<8 | int(text[2]) }
