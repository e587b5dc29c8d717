package books

import (
	"iter"

	"firn/api"
	"firn/tree"
)

// transaction is what a command sees, and what it changes. Nobody else sees that
// until the books take over its tree; to drop it is to undo it.
type transaction struct {
	tree.Tree
}

// numberBits is how many bits api.MaxTube has.
const numberBits = 10

// The keys of boxes, tubes and what was poured stand apart, each by rising numbers.
const (
	boxKeys = (iota + 1) << (2 * numberBits)
	tubeKeys
	pourKeys
)

func boxKey(number int) uint32 { return boxKeys | uint32(number) }

func tubeKey(number int) uint32 { return tubeKeys | uint32(number) }

func pourKey(from, to int) uint32 { return pourKeys | uint32(from)<<numberBits | uint32(to) }

// numbersIn is pourKey backwards; a box's and a tube's key has its number as the second one.
func numbersIn(key uint32) (int, int) {
	const mask = 1<<numberBits - 1
	return int(key >> numberBits & mask), int(key & mask)
}

// side tells 0, if there is no such box.
func (t *transaction) side(box int) int {
	text, isThere := t.Get(boxKey(box))
	if !isThere {
		return 0
	}
	return int(text[0])
}

func (t *transaction) setSide(box, side int) {
	t.Put(boxKey(box), string([]byte{byte(side)}))
}

// tube tells an empty record, if there is no such tube.
func (t *transaction) tube(number int) (tube, bool) {
	text, isThere := t.Get(tubeKey(number))
	if !isThere {
		return tube{}, false
	}
	return readTube(text), true
}

func (t *transaction) setTube(number int, record tube) {
	t.Put(tubeKey(number), record.text())
}

// change does something to a tube that is there.
func (t *transaction) change(number int, how func(*tube)) {
	record, _ := t.tube(number)
	how(&record)
	t.setTube(number, record)
}

// tubes are those that there are as it is called, by rising numbers.
func (t *transaction) tubes() iter.Seq2[int, tube] {
	all := t.Range(tubeKey(1), tubeKey(api.MaxTube))
	return func(yield func(int, tube) bool) {
		for key, text := range all {
			if !yield(int(key-tubeKeys), readTube(text)) {
				return
			}
		}
	}
}

// in are the tubes in a box.
func (t *transaction) in(box int) iter.Seq2[int, tube] {
	all := t.tubes()
	return func(yield func(int, tube) bool) {
		for number, record := range all {
			if record.box == box && !yield(number, record) {
				return
			}
		}
	}
}

// occupant is the tube in a place; 0, if there is none.
func (t *transaction) occupant(box int, p place) int {
	for number, record := range t.in(box) {
		if record.place == p {
			return number
		}
	}
	return 0
}

// poured tells what was poured from the one into the other.
func (t *transaction) poured(from, to int) int {
	text, isThere := t.Get(pourKey(from, to))
	if !isThere {
		return 0
	}
	return readVolume(text)
}

func (t *transaction) setPoured(from, to, volume int) {
	t.Put(pourKey(from, to), volumeText(volume))
}

// pairs are those of which one was poured into the other, by rising numbers of
// the one, then of the other.
func (t *transaction) pairs() iter.Seq2[int, int] {
	all := t.Range(pourKey(1, 1), pourKey(api.MaxTube, api.MaxTube))
	return func(yield func(int, int) bool) {
		for key := range all {
			if !yield(numbersIn(key)) {
				return
			}
		}
	}
}
