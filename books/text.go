package books

import (
	"math"
	"strings"

	"firn/api"
)

// keySize is how many bytes a key has ahead of its record.
const keySize = 4

// Text is all that the books have: each key and its record, by rising keys.
func (b *Books) Text() string {
	var text strings.Builder
	for key, record := range b.tree.Range(0, math.MaxUint32) {
		text.Write([]byte{byte(key >> 24), byte(key >> 16), byte(key >> 8), byte(key)})
		text.WriteString(record)
	}
	return text.String()
}

// Read finds the books of a text, which are to take limit boxes, tubes and pairs of
// which one was poured into the other, together. It tells false, if there are none.
func Read(text string, limit int) (Books, bool) {
	t, isWhole := readRecords(text)
	if !isWhole || t.Len() > limit || !t.isSound() {
		return Books{}, false
	}
	return Books{tree: t.Tree, limit: limit}, true
}

// readRecords tells whether each key is one, and each record as long as it must be.
func readRecords(text string) (transaction, bool) {
	var t transaction
	for text != "" {
		if len(text) < keySize {
			return transaction{}, false
		}
		key := readKey(text)
		text = text[keySize:]
		size := recordSize(key)
		if size == 0 || len(text) < size {
			return transaction{}, false
		}
		// The text may be a piece of a greater one, which is not to be kept with it.
		t.Put(key, strings.Clone(text[:size]))
		text = text[size:]
	}
	return t, true
}

func readKey(text string) uint32 {
	return uint32(text[0])<<24 | uint32(text[1])<<16 | uint32(text[2])<<8 | uint32(text[3])
}

// recordSize is how long the record of a key is; 0, if there may be no such key.
func recordSize(key uint32) int {
	from, to := numbersIn(key)
	switch {
	case key == boxKey(to) && isFrom(1, to, api.MaxBox):
		return sideSize
	case key == tubeKey(to) && isFrom(1, to, api.MaxTube):
		return tubeSize
	case key == pourKey(from, to) && isFrom(1, from, to-1) && to <= api.MaxTube:
		return volumeSize
	}
	return 0
}

func isFrom(least, n, greatest int) bool { return least <= n && n <= greatest }
