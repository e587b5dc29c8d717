package disk

import (
	"strings"

	"firn/api"
)

// head tells of the text behind it. That of an empty text in turn 0 is all zeros,
// as is an empty disk.
type head struct {
	turn, length, sum uint64
}

// text ends with the turn. Since a sector is written from its first byte on, the last
// one stays that of a turn of earlier, until all of it has lasted.
func (h head) text() string {
	ahead := numberText(h.turn) + numberText(h.length) + numberText(h.sum)
	behind := numberText(h.turn)
	return ahead + strings.Repeat("\x00", api.Sector-len(ahead)-len(behind)) + behind
}

// readHead tells whether a sector is the text of a head, and of which one.
func readHead(sector string) (head, bool) {
	h := head{turn: readNumber(sector), length: readNumber(sector[numberSize:]), sum: readNumber(sector[2*numberSize:])}
	if h.text() != sector {
		return head{}, false
	}
	return h, true
}

// sumOf differs, if one byte does. That of an empty text is 0.
func sumOf(text string) uint64 {
	const factor = 1<<40 + 0x1b3
	sum := uint64(0)
	for _, b := range []byte(text) {
		sum = (sum + uint64(b) + 1) * factor
	}
	return sum
}

const numberSize = 8

func numberText(n uint64) string {
	var text [numberSize]byte
	for i := range text {
		text[i] = byte(n >> (8 * (numberSize - 1 - i)))
	}
	return string(text[:])
}

func readNumber(text string) uint64 {
	n := uint64(0)
	for _, b := range []byte(text[:numberSize]) {
		n = n<<8 | uint64(b)
	}
	return n
}
