// Package disk keeps a text on a disk that may lose its power: the text that was
// kept last stays whole until the next one is.
package disk

import (
	"slices"
	"strings"

	"firn/api"
)

// Disk has two halves, which are written in turns: in each of them a head, and a text
// behind it. So what was kept last is never touched by what is to be kept next.
type Disk struct {
	sectors int
	turn    uint64
}

const halves = 2

// flush is what a write has instead of a sector's number, if it is one.
const flush = -1

// Find tells what was kept last in an image. It tells false, if it is none, or
// has no text that was kept.
func Find(image string) (Disk, string, bool) {
	d := Disk{sectors: len(image) / api.Sector}
	if len(image)%api.Sector != 0 || d.sectors < api.MinSectors || d.sectors > api.MaxSectors {
		return Disk{}, "", false
	}
	half := d.newest(image)
	h, isHead := readHead(image[d.first(half)*api.Sector:][:api.Sector])
	if !isHead || h.turn%halves != half || h.length > d.room() {
		return Disk{}, "", false
	}
	text := image[(d.first(half)+1)*api.Sector:][:h.length]
	if sumOf(text) != h.sum {
		return Disk{}, "", false
	}
	d.turn = h.turn
	return d, text, true
}

// newest is the half that was kept last. The marks of both alone tell it: so nothing
// that lies in the other half is asked, however it came there, and nothing that is
// written there is, until its head has lasted to the last byte.
func (d Disk) newest(image string) uint64 {
	if d.mark(image, 1) == d.mark(image, 0)+1 {
		return 1
	}
	return 0
}

// mark is the last byte of a half's head: the lowest one of its turn.
func (d Disk) mark(image string, half uint64) byte {
	return image[(d.first(half)+1)*api.Sector-1]
}

// first is the sector of the head of a turn.
func (d Disk) first(turn uint64) int { return int(turn%halves) * (d.sectors / halves) }

// room is how many bytes a text may have: those of a half, less its head.
func (d Disk) room() uint64 { return uint64(d.sectors/halves-1) * api.Sector }

// Keep tells what is to be written for a text to be the one that is kept. There must
// be room for it, and it must have lasted ahead of the head that tells of it.
func (d *Disk) Keep(text string) []api.Write {
	d.turn++
	first := d.first(d.turn)
	var writes []api.Write
	for piece := range slices.Chunk([]byte(text), api.Sector) {
		data := string(piece) + strings.Repeat("\x00", api.Sector-len(piece))
		writes = append(writes, api.Write{Sector: first + 1 + len(writes), Data: data})
	}
	h := head{turn: d.turn, length: uint64(len(text)), sum: sumOf(text)}
	return append(writes,
		api.Write{Sector: flush}, api.Write{Sector: first, Data: h.text()}, api.Write{Sector: flush})
}
