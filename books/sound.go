package books

import "firn/api"

// isSound tells whether the document lets books have such records: whatever lies
// on a disk, no command is to find what it does not count on.
func (t *transaction) isSound() bool {
	return t.boxesAreSound() && t.pairsAreSound() && t.tubesAreSound()
}

func (t *transaction) boxesAreSound() bool {
	for _, text := range t.Range(boxKey(1), boxKey(api.MaxBox)) {
		if !isFrom(1, int(text[0]), api.MaxSide) {
			return false
		}
	}
	return true
}

func (t *transaction) pairsAreSound() bool {
	for from, to := range t.pairs() {
		_, fromIsThere := t.tube(from)
		_, toIsThere := t.tube(to)
		if !fromIsThere || !toIsThere || !isFrom(1, t.poured(from, to), api.MaxVolume) {
			return false
		}
	}
	return true
}

func (t *transaction) tubesAreSound() bool {
	gains := t.gains()
	for number, record := range t.tubes() {
		if !record.isSound() || record.status == api.Stored && !t.hasOwnPlace(number, record) {
			return false
		}
		if record.began+gains[number] != record.left+record.used+record.lost {
			return false
		}
	}
	return true
}

// gains are of each tube what was poured into it, less what was poured out of it.
func (t *transaction) gains() [api.MaxTube + 1]int {
	var gains [api.MaxTube + 1]int
	for from, to := range t.pairs() {
		volume := t.poured(from, to)
		gains[from] -= volume
		gains[to] += volume
	}
	return gains
}

// hasOwnPlace tells whether a Stored tube is where it may be, and no other one is there.
func (t *transaction) hasOwnPlace(number int, record tube) bool {
	return record.isIn(t.side(record.box)) && t.occupant(record.box, record.place) == number
}

// isSound tells whether a tube may have these numbers, whatever others there are.
func (t tube) isSound() bool {
	if !isFrom(1, t.donor, api.MaxDonor) || t.thaws > api.MaxThaws || max(t.began, t.left, t.used, t.lost) > api.MaxVolume {
		return false
	}
	isNowhere := t.box == 0 && t.place == 0
	switch t.status {
	case api.Stored:
		return t.lost == 0
	case api.Out:
		return t.lost == 0 && isNowhere
	case api.Destroyed:
		return t.left == 0 && isNowhere
	}
	return false
}
