package books

import (
	"testing"

	"firn/api"
)

func TestTurnedAndFlipped(t *testing.T) {
	for side := 1; side <= api.MaxSide; side++ {
		for x := range side {
			for y := range side {
				p := placeAt(x, y)
				wantPlace(t, "turned", p.turned(side), side-1-y, x)
				wantPlace(t, "flipped", p.flipped(side), side-1-x, y)
				if p.turned(side).turned(side).turned(side).turned(side) != p {
					t.Errorf("%d, %d of side %d: four turns are not none", x, y, side)
				}
				if p.flipped(side).flipped(side) != p {
					t.Errorf("%d, %d of side %d: two flips are not none", x, y, side)
				}
			}
		}
	}
}

func wantPlace(t *testing.T, what string, got place, x, y int) {
	t.Helper()
	// It must be the same place, too, when it is held against one by ==.
	if got.x() != x || got.y() != y || got != placeAt(x, y) {
		t.Errorf("%s: %v, want %d, %d", what, got, x, y)
	}
}

func TestIsIn(t *testing.T) {
	for side := range api.MaxSide + 1 {
		for x := range api.MaxSide {
			for y := range api.MaxSide {
				if got, want := placeAt(x, y).isIn(side), x < side && y < side; got != want {
					t.Errorf("%d, %d in a box of side %d: %v", x, y, side, got)
				}
			}
		}
	}
}
