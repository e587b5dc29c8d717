package books

// place is one of a box: x is its real part, y its imaginary one, so that a turn
// of the box is a product.
type place complex128

func placeAt(x, y int) place { return place(complex(float64(x), float64(y))) }

func (p place) x() int { return int(real(p)) }

func (p place) y() int { return int(imag(p)) }

// isIn tells whether a box of this side has the place.
func (p place) isIn(side int) bool { return p.x() < side && p.y() < side }

// middle may lie between the places.
func middle(side int) place {
	half := float64(side-1) / 2
	return place(complex(half, half))
}

// turned is where a place comes to lie when its box is turned once.
func (p place) turned(side int) place {
	m := middle(side)
	return (p-m)*1i + m
}

// flipped is where a place comes to lie when its box is flipped. The conjugate has
// its y on the other side of the middle, and half a turn brings that back, but x over.
func (p place) flipped(side int) place {
	m := middle(side)
	fromMiddle := p - m
	conjugate := place(complex(real(fromMiddle), -imag(fromMiddle)))
	return conjugate*1i*1i + m
}
