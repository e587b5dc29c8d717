package books

import (
	"slices"

	"firn/api"
)

// group tells of each tube whether it belongs to it.
type group [api.MaxTube + 1]bool

func (g *group) add(numbers ...int) {
	for _, n := range numbers {
		g[n] = true
	}
}

// numbers are the tubes of the group, by rising numbers.
func (g *group) numbers() []int {
	var list []int
	for n, belongs := range g {
		if belongs {
			list = append(list, n)
		}
	}
	return list
}

// of are a donor's tubes.
func (t *transaction) of(donor int) []int {
	var list []int
	for number, record := range t.tubes() {
		if record.donor == donor {
			list = append(list, number)
		}
	}
	return list
}

// addBelow adds all into which anything was poured from the group, however many
// steps there are between. Since it goes from lesser numbers to greater ones, all
// that a tube has got is known ahead of what it gave.
func (t *transaction) addBelow(g *group) {
	for from, to := range t.pairs() {
		if g[from] {
			g.add(to)
		}
	}
}

// addAbove adds all from which anything was poured into the group: for that the
// pairs are gone through backwards.
func (t *transaction) addAbove(g *group) {
	var pairs [][2]int
	for from, to := range t.pairs() {
		pairs = append(pairs, [2]int{from, to})
	}
	for _, pair := range slices.Backward(pairs) {
		if g[pair[1]] {
			g.add(pair[0])
		}
	}
}

// kin are all that a tube leads to by one of these ways, without itself.
func kin(number int, spread func(*group)) []int {
	var g group
	g.add(number)
	spread(&g)
	g[number] = false
	return g.numbers()
}
