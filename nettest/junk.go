package nettest

import (
	"math"

	"watershed/api"
)

// Wild throws a number, often one that is out of all bounds.
func (d *Dice) Wild() int {
	return []int{math.MinInt, -1, 0, 1, 2, 3, 61, math.MaxInt}[d.Of(8)]
}

// Wilds throws a few of them, or none.
func (d *Dice) Wilds() []int {
	var l []int
	for range d.Of(5) {
		l = append(l, d.Wild())
	}
	return l
}

// Junk throws what is hardly ever a net.
func (d *Dice) Junk() api.Net {
	return api.Net{N: d.Wild(), Tail: d.Wilds(), Next: d.Wilds(), Cap: d.Wilds()}
}
