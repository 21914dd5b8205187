package nettest

import (
	"math"
	"slices"

	"watershed/api"
)

// Wild throws a number, often one that is out of all bounds.
func (d *Dice) Wild() int {
	return []int{math.MinInt, -1, 0, 1, 2, 3, 61, math.MaxInt}[d.Of(8)]
}

// Wilds throws a few of them, or none.
func (d *Dice) Wilds() []int {
	var l []int
	for range d.Of(5) {
		l = append(l, d.Wild())
	}
	return l
}

// Junk throws what is hardly ever a net.
func (d *Dice) Junk() api.Net {
	return api.Net{N: d.Wild(), Tail: d.Wilds(), Next: d.Wilds(), Cap: d.Wilds()}
}

// Spoil puts a wild number into the place of one of n's, which has some.
func (d *Dice) Spoil(n api.Net) {
	list := [][]int{n.Tail, n.Next, n.Cap}[d.Of(3)]
	list[d.Of(len(list))] = d.Wild()
}

// NoPlane tells some of which 0 and 1 are vertices, but which are no plane nets.
func NoPlane() []api.Net {
	return []api.Net{{N: 2}, {N: 61}, Line(61), {N: math.MaxInt}, {N: 2, Tail: []int{0, 1}, Next: []int{1, 0}, Cap: []int{1, 1}}}
}

// Beyond tells some that have more vertices and more edges than a net may have, or of which a dart holds what none may.
func Beyond() []api.Net {
	l := []api.Net{{N: math.MaxInt}, Line(1000), Bundle(make([]int, 1000)...)}
	for _, most := range []int{math.MaxInt, math.MinInt, -1, api.MaxCap + 1} {
		l = append(l, Bundle(slices.Repeat([]int{most}, api.MaxEdges)...))
	}
	return l
}
