package cut

import (
	"slices"

	"watershed/api"
	"watershed/rot"
)

// parting is a plane net with each vertex on one of two sides: in, or not.
type parting struct {
	net api.Net
	in  []bool
}

// part tells the parting of n by in, which may lack some vertices and have too many; false: n is no plane net.
func part(n api.Net, in []bool) (parting, bool) {
	if rot.Check(n) != api.OK {
		return parting{}, false
	}
	p := parting{n, make([]bool, n.N)}
	copy(p.in, in)
	return p, true
}

// crosses tells whether d leads out of in.
func (p parting) crosses(d int) bool {
	return p.in[p.net.Tail[d]] && !p.in[rot.Head(p.net, d)]
}

// sum tells what the darts that cross hold together.
func (p parting) sum() int {
	sum := 0
	for d, most := range p.net.Cap {
		if p.crosses(d) {
			sum += most
		}
	}
	return sum
}

// side tells the vertices of in, or the others.
func (p parting) side(in bool) []int {
	var l []int
	for v, is := range p.in {
		if is == in {
			l = append(l, v)
		}
	}
	return l
}

// piece tells which vertices of a side hang together by themselves with the one at a place of it.
func (p parting) piece(side []int, at int) []int {
	// begun with no room behind it: what is found is not to be written over the side, which is asked till the end
	found := side[at : at+1 : at+1]
	for i := 0; i < len(found); i++ {
		for d, v := range p.net.Tail {
			w := rot.Head(p.net, d)
			if v == found[i] && slices.Contains(side, w) && !slices.Contains(found, w) {
				found = append(found, w)
			}
		}
	}
	return found
}

// whole tells whether the vertices of in, or the others, are some, and hang together by themselves.
func (p parting) whole(in bool) bool {
	side := p.side(in)
	return len(side) > 0 && len(p.piece(side, 0)) == len(side)
}

// round tells the darts that cross, the least first, behind each the one of the face on its far side. Both sides are whole: so there is one in each face that has any, and the way comes round to the first.
func (p parting) round() []int {
	first := 0
	for !p.crosses(first) {
		first++
	}
	round := []int{first}
faces:
	for last := first; ; last = round[len(round)-1] {
		for _, d := range rot.Face(p.net, other(last)) {
			switch {
			case d == first:
				break faces
			case p.crosses(d):
				round = append(round, d)
				continue faces
			}
		}
	}
	return round
}

// other tells the dart of the same edge that leads back.
func other(d int) int {
	return d ^ 1
}
