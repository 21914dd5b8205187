package nettest

import (
	"slices"

	"watershed/api"
)

// none stands for no dart.
const none = -1

// sketch is a net that is being drawn: where each dart begins, and the darts about each vertex in turn.
type sketch struct {
	tail  []int
	about [][]int
}

// lay draws a dart at v, just ahead of another one of v's (none: v has no darts, or the place does not matter).
func (s *sketch) lay(v, ahead int) int {
	d := len(s.tail)
	s.tail = append(s.tail, v)
	at := max(0, slices.Index(s.about[v], ahead))
	s.about[v] = slices.Insert(s.about[v], at, d)
	return d
}

// behind tells which dart comes behind d about its face.
func (s *sketch) behind(d int) int {
	l := s.about[s.tail[d^1]]
	return l[(slices.Index(l, d^1)+1)%len(l)]
}

// net tells what is drawn, with vertices, edges and the ends of each edge numbered anew.
func (s *sketch) net(dice *Dice) api.Net {
	vertex, edge := dice.Order(len(s.about)), dice.Order(len(s.tail)/2)
	dart := make([]int, len(s.tail))
	for e, to := range edge {
		flip := dice.Of(2)
		dart[2*e], dart[2*e+1] = 2*to+flip, 2*to+1-flip
	}
	n := api.Net{N: len(s.about), Tail: make([]int, len(dart)), Next: make([]int, len(dart)), Cap: make([]int, len(dart))}
	for v, l := range s.about {
		for i, d := range l {
			n.Tail[dart[d]] = vertex[v]
			n.Next[dart[d]] = dart[l[(i+1)%len(l)]]
		}
	}
	for d := range n.Cap {
		n.Cap[d] = dice.capacity()
	}
	return n
}

// Any throws a net of so many vertices and edges, whether it is plane or not, in one piece or not.
func (d *Dice) Any(vertices, edges int) api.Net {
	s := sketch{about: make([][]int, vertices)}
	for range 2 * edges {
		v := d.Of(vertices)
		ahead := none
		if l := s.about[v]; len(l) > 0 {
			ahead = l[d.Of(len(l))]
		}
		s.lay(v, ahead)
	}
	return s.net(d)
}

// Plane throws a plane net of so many edges: each is drawn within a face, or hangs a new vertex on an old one.
func (d *Dice) Plane(edges int) api.Net {
	s := sketch{about: make([][]int, 1)}
	for range edges {
		from, ahead := 0, none
		if len(s.tail) > 0 {
			ahead = d.Of(len(s.tail))
			from = s.tail[ahead]
		}
		if len(s.about) < api.MaxVertices && d.Of(5) < 2 {
			s.lay(from, ahead)
			s.about = append(s.about, nil)
			s.lay(len(s.about)-1, none)
			continue
		}
		to := ahead
		for range d.Of(7) {
			if to != none {
				to = s.behind(to)
			}
		}
		if first := s.lay(from, ahead); to == ahead {
			s.lay(from, first)
		} else {
			s.lay(s.tail[to], to)
		}
	}
	return s.net(d)
}
