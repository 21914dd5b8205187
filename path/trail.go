package path

import (
	"slices"

	"watershed/api"
)

// none stands for no place, and for no arc.
const none = -1

// trail is what is known of the ways from one place on, while arcs are still tried: how long the shortest one so far to each place is, and the arc by which it comes there.
type trail struct {
	arcs     []api.Arc
	dist, by []int
}

// trailFrom tells that of which s alone is reached.
func trailFrom(n int, l []api.Arc, s int) trail {
	t := trail{arcs: l, dist: slices.Repeat([]int{api.Far}, n), by: slices.Repeat([]int{none}, n)}
	t.dist[s] = 0
	return t
}

// pass tries every arc once, and tells a place to which a shorter way was found, or none. In n passes of sound arcs no length comes near to Far, for they go along each arc n times at most.
func (t trail) pass() int {
	shortened := none
	for i, a := range t.arcs {
		if t.dist[a.From] == api.Far {
			continue
		}
		if long := t.dist[a.From] + a.Len; long < t.dist[a.To] {
			t.dist[a.To], t.by[a.To] = long, i
			shortened = a.To
		}
	}
	return shortened
}

// round tells the arcs of a round by which ways grow shorter, where the last of n passes has shortened the way to at. Each place shortened in a pass was shortened from one of that pass or the one ahead: so n arcs lead back from at, and that is once more than there are places.
func (t trail) round(at int) []int {
	for range t.by {
		at = t.arcs[t.by[at]].From
	}
	l := []int{t.by[at]}
	for v := t.arcs[l[0]].From; v != at; v = t.arcs[t.by[v]].From {
		l = append(l, t.by[v])
	}
	slices.Reverse(l)
	return l
}
