package path

import (
	"slices"

	"watershed/api"
	"watershed/heap"
)

// cost is how long a way is, and of how many arcs.
type cost struct {
	long, arcs int
}

// and tells the cost of a way and one arc more.
func (c cost) and(a api.Arc) cost {
	return cost{c.long + a.Len, c.arcs + 1}
}

// less tells whether c is to be taken rather than other.
func (c cost) less(other cost) bool {
	return c.long < other.long || c.long == other.long && c.arcs < other.arcs
}

// rank tells a heap the same as less does: no way that spread puts there has as many arcs as there may be keys.
func (c cost) rank() int {
	return c.long*api.MaxKeys + c.arcs
}

// spread tells for each place the least cost of a way from s to it; one to which none leads is Far. The arguments are sound, and the arcs forward.
func spread(n int, l []api.Arc, s int) []cost {
	best := slices.Repeat([]cost{{long: api.Far}}, n)
	best[s] = cost{}
	out := leaving(n, l)
	h := heap.New()
	h.Put(s, best[s].rank())
	for x, is := h.Take(); is; x, is = h.Take() {
		for _, a := range out[x.Key] {
			c := best[x.Key].and(a)
			if c.less(best[a.To]) {
				best[a.To] = c
				h.Put(a.To, c.rank())
			}
		}
	}
	return best
}

// leaving tells for each place the arcs that begin there.
func leaving(n int, l []api.Arc) [][]api.Arc {
	out := make([][]api.Arc, n)
	for _, a := range l {
		out[a.From] = append(out[a.From], a)
	}
	return out
}

// turned tells the arcs, each the other way about.
func turned(l []api.Arc) []api.Arc {
	back := make([]api.Arc, len(l))
	for i, a := range l {
		back[i] = api.Arc{From: a.To, To: a.From, Len: a.Len}
	}
	return back
}
