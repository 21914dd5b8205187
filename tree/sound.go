package tree

import (
	"slices"

	"watershed/api"
)

// sound tells whether n's darts begin at vertices and have their others, and are enough to hold the vertices together. Every call asks for it, so that it ends on what is no net, too, and makes no list for vertices that cannot be (P1).
func sound(n api.Net) bool {
	edges := len(n.Tail) / 2
	if len(n.Tail) != 2*edges || n.N > edges+1 {
		return false
	}
	return !slices.ContainsFunc(n.Tail, func(v int) bool { return !isVertex(n, v) })
}

// isVertex tells whether v is one of n's.
func isVertex(n api.Net, v int) bool {
	return v >= 0 && v < n.N
}

// outward tells for each vertex the darts that begin there, by number; n is sound.
func outward(n api.Net) [][]int {
	darts := make([][]int, n.N)
	for d, v := range n.Tail {
		darts[v] = append(darts[v], d)
	}
	return darts
}

// leaves tells whether up has for each vertex a dart that begins there, for root alone none; n is sound.
func leaves(n api.Net, up []int, root int) bool {
	if len(up) != n.N || up[root] != none {
		return false
	}
	for v, d := range up {
		if v != root && (d < 0 || d >= len(n.Tail) || n.Tail[d] != v) {
			return false
		}
	}
	return true
}

// isTree tells whether up is Right of some root: of the first one that nothing leads up from, as there may be no other.
func isTree(n api.Net, up []int) bool {
	return Right(n, up, slices.Index(up, none))
}
