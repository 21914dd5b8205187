package path

import (
	"slices"

	"watershed/api"
)

// The most arcs that there may be, and the greatest amount of a Len. (Each place is a key of a heap, so there are no more places than these.)
const (
	mostArcs = 1000
	mostLen  = 1 << 40
)

// sound tells whether there are as many places and arcs as there may be, each arc and each end is between places, and no sum of lengths can be as great as Far. Every call asks for it, so that it ends on what may not be handed in, too (P1).
func sound(n int, l []api.Arc, ends ...int) bool {
	if n < 1 || n > api.MaxKeys || len(l) > mostArcs {
		return false
	}
	return !slices.ContainsFunc(ends, func(v int) bool { return !isPlace(n, v) }) &&
		!slices.ContainsFunc(l, func(a api.Arc) bool { return !isArc(n, a) })
}

// isPlace tells whether v is one of n.
func isPlace(n, v int) bool {
	return v >= 0 && v < n
}

// isArc tells whether a may be one between n places.
func isArc(n int, a api.Arc) bool {
	return isPlace(n, a.From) && isPlace(n, a.To) && a.Len >= -mostLen && a.Len <= mostLen
}

// forward tells whether no way grows shorter by an arc more.
func forward(l []api.Arc) bool {
	return !slices.ContainsFunc(l, func(a api.Arc) bool { return a.Len < 0 })
}
