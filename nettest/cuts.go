package nettest

import (
	"iter"
	"math"

	"watershed/api"
)

// Sets tells all sets of so many vertices.
func Sets(vertices int) iter.Seq[[]bool] {
	return func(yield func([]bool) bool) {
		for set := range 1 << vertices {
			in := make([]bool, vertices)
			for v := range in {
				in[v] = set>>v&1 == 1
			}
			if !yield(in) {
				return
			}
		}
	}
}

// Sent tells what runs out of the vertices of in at most.
func Sent(n api.Net, in []bool) int {
	sum := 0
	for d, v := range n.Tail {
		if in[v] && !in[n.Tail[d^1]] {
			sum += n.Cap[d]
		}
	}
	return sum
}

// LeastCut tells what the least of all cuts holds that has s and not t.
func LeastCut(n api.Net, s, t int) int {
	least := math.MaxInt
	for in := range Sets(n.N) {
		if in[s] && !in[t] {
			least = min(least, Sent(n, in))
		}
	}
	return least
}
