package nettest

import (
	"slices"

	"watershed/api"
)

// IsFlow tells whether f is a flow of n from s to t (W4), of that value.
func IsFlow(n api.Net, s, t int, f []int, value int) bool {
	if len(f) != len(n.Tail) {
		return false
	}
	sums := make([]int, n.N)
	for d, v := range n.Tail {
		if f[d] != -f[d^1] || f[d] > n.Cap[d] {
			return false
		}
		sums[v] += f[d]
	}
	want := make([]int, n.N)
	want[s], want[t] = value, -value
	return slices.Equal(sums, want)
}
