package nettest

import (
	"slices"

	"watershed/api"
)

// mark is what no list of a net has.
const mark = -77

// Same tells whether two nets are the same; no list and an empty one are (P2).
func Same(a, b api.Net) bool {
	return a.N == b.N && slices.Equal(a.Tail, b.Tail) && slices.Equal(a.Next, b.Next) && slices.Equal(a.Cap, b.Cap)
}

// Roomy tells the same net, each of its lists with spare room.
func Roomy(n api.Net) api.Net {
	const room = 9
	return api.Net{N: n.N, Tail: slices.Grow(slices.Clone(n.Tail), room), Next: slices.Grow(slices.Clone(n.Next), room), Cap: slices.Grow(slices.Clone(n.Cap), room)}
}

// Watch marks the spare room of lists that are to be handed in. What it answers tells whether they are still as they were, their spare room too.
func Watch(lists ...[]int) func() bool {
	var held, before [][]int
	for _, l := range lists {
		fill(l[len(l):cap(l)])
		held = append(held, l[:cap(l)])
		before = append(before, slices.Clone(l[:cap(l)]))
	}
	return func() bool {
		return slices.EqualFunc(held, before, slices.Equal[[]int])
	}
}

// Apart tells whether no two of the lists share memory, their spare room too. It writes the lists over.
func Apart(lists ...[]int) bool {
	for i, l := range lists {
		fill(l[:cap(l)])
		for _, other := range lists[i+1:] {
			clear(other[:cap(other)])
		}
		if slices.ContainsFunc(l[:cap(l)], func(x int) bool { return x != mark }) {
			return false
		}
	}
	return true
}

// fill writes the mark all over a list.
func fill(l []int) {
	for i := range l {
		l[i] = mark
	}
}
