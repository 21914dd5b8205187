package nettest

import "watershed/api"

// Eye has two edges that end where they begin, at vertex 0, and two between 0 and 1.
func Eye() api.Net {
	return api.Net{N: 2, Tail: []int{0, 0, 0, 0, 0, 1, 0, 1}, Next: []int{1, 2, 3, 4, 6, 7, 0, 5}, Cap: []int{0, 1, 2, 3, api.MaxCap, 5, 6, 7}}
}

// Loops has so many edges, all of which end where they begin, at one vertex.
func Loops(edges int) api.Net {
	n := api.Net{N: 1}
	for d := range 2 * edges {
		n.Tail, n.Next, n.Cap = append(n.Tail, 0), append(n.Next, (d+1)%(2*edges)), append(n.Cap, 1)
	}
	return n
}

// Line has so many vertices, each with an edge to the next one.
func Line(vertices int) api.Net {
	n := api.Net{N: vertices}
	for v := range vertices - 1 {
		n.Tail, n.Next, n.Cap = append(n.Tail, v, v+1), append(n.Next, max(2*v-1, 0), min(2*v+2, 2*vertices-3)), append(n.Cap, v, v)
	}
	return n
}

// Fence has a ring at vertex 0, with vertex 1 hung within it and vertex 2 without.
func Fence() api.Net {
	return api.Net{N: 3, Tail: []int{0, 0, 0, 1, 0, 2}, Next: []int{2, 4, 1, 3, 0, 5}, Cap: []int{1, 2, 3, 4, 5, 6}}
}

// Twig has an edge between 0 and 1, 2 hung on 0, 3 on 1: about its one face both 0 and 1 are met twice, the row is 0 4 5 1 2 3.
func Twig() api.Net {
	return api.Net{N: 4, Tail: []int{0, 1, 0, 2, 1, 3}, Next: []int{2, 4, 0, 3, 1, 5}, Cap: []int{1, 2, 3, 4, 5, 6}}
}

// Bundle has as many edges between 0 and 1 as there are numbers, side by side: each holds its number there, and one less back.
func Bundle(hold ...int) api.Net {
	n := api.Net{N: 2}
	darts := 2 * len(hold)
	for e, most := range hold {
		n.Tail = append(n.Tail, 0, 1)
		n.Next = append(n.Next, (2*e+2)%darts, (2*e-1+darts)%darts)
		n.Cap = append(n.Cap, most, max(0, most-1))
	}
	return n
}

// Crossing is a ring 0 1 2 3, with a way across from 0 to 2 within it: each edge holds so much there and back that no two darts hold the same.
func Crossing() api.Net {
	return api.Net{N: 4, Tail: []int{0, 1, 1, 2, 2, 3, 3, 0, 0, 2}, Next: []int{8, 2, 1, 4, 9, 6, 5, 0, 7, 3}, Cap: []int{1, 20, 3, 40, 5, 60, 7, 80, 9, 100}}
}

// Globe has a ring 0 1 2 3, 4 within it and 5 without: these two share no face. All that 4 sends goes to 0, the ring's edges hold 3, and to 5 go 1, 2, 3, 4.
func Globe() api.Net {
	n := api.Net{N: 6, Tail: make([]int, 24), Next: make([]int, 24), Cap: make([]int, 24)}
	for i := range 4 {
		on, back, from4, to4, from5, to5 := 2*i, 2*((i+3)%4)+1, 8+2*i, 9+2*i, 16+2*i, 17+2*i
		for _, d := range []int{on, back, to4, to5} {
			n.Tail[d] = i
		}
		n.Tail[from4], n.Tail[from5] = 4, 5
		n.Next[on], n.Next[to4], n.Next[back], n.Next[to5] = to4, back, to5, on
		n.Next[from4], n.Next[from5] = 8+2*((i+1)%4), 16+2*((i+3)%4)
		n.Cap[on], n.Cap[back], n.Cap[to5] = 3, 3, i+1
	}
	n.Cap[8] = 10
	return n
}
