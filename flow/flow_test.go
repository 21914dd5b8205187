package flow_test

import (
	"slices"
	"testing"

	"watershed/api"
	"watershed/flow"
	"watershed/nettest"
	"watershed/rim"
	"watershed/rot"
)

// detour has two ways of four edges from 0 to 3, 0 4 5 2 3 and 0 1 6 7 3, and an edge from 1 to 2 by which one of three goes along both. Each edge holds 1 there and nothing back.
func detour() api.Net {
	n := api.Net{N: 8, Tail: []int{0, 1, 1, 2, 2, 3, 0, 4, 4, 5, 5, 2, 1, 6, 6, 7, 7, 3}, Next: []int{6, 2, 12, 11, 3, 17, 0, 8, 7, 10, 9, 4, 1, 14, 13, 16, 15, 5}}
	for d := range n.Tail {
		n.Cap = append(n.Cap, 1-d%2)
	}
	return n
}

// known are the nets that are tested one by one.
func known() []api.Net {
	return []api.Net{{N: 1}, nettest.Eye(), nettest.Fence(), nettest.Twig(), nettest.Crossing(), nettest.Loops(3), nettest.Line(20), nettest.Bundle(1, 0, 3, 2), detour(), nettest.Globe()}
}

func TestKnownArePlane(t *testing.T) {
	for _, n := range known() {
		if e := rot.Check(n); e != api.OK {
			t.Errorf("%v: %v", n, e)
		}
	}
}

func TestP901MostKnown(t *testing.T) {
	const most = api.MaxCap
	for _, c := range []struct {
		net  api.Net
		s, t int
		// none, where it could be another one
		flow  []int
		value int
	}{
		// there and back are not the same; an edge may hold nothing, or as much as may be
		{nettest.Bundle(5), 0, 1, []int{5, -5}, 5},
		{nettest.Bundle(5), 1, 0, []int{-4, 4}, 4},
		{nettest.Bundle(0), 0, 1, []int{0, 0}, 0},
		{nettest.Bundle(most), 0, 1, []int{most, -most}, most},
		{nettest.Bundle(most), 1, 0, []int{1 - most, most - 1}, most - 1},
		{nettest.Bundle(3, 4, 6), 0, 1, []int{3, -3, 4, -4, 6, -6}, 13},
		{nettest.Bundle(3, 4, 6), 1, 0, []int{-2, 2, -3, 3, -5, 5}, 10},
		// edges that end where they begin hold nothing of it
		{nettest.Eye(), 0, 1, nil, most + 6},
		{nettest.Eye(), 1, 0, nil, 12},
		{nettest.Fence(), 0, 1, nil, 3},
		{nettest.Fence(), 2, 0, nil, 6},
		// no face is shared
		{nettest.Fence(), 1, 2, nil, 4},
		{nettest.Fence(), 2, 1, nil, 3},
		{nettest.Globe(), 4, 5, nil, 7},
		{nettest.Globe(), 5, 4, nil, 0},
		// one way alone
		{nettest.Twig(), 2, 3, []int{1, -1, -1, 1, 1, -1}, 1},
		{nettest.Twig(), 3, 2, []int{-2, 2, 2, -2, -2, 2}, 2},
		{nettest.Line(4), 1, 3, []int{0, 0, 1, -1, 1, -1}, 1},
		{nettest.Line(4), 3, 2, []int{0, 0, 0, 0, -2, 2}, 2},
		{nettest.Line(4), 0, 3, []int{0, 0, 0, 0, 0, 0}, 0},
		{nettest.Crossing(), 0, 2, []int{1, -1, 1, -1, -60, 60, -60, 60, 9, -9}, 70},
		{nettest.Crossing(), 1, 3, nil, 23},
		// what runs along the shortest way is in the way of the two
		{detour(), 0, 3, []int{1, -1, 0, 0, 1, -1, 1, -1, 1, -1, 1, -1, 1, -1, 1, -1, 1, -1}, 2},
		{detour(), 3, 0, make([]int, 18), 0},
	} {
		f, value, e := flow.Most(c.net, c.s, c.t)
		if e != api.OK || value != c.value || !nettest.IsFlow(c.net, c.s, c.t, f, value) || len(c.flow) > 0 && !slices.Equal(f, c.flow) {
			t.Errorf("%v, %d, %d: %v, %d, %v, not %v, %d", c.net, c.s, c.t, f, value, e, c.flow, c.value)
		}
	}
}

// As many edges, and as many vertices, as there may be; all hold as much as may be.
func TestP901MostAtBounds(t *testing.T) {
	n := nettest.Bundle(slices.Repeat([]int{api.MaxCap}, api.MaxEdges)...)
	f, value, e := flow.Most(n, 0, 1)
	if e != api.OK || value != api.MaxEdges*api.MaxCap || !nettest.IsFlow(n, 0, 1, f, value) {
		t.Errorf("%v, %d, %v", f, value, e)
	}
	n = nettest.Line(api.MaxVertices)
	for s := range n.N - 1 {
		if f, value, e := flow.Most(n, s, n.N-1); value != s || e != api.OK || !nettest.IsFlow(n, s, n.N-1, f, s) {
			t.Errorf("from %d: %v, %d, %v", s, f, value, e)
		}
	}
	for d := range n.Cap {
		n.Cap[d] = api.MaxCap
	}
	if f, value, e := flow.Most(n, n.N-1, 0); value != api.MaxCap || e != api.OK || !nettest.IsFlow(n, n.N-1, 0, f, api.MaxCap) {
		t.Errorf("%v, %d, %v", f, value, e)
	}
}

func TestP901MostErrors(t *testing.T) {
	for _, c := range nettest.WrongEnds() {
		if f, value, e := flow.Most(c.Net, c.S, c.T); e != c.Want || len(f) > 0 || value != 0 {
			t.Errorf("%v, %d, %d: %v, %d, %v, not %v", c.Net, c.S, c.T, f, value, e, c.Want)
		}
	}
}

// What is no plane net is told so, behind the errors of s and t (P8 leaves it open).
func TestMostOfNoPlaneNet(t *testing.T) {
	for _, n := range nettest.NoPlane() {
		if f, value, e := flow.Most(n, 0, 1); e == api.OK || e != rot.Check(n) || len(f) > 0 || value != 0 {
			t.Errorf("%v: %v, %d, %v", n, f, value, e)
		}
		if _, _, e := flow.Most(n, 0, -1); e != api.BadVertex {
			t.Errorf("%v: %v", n, e)
		}
		if _, _, e := flow.Most(n, 1, 1); e != api.SameEnds {
			t.Errorf("%v: %v", n, e)
		}
	}
}

// reached tells by passes over all darts what Reach is to answer.
func reached(n api.Net, s int, f []int) []bool {
	in := make([]bool, n.N)
	in[s] = true
	for range n.N {
		for d, v := range n.Tail {
			if in[v] && f[d] < n.Cap[d] {
				in[n.Tail[d^1]] = true
			}
		}
	}
	return in
}

// P901, held against all cuts.
func TestP901MostAllCuts(t *testing.T) {
	dice := nettest.NewDice(901)
	nets := known()
	for range 700 {
		nets = append(nets, dice.Plane(dice.Of(14)))
	}
	nothing, something := 0, 0
	for _, n := range nets {
		s, u := dice.Of(n.N), dice.Of(n.N)
		if s == u || n.N > 10 {
			continue
		}
		f, value, e := flow.Most(n, s, u)
		if e != api.OK || !nettest.IsFlow(n, s, u, f, value) || value != nettest.LeastCut(n, s, u) {
			t.Fatalf("%v, %d, %d: %v, %d, %v, the least cut holds %d", n, s, u, f, value, e, nettest.LeastCut(n, s, u))
		}
		if value == 0 {
			nothing++
		} else {
			something++
		}
	}
	if min(nothing, something) < 50 {
		t.Errorf("the dice miss some: %d, %d", nothing, something)
	}
}

// P902, T2: t cannot be reached, and what can holds no more than what runs; where s and t share a face as much runs by the heights (T3).
func TestP902(t *testing.T) {
	dice := nettest.NewDice(902)
	many, byRim := 0, 0
	for range 500 {
		n := dice.Plane(1 + dice.Of(api.MaxEdges))
		for range 4 {
			s, u := dice.Of(n.N), dice.Of(n.N)
			if s == u {
				continue
			}
			f, value, e := flow.Most(n, s, u)
			in := flow.Reach(n, s, f)
			if e != api.OK || !nettest.IsFlow(n, s, u, f, value) || len(in) != n.N || !in[s] || in[u] || nettest.Sent(n, in) != value {
				t.Fatalf("%v, %d, %d: %v, %d, %v, %v", n, s, u, f, value, e, in)
			}
			if _, same, e := rim.Flow(n, s, u); e == api.OK {
				byRim++
				if same != value {
					t.Fatalf("%v, %d, %d: %d, by the rim %d", n, s, u, value, same)
				}
			}
			many++
		}
	}
	if min(byRim, many-byRim) < 200 {
		t.Errorf("the dice miss some: %d of %d", byRim, many)
	}
}

func TestP901Value(t *testing.T) {
	const far = 1 << 40
	for _, c := range []struct {
		net  api.Net
		s    int
		f    []int
		want int
	}{
		{api.Net{N: 1}, 0, nil, 0}, {api.Net{N: 1}, 0, []int{}, 0},
		{nettest.Bundle(1), 0, []int{7, -3}, 7}, {nettest.Bundle(1), 1, []int{7, -3}, -3},
		{nettest.Bundle(1, 2), 0, []int{5, 7, -9, 11}, -4}, {nettest.Bundle(1, 2), 1, []int{5, 7, -9, 11}, 18},
		// an edge that ends where it begins has both its darts there
		{nettest.Eye(), 0, []int{1, 10, 100, 1000, 1e4, 1e5, 1e6, 1e7}, 1011111}, {nettest.Eye(), 1, []int{1, 10, 100, 1000, 1e4, 1e5, 1e6, 1e7}, 10100000},
		{nettest.Fence(), 0, []int{1, 2, 4, 8, 16, 32}, 23}, {nettest.Fence(), 1, []int{1, 2, 4, 8, 16, 32}, 8}, {nettest.Fence(), 2, []int{1, 2, 4, 8, 16, 32}, 32},
		{nettest.Loops(api.MaxEdges), 0, slices.Repeat([]int{far}, 2*api.MaxEdges), 2 * api.MaxEdges * far},
		{nettest.Loops(api.MaxEdges), 0, slices.Repeat([]int{-far}, 2*api.MaxEdges), -2 * api.MaxEdges * far},
		{nettest.Loops(2), 0, []int{far, -1, 0, 0}, far - 1}, {nettest.Loops(2), 0, []int{far, 1, -far, 0}, 1},
	} {
		if got := flow.Value(c.net, c.s, c.f); got != c.want {
			t.Errorf("%v, %d, %v: %d, not %d", c.net, c.s, c.f, got, c.want)
		}
	}
}

// What runs into all vertices together is what all darts' numbers are, and that of one is what runs along the darts about it.
func TestP901ValueByDice(t *testing.T) {
	dice := nettest.NewDice(9011)
	for range 300 {
		n := dice.Plane(1 + dice.Of(api.MaxEdges))
		f := make([]int, len(n.Tail))
		for d := range f {
			f[d] = (dice.Of(1<<30)*1024 + dice.Of(1024)) * (1 - dice.Of(2)*2)
		}
		for d, v := range n.Tail {
			want := 0
			for _, x := range rot.About(n, d) {
				want += f[x]
			}
			if got := flow.Value(n, v, f); got != want {
				t.Fatalf("%v, %d, %v: %d, not %d", n, v, f, got, want)
			}
		}
	}
}

func TestP901Reach(t *testing.T) {
	const most, far = api.MaxCap, 1 << 40
	line := nettest.Line(4)
	for _, c := range []struct {
		net  api.Net
		s    int
		f    []int
		want []bool
	}{
		{api.Net{N: 1}, 0, nil, []bool{true}},
		{nettest.Loops(1), 0, []int{1, 1}, []bool{true}}, {nettest.Loops(1), 0, []int{0, 0}, []bool{true}},
		// at Cap, below and above it; the number of the other does not matter
		{nettest.Bundle(5), 0, []int{5, -5}, []bool{true, false}}, {nettest.Bundle(5), 0, []int{4, -4}, []bool{true, true}},
		{nettest.Bundle(5), 0, []int{6, -6}, []bool{true, false}}, {nettest.Bundle(5), 1, []int{5, 3}, []bool{true, true}},
		{nettest.Bundle(5), 1, []int{-5, 4}, []bool{false, true}}, {nettest.Bundle(5), 1, []int{-5, 5}, []bool{false, true}},
		{nettest.Bundle(0), 0, []int{0, 0}, []bool{true, false}}, {nettest.Bundle(0), 0, []int{-1, 1}, []bool{true, true}},
		{nettest.Bundle(most), 0, []int{most, 0}, []bool{true, false}}, {nettest.Bundle(most), 0, []int{most - 1, 0}, []bool{true, true}}, {nettest.Bundle(most), 0, []int{most + 1, 0}, []bool{true, false}},
		// as far off as a number may be
		{nettest.Bundle(most), 0, []int{far, 0}, []bool{true, false}}, {nettest.Bundle(0), 0, []int{-far, 0}, []bool{true, true}}, {nettest.Bundle(0), 1, []int{0, 1 - far}, []bool{true, true}},
		// any one of several edges
		{nettest.Bundle(1, 2, 3), 0, []int{1, 9, 2, 9, 2, 9}, []bool{true, true}}, {nettest.Bundle(1, 2, 3), 0, []int{1, 0, 2, 0, 3, 0}, []bool{true, false}},
		// there, and not back; from the middle on both ways; as far as the dart that is full
		{line, 0, []int{-1, 1, 0, 1, 1, 2}, []bool{true, true, true, true}}, {line, 3, []int{-1, 1, 0, 1, 1, 2}, []bool{false, false, false, true}},
		{line, 1, []int{0, -1, 0, 0, 2, 2}, []bool{true, true, true, false}}, {line, 2, []int{0, -1, 0, 1, 1, 2}, []bool{false, false, true, true}},
		{nettest.Fence(), 1, []int{0, 0, 9, 3, 4, 9}, []bool{true, true, true}}, {nettest.Fence(), 1, []int{0, 0, 9, 3, 5, 9}, []bool{true, true, false}},
	} {
		if got := flow.Reach(c.net, c.s, c.f); !slices.Equal(got, c.want) {
			t.Errorf("%v, %d, %v: %v, not %v", c.net, c.s, c.f, got, c.want)
		}
	}
}

func TestP901ReachByDice(t *testing.T) {
	dice := nettest.NewDice(9012)
	all, some := 0, 0
	for range 600 {
		n := dice.Plane(dice.Of(api.MaxEdges + 1))
		full := dice.Of(6)
		f := slices.Clone(n.Cap)
		for d := range f {
			switch {
			case dice.Of(9) == 0:
				f[d] = dice.Of(1<<30) * 1024 * (1 - dice.Of(2)*2)
			case dice.Of(9) >= full:
				f[d] -= 1 + dice.Of(3)
			}
		}
		s := dice.Of(n.N)
		want := reached(n, s, f)
		if got := flow.Reach(n, s, f); !slices.Equal(got, want) {
			t.Fatalf("%v, %d, %v: %v, not %v", n, s, f, got, want)
		}
		if slices.Contains(want, false) {
			some++
		} else {
			all++
		}
	}
	if min(all, some) < 50 {
		t.Errorf("the dice miss some: %d, %d", all, some)
	}
}

// call calls every face of the package.
func call(n api.Net, s, t int, f []int) {
	flow.Most(n, s, t)
	flow.Value(n, s, f)
	flow.Reach(n, s, f)
}

func TestP1(t *testing.T) {
	dice := nettest.NewDice(1)
	for range 20000 {
		call(dice.Junk(), dice.Wild(), dice.Wild(), dice.Wilds())
	}
	// knotted nets, apart ones, and ones of which a number is wild; too few numbers, too many, wild ones
	for range 20000 {
		n := dice.Any(3, 4)
		s, u := dice.Of(3), dice.Of(3)
		f := slices.Concat(dice.Wilds(), dice.Wilds(), dice.Wilds())
		call(n, s, u, f)
		wild := make([]int, len(n.Tail))
		for d := range wild {
			wild[d] = dice.Wild()
		}
		call(n, s, u, wild)
		call(n, dice.Wild(), dice.Wild(), wild)
		dice.Spoil(n)
		call(n, s, u, wild)
	}
	for _, n := range nettest.Beyond() {
		call(n, 0, n.N-1, nil)
		call(n, 0, n.N-1, make([]int, len(n.Tail)))
		call(n, 0, n.N-1, n.Cap)
	}
}

func TestP2HandedIn(t *testing.T) {
	for _, n := range known() {
		n = nettest.Roomy(n)
		f := slices.Grow(slices.Clone(n.Cap), 9)
		unchanged := nettest.Watch(n.Tail, n.Next, n.Cap, f)
		for s := range n.N {
			for u := range n.N {
				call(n, s, u, f)
			}
		}
		if !unchanged() {
			t.Errorf("handed in %v", n)
		}
	}
}

func TestP2Answered(t *testing.T) {
	n := nettest.Roomy(nettest.Crossing())
	f, _, _ := flow.Most(n, 0, 2)
	again, _, _ := flow.Most(n, 0, 2)
	in, same := flow.Reach(n, 0, f), flow.Reach(n, 0, f)
	before := slices.Clone(same)
	clear(in[:cap(in)])
	if !slices.Equal(same, before) || !same[0] {
		t.Errorf("two answers share memory: %v", same)
	}
	if !nettest.Apart(n.Tail, n.Next, n.Cap, f, again) {
		t.Error("lists share memory")
	}
}

// No list and an empty one are the same.
func TestP2NoList(t *testing.T) {
	empty := api.Net{N: 1, Tail: []int{}, Next: []int{}, Cap: []int{}}
	for _, f := range [][]int{nil, {}} {
		if in := flow.Reach(empty, 0, f); !slices.Equal(in, []bool{true}) || flow.Value(empty, 0, f) != 0 {
			t.Errorf("%v", in)
		}
	}
	if _, _, e := flow.Most(empty, 0, 0); e != api.SameEnds {
		t.Error(e)
	}
}

func TestP3(t *testing.T) {
	dice := nettest.NewDice(3)
	for range 200 {
		n := dice.Plane(dice.Of(60))
		s, u := dice.Of(n.N), dice.Of(n.N)
		f, value, e := flow.Most(n, s, u)
		in := flow.Reach(n, s, f)
		other := dice.Plane(dice.Of(60))
		call(other, 0, other.N-1, other.Cap)
		again, value2, e2 := flow.Most(n, s, u)
		if !slices.Equal(f, again) || value != value2 || e != e2 || !slices.Equal(in, flow.Reach(n, s, f)) {
			t.Fatalf("%v, %d, %d: not the same again", n, s, u)
		}
	}
}
