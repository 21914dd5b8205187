package rim_test

import (
	"math"
	"slices"
	"testing"

	"watershed/api"
	"watershed/dual"
	"watershed/nettest"
	"watershed/rim"
	"watershed/rot"
)

func TestKnownArePlane(t *testing.T) {
	for _, n := range []api.Net{nettest.Bundle(1), nettest.Bundle(1, 2), nettest.Bundle(1, 2, 3), nettest.Bundle(make([]int, api.MaxEdges)...), nettest.Crossing()} {
		if e := rot.Check(n); e != api.OK {
			t.Errorf("%v: %v", n, e)
		}
	}
}

func TestP801Known(t *testing.T) {
	const most = api.MaxCap
	for _, c := range []struct {
		net          api.Net
		s, t         int
		height, flow []int
		value        int
	}{
		// one edge, of which there and back are not the same; it may hold nothing, or as much as may be
		{nettest.Bundle(5), 0, 1, []int{0, 5}, []int{5, -5}, 5},
		{nettest.Bundle(5), 1, 0, []int{0, 4}, []int{-4, 4}, 4},
		{nettest.Bundle(0), 0, 1, []int{0, 0}, []int{0, 0}, 0},
		{nettest.Bundle(most), 0, 1, []int{0, most}, []int{most, -most}, most},
		// all faces are shared: the least one is parted
		{nettest.Bundle(3, 4), 0, 1, []int{0, 3, 7}, []int{3, -3, 4, -4}, 7},
		{nettest.Bundle(3, 4), 1, 0, []int{0, 3, 5}, []int{-2, 2, -3, 3}, 5},
		{nettest.Bundle(3, 4, 6), 0, 1, []int{0, 3, 7, 13}, []int{3, -3, 4, -4, 6, -6}, 13},
		{nettest.Bundle(3, 4, 6), 1, 0, []int{0, 8, 5, 10}, []int{-2, 2, -3, 3, -5, 5}, 10},
		// rings and another vertex's edge are gone round by the faces, for nothing
		{nettest.Eye(), 0, 1, []int{0, 0, 2, most, most + 6}, []int{0, 0, 2, -2, most, -most, 6, -6}, most + 6},
		{nettest.Fence(), 0, 1, []int{2, 0, 3}, []int{-2, 2, 3, -3, 0, 0}, 3},
		// b does not lie highest
		{nettest.Fence(), 1, 0, []int{6, 0, 4}, []int{-2, 2, -4, 4, 0, 0}, 4},
		{nettest.Fence(), 0, 2, []int{0, 1, 5}, []int{1, -1, 0, 0, 5, -5}, 5},
		{nettest.Fence(), 2, 0, []int{0, 7, 6}, []int{1, -1, 0, 0, -6, 6}, 6},
		// one face, parted
		{nettest.Twig(), 0, 1, []int{0, 1}, []int{1, -1, 0, 0, 0, 0}, 1},
		{nettest.Twig(), 2, 3, []int{0, 1}, []int{1, -1, -1, 1, 1, -1}, 1},
		{nettest.Twig(), 3, 2, []int{0, 2}, []int{-2, 2, 2, -2, -2, 2}, 2},
		{nettest.Line(4), 1, 3, []int{0, 1}, []int{0, 0, 1, -1, 1, -1}, 1},
		{nettest.Line(4), 0, 3, []int{0, 0}, []int{0, 0, 0, 0, 0, 0}, 0},
		// there and back hold so unlike each other that the way is long
		{nettest.Crossing(), 0, 2, []int{0, 1, 10, 70}, []int{1, -1, 1, -1, -60, 60, -60, 60, 9, -9}, 70},
		{nettest.Crossing(), 1, 3, []int{0, 3, 5, 23}, []int{-20, 20, 3, -3, 5, -5, -18, 18, 2, -2}, 23},
	} {
		height, e := rim.Heights(c.net, c.s, c.t)
		flow, value, g := rim.Flow(c.net, c.s, c.t)
		if e != api.OK || g != api.OK || !slices.Equal(height, c.height) || !slices.Equal(flow, c.flow) || value != c.value {
			t.Errorf("%v, %d, %d: %v, %v, %v, %d, %v", c.net, c.s, c.t, height, e, flow, value, g)
		}
	}
}

// As many edges as there may be, each of which holds as much as may be: a face lies higher than any one of them.
func TestP801Greatest(t *testing.T) {
	n := nettest.Bundle(slices.Repeat([]int{api.MaxCap}, api.MaxEdges)...)
	height, e := rim.Heights(n, 0, 1)
	flow, value, g := rim.Flow(n, 0, 1)
	if e != api.OK || g != api.OK || value != api.MaxEdges*api.MaxCap || len(height) != api.MaxEdges+1 {
		t.Fatalf("%v, %v, %d, %v, %v", height, flow, value, e, g)
	}
	for face := range api.MaxEdges + 1 {
		if height[face] != face*api.MaxCap {
			t.Errorf("face %d lies at %d", face, height[face])
		}
	}
	for d, x := range flow {
		if x != api.MaxCap*(1-d%2*2) {
			t.Errorf("dart %d: %d", d, x)
		}
	}
	// a line of all vertices holds what its edge that holds least does
	n = nettest.Line(api.MaxVertices)
	for s := range n.N {
		if _, value, e := rim.Flow(n, s, n.N-1); s < n.N-1 && (value != s || e != api.OK) {
			t.Errorf("from %d: %d, %v", s, value, e)
		}
	}
}

func TestP801Errors(t *testing.T) {
	fence := nettest.Fence()
	apart := []nettest.Ends{{Net: fence, S: 1, T: 2, Want: api.NoRim}, {Net: fence, S: 2, T: 1, Want: api.NoRim}}
	for _, c := range append(nettest.WrongEnds(), apart...) {
		height, e := rim.Heights(c.Net, c.S, c.T)
		flow, value, g := rim.Flow(c.Net, c.S, c.T)
		if e != c.Want || g != c.Want || len(height)+len(flow) > 0 || value != 0 {
			t.Errorf("%v, %d, %d: %v, %v, %v, %d, %v", c.Net, c.S, c.T, height, e, flow, value, g)
		}
	}
}

// wanted tells by the promise's words what Heights is to answer: each dart may make the way to its other's face shorter, as often as there are faces. Beside it, what Flow is to answer.
func wanted(n api.Net, s, t int) (height, flow []int, value int, e api.Errno) {
	if min(s, t) < 0 || max(s, t) >= n.N {
		return nil, nil, 0, api.BadVertex
	}
	if s == t {
		return nil, nil, 0, api.SameEnds
	}
	of, faces, a, b, is := dual.Split(n, s, t)
	if !is {
		return nil, nil, 0, api.NoRim
	}
	height = slices.Repeat([]int{api.Far}, faces)
	height[a] = 0
	for range faces {
		for d, face := range of {
			height[of[d^1]] = min(height[of[d^1]], height[face]+n.Cap[d])
		}
	}
	for d, face := range of {
		flow = append(flow, height[of[d^1]]-height[face])
	}
	return height, flow, height[b], api.OK
}

func TestP801ByDice(t *testing.T) {
	dice := nettest.NewDice(801)
	met := map[api.Errno]int{}
	above := 0
	for range 600 {
		n := dice.Plane(dice.Of(api.MaxEdges + 1))
		for range 8 {
			s, u := dice.Of(n.N+2)-1, dice.Of(n.N+2)-1
			want, run, most, fault := wanted(n, s, u)
			height, e := rim.Heights(n, s, u)
			flow, value, g := rim.Flow(n, s, u)
			if e != fault || g != fault || !slices.Equal(height, want) || !slices.Equal(flow, run) || value != most {
				t.Fatalf("%v, %d, %d: %v, %v, %v, %d, %v, not %v, %v, %d, %v", n, s, u, height, e, flow, value, g, want, run, most, fault)
			}
			met[e]++
			if len(want) > 0 && slices.Max(want) > most {
				above++
			}
		}
	}
	if min(met[api.OK], met[api.BadVertex], met[api.SameEnds], met[api.NoRim], above) < 100 {
		t.Errorf("the dice miss some: %v, %d", met, above)
	}
}

// greatest tells a greatest flow's value by the ways on which more may run, till there is none.
func greatest(n api.Net, s, t int) int {
	left := slices.Clone(n.Cap)
	value := 0
	for {
		by := map[int]int{s: -1}
		found := []int{s}
		for i := 0; i < len(found); i++ {
			for d, v := range n.Tail {
				w := n.Tail[d^1]
				if _, is := by[w]; v == found[i] && left[d] > 0 && !is {
					by[w] = d
					found = append(found, w)
				}
			}
		}
		if _, is := by[t]; !is {
			return value
		}
		more := math.MaxInt
		for v := t; v != s; v = n.Tail[by[v]] {
			more = min(more, left[by[v]])
		}
		for v := t; v != s; v = n.Tail[by[v]] {
			left[by[v]] -= more
			left[by[v]^1] += more
		}
		value += more
	}
}

func TestP802GreatestFlow(t *testing.T) {
	dice := nettest.NewDice(802)
	nets := []api.Net{nettest.Eye(), nettest.Fence(), nettest.Twig(), nettest.Crossing(), nettest.Bundle(7), nettest.Bundle(1, 0, 3, 2), nettest.Line(20)}
	for range 200 {
		nets = append(nets, dice.Plane(1+dice.Of(api.MaxEdges)), dice.Plane(1+dice.Of(20)))
	}
	nothing, something := 0, 0
	for _, n := range nets {
		for range 6 {
			s, u := dice.Of(n.N), dice.Of(n.N)
			flow, value, e := rim.Flow(n, s, u)
			if e != api.OK {
				continue
			}
			if !nettest.IsFlow(n, s, u, flow, value) || value != greatest(n, s, u) {
				t.Fatalf("%v, %d, %d: %v, %d, the greatest is %d", n, s, u, flow, value, greatest(n, s, u))
			}
			if value == 0 {
				nothing++
			} else {
				something++
			}
		}
	}
	if min(nothing, something) < 100 {
		t.Errorf("the dice miss some: %d, %d", nothing, something)
	}
}

// all calls every face of the package.
func all(n api.Net, s, t int) {
	rim.Heights(n, s, t)
	rim.Flow(n, s, t)
}

func TestP1(t *testing.T) {
	dice := nettest.NewDice(1)
	for range 20000 {
		all(dice.Junk(), dice.Wild(), dice.Wild())
	}
	// knotted nets, apart ones, and ones of which a number is wild
	for range 20000 {
		n := dice.Any(3, 4)
		all(n, dice.Of(3), dice.Of(3))
		dice.Spoil(n)
		all(n, dice.Of(3), dice.Of(3))
		all(n, dice.Wild(), dice.Wild())
	}
	for _, n := range nettest.Beyond() {
		all(n, 0, n.N-1)
	}
}

func TestP2HandedIn(t *testing.T) {
	for _, n := range []api.Net{nettest.Eye(), nettest.Fence(), nettest.Twig(), nettest.Crossing(), nettest.Bundle(3, 4, 6)} {
		n = nettest.Roomy(n)
		unchanged := nettest.Watch(n.Tail, n.Next, n.Cap)
		for s := range n.N {
			for u := range n.N {
				all(n, s, u)
			}
		}
		if !unchanged() {
			t.Errorf("handed in %v", n)
		}
	}
}

func TestP2Answered(t *testing.T) {
	n := nettest.Roomy(nettest.Crossing())
	lists := [][]int{n.Tail, n.Next, n.Cap}
	for range 2 {
		height, _ := rim.Heights(n, 0, 2)
		flow, _, _ := rim.Flow(n, 0, 2)
		lists = append(lists, height, flow)
	}
	if !nettest.Apart(lists...) {
		t.Error("lists share memory")
	}
}

func TestP3(t *testing.T) {
	dice := nettest.NewDice(3)
	for range 200 {
		n := dice.Plane(dice.Of(60))
		s, u := dice.Of(n.N), dice.Of(n.N)
		height, e := rim.Heights(n, s, u)
		flow, value, g := rim.Flow(n, s, u)
		all(dice.Plane(dice.Of(60)), u, s)
		again, e2 := rim.Heights(n, s, u)
		same, value2, g2 := rim.Flow(n, s, u)
		if !slices.Equal(height, again) || e != e2 || !slices.Equal(flow, same) || value != value2 || g != g2 {
			t.Fatalf("%v, %d, %d: not the same again", n, s, u)
		}
	}
}
