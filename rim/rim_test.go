package rim_test

import (
	"math"
	"slices"
	"testing"

	"watershed/api"
	"watershed/dual"
	"watershed/nettest"
	"watershed/rim"
	"watershed/rot"
)

// bundle has as many edges between 0 and 1 as there are numbers, side by side: each holds its number there, and one less back.
func bundle(hold ...int) api.Net {
	n := api.Net{N: 2}
	darts := 2 * len(hold)
	for e, most := range hold {
		n.Tail = append(n.Tail, 0, 1)
		n.Next = append(n.Next, (2*e+2)%darts, (2*e-1+darts)%darts)
		n.Cap = append(n.Cap, most, max(0, most-1))
	}
	return n
}

// crossing is a ring 0 1 2 3, with a way across from 0 to 2 within it: each edge holds so much there and back that no two darts hold the same.
func crossing() api.Net {
	return api.Net{N: 4, Tail: []int{0, 1, 1, 2, 2, 3, 3, 0, 0, 2}, Next: []int{8, 2, 1, 4, 9, 6, 5, 0, 7, 3}, Cap: []int{1, 20, 3, 40, 5, 60, 7, 80, 9, 100}}
}

func TestKnownArePlane(t *testing.T) {
	for _, n := range []api.Net{bundle(1), bundle(1, 2), bundle(1, 2, 3), bundle(make([]int, api.MaxEdges)...), crossing()} {
		if e := rot.Check(n); e != api.OK {
			t.Errorf("%v: %v", n, e)
		}
	}
}

func TestP801Known(t *testing.T) {
	const most = api.MaxCap
	for _, c := range []struct {
		net          api.Net
		s, t         int
		height, flow []int
		value        int
	}{
		// one edge, of which there and back are not the same; it may hold nothing, or as much as may be
		{bundle(5), 0, 1, []int{0, 5}, []int{5, -5}, 5},
		{bundle(5), 1, 0, []int{0, 4}, []int{-4, 4}, 4},
		{bundle(0), 0, 1, []int{0, 0}, []int{0, 0}, 0},
		{bundle(most), 0, 1, []int{0, most}, []int{most, -most}, most},
		// all faces are shared: the least one is parted
		{bundle(3, 4), 0, 1, []int{0, 3, 7}, []int{3, -3, 4, -4}, 7},
		{bundle(3, 4), 1, 0, []int{0, 3, 5}, []int{-2, 2, -3, 3}, 5},
		{bundle(3, 4, 6), 0, 1, []int{0, 3, 7, 13}, []int{3, -3, 4, -4, 6, -6}, 13},
		{bundle(3, 4, 6), 1, 0, []int{0, 8, 5, 10}, []int{-2, 2, -3, 3, -5, 5}, 10},
		// rings and another vertex's edge are gone round by the faces, for nothing
		{nettest.Eye(), 0, 1, []int{0, 0, 2, most, most + 6}, []int{0, 0, 2, -2, most, -most, 6, -6}, most + 6},
		{nettest.Fence(), 0, 1, []int{2, 0, 3}, []int{-2, 2, 3, -3, 0, 0}, 3},
		// b does not lie highest
		{nettest.Fence(), 1, 0, []int{6, 0, 4}, []int{-2, 2, -4, 4, 0, 0}, 4},
		{nettest.Fence(), 0, 2, []int{0, 1, 5}, []int{1, -1, 0, 0, 5, -5}, 5},
		{nettest.Fence(), 2, 0, []int{0, 7, 6}, []int{1, -1, 0, 0, -6, 6}, 6},
		// one face, parted
		{nettest.Twig(), 0, 1, []int{0, 1}, []int{1, -1, 0, 0, 0, 0}, 1},
		{nettest.Twig(), 2, 3, []int{0, 1}, []int{1, -1, -1, 1, 1, -1}, 1},
		{nettest.Twig(), 3, 2, []int{0, 2}, []int{-2, 2, 2, -2, -2, 2}, 2},
		{nettest.Line(4), 1, 3, []int{0, 1}, []int{0, 0, 1, -1, 1, -1}, 1},
		{nettest.Line(4), 0, 3, []int{0, 0}, []int{0, 0, 0, 0, 0, 0}, 0},
		// there and back hold so unlike each other that the way is long
		{crossing(), 0, 2, []int{0, 1, 10, 70}, []int{1, -1, 1, -1, -60, 60, -60, 60, 9, -9}, 70},
		{crossing(), 1, 3, []int{0, 3, 5, 23}, []int{-20, 20, 3, -3, 5, -5, -18, 18, 2, -2}, 23},
	} {
		height, e := rim.Heights(c.net, c.s, c.t)
		flow, value, g := rim.Flow(c.net, c.s, c.t)
		if e != api.OK || g != api.OK || !slices.Equal(height, c.height) || !slices.Equal(flow, c.flow) || value != c.value {
			t.Errorf("%v, %d, %d: %v, %v, %v, %d, %v", c.net, c.s, c.t, height, e, flow, value, g)
		}
	}
}

// As many edges as there may be, each of which holds as much as may be: a face lies higher than any one of them.
func TestP801Greatest(t *testing.T) {
	n := bundle(slices.Repeat([]int{api.MaxCap}, api.MaxEdges)...)
	height, e := rim.Heights(n, 0, 1)
	flow, value, g := rim.Flow(n, 0, 1)
	if e != api.OK || g != api.OK || value != api.MaxEdges*api.MaxCap || len(height) != api.MaxEdges+1 {
		t.Fatalf("%v, %v, %d, %v, %v", height, flow, value, e, g)
	}
	for face := range api.MaxEdges + 1 {
		if height[face] != face*api.MaxCap {
			t.Errorf("face %d lies at %d", face, height[face])
		}
	}
	for d, x := range flow {
		if x != api.MaxCap*(1-d%2*2) {
			t.Errorf("dart %d: %d", d, x)
		}
	}
	// a line of all vertices holds what its edge that holds least does
	n = nettest.Line(api.MaxVertices)
	for s := range n.N {
		if _, value, e := rim.Flow(n, s, n.N-1); s < n.N-1 && (value != s || e != api.OK) {
			t.Errorf("from %d: %d, %v", s, value, e)
		}
	}
}

func TestP801Errors(t *testing.T) {
	one, fence := api.Net{N: 1}, nettest.Fence()
	for _, c := range []struct {
		net  api.Net
		s, t int
		want api.Errno
	}{
		{one, 0, 0, api.SameEnds}, {one, 0, 1, api.BadVertex}, {one, 1, 0, api.BadVertex}, {nettest.Loops(3), 0, 0, api.SameEnds},
		{fence, 0, -1, api.BadVertex}, {fence, -1, 0, api.BadVertex}, {fence, 0, 3, api.BadVertex}, {fence, 3, 0, api.BadVertex},
		{fence, math.MinInt, 0, api.BadVertex}, {fence, 0, math.MaxInt, api.BadVertex}, {fence, math.MaxInt, math.MinInt, api.BadVertex}, {fence, 1 << 32, 1, api.BadVertex},
		// the same, but no vertex
		{one, 1, 1, api.BadVertex}, {fence, -1, -1, api.BadVertex}, {fence, 3, 3, api.BadVertex}, {fence, math.MaxInt, math.MaxInt, api.BadVertex},
		{fence, 0, 0, api.SameEnds}, {fence, 1, 1, api.SameEnds}, {fence, 2, 2, api.SameEnds},
		{fence, 1, 2, api.NoRim}, {fence, 2, 1, api.NoRim},
	} {
		height, e := rim.Heights(c.net, c.s, c.t)
		flow, value, g := rim.Flow(c.net, c.s, c.t)
		if e != c.want || g != c.want || len(height)+len(flow) > 0 || value != 0 {
			t.Errorf("%v, %d, %d: %v, %v, %v, %d, %v", c.net, c.s, c.t, height, e, flow, value, g)
		}
	}
}

// wanted tells by the promise's words what Heights is to answer: each dart may make the way to its other's face shorter, as often as there are faces. Beside it, what Flow is to answer.
func wanted(n api.Net, s, t int) (height, flow []int, value int, e api.Errno) {
	if min(s, t) < 0 || max(s, t) >= n.N {
		return nil, nil, 0, api.BadVertex
	}
	if s == t {
		return nil, nil, 0, api.SameEnds
	}
	of, faces, a, b, is := dual.Split(n, s, t)
	if !is {
		return nil, nil, 0, api.NoRim
	}
	height = slices.Repeat([]int{api.Far}, faces)
	height[a] = 0
	for range faces {
		for d, face := range of {
			height[of[d^1]] = min(height[of[d^1]], height[face]+n.Cap[d])
		}
	}
	for d, face := range of {
		flow = append(flow, height[of[d^1]]-height[face])
	}
	return height, flow, height[b], api.OK
}

func TestP801ByDice(t *testing.T) {
	dice := nettest.NewDice(801)
	met := map[api.Errno]int{}
	above := 0
	for range 600 {
		n := dice.Plane(dice.Of(api.MaxEdges + 1))
		for range 8 {
			s, u := dice.Of(n.N+2)-1, dice.Of(n.N+2)-1
			want, run, most, fault := wanted(n, s, u)
			height, e := rim.Heights(n, s, u)
			flow, value, g := rim.Flow(n, s, u)
			if e != fault || g != fault || !slices.Equal(height, want) || !slices.Equal(flow, run) || value != most {
				t.Fatalf("%v, %d, %d: %v, %v, %v, %d, %v, not %v, %v, %d, %v", n, s, u, height, e, flow, value, g, want, run, most, fault)
			}
			met[e]++
			if len(want) > 0 && slices.Max(want) > most {
				above++
			}
		}
	}
	if min(met[api.OK], met[api.BadVertex], met[api.SameEnds], met[api.NoRim], above) < 100 {
		t.Errorf("the dice miss some: %v, %d", met, above)
	}
}

// greatest tells a greatest flow's value by the ways on which more may run, till there is none.
func greatest(n api.Net, s, t int) int {
	left := slices.Clone(n.Cap)
	value := 0
	for {
		by := map[int]int{s: -1}
		found := []int{s}
		for i := 0; i < len(found); i++ {
			for d, v := range n.Tail {
				w := n.Tail[d^1]
				if _, is := by[w]; v == found[i] && left[d] > 0 && !is {
					by[w] = d
					found = append(found, w)
				}
			}
		}
		if _, is := by[t]; !is {
			return value
		}
		more := math.MaxInt
		for v := t; v != s; v = n.Tail[by[v]] {
			more = min(more, left[by[v]])
		}
		for v := t; v != s; v = n.Tail[by[v]] {
			left[by[v]] -= more
			left[by[v]^1] += more
		}
		value += more
	}
}

// isFlow tells whether f is a flow of n from s to t (W4), of that value.
func isFlow(n api.Net, s, t int, f []int, value int) bool {
	if len(f) != len(n.Tail) {
		return false
	}
	sums := make([]int, n.N)
	for d, v := range n.Tail {
		if f[d] != -f[d^1] || f[d] > n.Cap[d] {
			return false
		}
		sums[v] += f[d]
	}
	want := make([]int, n.N)
	want[s], want[t] = value, -value
	return slices.Equal(sums, want)
}

func TestP802GreatestFlow(t *testing.T) {
	dice := nettest.NewDice(802)
	nets := []api.Net{nettest.Eye(), nettest.Fence(), nettest.Twig(), crossing(), bundle(7), bundle(1, 0, 3, 2), nettest.Line(20)}
	for range 200 {
		nets = append(nets, dice.Plane(1+dice.Of(api.MaxEdges)), dice.Plane(1+dice.Of(20)))
	}
	nothing, something := 0, 0
	for _, n := range nets {
		for range 6 {
			s, u := dice.Of(n.N), dice.Of(n.N)
			flow, value, e := rim.Flow(n, s, u)
			if e != api.OK {
				continue
			}
			if !isFlow(n, s, u, flow, value) || value != greatest(n, s, u) {
				t.Fatalf("%v, %d, %d: %v, %d, the greatest is %d", n, s, u, flow, value, greatest(n, s, u))
			}
			if value == 0 {
				nothing++
			} else {
				something++
			}
		}
	}
	if min(nothing, something) < 100 {
		t.Errorf("the dice miss some: %d, %d", nothing, something)
	}
}

// all calls every face of the package.
func all(n api.Net, s, t int) {
	rim.Heights(n, s, t)
	rim.Flow(n, s, t)
}

func TestP1(t *testing.T) {
	dice := nettest.NewDice(1)
	for range 20000 {
		all(dice.Junk(), dice.Wild(), dice.Wild())
	}
	// knotted nets, apart ones, and ones of which a number is wild
	for range 20000 {
		n := dice.Any(3, 4)
		all(n, dice.Of(3), dice.Of(3))
		list := [][]int{n.Tail, n.Next, n.Cap}[dice.Of(3)]
		list[dice.Of(8)] = dice.Wild()
		all(n, dice.Of(3), dice.Of(3))
		all(n, dice.Wild(), dice.Wild())
	}
	// more vertices and more edges than a net may have
	all(api.Net{N: math.MaxInt}, 0, math.MaxInt-1)
	all(nettest.Line(1000), 0, 999)
	all(bundle(make([]int, 1000)...), 0, 1)
	for _, most := range []int{math.MaxInt, math.MinInt, -1, api.MaxCap + 1} {
		all(bundle(slices.Repeat([]int{most}, api.MaxEdges)...), 0, 1)
	}
}

func TestP2HandedIn(t *testing.T) {
	for _, n := range []api.Net{nettest.Eye(), nettest.Fence(), nettest.Twig(), crossing(), bundle(3, 4, 6)} {
		n = nettest.Roomy(n)
		unchanged := nettest.Watch(n.Tail, n.Next, n.Cap)
		for s := range n.N {
			for u := range n.N {
				all(n, s, u)
			}
		}
		if !unchanged() {
			t.Errorf("handed in %v", n)
		}
	}
}

func TestP2Answered(t *testing.T) {
	n := nettest.Roomy(crossing())
	lists := [][]int{n.Tail, n.Next, n.Cap}
	for range 2 {
		height, _ := rim.Heights(n, 0, 2)
		flow, _, _ := rim.Flow(n, 0, 2)
		lists = append(lists, height, flow)
	}
	if !nettest.Apart(lists...) {
		t.Error("lists share memory")
	}
}

func TestP3(t *testing.T) {
	dice := nettest.NewDice(3)
	for range 200 {
		n := dice.Plane(dice.Of(60))
		s, u := dice.Of(n.N), dice.Of(n.N)
		height, e := rim.Heights(n, s, u)
		flow, value, g := rim.Flow(n, s, u)
		all(dice.Plane(dice.Of(60)), u, s)
		again, e2 := rim.Heights(n, s, u)
		same, value2, g2 := rim.Flow(n, s, u)
		if !slices.Equal(height, again) || e != e2 || !slices.Equal(flow, same) || value != value2 || g != g2 {
			t.Fatalf("%v, %d, %d: not the same again", n, s, u)
		}
	}
}
