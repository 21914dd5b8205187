package tree_test

import (
	"math"
	"slices"
	"testing"

	"watershed/api"
	"watershed/dual"
	"watershed/nettest"
	"watershed/rot"
	"watershed/tree"
)

// square goes round 0 1 2 3, with two edges between 2 and 3, and a ring at 3.
func square() api.Net {
	return api.Net{N: 4, Tail: []int{3, 0, 2, 1, 2, 3, 1, 0, 3, 2, 3, 3}, Next: []int{10, 7, 9, 6, 2, 8, 3, 1, 0, 4, 11, 5}, Cap: make([]int, 12)}
}

func TestKnownArePlane(t *testing.T) {
	if e := rot.Check(square()); e != api.OK {
		t.Error(e)
	}
}

// straight tells the tree of a line, from a root.
func straight(vertices, root int) []int {
	up := make([]int, vertices)
	for v := range up {
		switch {
		case v < root:
			up[v] = 2 * v
		case v > root:
			up[v] = 2*v - 1
		default:
			up[v] = -1
		}
	}
	return up
}

func TestP401Span(t *testing.T) {
	for _, c := range []struct {
		net  api.Net
		root int
		want []int
	}{
		{api.Net{N: 1}, 0, []int{-1}},
		{nettest.Loops(1), 0, []int{-1}}, {nettest.Loops(api.MaxEdges), 0, []int{-1}},
		{nettest.Eye(), 0, []int{-1, 5}}, {nettest.Eye(), 1, []int{4, -1}},
		{nettest.Line(2), 1, []int{0, -1}},
		{nettest.Line(60), 0, straight(60, 0)}, {nettest.Line(60), 59, straight(60, 59)}, {nettest.Line(60), 31, straight(60, 31)},
		// 3 is found ahead of 1, by the lesser dart, so 2 hangs on 3, by the lesser one of two
		{square(), 0, []int{-1, 6, 4, 0}},
		// 2 is found ahead of 0, and finds 3
		{square(), 1, []int{7, -1, 2, 5}},
		{square(), 2, []int{7, 3, -1, 5}},
		{square(), 3, []int{1, 6, 4, -1}},
	} {
		if got := tree.Span(c.net, c.root); !slices.Equal(got, c.want) {
			t.Errorf("Span %v, %d: %v, not %v", c.net, c.root, got, c.want)
		}
	}
}

// spanned goes by the promise's words: the first vertex found that has a dart to one not found yet finds it, by the least such dart.
func spanned(n api.Net, root int) []int {
	up := slices.Repeat([]int{-1}, n.N)
	row := []int{root}
	for len(row) < n.N {
		first, least := len(row), -1
		for d, tail := range n.Tail {
			at := slices.Index(row, tail)
			if at >= 0 && at < first && !slices.Contains(row, n.Tail[d^1]) {
				first, least = at, d
			}
		}
		v := n.Tail[least^1]
		up[v] = least ^ 1
		row = append(row, v)
	}
	return up
}

func TestP401SpanByDice(t *testing.T) {
	dice := nettest.NewDice(401)
	for range 400 {
		n := dice.Plane(dice.Of(api.MaxEdges + 1))
		root := dice.Of(n.N)
		up := tree.Span(n, root)
		if !slices.Equal(up, spanned(n, root)) || !tree.Right(n, up, root) {
			t.Fatalf("Span %v, %d: %v", n, root, up)
		}
	}
}

func TestP401Right(t *testing.T) {
	n := square()
	for _, c := range []struct {
		net  api.Net
		up   []int
		root int
		want bool
	}{
		{api.Net{N: 1}, []int{-1}, 0, true}, {nettest.Loops(2), []int{-1}, 0, true},
		{nettest.Line(60), straight(60, 0), 0, true}, {nettest.Line(60), straight(60, 17), 17, true},
		{n, []int{-1, 6, 4, 0}, 0, true}, {n, []int{-1, 6, 9, 0}, 0, true}, {n, []int{-1, 6, 2, 5}, 0, true}, {n, []int{-1, 6, 2, 8}, 0, true}, {n, []int{-1, 3, 4, 0}, 0, true},
		// not so long as there are vertices
		{api.Net{N: 1}, nil, 0, false}, {api.Net{N: 1}, []int{-1, -1}, 0, false}, {n, nil, 0, false}, {n, []int{-1, 6, 4}, 0, false}, {n, []int{-1, 6, 4, 0, -1}, 0, false}, {n, []int{-1, 6, 4, 0, 0}, 0, false},
		// not of that root, or of none
		{n, []int{-1, 6, 4, 0}, 1, false}, {n, []int{-1, 6, 4, 0}, -1, false}, {n, []int{-1, 6, 4, 0}, 4, false}, {n, []int{-1, 6, 4, 0}, math.MaxInt, false}, {n, []int{-1, 6, 4, 0}, math.MinInt, false},
		{api.Net{N: 1}, []int{-1}, 1, false}, {api.Net{N: 1}, []int{-1}, -1, false},
		// the root's is not -1
		{nettest.Loops(1), []int{0}, 0, false}, {api.Net{N: 1}, []int{0}, 0, false}, {api.Net{N: 1}, []int{-2}, 0, false}, {n, []int{-2, 6, 4, 0}, 0, false}, {n, []int{1, 6, 4, 0}, 0, false}, {n, []int{12, 6, 4, 0}, 0, false}, {n, []int{7, 6, 4, 0}, 0, false},
		// not of the root alone
		{n, []int{-1, -1, 4, 0}, 0, false}, {n, []int{-1, 6, -1, 0}, 0, false}, {n, []int{-1, 6, 4, -1}, 0, false},
		// no dart
		{n, []int{-1, 6, 4, 12}, 0, false}, {n, []int{-1, 6, 4, -2}, 0, false}, {n, []int{-1, math.MaxInt, 4, 0}, 0, false}, {n, []int{-1, 6, math.MinInt, 0}, 0, false},
		// a dart of another vertex
		{n, []int{-1, 6, 5, 0}, 0, false}, {n, []int{-1, 7, 4, 0}, 0, false}, {n, []int{-1, 6, 4, 1}, 0, false}, {n, []int{-1, 6, 0, 0}, 0, false},
		// rounds: of one vertex, of two by one edge, of two by two
		{n, []int{-1, 6, 4, 10}, 0, false}, {n, []int{-1, 6, 4, 11}, 0, false}, {n, []int{-1, 3, 2, 0}, 0, false}, {n, []int{-1, 6, 4, 5}, 0, false}, {n, []int{-1, 6, 4, 8}, 0, false}, {n, []int{-1, 3, 4, 8}, 0, false},
	} {
		if got := tree.Right(c.net, c.up, c.root); got != c.want {
			t.Errorf("Right %v, %v, %d: %v", c.net, c.up, c.root, got)
		}
	}
}

// comes tells whether by up's darts one comes from v to root, in less steps than there are vertices.
func comes(n api.Net, up []int, v, root int) bool {
	for range n.N {
		if v == root {
			return true
		}
		d := up[v]
		if d < 0 || d >= len(n.Tail) || n.Tail[d] != v {
			return false
		}
		v = n.Tail[d^1]
	}
	return false
}

// right goes by the promise's words.
func right(n api.Net, up []int, root int) bool {
	if len(up) != n.N || root < 0 || root >= n.N || up[root] != -1 {
		return false
	}
	for v := range up {
		if !comes(n, up, v, root) {
			return false
		}
	}
	return true
}

// grown throws a tree that hangs on root: any edge from what is found to what is not may be next.
func grown(dice *nettest.Dice, n api.Net, root int) []int {
	up := slices.Repeat([]int{-1}, n.N)
	found := make([]bool, n.N)
	found[root] = true
	for range n.N - 1 {
		var l []int
		for d, tail := range n.Tail {
			if !found[tail] && found[n.Tail[d^1]] {
				l = append(l, d)
			}
		}
		d := l[dice.Of(len(l))]
		up[n.Tail[d]] = d
		found[n.Tail[d]] = true
	}
	return up
}

func TestP401RightByDice(t *testing.T) {
	dice := nettest.NewDice(4010)
	var yes, no int
	for range 3000 {
		n := dice.Plane(1 + dice.Of(20))
		root := dice.Of(n.N)
		up := grown(dice, n, root)
		if !tree.Right(n, up, root) {
			t.Fatalf("Right %v, %v, %d: false", n, up, root)
		}
		// some lead elsewhere: mostly along another dart of the same vertex, so that all but the last word holds
		for range dice.Of(4) {
			v := dice.Of(n.N)
			d := dice.Of(len(n.Tail)+3) - 2
			if dice.Of(4) > 0 {
				d = dice.Of(len(n.Tail))
				v = n.Tail[d]
			}
			if v != root || dice.Of(9) == 0 {
				up[v] = d
			}
		}
		if dice.Of(9) == 0 {
			root = dice.Of(n.N+2) - 1
		}
		is := tree.Right(n, up, root)
		if is != right(n, up, root) {
			t.Fatalf("Right %v, %v, %d: %v", n, up, root, is)
		}
		if is {
			yes++
		} else {
			no++
		}
	}
	if min(yes, no) < 500 {
		t.Errorf("the dice miss some: %d, %d", yes, no)
	}
}

func TestP401Left(t *testing.T) {
	for _, c := range []struct {
		net      api.Net
		up, want []int
	}{
		{api.Net{N: 1}, []int{-1}, nil}, {nettest.Loops(3), []int{-1}, []int{0, 2, 4}},
		{nettest.Line(60), straight(60, 31), nil},
		{nettest.Eye(), []int{-1, 5}, []int{0, 2, 6}}, {nettest.Eye(), []int{-1, 7}, []int{0, 2, 4}}, {nettest.Eye(), []int{6, -1}, []int{0, 2, 4}},
		{square(), []int{-1, 6, 4, 0}, []int{2, 8, 10}}, {square(), []int{-1, 6, 9, 0}, []int{2, 4, 10}}, {square(), []int{7, -1, 2, 8}, []int{0, 4, 10}}, {square(), []int{1, 3, 4, -1}, []int{6, 8, 10}},
	} {
		if got := tree.Left(c.net, c.up); !slices.Equal(got, c.want) {
			t.Errorf("Left %v, %v: %v, not %v", c.net, c.up, got, c.want)
		}
	}
}

func TestP401Way(t *testing.T) {
	for _, c := range []struct {
		net  api.Net
		up   []int
		v    int
		want []int
	}{
		{api.Net{N: 1}, []int{-1}, 0, nil}, {nettest.Loops(3), []int{-1}, 0, nil},
		{nettest.Eye(), []int{-1, 7}, 1, []int{7}}, {nettest.Eye(), []int{6, -1}, 0, []int{6}}, {nettest.Eye(), []int{6, -1}, 1, nil},
		{nettest.Line(5), straight(5, 1), 4, []int{7, 5, 3}}, {nettest.Line(5), straight(5, 1), 0, []int{0}}, {nettest.Line(5), straight(5, 1), 1, nil},
		{square(), []int{-1, 3, 9, 0}, 1, []int{3, 9, 0}}, {square(), []int{-1, 3, 9, 0}, 2, []int{9, 0}}, {square(), []int{-1, 3, 9, 0}, 3, []int{0}}, {square(), []int{-1, 3, 9, 0}, 0, nil},
	} {
		if got := tree.Way(c.net, c.up, c.v); !slices.Equal(got, c.want) {
			t.Errorf("Way %v, %v, %d: %v, not %v", c.net, c.up, c.v, got, c.want)
		}
	}
	if way := tree.Way(nettest.Line(60), straight(60, 0), 59); len(way) != 59 || way[0] != 117 || way[58] != 1 {
		t.Errorf("Way of 59 darts: %v", way)
	}
}

// trees tells the tree that is found from root on, and some others that hang on it.
func trees(dice *nettest.Dice, n api.Net, root int) [][]int {
	return [][]int{tree.Span(n, root), grown(dice, n, root), grown(dice, n, root)}
}

func TestP401LeftAndWayByDice(t *testing.T) {
	dice := nettest.NewDice(4011)
	for range 200 {
		n := dice.Plane(dice.Of(api.MaxEdges + 1))
		root := dice.Of(n.N)
		for _, up := range trees(dice, n, root) {
			left := tree.Left(n, up)
			var want []int
			for d := 0; d < len(n.Tail); d += 2 {
				if !slices.Contains(up, d) && !slices.Contains(up, d+1) {
					want = append(want, d)
				}
			}
			if !slices.Equal(left, want) {
				t.Fatalf("Left %v, %v: %v", n, up, left)
			}
			// a way is a dart, and the way from where it ends
			for v, d := range up {
				way := tree.Way(n, up, v)
				if v == root && len(way) == 0 {
					continue
				}
				if v == root || !slices.Equal(way, append([]int{d}, tree.Way(n, up, n.Tail[d^1])...)) {
					t.Fatalf("Way %v, %v, %d: %v", n, up, v, way)
				}
			}
		}
	}
}

// piecesBy tells in how many pieces n's vertices are, by these edges alone.
func piecesBy(n api.Net, edges []int) int {
	of := make([]int, n.N)
	for v := range of {
		of[v] = v
	}
	pieces := n.N
	for _, d := range edges {
		a, b := of[n.Tail[d]], of[n.Tail[d+1]]
		if a == b {
			continue
		}
		pieces--
		for v := range of {
			if of[v] == b {
				of[v] = a
			}
		}
	}
	return pieces
}

func TestP402LeftIsTreeOfDual(t *testing.T) {
	dice := nettest.NewDice(402)
	nets := []api.Net{{N: 1}, nettest.Loops(api.MaxEdges), nettest.Line(api.MaxVertices), nettest.Eye(), square()}
	for range 300 {
		nets = append(nets, dice.Plane(dice.Of(api.MaxEdges+1)))
	}
	for _, n := range nets {
		m := dual.Make(n)
		for _, up := range trees(dice, n, dice.Of(n.N)) {
			left := tree.Left(n, up)
			if len(left) != m.N-1 || piecesBy(m, left) != 1 {
				t.Fatalf("Left %v, %v: %v is no tree of %v", n, up, left, m)
			}
		}
	}
}

// all calls every face of the package.
func all(n api.Net, up []int, v int) {
	tree.Span(n, v)
	tree.Left(n, up)
	tree.Right(n, up, v)
	tree.Way(n, up, v)
}

func TestP1(t *testing.T) {
	dice := nettest.NewDice(1)
	for range 20000 {
		all(dice.Junk(), dice.Wilds(), dice.Wild())
	}
	// ups that are none, of nets that hang together or not
	for range 20000 {
		n := dice.Any(3, 4)
		up := []int{dice.Of(9) - 1, dice.Of(9) - 1, dice.Of(9) - 1}
		for _, v := range []int{math.MinInt, -1, 0, 1, 2, 3, math.MaxInt} {
			all(n, up, v)
		}
	}
	// a dart without its other
	all(api.Net{N: 2, Tail: []int{0, 1, 1}, Next: []int{0, 2, 1}, Cap: []int{0, 0, 0}}, []int{-1, 2}, 1)
	all(api.Net{N: math.MaxInt}, []int{-1}, 0)
	all(api.Net{N: math.MinInt, Tail: []int{0, 0}}, []int{-1}, 0)
}

// however long the ways are, no call goes over them once a vertex
func TestP1Long(t *testing.T) {
	const vertices = 500_000
	n := nettest.Line(vertices)
	up := tree.Span(n, 0)
	if !slices.Equal(up, straight(vertices, 0)) || !tree.Right(n, up, 0) || len(tree.Way(n, up, vertices-1)) != vertices-1 {
		t.Error("Span of a long line")
	}
	// at the far end two lead to each other
	up[vertices-2] = 2 * (vertices - 2)
	if tree.Right(n, up, 0) {
		t.Error("Right of a round at the end of a long line")
	}
	all(n, up, vertices-1)
	all(n, straight(vertices, vertices-1), 0)
}

func TestP2HandedIn(t *testing.T) {
	for _, c := range []struct {
		net api.Net
		up  []int
	}{
		{nettest.Eye(), []int{-1, 7}}, {square(), []int{-1, 3, 9, 0}}, {square(), []int{7, -1, 2, 8}}, {square(), []int{-1, 6, 4, 10}}, {nettest.Loops(2), []int{-1}}, {square(), nil},
	} {
		n, up := nettest.Roomy(c.net), slices.Grow(c.up, 9)
		unchanged := nettest.Watch(n.Tail, n.Next, n.Cap, up)
		for v := range n.N {
			all(n, up, v)
		}
		if !unchanged() {
			t.Errorf("handed in %v, %v", n, up)
		}
	}
}

func TestP2Answered(t *testing.T) {
	n := nettest.Roomy(square())
	up := slices.Grow([]int{-1, 3, 9, 0}, 9)
	lists := [][]int{n.Tail, n.Next, n.Cap, up}
	for v := range n.N {
		lists = append(lists, tree.Span(n, v), tree.Span(n, v), tree.Way(n, up, v), tree.Way(n, up, v), tree.Left(n, up))
	}
	if !nettest.Apart(lists...) {
		t.Error("lists share memory")
	}
}

func TestP3(t *testing.T) {
	dice := nettest.NewDice(3)
	for range 100 {
		n := dice.Plane(dice.Of(60))
		root, v := dice.Of(n.N), dice.Of(n.N)
		up := tree.Span(n, root)
		left, way := tree.Left(n, up), tree.Way(n, up, v)
		all(dice.Plane(dice.Of(60)), up, v)
		if !slices.Equal(up, tree.Span(n, root)) || !slices.Equal(left, tree.Left(n, up)) || !slices.Equal(way, tree.Way(n, up, v)) || !tree.Right(n, up, root) {
			t.Fatalf("%v, %d, %d: not the same again", n, root, v)
		}
	}
}
