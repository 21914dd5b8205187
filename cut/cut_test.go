package cut_test

import (
	"slices"
	"testing"

	"watershed/api"
	"watershed/cut"
	"watershed/flow"
	"watershed/nettest"
	"watershed/rot"
)

// set tells which of so many vertices are some.
func set(vertices int, some ...int) []bool {
	in := make([]bool, vertices)
	for _, v := range some {
		in[v] = true
	}
	return in
}

// turned tells in with each vertex on the other side.
func turned(in []bool) []bool {
	var out []bool
	for _, is := range in {
		out = append(out, !is)
	}
	return out
}

// grid throws a net of rows of vertices, each with an edge to the ones beside it: a cut of it is long.
func grid(dice *nettest.Dice) api.Net {
	wide, high := 1+dice.Of(8), 1+dice.Of(7)
	n := api.Net{N: wide * high}
	about := make([][4]int, n.N)
	lay := func(v, w, side int) {
		d := len(n.Tail)
		n.Tail, n.Cap = append(n.Tail, v, w), append(n.Cap, dice.Of(9), dice.Of(9))
		// two sides on is the one over against it; 0 stands for no dart
		about[v][side], about[w][side+2] = d+1, d+2
	}
	for v := range n.N {
		if v%wide+1 < wide {
			lay(v, v+1, 0)
		}
		if v+wide < n.N {
			lay(v, v+wide, 1)
		}
	}
	n.Next = make([]int, len(n.Tail))
	for _, l := range about {
		darts := slices.DeleteFunc(l[:], func(x int) bool { return x == 0 })
		for i, d := range darts {
			n.Next[d-1] = darts[(i+1)%len(darts)] - 1
		}
	}
	return n
}

// great throws a net that may have as many edges as there may be.
func great(dice *nettest.Dice) api.Net {
	if dice.Of(2) == 0 {
		return grid(dice)
	}
	return dice.Plane(1 + dice.Of(api.MaxEdges))
}

// known are the nets that are tested one by one.
func known() []api.Net {
	return []api.Net{{N: 1}, nettest.Eye(), nettest.Fence(), nettest.Twig(), nettest.Crossing(), nettest.Globe(), nettest.Loops(3), nettest.Line(9), nettest.Bundle(1, 0, 3, 2)}
}

func TestNetsArePlane(t *testing.T) {
	dice := nettest.NewDice(10)
	nets := known()
	for range 100 {
		nets = append(nets, grid(dice))
	}
	for _, n := range nets {
		if e := rot.Check(n); e != api.OK {
			t.Errorf("%v: %v", n, e)
		}
	}
}

func TestP1001Known(t *testing.T) {
	const most = api.MaxCap
	for _, c := range []struct {
		net api.Net
		in  []bool
		sum int
		// none: in or the others are not of one piece
		cycle []int
	}{
		{api.Net{N: 1}, nil, 0, nil}, {api.Net{N: 1}, set(1), 0, nil}, {api.Net{N: 1}, set(1, 0), 0, nil},
		// edges that end where they begin are never of it
		{nettest.Loops(3), nil, 0, nil}, {nettest.Loops(3), set(1, 0), 0, nil},
		{nettest.Eye(), set(2, 0), most + 6, []int{4, 6}}, {nettest.Eye(), set(2, 1), 12, []int{5, 7}}, {nettest.Eye(), set(2, 0, 1), 0, nil}, {nettest.Eye(), set(2), 0, nil},
		// an edge with the same face on both sides is round about by itself
		{nettest.Fence(), set(3, 1), 4, []int{3}}, {nettest.Fence(), set(3, 0, 2), 3, []int{2}}, {nettest.Fence(), set(3, 0, 1), 5, []int{4}}, {nettest.Fence(), set(3, 2), 6, []int{5}},
		{nettest.Fence(), set(3, 0), 8, nil}, {nettest.Fence(), set(3, 1, 2), 10, nil},
		{nettest.Twig(), set(4, 0, 2), 1, []int{0}}, {nettest.Twig(), set(4, 1, 3), 2, []int{1}}, {nettest.Twig(), set(4, 2), 4, []int{3}}, {nettest.Twig(), set(4, 0, 1, 3), 3, []int{2}},
		{nettest.Twig(), set(4, 0, 3), 1 + 3 + 6, nil}, {nettest.Twig(), set(4, 2, 3), 10, nil}, {nettest.Twig(), set(4, 0, 1), 8, nil},
		// in the order of Next about a vertex, about all but it against that
		{nettest.Bundle(3, 4, 6), set(2, 0), 13, []int{0, 2, 4}}, {nettest.Bundle(3, 4, 6), set(2, 1), 10, []int{1, 5, 3}},
		{nettest.Globe(), set(6, 0), 7, []int{0, 9, 7, 17}}, {nettest.Globe(), set(6, 4), 10, []int{8, 10, 12, 14}}, {nettest.Globe(), set(6, 5), 0, []int{16, 22, 20, 18}},
		{nettest.Globe(), set(6, 0, 1, 2, 3, 4), 10, []int{17, 19, 21, 23}}, {nettest.Globe(), set(6, 0, 4), 7, []int{0, 10, 12, 14, 7, 17}},
		{nettest.Globe(), set(6, 4, 5), 10, nil}, {nettest.Globe(), set(6, 0, 1, 2, 3), 10, nil}, {nettest.Globe(), set(6, 0, 2), 16, nil}, {nettest.Globe(), set(6, 1, 3, 4, 5), 22, nil},
		{nettest.Crossing(), set(4, 0, 1), 3 + 80 + 9, []int{2, 8, 7}}, {nettest.Crossing(), set(4, 2, 3), 40 + 7 + 100, []int{3, 6, 9}}, {nettest.Crossing(), set(4, 1, 3), 20 + 3 + 60 + 7, nil},
	} {
		round, is := cut.Cycle(c.net, c.in)
		if sum := cut.Sum(c.net, c.in); sum != c.sum || is != (len(c.cycle) > 0) || !slices.Equal(round, c.cycle) {
			t.Errorf("%v, %v: %d, %v, %v, not %d, %v", c.net, c.in, sum, round, is, c.sum, c.cycle)
		}
	}
}

// What in lacks is false, and what it has too much does not matter; nor does its spare room.
func TestP1001InOfAnyLength(t *testing.T) {
	for _, n := range known() {
		for in := range nettest.Sets(n.N) {
			round, is := cut.Cycle(n, in)
			sum := cut.Sum(n, in)
			short := slices.Clone(in)
			for len(short) > 0 && !short[len(short)-1] {
				short = short[:len(short)-1]
			}
			roomy := append(short, slices.Repeat([]bool{true}, 70)...)[:len(short)]
			for _, same := range [][]bool{short, roomy, append(slices.Clone(in), true), append(slices.Clone(in), make([]bool, 300)...), slices.Concat(in, slices.Repeat([]bool{true}, 300))} {
				again, isAgain := cut.Cycle(n, same)
				if isAgain != is || !slices.Equal(again, round) || cut.Sum(n, same) != sum {
					t.Fatalf("%v, %v: %d, %v, %v, not %d, %v, %v", n, same, cut.Sum(n, same), again, isAgain, sum, round, is)
				}
			}
		}
	}
}

// As many edges, and as many vertices, as there may be.
func TestP1001AtBounds(t *testing.T) {
	n := nettest.Bundle(slices.Repeat([]int{api.MaxCap}, api.MaxEdges)...)
	var there []int
	for e := range api.MaxEdges {
		there = append(there, 2*e)
	}
	round, is := cut.Cycle(n, []bool{true})
	if sum := cut.Sum(n, []bool{true}); sum != api.MaxEdges*api.MaxCap || !is || !slices.Equal(round, there) {
		t.Errorf("%d, %v, %v", sum, round, is)
	}
	n = nettest.Line(api.MaxVertices)
	for e := range api.MaxVertices - 1 {
		in := set(n.N)
		for v := range e + 1 {
			in[v] = true
		}
		for back, in := range [][]bool{in, turned(in)} {
			if round, is := cut.Cycle(n, in); cut.Sum(n, in) != e || !is || !slices.Equal(round, []int{2*e + back}) {
				t.Errorf("%v: %v, %v", in, round, is)
			}
		}
	}
	every := slices.Repeat([]bool{true}, n.N)
	if round, is := cut.Cycle(n, every); is || len(round) > 0 || cut.Sum(n, every) != 0 {
		t.Errorf("all: %v, %v", round, is)
	}
}

// leaving tells by their numbers the darts that begin at a vertex of in and end at none.
func leaving(n api.Net, in []bool) []int {
	var l []int
	for d, v := range n.Tail {
		if in[v] && !in[n.Tail[d^1]] {
			l = append(l, d)
		}
	}
	return l
}

// piece tells by passes over all darts which vertices hang together with v when those of away are taken away.
func piece(n api.Net, away []bool, v int) []bool {
	is := set(n.N, v)
	for range n.N {
		for d, w := range n.Tail {
			if is[w] && !away[n.Tail[d^1]] {
				is[n.Tail[d^1]] = true
			}
		}
	}
	return is
}

// isWhole tells whether the vertices of in are some, and hang together by themselves.
func isWhole(n api.Net, in []bool) bool {
	first := slices.Index(in, true)
	return first >= 0 && slices.Equal(piece(n, turned(in), first), in)
}

// isCycle tells whether round is what Cycle is to answer where in and the others are whole, and meets no face twice.
func isCycle(n api.Net, in []bool, round []int) bool {
	darts := leaving(n, in)
	of, faces := rot.Faces(n)
	met := make([]bool, faces)
	for i, d := range round {
		if met[of[d]] || of[round[(i+1)%len(round)]] != of[d^1] {
			return false
		}
		met[of[d]] = true
	}
	return len(round) > 0 && round[0] == darts[0] && slices.Equal(slices.Sorted(slices.Values(round)), darts)
}

func TestP1001AllSets(t *testing.T) {
	dice := nettest.NewDice(1001)
	nets := known()
	for range 300 {
		nets = append(nets, dice.Plane(dice.Of(14)))
	}
	whole, in1, in2 := 0, 0, 0
	for _, n := range nets {
		if n.N > 9 {
			continue
		}
		for in := range nettest.Sets(n.N) {
			round, is := cut.Cycle(n, in)
			a, b := isWhole(n, in), isWhole(n, turned(in))
			if cut.Sum(n, in) != nettest.Sent(n, in) || is != (a && b) || is && !isCycle(n, in, round) || !is && len(round) > 0 {
				t.Fatalf("%v, %v: %d, %v, %v", n, in, cut.Sum(n, in), round, is)
			}
			switch {
			case a && b:
				whole++
			case a:
				in1++
			case b:
				in2++
			}
		}
	}
	if min(whole, in1, in2) < 500 {
		t.Errorf("the dice miss some: %d, %d, %d", whole, in1, in2)
	}
}

// thrown tells a set of n's vertices that is whole, as the others are: all but what hangs together with t when some about s are taken away.
func thrown(dice *nettest.Dice, n api.Net, s, t int) []bool {
	in := set(n.N, s)
	for range dice.Of(2 * n.N) {
		if d := dice.Of(len(n.Tail)); in[n.Tail[d]] && n.Tail[d^1] != t {
			in[n.Tail[d^1]] = true
		}
	}
	return turned(piece(n, in, t))
}

// Great nets: the round of the others goes the other way about by the same edges, and so does that of the net from behind.
func TestP1001CycleByDice(t *testing.T) {
	dice := nettest.NewDice(10011)
	long := 0
	for range 1000 {
		n := great(dice)
		s, u := dice.Of(n.N), dice.Of(n.N)
		if s == u {
			continue
		}
		in := thrown(dice, n, s, u)
		round, is := cut.Cycle(n, in)
		if !is || !isCycle(n, in, round) || cut.Sum(n, in) != nettest.Sent(n, in) {
			t.Fatalf("%v, %v: %v, %v", n, in, round, is)
		}
		var back []int
		for _, d := range slices.Backward(round) {
			back = append(back, d^1)
		}
		if others, _ := cut.Cycle(n, turned(in)); !slices.Equal(others, fromLeast(back)) {
			t.Fatalf("%v, %v: %v, of the others %v", n, in, round, others)
		}
		slices.Reverse(round[1:])
		if behind, _ := cut.Cycle(rot.Turn(n), in); !slices.Equal(behind, round) {
			t.Fatalf("%v, %v: %v, from behind %v", n, in, round, behind)
		}
		if len(round) > 4 {
			long++
		}
	}
	if long < 100 {
		t.Errorf("the dice miss some: %d", long)
	}
}

// fromLeast tells a round from its least dart on.
func fromLeast(round []int) []int {
	at := slices.Index(round, slices.Min(round))
	return slices.Concat(round[at:], round[:at])
}

func TestP1002Known(t *testing.T) {
	const most = api.MaxCap
	// nothing runs from 0 to 1, which hangs on it alone
	dry := nettest.Fence()
	dry.Cap[2] = 0
	for _, c := range []struct {
		net  api.Net
		s, t int
		in   []bool
		sum  int
		// the darts, one behind the other
		cycle []int
	}{
		{nettest.Bundle(5), 0, 1, set(2, 0), 5, []int{0}}, {nettest.Bundle(5), 1, 0, set(2, 1), 4, []int{1}},
		{nettest.Bundle(0), 0, 1, set(2, 0), 0, []int{0}}, {nettest.Bundle(3, 4, 6), 1, 0, set(2, 1), 10, []int{1, 5, 3}},
		{nettest.Eye(), 0, 1, set(2, 0), most + 6, []int{4, 6}}, {nettest.Eye(), 1, 0, set(2, 1), 12, []int{5, 7}},
		{nettest.Fence(), 0, 1, set(3, 0, 2), 3, []int{2}}, {nettest.Fence(), 0, 2, set(3, 0, 1), 5, []int{4}},
		{nettest.Fence(), 1, 2, set(3, 1), 4, []int{3}}, {nettest.Fence(), 2, 1, set(3, 0, 2), 3, []int{2}},
		{nettest.Twig(), 2, 3, set(4, 0, 2), 1, []int{0}}, {nettest.Twig(), 3, 2, set(4, 1, 3), 2, []int{1}}, {nettest.Twig(), 1, 0, set(4, 1, 3), 2, []int{1}},
		{nettest.Globe(), 4, 5, set(6, 0, 4), 7, []int{0, 10, 12, 14, 7, 17}}, {nettest.Globe(), 5, 4, set(6, 5), 0, []int{16, 22, 20, 18}},
		{nettest.Crossing(), 0, 2, set(4, 0, 3), 70, []int{0, 8, 5}}, {nettest.Crossing(), 1, 3, set(4, 1), 23, []int{1, 2}},
		{nettest.Line(4), 3, 0, set(4, 1, 2, 3), 0, []int{1}}, {nettest.Line(4), 3, 2, set(4, 3), 2, []int{5}}, {nettest.Line(4), 0, 3, set(4, 0), 0, []int{0}},
		// what cannot be reached, but hangs not together with t, is of s's side
		{nettest.Line(4), 1, 3, set(4, 0, 1), 1, []int{2}}, {dry, 0, 2, set(3, 0, 1), 5, []int{4}}, {dry, 0, 1, set(3, 0, 2), 0, []int{2}}, {dry, 2, 1, set(3, 0, 2), 0, []int{2}},
		// of two that hold as little, the one nearer to s
		{nettest.Line(2), 0, 1, set(2, 0), 0, []int{0}}, {even(5), 0, 4, set(5, 0), 7, []int{0}}, {even(5), 4, 0, set(5, 4), 7, []int{7}}, {even(5), 2, 4, set(5, 0, 1, 2), 7, []int{4}},
	} {
		got, e := cut.Least(c.net, c.s, c.t)
		if e != api.OK || got.Sum != c.sum || !slices.Equal(got.In, c.in) || !slices.Equal(got.Cycle, c.cycle) {
			t.Errorf("%v, %d, %d: %v, %v, not %v, %d, %v", c.net, c.s, c.t, got, e, c.in, c.sum, c.cycle)
		}
	}
}

// even is a line each edge of which holds 7.
func even(vertices int) api.Net {
	n := nettest.Line(vertices)
	for d := range n.Cap {
		n.Cap[d] = 7
	}
	return n
}

func TestP1002Errors(t *testing.T) {
	for _, c := range nettest.WrongEnds() {
		if got, e := cut.Least(c.Net, c.S, c.T); e != c.Want || len(got.In) > 0 || got.Sum != 0 || len(got.Cycle) > 0 {
			t.Errorf("%v, %d, %d: %v, %v, not %v", c.Net, c.S, c.T, got, e, c.Want)
		}
	}
}

// What is no plane net is told so, behind the errors of s and t; Sum and Cycle say nothing of it (P8 leaves it open).
func TestOfNoPlaneNet(t *testing.T) {
	for _, n := range nettest.NoPlane() {
		if got, e := cut.Least(n, 0, 1); e == api.OK || e != rot.Check(n) || len(got.In) > 0 || got.Sum != 0 || len(got.Cycle) > 0 {
			t.Errorf("%v: %v, %v", n, got, e)
		}
		if _, e := cut.Least(n, 0, -1); e != api.BadVertex {
			t.Errorf("%v: %v", n, e)
		}
		if _, e := cut.Least(n, 1, 1); e != api.SameEnds {
			t.Errorf("%v: %v", n, e)
		}
		if round, is := cut.Cycle(n, []bool{true}); is || len(round) > 0 || cut.Sum(n, []bool{true}) != 0 {
			t.Errorf("%v: %v, %v", n, round, is)
		}
	}
}

// nearest tells the vertices that all of the least cuts have on s's side.
func nearest(n api.Net, s, t int) []bool {
	least := nettest.LeastCut(n, s, t)
	near := slices.Repeat([]bool{true}, n.N)
	for in := range nettest.Sets(n.N) {
		if in[s] && !in[t] && nettest.Sent(n, in) == least {
			for v, is := range in {
				near[v] = near[v] && is
			}
		}
	}
	return near
}

// P1002, P1003 and T2, held against all cuts: what a greatest flow lets be reached is what all of the least ones have.
func TestP1002AllCuts(t *testing.T) {
	dice := nettest.NewDice(1002)
	nets := known()
	for range 900 {
		nets = append(nets, dice.Plane(dice.Of(14)))
	}
	more, none := 0, 0
	for _, n := range nets {
		s, u := dice.Of(n.N), dice.Of(n.N)
		if s == u || n.N > 10 {
			continue
		}
		near := nearest(n, s, u)
		want := turned(piece(n, near, u))
		got, e := cut.Least(n, s, u)
		if e != api.OK || !slices.Equal(got.In, want) || got.Sum != nettest.LeastCut(n, s, u) || !isCycle(n, want, got.Cycle) {
			t.Fatalf("%v, %d, %d: %v, %v, not %v", n, s, u, got, e, want)
		}
		if !slices.Equal(near, want) {
			more++
		}
		if got.Sum == 0 {
			none++
		}
	}
	if min(more, none) < 50 {
		t.Errorf("the dice miss some: %d, %d", more, none)
	}
}

// P1002 and P1003 of great nets: Sum is what the greatest flow brings, Sum and Cycle say the same, each face is met once.
func TestP1003(t *testing.T) {
	dice := nettest.NewDice(1003)
	long, more := 0, 0
	for range 1000 {
		n := great(dice)
		for range 3 {
			s, u := dice.Of(n.N), dice.Of(n.N)
			if s == u {
				continue
			}
			f, value, _ := flow.Most(n, s, u)
			near := flow.Reach(n, s, f)
			want := turned(piece(n, near, u))
			got, e := cut.Least(n, s, u)
			round, is := cut.Cycle(n, want)
			if e != api.OK || !slices.Equal(got.In, want) || got.Sum != value || cut.Sum(n, want) != value || !is || !slices.Equal(got.Cycle, round) || !isCycle(n, want, round) {
				t.Fatalf("%v, %d, %d: %v, %v, not %v, %d, %v", n, s, u, got, e, want, value, round)
			}
			if len(round) > 4 {
				long++
			}
			if !slices.Equal(near, want) {
				more++
			}
		}
	}
	if min(long, more) < 100 {
		t.Errorf("the dice miss some: %d, %d", long, more)
	}
}

// call calls every face of the package.
func call(n api.Net, s, t int, in []bool) {
	cut.Least(n, s, t)
	cut.Sum(n, in)
	cut.Cycle(n, in)
}

func TestP1(t *testing.T) {
	dice := nettest.NewDice(1)
	thrown := func() []bool {
		in := make([]bool, dice.Of(9))
		for v := range in {
			in[v] = dice.Of(2) == 0
		}
		return in
	}
	for range 20000 {
		call(dice.Junk(), dice.Wild(), dice.Wild(), thrown())
	}
	// knotted nets, apart ones, and ones of which a number is wild
	for range 20000 {
		n := dice.Any(3, 4)
		call(n, dice.Of(3), dice.Of(3), thrown())
		call(n, dice.Wild(), dice.Wild(), thrown())
		dice.Spoil(n)
		call(n, dice.Of(3), dice.Of(3), thrown())
	}
	for _, n := range nettest.Beyond() {
		call(n, 0, n.N-1, []bool{true})
	}
	call(nettest.Eye(), 0, 1, slices.Repeat([]bool{true}, 1<<20))
}

func TestP2HandedIn(t *testing.T) {
	for _, n := range known() {
		n = nettest.Roomy(n)
		unchanged := nettest.Watch(n.Tail, n.Next, n.Cap)
		for in := range nettest.Sets(n.N) {
			row := append(slices.Clone(in), slices.Repeat([]bool{true, true, false}, 70)...)
			before := slices.Clone(row)
			for u := range n.N {
				call(n, 0, u, row[:n.N])
				call(n, u, 0, row[:n.N-1])
			}
			if !unchanged() || !slices.Equal(row, before) {
				t.Fatalf("handed in %v, %v", n, in)
			}
		}
	}
}

func TestP2Answered(t *testing.T) {
	n := nettest.Roomy(nettest.Globe())
	least, _ := cut.Least(n, 4, 5)
	same, _ := cut.Least(n, 4, 5)
	round, _ := cut.Cycle(n, least.In)
	again, _ := cut.Cycle(n, least.In)
	in := slices.Clone(least.In)
	clear(least.In[:cap(least.In)])
	if !slices.Equal(same.In, in) {
		t.Errorf("two answers share memory: %v", same.In)
	}
	if !nettest.Apart(n.Tail, n.Next, n.Cap, least.Cycle, same.Cycle, round, again) {
		t.Error("lists share memory")
	}
}

// No list and an empty one are the same.
func TestP2NoList(t *testing.T) {
	for _, n := range []api.Net{{N: 1, Tail: []int{}, Next: []int{}, Cap: []int{}}, nettest.Fence()} {
		for _, in := range [][]bool{nil, {}} {
			if round, is := cut.Cycle(n, in); is || len(round) > 0 || cut.Sum(n, in) != 0 {
				t.Errorf("%v: %v, %v", n, round, is)
			}
		}
		if _, e := cut.Least(n, 0, 0); e != api.SameEnds {
			t.Error(e)
		}
	}
}

func TestP3(t *testing.T) {
	dice := nettest.NewDice(3)
	for range 200 {
		n := dice.Plane(1 + dice.Of(60))
		s, u := dice.Of(n.N), dice.Of(n.N)
		got, e := cut.Least(n, s, u)
		round, is := cut.Cycle(n, got.In)
		sum := cut.Sum(n, got.In)
		other := dice.Plane(1 + dice.Of(60))
		call(other, 0, other.N-1, []bool{true})
		again, e2 := cut.Least(n, s, u)
		round2, is2 := cut.Cycle(n, got.In)
		if e != e2 || got.Sum != again.Sum || !slices.Equal(got.In, again.In) || !slices.Equal(got.Cycle, again.Cycle) || is != is2 || !slices.Equal(round, round2) || sum != cut.Sum(n, got.In) {
			t.Fatalf("%v, %d, %d: not the same again", n, s, u)
		}
	}
}
