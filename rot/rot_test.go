package rot_test

import (
	"math"
	"slices"
	"testing"

	"watershed/api"
	"watershed/nettest"
	"watershed/rot"
)

// wrong is a net and what Check is to say of it.
type wrong struct {
	net api.Net
	err api.Errno
}

func checks(t *testing.T, l []wrong) {
	t.Helper()
	for i, w := range l {
		if e := rot.Check(w.net); e != w.err {
			t.Errorf("Check %d, %v: %v, not %v", i, w.net, e, w.err)
		}
	}
}

func TestP201Takes(t *testing.T) {
	checks(t, []wrong{
		{api.Net{N: 1}, api.OK},
		{api.Net{N: 1, Tail: []int{}, Next: []int{}, Cap: []int{}}, api.OK},
		{api.Net{N: 1, Tail: []int{0, 0}, Next: []int{1, 0}, Cap: []int{0, api.MaxCap}}, api.OK},
		{api.Net{N: 2, Tail: []int{1, 0}, Next: []int{0, 1}, Cap: []int{0, 0}}, api.OK},
		{nettest.Eye(), api.OK}, {nettest.Loops(api.MaxEdges), api.OK}, {nettest.Line(api.MaxVertices), api.OK},
	})
}

func TestP201TooMany(t *testing.T) {
	long := make([]int, 2*api.MaxEdges+1)
	checks(t, []wrong{
		{api.Net{N: 61}, api.TooMany}, {nettest.Line(61), api.TooMany}, {api.Net{N: math.MaxInt}, api.TooMany},
		{nettest.Loops(121), api.TooMany}, {api.Net{N: 1, Tail: long}, api.TooMany},
		// as many darts as Tail has: the other lists do not count
		{api.Net{N: 1, Next: long, Cap: long}, api.BadDart}, {api.Net{N: 60}, api.Apart},
	})
}

func TestP201BadDart(t *testing.T) {
	two := []int{0, 0}
	checks(t, []wrong{
		{api.Net{N: 1, Tail: two}, api.BadDart}, {api.Net{N: 1, Next: two}, api.BadDart}, {api.Net{N: 1, Cap: two}, api.BadDart},
		{api.Net{N: 1, Tail: two, Next: []int{1, 0, 0}, Cap: two}, api.BadDart}, {api.Net{N: 1, Tail: two, Next: []int{1, 0}, Cap: []int{0}}, api.BadDart},
		{api.Net{N: 1, Tail: []int{0}, Next: []int{0}, Cap: []int{0}}, api.BadDart},
		{api.Net{N: 1, Tail: []int{0, 0, 0}, Next: []int{1, 2, 0}, Cap: []int{0, 0, 0}}, api.BadDart},
		{api.Net{N: 1, Tail: two, Next: []int{1, 2}, Cap: two}, api.BadDart}, {api.Net{N: 1, Tail: two, Next: []int{1, -1}, Cap: two}, api.BadDart},
		{api.Net{N: 1, Tail: two, Next: []int{math.MinInt, 0}, Cap: two}, api.BadDart}, {api.Net{N: 1, Tail: two, Next: []int{math.MaxInt, 0}, Cap: two}, api.BadDart},
	})
}

func TestP201BadVertex(t *testing.T) {
	two := []int{0, 0}
	checks(t, []wrong{
		{api.Net{}, api.BadVertex}, {api.Net{N: -1}, api.BadVertex}, {api.Net{N: math.MinInt}, api.BadVertex},
		{api.Net{N: 0, Tail: two, Next: []int{1, 0}, Cap: two}, api.BadVertex},
		{api.Net{N: 1, Tail: []int{0, 1}, Next: []int{0, 1}, Cap: two}, api.BadVertex},
		{api.Net{N: 1, Tail: []int{-1, 0}, Next: []int{0, 1}, Cap: two}, api.BadVertex},
		{api.Net{N: 60, Tail: []int{math.MaxInt, math.MinInt}, Next: []int{0, 1}, Cap: two}, api.BadVertex},
	})
}

func TestP201BadNext(t *testing.T) {
	two, four := []int{0, 0}, []int{0, 0, 0, 0}
	checks(t, []wrong{
		{api.Net{N: 2, Tail: []int{0, 1}, Next: []int{1, 0}, Cap: two}, api.BadNext}, {api.Net{N: 2, Tail: []int{0, 1}, Next: []int{0, 0}, Cap: two}, api.BadNext},
		{api.Net{N: 1, Tail: two, Next: []int{0, 1}, Cap: two}, api.BadNext}, {api.Net{N: 1, Tail: two, Next: []int{1, 1}, Cap: two}, api.BadNext},
		{api.Net{N: 1, Tail: two, Next: []int{0, 0}, Cap: two}, api.BadNext},
		{api.Net{N: 1, Tail: four, Next: []int{1, 0, 3, 2}, Cap: four}, api.BadNext}, {api.Net{N: 1, Tail: four, Next: []int{1, 2, 3, 2}, Cap: four}, api.BadNext},
		{api.Net{N: 1, Tail: four, Next: []int{1, 2, 3, 1}, Cap: four}, api.BadNext}, {api.Net{N: 1, Tail: four, Next: []int{3, 0, 1, 1}, Cap: four}, api.BadNext},
		{api.Net{N: 2, Tail: []int{0, 1, 0, 1}, Next: []int{2, 3, 1, 0}, Cap: four}, api.BadNext},
	})
}

func TestP201TooMuch(t *testing.T) {
	for _, most := range []int{-1, api.MaxCap + 1, math.MinInt, math.MaxInt} {
		for d := range 8 {
			n := nettest.Eye()
			n.Cap[d] = most
			checks(t, []wrong{{n, api.TooMuch}})
		}
	}
}

func TestP201ApartAndKnotted(t *testing.T) {
	four := []int{0, 0, 0, 0}
	checks(t, []wrong{
		{api.Net{N: 2}, api.Apart}, {api.Net{N: 3, Tail: []int{0, 2}, Next: []int{0, 1}, Cap: []int{0, 0}}, api.Apart},
		{api.Net{N: 4, Tail: []int{0, 3, 1, 2}, Next: []int{0, 1, 2, 3}, Cap: four}, api.Apart},
		{api.Net{N: 1, Tail: four, Next: []int{2, 3, 1, 0}, Cap: four}, api.Knotted}, {api.Net{N: 1, Tail: four, Next: []int{3, 2, 0, 1}, Cap: four}, api.Knotted},
		// by the numbers alone it would be plane: two faces too few, two vertices too many
		{api.Net{N: 3, Tail: four, Next: []int{2, 3, 1, 0}, Cap: four}, api.Apart},
	})
}

// Of several errors the first one in the promise's order is answered (P6): all of the 128 ways to have some of them.
func TestP201Order(t *testing.T) {
	faults := []struct {
		err   api.Errno
		spoil func(n *api.Net)
	}{
		{api.TooMany, func(n *api.Net) { n.N = 61 }},
		{api.BadDart, func(n *api.Net) { n.Cap = append(n.Cap, 0) }},
		{api.BadVertex, func(n *api.Net) { n.Tail[7] = -1 }},
		{api.BadNext, func(n *api.Net) { n.Next[4] = 0 }},
		{api.TooMuch, func(n *api.Net) { n.Cap[0] = -1 }},
		{api.Apart, func(n *api.Net) { n.N = max(n.N, 3) }},
		{api.Knotted, func(n *api.Net) { n.Next[0], n.Next[2], n.Next[1] = 2, 1, 3 }},
	}
	for some := range 1 << len(faults) {
		n, want := nettest.Eye(), api.OK
		for i := range slices.Backward(faults) {
			if some>>i&1 == 1 {
				faults[i].spoil(&n)
				want = faults[i].err
			}
		}
		checks(t, []wrong{{n, want}})
	}
}

// reached tells which darts step leads to from d on, d too.
func reached(step func(int) int, d, darts int) []bool {
	met := make([]bool, darts)
	for range darts + 1 {
		met[d] = true
		d = step(d)
	}
	return met
}

// leasts tells for each dart the least one of those that step leads to.
func leasts(step func(int) int, darts int) []int {
	l := make([]int, darts)
	for d := range l {
		l[d] = slices.Index(reached(step, d, darts), true)
	}
	return l
}

// distinct tells how many numbers a list has.
func distinct(l []int) int {
	l = slices.Clone(l)
	slices.Sort(l)
	return len(slices.Compact(l))
}

// together tells for each two vertices whether they hang together, by trying all that may lie between.
func together(n api.Net) [][]bool {
	l := make([][]bool, n.N)
	for v := range l {
		l[v] = make([]bool, n.N)
		l[v][v] = true
	}
	for d, v := range n.Tail {
		l[v][n.Tail[d^1]] = true
	}
	for by := range l {
		for v := range l {
			for w := range l {
				l[v][w] = l[v][w] || l[v][by] && l[by][w]
			}
		}
	}
	return l
}

// wanted tells what Check is to say of a net whose lists are as long as each other, by the promise's words one by one.
func wanted(n api.Net) api.Errno {
	darts := len(n.Tail)
	outside := func(below int) func(int) bool { return func(x int) bool { return x < 0 || x >= below } }
	switch {
	case slices.ContainsFunc(n.Next, outside(darts)):
		return api.BadDart
	case n.N < 1 || slices.ContainsFunc(n.Tail, outside(n.N)):
		return api.BadVertex
	}
	for d, v := range n.Tail {
		about := make([]bool, darts)
		for x, w := range n.Tail {
			about[x] = v == w
		}
		if !slices.Equal(about, reached(func(d int) int { return n.Next[d] }, d, darts)) {
			return api.BadNext
		}
	}
	if slices.ContainsFunc(n.Cap, outside(api.MaxCap+1)) {
		return api.TooMuch
	}
	if slices.Contains(together(n)[0], false) {
		return api.Apart
	}
	if faces := max(1, distinct(leasts(func(d int) int { return n.Next[d^1] }, darts))); n.N-darts/2+faces != 2 {
		return api.Knotted
	}
	return api.OK
}

func TestP201ByDice(t *testing.T) {
	dice := nettest.NewDice(201)
	seen := make(map[api.Errno]int)
	for range 20000 {
		n := dice.Any(1+dice.Of(3), dice.Of(5))
		if dice.Of(2) == 0 {
			n = dice.Plane(dice.Of(8))
		}
		for range dice.Of(3) {
			if lists := [][]int{n.Tail, n.Next, n.Cap}; len(n.Tail) > 0 {
				lists[dice.Of(3)][dice.Of(len(n.Tail))] = dice.Of(len(n.Tail)+2) - 1
			}
		}
		e := rot.Check(n)
		if want := wanted(n); e != want {
			t.Fatalf("Check %v: %v, not %v", n, e, want)
		}
		seen[e]++
	}
	if len(seen) != 7 {
		t.Errorf("the dice miss some: %v", seen)
	}
}

func TestP202Head(t *testing.T) {
	n := nettest.Eye()
	for d, want := range []int{0, 0, 0, 0, 1, 0, 1, 0} {
		if got := rot.Head(n, d); got != want {
			t.Errorf("Head %d: %d, not %d", d, got, want)
		}
	}
}

func TestP202About(t *testing.T) {
	n := nettest.Eye()
	for d, want := range [][]int{{0, 1, 2, 3, 4, 6}, {1, 2, 3, 4, 6, 0}, {2, 3, 4, 6, 0, 1}, {3, 4, 6, 0, 1, 2}, {4, 6, 0, 1, 2, 3}, {5, 7}, {6, 0, 1, 2, 3, 4}, {7, 5}} {
		if got := rot.About(n, d); !slices.Equal(got, want) {
			t.Errorf("About %d: %v, not %v", d, got, want)
		}
	}
}

func TestP202Faces(t *testing.T) {
	n := nettest.Eye()
	for d, want := range [][]int{{0, 2, 4, 7}, {1}, {2, 4, 7, 0}, {3}, {4, 7, 0, 2}, {5, 6}, {6, 5}, {7, 0, 2, 4}} {
		if got := rot.Face(n, d); !slices.Equal(got, want) {
			t.Errorf("Face %d: %v, not %v", d, got, want)
		}
	}
	for _, c := range []struct {
		net  api.Net
		of   []int
		many int
	}{
		{n, []int{0, 1, 0, 2, 0, 3, 3, 0}, 4},
		{api.Net{}, nil, 1}, {api.Net{N: 1}, nil, 1}, {api.Net{N: 60}, nil, 1},
		{nettest.Loops(1), []int{0, 1}, 2}, {nettest.Line(3), []int{0, 0, 0, 0}, 1},
		// on no plane: two rings through one another
		{api.Net{N: 1, Tail: make([]int, 4), Next: []int{2, 3, 1, 0}, Cap: make([]int, 4)}, []int{0, 0, 0, 0}, 1},
		// in two pieces: each has its own faces
		{api.Net{N: 4, Tail: []int{0, 3, 1, 2}, Next: []int{0, 1, 2, 3}, Cap: make([]int, 4)}, []int{0, 0, 1, 1}, 2},
	} {
		if of, many := rot.Faces(c.net); !slices.Equal(of, c.of) || many != c.many {
			t.Errorf("Faces %v: %v, %d", c.net, of, many)
		}
	}
}

func TestP202Parts(t *testing.T) {
	for _, c := range []struct {
		net  api.Net
		of   []int
		many int
	}{
		{api.Net{}, nil, 0}, {api.Net{N: 1}, []int{0}, 1}, {api.Net{N: 3}, []int{0, 1, 2}, 3}, {nettest.Eye(), []int{0, 0}, 1},
		{nettest.Line(60), make([]int, 60), 1},
		{api.Net{N: 5, Tail: []int{4, 1, 3, 3, 1, 0}, Next: []int{0, 4, 3, 2, 1, 5}, Cap: make([]int, 6)}, []int{0, 0, 1, 2, 0}, 3},
		{api.Net{N: 4, Tail: []int{3, 1, 2, 0}, Next: []int{0, 1, 2, 3}, Cap: make([]int, 4)}, []int{0, 1, 0, 1}, 2},
	} {
		if of, many := rot.Parts(c.net); !slices.Equal(of, c.of) || many != c.many {
			t.Errorf("Parts %v: %v, %d", c.net, of, many)
		}
	}
}

func TestP202Turn(t *testing.T) {
	want := nettest.Eye()
	want.Next = []int{6, 0, 1, 2, 3, 7, 4, 5}
	for _, c := range [][2]api.Net{{{}, {}}, {{N: 7}, {N: 7}}, {nettest.Eye(), want}, {want, nettest.Eye()}, {nettest.Loops(1), nettest.Loops(1)}} {
		if got := rot.Turn(c[0]); !nettest.Same(got, c[1]) {
			t.Errorf("Turn %v: %v", c[0], got)
		}
	}
}

// ranks tells for each of a list's numbers how many lesser ones the list has: what numbers from 0 on, by the least, mean.
func ranks(l []int) []int {
	sorted := slices.Clone(l)
	slices.Sort(sorted)
	sorted = slices.Compact(sorted)
	of := make([]int, len(l))
	for i, x := range l {
		of[i] = slices.Index(sorted, x)
	}
	return of
}

// isRound tells whether l is a round by step, d first, no dart twice.
func isRound(l []int, d int, step func(int) int) bool {
	if len(l) == 0 || l[0] != d || distinct(l) != len(l) {
		return false
	}
	for i, x := range l {
		if step(x) != l[(i+1)%len(l)] {
			return false
		}
	}
	return true
}

func TestP202ByDice(t *testing.T) {
	dice := nettest.NewDice(202)
	for range 300 {
		n := dice.Any(1+dice.Of(20), dice.Of(25))
		behind := func(d int) int { return n.Next[d^1] }
		next := func(d int) int { return n.Next[d] }
		want := ranks(leasts(behind, len(n.Tail)))
		if of, many := rot.Faces(n); !slices.Equal(of, want) || many != max(1, distinct(want)) {
			t.Fatalf("Faces %v: %v, %d", n, of, many)
		}
		var low []int
		for _, l := range together(n) {
			low = append(low, slices.Index(l, true))
		}
		if of, many := rot.Parts(n); !slices.Equal(of, ranks(low)) || many != distinct(low) {
			t.Fatalf("Parts %v: %v, %d", n, of, many)
		}
		back := rot.Turn(n)
		for d := range n.Tail {
			if rot.Head(n, d) != n.Tail[d^1] || back.Next[n.Next[d]] != d || !isRound(rot.About(n, d), d, next) || !isRound(rot.Face(n, d), d, behind) {
				t.Fatalf("dart %d of %v: %v, %v", d, n, rot.About(n, d), rot.Face(n, d))
			}
		}
		if back.Next = n.Next; !nettest.Same(back, n) {
			t.Fatalf("Turn %v has other darts: %v", n, back)
		}
	}
}

func TestP203Turned(t *testing.T) {
	dice := nettest.NewDice(203)
	for range 500 {
		n := dice.Plane(dice.Of(api.MaxEdges + 1))
		m := rot.Turn(n)
		_, faces := rot.Faces(n)
		_, turned := rot.Faces(m)
		if rot.Check(n) != api.OK || rot.Check(m) != api.OK || faces != turned {
			t.Fatalf("%v: %v, %d faces; turned %v, %d", n, rot.Check(n), faces, rot.Check(m), turned)
		}
	}
}

// all calls every face of the package.
func all(n api.Net, d int) {
	rot.Check(n)
	rot.Head(n, d)
	rot.About(n, d)
	rot.Faces(n)
	rot.Face(n, d)
	rot.Parts(n)
	rot.Turn(n)
}

func TestP1(t *testing.T) {
	dice := nettest.NewDice(1)
	for range 20000 {
		all(dice.Junk(), dice.Wild())
	}
	for range 2000 {
		n := dice.Any(3, 4)
		n.Next[dice.Of(8)] = dice.Of(8)
		for _, d := range []int{math.MinInt, -2, -1, 0, 7, 8, 9, math.MaxInt - 1, math.MaxInt} {
			all(n, d)
		}
	}
	long := make([]int, 1001)
	all(api.Net{N: 1, Tail: long, Next: long, Cap: long}, 1000)
}

func TestP2HandedIn(t *testing.T) {
	n := nettest.Roomy(nettest.Eye())
	unchanged := nettest.Watch(n.Tail, n.Next, n.Cap)
	for d := range n.Tail {
		all(n, d)
	}
	if !unchanged() {
		t.Errorf("handed in %v", n)
	}
}

func TestP2Answered(t *testing.T) {
	n := nettest.Eye()
	of, _ := rot.Faces(n)
	parts, _ := rot.Parts(n)
	m := rot.Turn(n)
	lists := [][]int{n.Tail, n.Next, n.Cap, of, parts, m.Tail, m.Next, m.Cap}
	for d := range n.Tail {
		lists = append(lists, rot.About(n, d), rot.Face(n, d))
	}
	if !nettest.Apart(lists...) {
		t.Error("lists share memory")
	}
}
