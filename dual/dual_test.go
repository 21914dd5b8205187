package dual_test

import (
	"math"
	"slices"
	"testing"

	"watershed/api"
	"watershed/dual"
	"watershed/nettest"
	"watershed/rot"
)

func TestKnownArePlane(t *testing.T) {
	for _, n := range []api.Net{nettest.Fence(), nettest.Twig()} {
		if e := rot.Check(n); e != api.OK {
			t.Errorf("%v: %v", n, e)
		}
	}
}

func TestP301Make(t *testing.T) {
	eye, ring, line := nettest.Eye(), nettest.Loops(1), nettest.Line(3)
	for _, c := range []struct{ net, want api.Net }{
		{api.Net{N: 1}, api.Net{N: 1}},
		{api.Net{N: 1, Tail: []int{}, Next: []int{}, Cap: []int{}}, api.Net{N: 1}},
		{eye, api.Net{N: 4, Tail: []int{0, 1, 0, 2, 0, 3, 3, 0}, Next: []int{2, 1, 4, 3, 7, 6, 5, 0}, Cap: eye.Cap}},
		{ring, api.Net{N: 2, Tail: []int{0, 1}, Next: []int{0, 1}, Cap: ring.Cap}},
		{line, api.Net{N: 1, Tail: []int{0, 0, 0, 0}, Next: []int{2, 0, 3, 1}, Cap: line.Cap}},
		{nettest.Fence(), api.Net{N: 2, Tail: []int{0, 1, 1, 1, 0, 0}, Next: []int{4, 2, 3, 1, 5, 0}, Cap: nettest.Fence().Cap}},
	} {
		if got := dual.Make(c.net); !nettest.Same(got, c.want) {
			t.Errorf("Make %v: %v, not %v", c.net, got, c.want)
		}
	}
}

func TestP301MakeGreatest(t *testing.T) {
	n := nettest.Loops(api.MaxEdges)
	m := dual.Make(n)
	of, faces := rot.Faces(n)
	if m.N != api.MaxEdges+1 || m.N != faces || !slices.Equal(m.Tail, of) || !slices.Equal(m.Cap, n.Cap) {
		t.Errorf("Make of 120 rings: %v", m)
	}
	n = nettest.Line(api.MaxVertices)
	if m = dual.Make(n); m.N != 1 || !slices.Equal(m.Tail, make([]int, 2*api.MaxVertices-2)) {
		t.Errorf("Make of a line of 60: %v", m)
	}
}

func TestP301MakeByDice(t *testing.T) {
	dice := nettest.NewDice(301)
	for range 500 {
		n := dice.Plane(dice.Of(api.MaxEdges + 1))
		m := dual.Make(n)
		of, faces := rot.Faces(n)
		if m.N != faces || !slices.Equal(m.Tail, of) || !slices.Equal(m.Cap, n.Cap) || len(m.Next) != len(n.Next) {
			t.Fatalf("Make %v: %v", n, m)
		}
		for d, next := range m.Next {
			if l := append(rot.Face(n, d), d); next != l[1] {
				t.Fatalf("Make %v: %v: behind %d comes %d", n, m, d, l[1])
			}
		}
		if e := rot.Check(m); m.N <= api.MaxVertices && e != api.OK {
			t.Fatalf("Make %v: %v: %v", n, m, e)
		}
	}
}

func TestP301Shared(t *testing.T) {
	for _, c := range []struct {
		net        api.Net
		s, t, face int
		is         bool
	}{
		{nettest.Eye(), 0, 1, 0, true}, {nettest.Eye(), 1, 0, 0, true},
		{nettest.Line(60), 0, 59, 0, true}, {nettest.Line(60), 59, 31, 0, true},
		{nettest.Fence(), 0, 1, 1, true}, {nettest.Fence(), 1, 0, 1, true}, {nettest.Fence(), 0, 2, 0, true}, {nettest.Fence(), 2, 0, 0, true},
		{nettest.Fence(), 1, 2, 0, false}, {nettest.Fence(), 2, 1, 0, false},
		// s is t
		{nettest.Fence(), 0, 0, 0, false}, {nettest.Fence(), 1, 1, 0, false}, {api.Net{N: 1}, 0, 0, 0, false}, {nettest.Fence(), -1, -1, 0, false}, {nettest.Fence(), 3, 3, 0, false},
		// no vertices
		{api.Net{N: 1}, 0, 1, 0, false}, {nettest.Fence(), 0, 3, 0, false}, {nettest.Fence(), 3, 0, 0, false}, {nettest.Fence(), 0, -1, 0, false}, {nettest.Fence(), -1, 1, 0, false},
		{nettest.Fence(), 3, 4, 0, false}, {nettest.Fence(), math.MinInt, math.MaxInt, 0, false}, {nettest.Fence(), 0, math.MaxInt, 0, false},
	} {
		if face, is := dual.Shared(c.net, c.s, c.t); face != c.face || is != c.is {
			t.Errorf("Shared %v, %d, %d: %d, %v", c.net, c.s, c.t, face, is)
		}
	}
}

// shared tells all faces that s and t share, rising.
func shared(n api.Net, s, t int) []int {
	of, _ := rot.Faces(n)
	var l []int
	for x, from := range n.Tail {
		for y, to := range n.Tail {
			if from == s && to == t && of[x] == of[y] {
				l = append(l, of[x])
			}
		}
	}
	slices.Sort(l)
	return slices.Compact(l)
}

func TestP301SharedByDice(t *testing.T) {
	dice := nettest.NewDice(3010)
	var none, one, several, late int
	for range 300 {
		n := dice.Plane(1 + dice.Of(40))
		for range 10 {
			s, u := dice.Of(n.N+2)-1, dice.Of(n.N+2)-1
			l := shared(n, s, u)
			if s == u {
				l = nil
			}
			face, is := dual.Shared(n, s, u)
			if is != (len(l) > 0) || is && face != l[0] || !is && face != 0 {
				t.Fatalf("Shared %v, %d, %d: %d, %v, of %v", n, s, u, face, is, l)
			}
			switch {
			case len(l) == 0:
				none++
			case len(l) == 1:
				one++
			default:
				several++
				late += min(1, l[0])
			}
		}
	}
	if min(none, one, several, late) < 50 {
		t.Errorf("the dice miss some: %d, %d, %d, %d", none, one, several, late)
	}
}

func TestP302Split(t *testing.T) {
	for _, c := range []struct {
		net         api.Net
		s, t        int
		of          []int
		faces, a, b int
	}{
		{net: nettest.Line(2), s: 0, t: 1, of: []int{0, 1}, faces: 2, a: 0, b: 1},
		{net: nettest.Line(2), s: 1, t: 0, of: []int{1, 0}, faces: 2, a: 0, b: 1},
		{net: nettest.Fence(), s: 0, t: 1, of: []int{0, 1, 1, 2, 0, 0}, faces: 3, a: 1, b: 2},
		{net: nettest.Fence(), s: 1, t: 0, of: []int{0, 2, 2, 1, 0, 0}, faces: 3, a: 1, b: 2},
		{net: nettest.Fence(), s: 2, t: 0, of: []int{2, 1, 1, 1, 2, 0}, faces: 3, a: 0, b: 2},
		{net: nettest.Eye(), s: 0, t: 1, of: []int{0, 1, 0, 2, 0, 3, 3, 4}, faces: 5, a: 0, b: 4},
		{net: nettest.Eye(), s: 1, t: 0, of: []int{4, 1, 4, 2, 4, 3, 3, 0}, faces: 5, a: 0, b: 4},
		{net: nettest.Twig(), s: 0, t: 1, of: []int{0, 1, 1, 1, 1, 1}, faces: 2, a: 0, b: 1},
		{net: nettest.Twig(), s: 1, t: 0, of: []int{1, 0, 1, 1, 0, 0}, faces: 2, a: 0, b: 1},
		{net: nettest.Twig(), s: 2, t: 1, of: []int{0, 1, 1, 0, 1, 1}, faces: 2, a: 0, b: 1},
		{net: nettest.Twig(), s: 3, t: 2, of: []int{1, 0, 0, 1, 1, 0}, faces: 2, a: 0, b: 1},
		{net: nettest.Twig(), s: 2, t: 3, of: []int{0, 1, 1, 0, 0, 1}, faces: 2, a: 0, b: 1},
	} {
		of, faces, a, b, is := dual.Split(c.net, c.s, c.t)
		if !is || !slices.Equal(of, c.of) || faces != c.faces || a != c.a || b != c.b {
			t.Errorf("Split %v, %d, %d: %v, %d, %d, %d, %v", c.net, c.s, c.t, of, faces, a, b, is)
		}
	}
}

func TestP302False(t *testing.T) {
	for _, c := range []struct {
		net  api.Net
		s, t int
	}{
		{api.Net{N: 1}, 0, 0}, {api.Net{N: 1}, 0, 1}, {nettest.Fence(), 1, 2}, {nettest.Fence(), 2, 1}, {nettest.Fence(), 1, 1},
		{nettest.Fence(), 0, 3}, {nettest.Fence(), -1, 0}, {nettest.Fence(), math.MaxInt, 0}, {nettest.Fence(), 0, math.MinInt},
	} {
		if of, faces, a, b, is := dual.Split(c.net, c.s, c.t); is || len(of) > 0 || faces != 0 || a != 0 || b != 0 {
			t.Errorf("Split %v, %d, %d: %v, %d, %d, %d, %v", c.net, c.s, c.t, of, faces, a, b, is)
		}
	}
}

// parted tells each dart's face by the promise's words: a dart of face a is one of b where, on the way to it from the first dart of s, t is met.
func parted(n api.Net, s, t, a int) []int {
	of, b := rot.Faces(n)
	row := rot.Face(n, slices.Index(of, a))
	first := slices.IndexFunc(row, func(d int) bool { return n.Tail[d] == s })
	for at, d := range row {
		for i := first; ; i = (i + 1) % len(row) {
			if n.Tail[row[i]] == t {
				of[d] = b
			}
			if i == at {
				break
			}
		}
	}
	return of
}

func TestP302ByDice(t *testing.T) {
	dice := nettest.NewDice(302)
	split := 0
	for range 400 {
		n := dice.Plane(1 + dice.Of(api.MaxEdges))
		_, count := rot.Faces(n)
		for range 8 {
			s, u := dice.Of(n.N), dice.Of(n.N)
			face, has := dual.Shared(n, s, u)
			of, faces, a, b, is := dual.Split(n, s, u)
			if is != has {
				t.Fatalf("Split %v, %d, %d: %v, Shared %v", n, s, u, is, has)
			}
			if !is {
				continue
			}
			split++
			if faces != count+1 || a != face || b != count || !slices.Equal(of, parted(n, s, u, face)) {
				t.Fatalf("Split %v, %d, %d: %v, %d, %d, %d", n, s, u, of, faces, a, b)
			}
			// each of the two has a dart: that of s, that of t
			if !slices.Contains(of, a) || !slices.Contains(of, b) {
				t.Fatalf("Split %v, %d, %d: %v", n, s, u, of)
			}
		}
	}
	if split < 500 {
		t.Errorf("the dice miss the promise: %d", split)
	}
}

// byLeast tells the same net, its vertices numbered by their least darts.
func byLeast(n api.Net) api.Net {
	number := make([]int, n.N)
	next := 0
	for d, v := range n.Tail {
		if slices.Index(n.Tail, v) == d {
			number[v] = next
			next++
		}
	}
	n.Tail = slices.Clone(n.Tail)
	for d, v := range n.Tail {
		n.Tail[d] = number[v]
	}
	return n
}

func TestP303MakeOfMake(t *testing.T) {
	dice := nettest.NewDice(303)
	nets := []api.Net{{N: 1}, nettest.Eye(), nettest.Fence(), nettest.Twig(), nettest.Loops(1), nettest.Loops(api.MaxEdges), nettest.Line(api.MaxVertices)}
	for range 500 {
		nets = append(nets, dice.Plane(dice.Of(api.MaxEdges+1)))
	}
	beyond := 0
	for _, n := range nets {
		m := dual.Make(n)
		if m.N > api.MaxVertices {
			beyond++
		}
		// that its darts begin together where they did is that the vertices are the same but for their numbers
		if k := dual.Make(m); !nettest.Same(k, byLeast(n)) {
			t.Fatalf("Make of Make %v: %v", n, k)
		}
	}
	if beyond < 20 {
		t.Errorf("of %d nets %d have a dual of more than 60 vertices", len(nets), beyond)
	}
}

// all calls every face of the package.
func all(n api.Net, s, t int) {
	dual.Make(n)
	dual.Shared(n, s, t)
	dual.Split(n, s, t)
}

func TestP1(t *testing.T) {
	dice := nettest.NewDice(1)
	for range 20000 {
		all(dice.Junk(), dice.Wild(), dice.Wild())
	}
	// lists that lead nowhere out of themselves, and are rounds or not
	for range 5000 {
		n := dice.Any(3, 4)
		n.Next[dice.Of(8)] = dice.Of(8)
		n.Tail[dice.Of(8)] = dice.Wild()
		all(n, dice.Of(3), dice.Of(3))
		all(n, dice.Wild(), dice.Wild())
	}
	long := make([]int, 1001)
	all(api.Net{N: 1, Tail: long, Next: long, Cap: long}, 0, 1)
	all(api.Net{N: 2, Tail: long[1:], Next: long[1:], Cap: long[1:]}, 0, 1)
	all(api.Net{N: math.MaxInt}, 0, 1)
}

func TestP2HandedIn(t *testing.T) {
	for _, n := range []api.Net{nettest.Eye(), nettest.Fence(), nettest.Twig()} {
		n = nettest.Roomy(n)
		unchanged := nettest.Watch(n.Tail, n.Next, n.Cap)
		for s := range n.N {
			for u := range n.N {
				all(n, s, u)
			}
		}
		if !unchanged() {
			t.Errorf("handed in %v", n)
		}
	}
}

func TestP2Answered(t *testing.T) {
	n := nettest.Roomy(nettest.Eye())
	m, k := dual.Make(n), dual.Make(n)
	of, _, _, _, _ := dual.Split(n, 0, 1)
	again, _, _, _, _ := dual.Split(n, 0, 1)
	if !nettest.Apart(n.Tail, n.Next, n.Cap, m.Tail, m.Next, m.Cap, k.Tail, k.Next, k.Cap, of, again) {
		t.Error("lists share memory")
	}
}

func TestP3(t *testing.T) {
	dice := nettest.NewDice(3)
	for range 100 {
		n := dice.Plane(dice.Of(60))
		s, u := dice.Of(n.N), dice.Of(n.N)
		of, faces, a, b, is := dual.Split(n, s, u)
		all(dice.Plane(dice.Of(60)), u, s)
		again, faces2, a2, b2, is2 := dual.Split(n, s, u)
		if !slices.Equal(of, again) || faces != faces2 || a != a2 || b != b2 || is != is2 || !nettest.Same(dual.Make(n), dual.Make(n)) {
			t.Fatalf("%v, %d, %d: not the same again", n, s, u)
		}
	}
}
