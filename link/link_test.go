package link_test

import (
	"math"
	"slices"
	"testing"

	"watershed/api"
	"watershed/link"
	"watershed/nettest"
)

const (
	most     = 300
	heaviest = 1 << 60
)

// hang says that one vertex hangs on another one, by an edge of that weight.
type hang struct {
	on, weight int
}

// plain does by the promise's words what a forest does: for each vertex it has a list of what that hangs on, of one or of none.
type plain [][]hang

func (p plain) has(v int) bool {
	return v >= 0 && v < len(p)
}

// row tells the vertices from v up to its root, both of them too.
func (p plain) row(v int) []int {
	if !p.has(v) {
		return nil
	}
	l := []int{v}
	for _, h := range p[v] {
		l = append(l, p.row(h.on)...)
	}
	return l
}

func (p plain) root(v int) int {
	l := append([]int{-1}, p.row(v)...)
	return l[len(l)-1]
}

func (p plain) link(v, w, weight int) api.Errno {
	if !p.has(v) || !p.has(w) {
		return api.BadVertex
	}
	if len(p[v]) > 0 {
		return api.Uneven
	}
	if slices.Contains(p.row(w), v) {
		return api.Knotted
	}
	p[v] = []hang{{w, weight}}
	return api.OK
}

func (p plain) cut(v int) api.Errno {
	if !p.has(v) {
		return api.BadVertex
	}
	if len(p[v]) == 0 {
		return api.Apart
	}
	p[v] = nil
	return api.OK
}

func (p plain) turn(v int) bool {
	row := p.row(v)
	for i := len(row) - 2; i >= 0; i-- {
		p[row[i+1]] = []hang{{row[i], p[row[i]][0].weight}}
		p[row[i]] = nil
	}
	return p.has(v)
}

func (p plain) add(v, by int) bool {
	for _, x := range p.row(v) {
		for i := range p[x] {
			p[x][i].weight += by
		}
	}
	return p.has(v)
}

func (p plain) least(v int) (at, weight int, is bool) {
	row := p.row(v)
	slices.Reverse(row)
	for _, x := range row {
		for _, h := range p[x] {
			if !is || h.weight < weight {
				at, weight, is = x, h.weight, true
			}
		}
	}
	return at, weight, is
}

func (p plain) up(v int) (hang, bool) {
	if !p.has(v) || len(p[v]) == 0 {
		return hang{}, false
	}
	return p[v][0], true
}

// sameAt holds what may be asked of one vertex without a change against the model's.
func sameAt(t *testing.T, f *link.Forest, p plain, v int) {
	t.Helper()
	want, has := p.up(v)
	if up, is := f.Up(v); up != want.on || is != has {
		t.Fatalf("Up %d: %d %v, not %d %v", v, up, is, want.on, has)
	}
	if weight, is := f.Weight(v); weight != want.weight || is != has {
		t.Fatalf("Weight %d: %d %v, not %d %v", v, weight, is, want.weight, has)
	}
	if root := f.Root(v); root != p.root(v) {
		t.Fatalf("Root %d: %d, not %d", v, root, p.root(v))
	}
	at, weight, is := f.Least(v)
	if a, w, has := p.least(v); at != a || weight != w || is != has {
		t.Fatalf("Least %d: %d %d %v, not %d %d %v", v, at, weight, is, a, w, has)
	}
}

// same holds all of it against the model's, that of what is no vertex too.
func same(t *testing.T, f *link.Forest, p plain) {
	t.Helper()
	for v := -1; v <= len(p); v++ {
		sameAt(t, f, p, v)
	}
}

// call is one that may change a forest.
type call struct {
	what         byte
	v, w, weight int
}

// do calls a forest and its model, holds the answers against each other, and tells the answer.
func (c call) do(t *testing.T, f *link.Forest, p plain) any {
	t.Helper()
	var got, want any
	switch c.what {
	case 'l':
		got, want = f.Link(c.v, c.w, c.weight), p.link(c.v, c.w, c.weight)
	case 'c':
		got, want = f.Cut(c.v), p.cut(c.v)
	case 't':
		got, want = f.Turn(c.v), p.turn(c.v)
	case 'a':
		got, want = f.Add(c.v, c.weight), p.add(c.v, c.weight)
	}
	if got != want {
		t.Fatalf("%c %d %d %d: %v, not %v", c.what, c.v, c.w, c.weight, got, want)
	}
	return got
}

// lineOf hangs each vertex but the last on the next one, by an edge of its weight.
func lineOf(t *testing.T, weights ...int) (*link.Forest, plain) {
	t.Helper()
	n := len(weights) + 1
	f, p := link.New(n), make(plain, n)
	for v, weight := range weights {
		call{'l', v, v + 1, weight}.do(t, f, p)
	}
	same(t, f, p)
	return f, p
}

// wrong are no vertices of n.
func wrong(n int) []int {
	return []int{-1, -2, -n - 1, n, n + 1, 2*n + 1, most, 1 << 32, -1 << 32, math.MaxInt, math.MinInt}
}

func TestP701New(t *testing.T) {
	for _, x := range [][2]int{{0, 0}, {1, 1}, {2, 2}, {299, 299}, {300, 300}, {-1, 0}, {-300, 0}, {math.MinInt, 0}, {301, 300}, {600, 300}, {1 << 32, 300}, {math.MaxInt, 300}} {
		f := link.New(x[0])
		same(t, f, make(plain, x[1]))
		for v := range x[1] {
			if f.Root(v) != v {
				t.Fatalf("New %d: the root of %d is %d", x[0], v, f.Root(v))
			}
		}
		for _, v := range wrong(x[1]) {
			if f.Root(v) != -1 {
				t.Fatalf("New %d: %d has the root %d", x[0], v, f.Root(v))
			}
		}
	}
}

// What is no vertex: BadVertex, -1, false, and zero values beside it; nothing has changed by it.
func TestP701WrongVertices(t *testing.T) {
	for n := range 4 {
		f, p := link.New(n), make(plain, n)
		for v := range n - 1 {
			call{'l', v, v + 1, 7}.do(t, f, p)
		}
		for _, v := range wrong(n) {
			for w := range n {
				if e := f.Link(w, v, 1); e != api.BadVertex {
					t.Errorf("Link %d %d: %v", w, v, e)
				}
				if e := f.Link(v, w, 1); e != api.BadVertex {
					t.Errorf("Link %d %d: %v", v, w, e)
				}
			}
			if e := f.Link(v, v, 1); e != api.BadVertex {
				t.Errorf("Link %d %d: %v", v, v, e)
			}
			if e := f.Cut(v); e != api.BadVertex {
				t.Errorf("Cut %d: %v", v, e)
			}
			if f.Turn(v) || f.Add(v, 5) || f.Root(v) != -1 {
				t.Errorf("%d is taken for a vertex", v)
			}
			sameAt(t, f, p, v)
		}
		same(t, f, p)
	}
}

// The errors of Link, and which one comes first where several apply (P6); none has changed anything (P5).
func TestP701Link(t *testing.T) {
	f, p := lineOf(t, 5, 3, 3)
	for _, x := range []struct {
		v, w int
		want api.Errno
	}{
		{0, 1, api.Uneven}, {0, 2, api.Uneven}, {0, 3, api.Uneven}, {2, 3, api.Uneven}, {1, 4, api.BadVertex}, {0, -1, api.BadVertex}, {4, 3, api.BadVertex},
		// below itself, on itself: it is no root, so that comes first
		{2, 0, api.Uneven}, {2, 2, api.Uneven},
		{3, 0, api.Knotted}, {3, 1, api.Knotted}, {3, 2, api.Knotted}, {3, 3, api.Knotted},
	} {
		if e := f.Link(x.v, x.w, 9); e != x.want {
			t.Errorf("Link %d %d: %v, not %v", x.v, x.w, e, x.want)
		}
		same(t, f, p)
	}
}

func TestP701Cut(t *testing.T) {
	f, p := lineOf(t, 5, 3, 4)
	if e := f.Cut(3); e != api.Apart {
		t.Errorf("Cut of a root: %v", e)
	}
	same(t, f, p)
	call{'c', 1, 0, 0}.do(t, f, p)
	same(t, f, p)
	if f.Root(0) != 1 || f.Root(1) != 1 || f.Root(2) != 3 || f.Cut(1) != api.Apart {
		t.Error("Cut: 1 is no root")
	}
	// what is cut off may hang anywhere else, and what it was cut from may hang on it
	call{'l', 3, 0, -1}.do(t, f, p)
	same(t, f, p)
	call{'c', 3, 0, 0}.do(t, f, p)
	call{'l', 1, 3, 2}.do(t, f, p)
	same(t, f, p)
}

func TestP701Least(t *testing.T) {
	for _, x := range []struct {
		weights    []int
		at, weight int
	}{
		{[]int{5}, 0, 5}, {[]int{0}, 0, 0}, {[]int{-5}, 0, -5},
		{[]int{1, 2, 3}, 0, 1}, {[]int{3, 2, 1}, 2, 1}, {[]int{3, 1, 2}, 1, 1},
		// of several the one nearest to the root
		{[]int{4, 4, 4}, 2, 4}, {[]int{1, 2, 1, 2}, 2, 1}, {[]int{1, 1, 2}, 1, 1}, {[]int{0, 0}, 1, 0},
		{[]int{0, -1, -1, 0}, 2, -1}, {[]int{heaviest, -heaviest, heaviest}, 1, -heaviest}, {[]int{heaviest, heaviest}, 1, heaviest},
	} {
		f, _ := lineOf(t, x.weights...)
		if at, weight, is := f.Least(0); at != x.at || weight != x.weight || !is {
			t.Errorf("Least of %v: %d %d %v", x.weights, at, weight, is)
		}
		if at, weight, is := f.Least(len(x.weights)); at != 0 || weight != 0 || is {
			t.Errorf("Least of a root: %d %d %v", at, weight, is)
		}
	}
}

// Least looks at the edges from the vertex up, not at those below it, nor beside.
func TestP701LeastAside(t *testing.T) {
	f, p := lineOf(t, -9, 7, 8)
	call{'c', 0, 0, 0}.do(t, f, p)
	call{'l', 0, 2, -8}.do(t, f, p)
	if at, weight, is := f.Least(1); at != 1 || weight != 7 || !is {
		t.Errorf("Least: %d %d %v", at, weight, is)
	}
	same(t, f, p)
}

func TestP701Add(t *testing.T) {
	f, p := lineOf(t, 5, 3, 4)
	call{'c', 0, 0, 0}.do(t, f, p)
	call{'l', 0, 2, 5}.do(t, f, p)
	for _, c := range []call{{'a', 1, 0, 10}, {'a', 0, 0, -100}, {'a', 2, 0, 1}, {'a', 3, 0, 99}, {'a', 1, 0, 0}} {
		c.do(t, f, p)
		same(t, f, p)
	}
	// 1 and 0 hang on 2, that on 3
	for v, want := range []int{5 - 100, 3 + 10, 4 + 10 - 100 + 1} {
		if weight, is := f.Weight(v); weight != want || !is {
			t.Errorf("Weight %d: %d %v, not %d", v, weight, is, want)
		}
	}
	// a root has no edge: what is added there is not kept till it hangs somewhere
	call{'c', 2, 0, 0}.do(t, f, p)
	call{'a', 2, 0, 50}.do(t, f, p)
	call{'l', 2, 3, 6}.do(t, f, p)
	same(t, f, p)
}

func TestP701Turn(t *testing.T) {
	weights := []int{5, 3, 3, 8, -2}
	n := len(weights) + 1
	for v := range n {
		f, p := lineOf(t, weights...)
		for range 2 {
			call{'t', v, 0, 0}.do(t, f, p)
			same(t, f, p)
			if f.Root(0) != v || f.Root(n-1) != v || f.Cut(v) != api.Apart {
				t.Errorf("Turn %d: the roots are %d, %d", v, f.Root(0), f.Root(n-1))
			}
		}
		for u, weight := range weights {
			low, high := u, u+1
			if u >= v {
				low, high = high, low
			}
			if up, is := f.Up(low); up != high || !is {
				t.Errorf("Turn %d: Up %d: %d %v", v, low, up, is)
			}
			if got, is := f.Weight(low); got != weight || !is {
				t.Errorf("Turn %d: Weight %d: %d %v", v, low, got, is)
			}
		}
		call{'t', n - 1, 0, 0}.do(t, f, p)
		same(t, f, p)
	}
}

// What hangs beside the way that is turned hangs where it did, and other trees are as they were.
func TestP701TurnAside(t *testing.T) {
	f, p := link.New(8), make(plain, 8)
	for _, c := range []call{{'l', 1, 0, 10}, {'l', 2, 1, 20}, {'l', 3, 1, 30}, {'l', 4, 0, 40}, {'l', 5, 2, 50}, {'l', 7, 6, 60}, {'t', 2, 0, 0}} {
		c.do(t, f, p)
	}
	for v, want := range []int{1, 2, -1, 1, 0, 2, -1, 6} {
		up, is := f.Up(v)
		if is != (want >= 0) || is && up != want {
			t.Errorf("Up %d: %d %v, not %d", v, up, is, want)
		}
	}
	same(t, f, p)
}

// calls tells all that may change a forest of n, of one weight.
func calls(n, weight int) []call {
	var all []call
	for v := range n {
		all = append(all, call{'c', v, 0, 0}, call{'t', v, 0, 0}, call{'a', v, 0, weight})
		for w := range n {
			all = append(all, call{'l', v, w, weight})
		}
	}
	return all
}

// P702: whatever is called, four times, on three vertices; five times, on two.
func TestP702Few(t *testing.T) {
	for n, times := range map[int]int{2: 5, 3: 4} {
		rows := [][]call{nil}
		for i := range times {
			var longer [][]call
			for _, row := range rows {
				for _, c := range calls(n, 1-i%2) {
					longer = append(longer, append(slices.Clip(row), c))
				}
			}
			rows = longer
		}
		for _, row := range rows {
			f, p := link.New(n), make(plain, n)
			for _, c := range row {
				c.do(t, f, p)
			}
			same(t, f, p)
		}
	}
}

// thrown throws a call on a forest of n; now and then a vertex is none.
func thrown(dice *nettest.Dice, n, links int) call {
	c := call{v: dice.Of(n), w: dice.Of(n), weight: dice.Of(9) - 4}
	switch dice.Of(30) {
	case 0:
		c.v = wrong(n)[dice.Of(11)]
	case 1:
		c.w = wrong(n)[dice.Of(11)]
	case 2:
		c.weight *= 1 << 40
	}
	c.what = 'l'
	if what := dice.Of(10); what >= links {
		c.what = "ttac"[dice.Of(4)]
	}
	return c
}

func TestP702ByDice(t *testing.T) {
	dice := nettest.NewDice(702)
	deep, errors := 0, map[api.Errno]int{}
	for _, n := range []int{1, 2, 3, 5, 8, 13, 40, 300} {
		for range 12 {
			f, p := link.New(n), make(plain, n)
			links := 3 + dice.Of(6)
			for range 150 + 3*n {
				c := thrown(dice, n, links)
				if e, is := c.do(t, f, p).(api.Errno); is {
					errors[e]++
				}
				if len(p.row(c.v)) > 6 {
					deep++
				}
				sameAt(t, f, p, c.v)
				sameAt(t, f, p, dice.Of(n))
				if dice.Of(n+3) < 3 {
					same(t, f, p)
				}
			}
			same(t, f, p)
		}
	}
	for _, e := range []api.Errno{api.OK, api.BadVertex, api.Uneven, api.Knotted, api.Apart} {
		if errors[e] < 100 {
			t.Errorf("the dice are too even: %v %d times", e, errors[e])
		}
	}
	if deep < 100 {
		t.Errorf("the dice are too even: deep %d times", deep)
	}
}

// As many as there may be, all of them one behind the other: turned, parted and hung anew.
func TestP702Long(t *testing.T) {
	weights := make([]int, most-1)
	for v := range weights {
		weights[v] = (v * 7) % 50
	}
	f, p := lineOf(t, weights...)
	for i, v := range []int{0, 299, 150, 149, 0, 299} {
		call{'t', v, 0, 0}.do(t, f, p)
		call{'a', (v + 100) % most, 0, i - 3}.do(t, f, p)
		same(t, f, p)
	}
	call{'c', 120, 0, 0}.do(t, f, p)
	call{'t', 60, 0, 0}.do(t, f, p)
	call{'l', 60, 299, -7}.do(t, f, p)
	call{'l', 299, 60, -7}.do(t, f, p)
	same(t, f, p)
}

// Weights as great as they may be, from one bound to the other.
func TestP701Bounds(t *testing.T) {
	f, p := lineOf(t, -heaviest, -heaviest, heaviest)
	call{'c', 2, 0, 0}.do(t, f, p)
	call{'a', 0, 0, 2 * heaviest}.do(t, f, p)
	same(t, f, p)
	if weight, is := f.Weight(0); weight != heaviest || !is {
		t.Errorf("Weight: %d %v", weight, is)
	}
	call{'t', 0, 0, 0}.do(t, f, p)
	call{'a', 2, 0, -2 * heaviest}.do(t, f, p)
	same(t, f, p)
}

// P1: no vertex and no weight makes a call panic, or go on without end.
func TestP1(t *testing.T) {
	bounds := append(wrong(3), 0, 1, 2, 298, 299)
	for _, n := range []int{math.MinInt, -1, 0, 1, 3, most, math.MaxInt} {
		f := link.New(n)
		for _, v := range bounds {
			for _, w := range bounds {
				for _, weight := range bounds {
					f.Link(v, w, weight)
					f.Add(v, weight)
				}
				f.Turn(w)
				f.Least(v)
				f.Weight(v)
				f.Up(v)
				f.Root(v)
				f.Cut(w)
				f.Link(w, v, v)
			}
		}
	}
}

// script does the same calls for each seed, and tells all that they answered.
func script(f *link.Forest, seed uint64, told func()) []int {
	dice := nettest.NewDice(seed)
	var all []int
	tell := func(is bool, numbers ...int) {
		if is {
			all = append(all, 1)
		} else {
			all = append(all, 0)
		}
		all = append(all, numbers...)
	}
	for range 300 {
		switch c := thrown(dice, 12, 5); c.what {
		case 'l':
			tell(true, int(f.Link(c.v, c.w, c.weight)))
		case 'c':
			tell(true, int(f.Cut(c.v)))
		case 't':
			tell(f.Turn(c.v))
		case 'a':
			tell(f.Add(c.v, c.weight))
		}
		v := dice.Of(12)
		at, weight, is := f.Least(v)
		tell(is, at, weight, f.Root(v))
		up, is := f.Up(v)
		tell(is, up)
		weight, is = f.Weight(v)
		tell(is, weight)
		told()
	}
	return all
}

func TestP3(t *testing.T) {
	for seed := range uint64(20) {
		if !slices.Equal(script(link.New(12), seed, func() {}), script(link.New(12), seed, func() {})) {
			t.Fatalf("seed %d: not the same", seed)
		}
	}
}

// P7: what is done to one is not seen in another one.
func TestP7(t *testing.T) {
	for seed := range uint64(20) {
		alone := script(link.New(12), seed, func() {})
		dice := nettest.NewDice(seed + 700)
		f, other, p := link.New(12), link.New(12), make(plain, 12)
		beside := script(f, seed, func() {
			thrown(dice, 12, 5).do(t, other, p)
		})
		if !slices.Equal(alone, beside) {
			t.Fatalf("seed %d: another one is seen", seed)
		}
		same(t, other, p)
	}
}
