package path_test

import (
	"math"
	"slices"
	"testing"

	"watershed/api"
	"watershed/nettest"
	"watershed/path"
)

const (
	places  = 300
	arcs    = 1000
	longest = 1 << 40
	far     = 1 << 60
)

// arcsOf are told by from, to, long, three by three.
func arcsOf(l ...int) []api.Arc {
	var out []api.Arc
	for i := 0; i < len(l); i += 3 {
		out = append(out, api.Arc{From: l[i], To: l[i+1], Len: l[i+2]})
	}
	return out
}

// line goes from each place to the next one, the last arc first.
func line(n, long int) []api.Arc {
	var l []api.Arc
	for v := n - 2; v >= 0; v-- {
		l = append(l, api.Arc{From: v, To: v + 1, Len: long})
	}
	return l
}

// rising tells so many numbers from 0 on, by so much.
func rising(n, by int) []int {
	l := make([]int, n)
	for i := range l {
		l[i] = i * by
	}
	return l
}

// nowhere tells what From answers where s alone is reached.
func nowhere(n, s int) []int {
	l := slices.Repeat([]int{far}, n)
	l[s] = 0
	return l
}

// asked is what may be asked of path.
type asked struct {
	n int
	l []api.Arc
	s int
}

// known tells questions with their answers; in some of them a Len is below 0.
func known() []struct {
	asked
	dist []int
} {
	return []struct {
		asked
		dist []int
	}{
		{asked{1, nil, 0}, []int{0}}, {asked{1, arcsOf(0, 0, 0, 0, 0, 7), 0}, []int{0}},
		{asked{2, nil, 0}, []int{0, far}}, {asked{2, nil, 1}, []int{far, 0}},
		{asked{2, arcsOf(0, 1, 5), 0}, []int{0, 5}}, {asked{2, arcsOf(0, 1, 5), 1}, []int{far, 0}},
		// the shorter of two, whichever is first; one that ends where it begins
		{asked{2, arcsOf(0, 1, 5, 0, 1, 4), 0}, []int{0, 4}}, {asked{2, arcsOf(0, 1, 4, 0, 1, 5, 1, 1, 0), 0}, []int{0, 4}},
		// by more arcs, and found shorter twice
		{asked{4, arcsOf(0, 1, 9, 0, 2, 1, 2, 3, 1, 3, 1, 1), 0}, []int{0, 3, 1, 2}}, {asked{4, arcsOf(0, 1, 9, 0, 2, 1, 2, 1, 6, 2, 3, 1, 3, 1, 1), 0}, []int{0, 3, 1, 2}},
		// of nothing, back to s
		{asked{3, arcsOf(0, 1, 0, 1, 2, 0, 2, 0, 0), 1}, []int{0, 0, 0}},
		{asked{5, arcsOf(4, 3, 2, 3, 4, 2, 1, 0, 2), 4}, []int{far, far, far, 2, 0}},
		{asked{2, arcsOf(0, 1, longest), 0}, []int{0, longest}},
		{asked{places, line(places, longest), 0}, rising(places, longest)}, {asked{places, line(places, 0), 0}, make([]int, places)},
		{asked{places, line(places, 1), 299}, nowhere(places, 299)}, {asked{places, nil, 77}, nowhere(places, 77)},
		// below 0
		{asked{2, arcsOf(0, 1, -longest), 0}, []int{0, -longest}}, {asked{3, arcsOf(0, 1, 5, 1, 2, -3, 0, 2, 3), 0}, []int{0, 5, 2}},
		{asked{places, line(places, -longest), 0}, rising(places, -longest)},
		// a round of 0 together; one below 0 from which s is reached, but not the other way
		{asked{3, arcsOf(0, 1, 4, 1, 2, -3, 2, 1, 3), 0}, []int{0, 4, 1}}, {asked{2, arcsOf(0, 1, -4, 1, 0, 4), 0}, []int{0, -4}},
		{asked{3, arcsOf(1, 1, -1, 1, 0, -5, 0, 2, 4), 0}, []int{0, far, 4}}, {asked{4, arcsOf(2, 3, -5, 3, 2, 1, 3, 1, 1, 2, 0, 1, 0, 1, 8), 0}, []int{0, 8, far, far}},
		{asked{2, arcsOf(1, 0, -longest), 0}, []int{0, far}},
	}
}

func isForward(l []api.Arc) bool {
	return !slices.ContainsFunc(l, func(a api.Arc) bool { return a.Len < 0 })
}

func TestP601Known(t *testing.T) {
	for i, x := range known() {
		if isForward(x.l) {
			if got := path.From(x.n, x.l, x.s); !slices.Equal(got, x.dist) {
				t.Errorf("%d: From %v", i, got)
			}
		}
		if got, round, is := path.Any(x.n, x.l, x.s); !slices.Equal(got, x.dist) || len(round) > 0 || !is {
			t.Errorf("%d: Any %v, %v, %v", i, got, round, is)
		}
		if !path.Right(x.n, x.l, x.s, x.dist) {
			t.Errorf("%d: Right: false", i)
		}
	}
}

// rows tells how long the shortest way from s to each place is, of no arc, of one at most, and so on.
func rows(q asked, most int) [][]int {
	all := [][]int{nowhere(q.n, q.s)}
	for i := range most {
		row := slices.Clone(all[i])
		for _, a := range q.l {
			if x := all[i][a.From]; x != far {
				row[a.To] = min(row[a.To], x+a.Len)
			}
		}
		all = append(all, row)
	}
	return all
}

// plain goes by the promise's words; false: ways of as many arcs as there are places are shorter than those of less, so a place is on them twice.
func plain(q asked) ([]int, bool) {
	all := rows(q, q.n)
	return all[q.n], slices.Equal(all[q.n], all[q.n-1])
}

// isRound tells whether these arcs are a round as Any promises it.
func isRound(q asked, round []int) bool {
	reached, sum := rows(q, q.n)[q.n], 0
	met := map[int]int{}
	for i, x := range round {
		if x < 0 || x >= len(q.l) {
			return false
		}
		next := round[(i+1)%len(round)]
		if next < 0 || next >= len(q.l) || q.l[x].To != q.l[next].From || reached[q.l[x].From] == far {
			return false
		}
		met[q.l[x].From]++
		sum += q.l[x].Len
	}
	return len(round) > 0 && len(met) == len(round) && sum < 0
}

func TestP601Rounds(t *testing.T) {
	back := func(long, home int) []api.Arc {
		return append(line(places, long), api.Arc{From: places - 1, To: 0, Len: home})
	}
	for i, q := range []asked{
		{1, arcsOf(0, 0, -1), 0}, {1, arcsOf(0, 0, 1, 0, 0, -longest), 0},
		{2, arcsOf(0, 1, 5, 1, 0, -6), 0}, {2, arcsOf(0, 1, 5, 1, 0, -6), 1}, {2, arcsOf(0, 1, -longest, 1, 0, -longest), 0}, {2, arcsOf(0, 1, longest, 1, 1, -1), 0},
		{3, arcsOf(0, 1, 5, 1, 2, -3, 2, 1, 2, 2, 2, 1), 0}, {4, arcsOf(0, 1, 5, 1, 2, -3, 2, 1, 2, 2, 3, 1), 0},
		// two rounds that share a place, one of them below 0 alone; two arcs, by one of which it is not
		{4, arcsOf(0, 1, 1, 1, 0, 1, 1, 2, 1, 2, 3, 1, 3, 1, -3), 0}, {2, arcsOf(0, 1, 5, 1, 0, -5, 1, 0, -6, 1, 0, -4), 0},
		// of all places; far from s; by each arc as great as it may be
		{places, back(1, -places), 0}, {places, back(1, -places), 170}, {places, back(0, -1), 0}, {places, back(-longest, -longest), 0},
		{places, append(line(places, 1), api.Arc{From: 299, To: 299, Len: -1}), 0}, {places, append(line(places, longest), api.Arc{From: 299, To: 298, Len: -longest}, api.Arc{From: 298, To: 299, Len: longest - 1}), 0},
	} {
		dist, round, is := path.Any(q.n, q.l, q.s)
		if is || len(dist) > 0 || !isRound(q, round) {
			t.Errorf("%d: Any %v, %v, %v", i, dist, round, is)
		}
		for _, dist := range append(rows(q, q.n), nil, nowhere(q.n, q.s), make([]int, q.n)) {
			if path.Right(q.n, q.l, q.s, dist) {
				t.Errorf("%d: Right %v", i, dist)
			}
		}
	}
	// as long as the rounds above, but not below 0
	for _, l := range [][]api.Arc{back(1, 1-places), back(0, 0), back(-1, places-1)} {
		if _, round, is := path.Any(places, l, 3); !is || len(round) > 0 {
			t.Errorf("Any: %v, %v", round, is)
		}
	}
	// each place and each arc, and all of them make it shorter
	full := append(line(places, -longest), make([]api.Arc, arcs-places+1)...)
	for i := places - 1; i < arcs; i++ {
		full[i] = api.Arc{From: i % places, To: (i * 7) % places, Len: -longest}
	}
	for s := 0; s < places; s += 13 {
		if dist, round, is := path.Any(places, full, s); is || len(dist) > 0 || !isRound(asked{places, full, s}, round) {
			t.Fatalf("Any from %d: %v, %v", s, round, is)
		}
	}
}

func TestP601Right(t *testing.T) {
	for i, x := range known() {
		wrong := [][]int{nil, {}, x.dist[1:], append(slices.Clone(x.dist), 0), append(slices.Clone(x.dist), far)}
		for v := range min(x.n, 5) {
			for _, long := range []int{x.dist[v] - 1, x.dist[v] + 1, -x.dist[v] - 1, far + 1, math.MaxInt, math.MinInt, 2 * far, -far} {
				l := slices.Clone(x.dist)
				l[v] = long
				wrong = append(wrong, l)
			}
		}
		more := slices.Clone(x.dist)
		for v := range more {
			more[v]++
		}
		for _, l := range append(wrong, more) {
			if path.Right(x.n, x.l, x.s, l) {
				t.Errorf("%d: Right %v", i, l)
			}
		}
	}
	// what no arc makes shorter is not right by that
	if path.Right(3, arcsOf(0, 1, 5), 0, []int{0, 4, far}) || path.Right(3, arcsOf(0, 1, 5), 0, []int{0, 5, 9}) || path.Right(2, nil, 0, []int{-1, far}) || path.Right(3, arcsOf(1, 2, 0, 2, 1, 0), 0, []int{0, 7, 7}) {
		t.Error("Right: what no arc makes shorter")
	}
}

// thrown throws arcs between n places; many are alike, or as long as others.
func thrown(dice *nettest.Dice, n, most, least, sides int) []api.Arc {
	var l []api.Arc
	for range dice.Of(most + 1) {
		l = append(l, api.Arc{From: dice.Of(n), To: dice.Of(n), Len: least + dice.Of(sides)})
	}
	return l
}

func TestP601ByDice(t *testing.T) {
	dice := nettest.NewDice(601)
	var yes, no, apart int
	for range 4000 {
		n := 1 + dice.Of(14)
		q := asked{n, thrown(dice, n, 3*n, -dice.Of(4), 3+dice.Of(20)), dice.Of(n)}
		want, none := plain(q)
		dist, round, is := path.Any(q.n, q.l, q.s)
		if is != none || is && (!slices.Equal(dist, want) || len(round) > 0) || !is && (len(dist) > 0 || !isRound(q, round)) {
			t.Fatalf("Any %v: %v, %v, %v", q, dist, round, is)
		}
		if path.Right(q.n, q.l, q.s, want) != none {
			t.Fatalf("Right %v, %v: %v", q, want, !none)
		}
		want[dice.Of(n)] += 1 - 2*dice.Of(2)
		if path.Right(q.n, q.l, q.s, want) {
			t.Fatalf("Right %v, %v", q, want)
		}
		if !is {
			no++
			continue
		}
		yes++
		if slices.Contains(dist, far) {
			apart++
		}
		if isForward(q.l) && !slices.Equal(path.From(q.n, q.l, q.s), dist) {
			t.Fatalf("From %v: %v, not %v", q, path.From(q.n, q.l, q.s), dist)
		}
	}
	if min(yes, no, apart) < 500 {
		t.Errorf("the dice miss some: %d, %d, %d", yes, no, apart)
	}
}

// As many places and arcs as there may be, some as long as may be.
func TestP601Full(t *testing.T) {
	dice := nettest.NewDice(6010)
	for _, sides := range []int{1, 3, 1000, 1 << 30} {
		for _, n := range []int{places, 50} {
			q := asked{n, make([]api.Arc, arcs), dice.Of(n)}
			for i := range q.l {
				q.l[i] = api.Arc{From: dice.Of(n), To: dice.Of(n), Len: dice.Of(sides)}
				if sides > 1000 {
					q.l[i].Len = longest - q.l[i].Len
				}
			}
			want, _ := plain(q)
			dist, round, is := path.Any(q.n, q.l, q.s)
			if !is || !slices.Equal(dist, want) || len(round) > 0 || !slices.Equal(path.From(q.n, q.l, q.s), want) || !path.Right(q.n, q.l, q.s, want) {
				t.Errorf("of %d, to %d: %v, not %v", n, sides, dist, want)
			}
			sameWays(t, q)
		}
	}
}

// way is what Way is to answer, and how long it is.
type way struct {
	long int
	row  []int
	is   bool
}

// ways tells by the promise's words what Way is to answer to each place: for each count of arcs the shortest ways of just as many, of these the least row.
func ways(q asked) []way {
	now := make([]way, q.n)
	now[q.s].is = true
	got := slices.Clone(now)
	for range q.n - 1 {
		next := make([]way, q.n)
		for i, a := range q.l {
			x, y := now[a.From], &next[a.To]
			if !x.is || y.is && y.long < x.long+a.Len {
				continue
			}
			row := append(slices.Clone(x.row), i)
			if !y.is || x.long+a.Len < y.long || slices.Compare(row, y.row) < 0 {
				*y = way{x.long + a.Len, row, true}
			}
		}
		now = next
		for u, x := range now {
			if x.is && (!got[u].is || x.long < got[u].long) {
				got[u] = x
			}
		}
	}
	return got
}

// sameWays holds Way to each place against the promise's words, and tells how many arcs each has (none: -1).
func sameWays(t *testing.T, q asked) []int {
	t.Helper()
	var many []int
	for u, want := range ways(q) {
		row, is := path.Way(q.n, q.l, q.s, u)
		if is != want.is || !slices.Equal(row, want.row) {
			t.Fatalf("Way %v, %d: %v, %v, not %v", q, u, row, is, want)
		}
		if !is {
			many = append(many, -1)
			continue
		}
		many = append(many, len(row))
	}
	return many
}

func TestP601Way(t *testing.T) {
	for i, x := range []struct {
		asked
		to   int
		want []int
		is   bool
	}{
		// to itself: none, though there are some of nothing
		{asked{1, nil, 0}, 0, nil, true}, {asked{1, arcsOf(0, 0, 0), 0}, 0, nil, true}, {asked{2, arcsOf(0, 1, 0, 1, 0, 0), 1}, 1, nil, true},
		// there are none
		{asked{2, nil, 0}, 1, nil, false}, {asked{2, arcsOf(1, 0, 0), 0}, 1, nil, false}, {asked{3, arcsOf(0, 1, 0, 1, 0, 0, 0, 0, 1), 0}, 2, nil, false}, {asked{4, arcsOf(0, 1, 1, 2, 3, 1), 0}, 3, nil, false},
		// the shortest, of however many arcs
		{asked{2, arcsOf(0, 1, 2, 0, 1, 1), 0}, 1, []int{1}, true}, {asked{4, arcsOf(0, 3, 4, 0, 1, 1, 1, 2, 1, 2, 3, 1), 0}, 3, []int{1, 2, 3}, true},
		// of these the fewest
		{asked{4, arcsOf(0, 1, 1, 1, 2, 1, 2, 3, 1, 0, 3, 3), 0}, 3, []int{3}, true}, {asked{3, arcsOf(0, 1, 0, 1, 2, 0, 0, 2, 0), 0}, 2, []int{2}, true}, {asked{3, arcsOf(0, 0, 0, 0, 1, 0, 1, 1, 0, 1, 2, 0), 0}, 2, []int{1, 3}, true},
		// of these the least row: by its first arc that is not the other's
		{asked{2, arcsOf(0, 1, 1, 0, 1, 1), 0}, 1, []int{0}, true}, {asked{4, arcsOf(0, 2, 1, 0, 1, 1, 1, 3, 1, 2, 3, 1), 0}, 3, []int{0, 3}, true}, {asked{4, arcsOf(1, 3, 1, 2, 3, 1, 0, 2, 1, 0, 1, 1), 0}, 3, []int{2, 1}, true},
		{asked{4, arcsOf(2, 3, 0, 2, 3, 0, 1, 2, 0, 0, 1, 0, 1, 2, 0, 0, 1, 0), 0}, 3, []int{3, 2, 0}, true},
		// the least arc leads nowhere, or about
		{asked{4, arcsOf(0, 1, 0, 0, 2, 0, 2, 3, 0), 0}, 3, []int{1, 2}, true}, {asked{4, arcsOf(0, 1, 0, 1, 0, 0, 1, 2, 0, 2, 3, 0, 1, 2, 0), 0}, 3, []int{0, 2, 3}, true},
	} {
		if got, is := path.Way(x.n, x.l, x.s, x.to); is != x.is || !slices.Equal(got, x.want) {
			t.Errorf("%d: Way %v, %v, not %v, %v", i, got, is, x.want, x.is)
		}
	}
	// all places, of arcs as long as may be, and of nothing
	back := rising(places-1, 1)
	slices.Reverse(back)
	for _, long := range []int{longest, 1, 0} {
		if got, is := path.Way(places, line(places, long), 0, places-1); !is || !slices.Equal(got, back) {
			t.Errorf("Way of a line of %d: %v, %v", long, got, is)
		}
	}
	// one longer by 1 than another of many more arcs; one as long
	round := append(line(places, longest), api.Arc{From: 0, To: 1, Len: longest - 1})
	back[0] = places - 1
	if got, is := path.Way(places, round, 0, places-1); !is || len(got) != places-1 || got[0] != places-1 {
		t.Errorf("Way by the shorter arc: %v, %v", got, is)
	}
	many := append(line(places, 0), api.Arc{From: 0, To: places - 1, Len: 1})
	if got, is := path.Way(places, many, 0, places-1); !is || len(got) != places-1 {
		t.Errorf("Way of nothing: %v, %v", got, is)
	}
	many[places-1].Len = 0
	if got, is := path.Way(places, many, 0, places-1); !is || !slices.Equal(got, []int{places - 1}) {
		t.Errorf("Way of one arc: %v, %v", got, is)
	}
}

func TestP601WayByDice(t *testing.T) {
	dice := nettest.NewDice(6011)
	var none, some, long int
	for range 2000 {
		n := 1 + dice.Of(12)
		for _, many := range sameWays(t, asked{n, thrown(dice, n, 4*n, 0, 1+dice.Of(4)), dice.Of(n)}) {
			switch {
			case many < 0:
				none++
			case many > 2:
				long++
			default:
				some++
			}
		}
	}
	if min(none, some, long) < 1000 {
		t.Errorf("the dice miss some: %d, %d, %d", none, some, long)
	}
}

func TestP602(t *testing.T) {
	dice := nettest.NewDice(602)
	for range 1000 {
		n := 1 + dice.Of(places)
		l := thrown(dice, n, min(4*n, arcs), 0, 1+dice.Of(1000))
		// each arc is as much longer as its end lies higher: some are below 0, no round is
		heights := make([]int, n)
		for v := range heights {
			heights[v] = dice.Of(2000)
		}
		tilted := slices.Clone(l)
		for i, a := range l {
			tilted[i].Len += heights[a.To] - heights[a.From]
		}
		s := dice.Of(n)
		dist, _, is := path.Any(n, tilted, s)
		from := path.From(n, l, s)
		if !is || len(from) != n || dist[s] != 0 || from[s] != 0 {
			t.Fatalf("%v, %d: %v, %v", l, s, dist, from)
		}
		for i, a := range l {
			if from[a.From] != far && from[a.From]+a.Len < from[a.To] || dist[a.From] != far && dist[a.From]+tilted[i].Len < dist[a.To] {
				t.Fatalf("%v, %d: arc %d is a shorter way: %v, %v", l, s, i, from, dist)
			}
		}
		for v, long := range from {
			if long != far && long+heights[v]-heights[s] != dist[v] || long == far && dist[v] != far {
				t.Fatalf("%v, %d: %v, but tilted %v", l, s, from, dist)
			}
		}
	}
}

// all calls every face of the package.
func all(q asked, u int, dist []int) {
	path.From(q.n, q.l, q.s)
	path.Any(q.n, q.l, q.s)
	path.Right(q.n, q.l, q.s, dist)
	path.Way(q.n, q.l, q.s, u)
}

func TestP1(t *testing.T) {
	dice := nettest.NewDice(1)
	number := func() int {
		return []int{math.MinInt, math.MinInt + 1, -far, -1, 0, 1, 2, 3, 300, 301, far, math.MaxInt}[dice.Of(12)]
	}
	for range 30000 {
		var l []api.Arc
		for range dice.Of(5) {
			l = append(l, api.Arc{From: number(), To: number(), Len: number()})
		}
		all(asked{number(), l, number()}, number(), []int{number(), number()})
	}
	// all but one of the things handed in may be
	for range 30000 {
		q := asked{4, thrown(dice, 4, 8, -2, 6), dice.Of(4)}
		q.l = append(q.l, api.Arc{From: 1, To: 2, Len: 1})
		u, a := dice.Of(4), &q.l[dice.Of(len(q.l))]
		*[]*int{&q.n, &q.s, &u, &a.From, &a.To, &a.Len}[dice.Of(6)] = number()
		all(q, u, []int{0, 1, 2, 3})
	}
	// arcs whose lengths together are no number, and more than there may be
	for _, long := range []int{math.MinInt, math.MaxInt, -far, far, -longest - 1, longest + 1} {
		ring := append(line(places, long), api.Arc{From: places - 1, To: 0, Len: long})
		all(asked{places, ring, 0}, 299, nil)
		all(asked{places, slices.Repeat(ring, 50), 0}, 299, nil)
	}
	all(asked{1, make([]api.Arc, arcs+1), 0}, 0, []int{0})
	all(asked{2, slices.Repeat(arcsOf(0, 1, -longest, 1, 0, -longest), 50000), 0}, 1, nil)
	all(asked{math.MaxInt, nil, 0}, math.MaxInt-1, nil)
	all(asked{1000, line(1000, 1), 0}, 999, nil)
}

// P8, P9: nothing is clamped to what may be, and nothing is answered beside a false.
func TestP8(t *testing.T) {
	for i, x := range []struct {
		asked
		to int
	}{
		{asked{0, nil, 0}, 0}, {asked{-1, nil, 0}, 0}, {asked{301, nil, 0}, 0}, {asked{2, nil, -1}, 0}, {asked{2, nil, 2}, 0},
		{asked{2, arcsOf(0, 2, 1), 0}, 1}, {asked{2, arcsOf(0, 1, 1, -1, 0, 1), 0}, 1}, {asked{2, arcsOf(0, 1, longest+1), 0}, 1}, {asked{2, arcsOf(0, 1, -longest-1), 0}, 1},
		{asked{2, make([]api.Arc, arcs+1), 0}, 1},
	} {
		from := path.From(x.n, x.l, x.s)
		dist, round, is := path.Any(x.n, x.l, x.s)
		way, has := path.Way(x.n, x.l, x.s, x.to)
		if len(from)+len(dist)+len(round)+len(way) > 0 || is || has || path.Right(x.n, x.l, x.s, nil) {
			t.Errorf("%d: %v, %v, %v, %v, %v, %v", i, from, dist, round, is, way, has)
		}
	}
	for _, to := range []int{-1, 2, math.MinInt, math.MaxInt} {
		if way, is := path.Way(2, arcsOf(0, 1, 1), 0, to); is || len(way) > 0 {
			t.Errorf("Way to %d: %v, %v", to, way, is)
		}
	}
	// where ways may go on for less than nothing, these two answer nothing
	if from := path.From(2, arcsOf(0, 1, -1), 0); len(from) > 0 {
		t.Errorf("From below 0: %v", from)
	}
	if way, is := path.Way(2, arcsOf(0, 1, -1), 0, 1); is || len(way) > 0 {
		t.Errorf("Way below 0: %v, %v", way, is)
	}
}

// questions tells some with spare room, with and without a round.
func questions() []asked {
	l := []asked{{3, arcsOf(0, 1, 5, 1, 2, 0, 0, 2, 5, 2, 0, 0), 0}, {3, arcsOf(0, 1, 5, 1, 2, -3, 2, 1, 2, 2, 2, 1), 0}, {2, arcsOf(0, 1, -4, 1, 0, 4), 0}, {2, nil, 1}}
	for i := range l {
		l[i].l = slices.Grow(l[i].l, 9)
		room := l[i].l[len(l[i].l):cap(l[i].l)]
		for j := range room {
			room[j] = api.Arc{From: -77, To: -77, Len: -77}
		}
	}
	return l
}

func TestP2HandedIn(t *testing.T) {
	for _, q := range questions() {
		dist := slices.Grow(slices.Clone(rows(q, q.n)[q.n]), 9)
		unchanged := nettest.Watch(dist)
		before := slices.Clone(q.l[:cap(q.l)])
		for s := range q.n {
			for u := range q.n {
				all(asked{q.n, q.l, s}, u, dist)
			}
		}
		if !unchanged() || !slices.Equal(before, q.l[:cap(q.l)]) {
			t.Errorf("handed in %v, %v", q, dist)
		}
	}
}

func TestP2Answered(t *testing.T) {
	for _, q := range questions() {
		var lists [][]int
		for range 2 {
			from := path.From(q.n, q.l, q.s)
			dist, round, _ := path.Any(q.n, q.l, q.s)
			way, _ := path.Way(q.n, q.l, q.s, q.n-1)
			lists = append(lists, from, dist, round, way)
		}
		if !nettest.Apart(lists...) {
			t.Errorf("lists of %v share memory", q)
		}
	}
}

func TestP3(t *testing.T) {
	dice := nettest.NewDice(3)
	rounds := 0
	for range 300 {
		n := 2 + dice.Of(30)
		l, s, u := thrown(dice, n, 3*n, -dice.Of(2), 4), dice.Of(n), dice.Of(n)
		from := path.From(n, l, s)
		dist, round, is := path.Any(n, l, s)
		way, has := path.Way(n, l, s, u)
		all(asked{n, thrown(dice, n, 3*n, -1, 4), u}, s, dist)
		again, same, yes := path.Any(n, l, s)
		other, too := path.Way(n, l, s, u)
		if !slices.Equal(from, path.From(n, l, s)) || !slices.Equal(dist, again) || !slices.Equal(round, same) || is != yes || !slices.Equal(way, other) || has != too {
			t.Fatalf("%v, %d, %d: not the same again", l, s, u)
		}
		if !is {
			rounds++
		}
	}
	if rounds < 50 {
		t.Errorf("the dice miss rounds: %d", rounds)
	}
}
