package heap_test

import (
	"math"
	"slices"
	"testing"

	"watershed/api"
	"watershed/heap"
	"watershed/nettest"
)

// plain does by the promise's words what a heap does: it looks at all items each time.
type plain map[int]int

func (p plain) put(key, rank int) bool {
	if key < 0 || key > 299 {
		return false
	}
	p[key] = rank
	return true
}

func (p plain) least() (api.Item, bool) {
	var best api.Item
	is := false
	for key := range api.MaxKeys {
		if rank, has := p[key]; has && (!is || rank < best.Rank) {
			best, is = api.Item{Key: key, Rank: rank}, true
		}
	}
	return best, is
}

func (p plain) take() (api.Item, bool) {
	x, is := p.least()
	if is {
		delete(p, x.Key)
	}
	return x, is
}

func (p plain) drop(key int) bool {
	_, is := p[key]
	delete(p, key)
	return is
}

func (p plain) rank(key int) (int, bool) {
	rank, is := p[key]
	return rank, is
}

// wrongKeys are none.
func wrongKeys() []int {
	return []int{-1, -2, -300, 300, 301, 600, 1 << 32, -1 << 32, math.MaxInt, math.MinInt}
}

// same holds what may be asked without a change against the model's.
func same(t *testing.T, h *heap.Heap, p plain) {
	t.Helper()
	x, is := h.Least()
	if want, has := p.least(); x != want || is != has {
		t.Fatalf("Least %v %v, not %v %v", x, is, want, has)
	}
	if h.Len() != len(p) {
		t.Fatalf("Len %d, not %d", h.Len(), len(p))
	}
	for key := range api.MaxKeys {
		rank, is := h.Rank(key)
		if want, has := p.rank(key); rank != want || is != has {
			t.Fatalf("Rank %d: %d %v, not %d %v", key, rank, is, want, has)
		}
	}
}

// emptied takes all items, and holds each one against the model's.
func emptied(t *testing.T, h *heap.Heap, p plain) {
	t.Helper()
	for range len(p) + 1 {
		x, is := h.Take()
		if want, has := p.take(); x != want || is != has {
			t.Fatalf("Take %v %v, not %v %v", x, is, want, has)
		}
	}
	same(t, h, p)
}

func TestP501None(t *testing.T) {
	h := heap.New()
	none := func() {
		if x, is := h.Least(); is || x != (api.Item{}) {
			t.Errorf("Least %v %v", x, is)
		}
		if x, is := h.Take(); is || x != (api.Item{}) {
			t.Errorf("Take %v %v", x, is)
		}
		for _, key := range []int{0, 1, 299} {
			if rank, is := h.Rank(key); is || rank != 0 {
				t.Errorf("Rank %d: %d %v", key, rank, is)
			}
			if h.Drop(key) {
				t.Errorf("Drop %d", key)
			}
		}
		if h.Len() != 0 {
			t.Errorf("Len %d", h.Len())
		}
	}
	none()
	h.Put(1, -7)
	h.Take()
	none()
	h.Put(299, 7)
	h.Drop(299)
	none()
}

func TestP501Put(t *testing.T) {
	h, p := heap.New(), plain{}
	for _, x := range [][2]int{{0, 5}, {299, 5}, {7, math.MaxInt}, {8, math.MinInt}, {9, 0}, {8, math.MaxInt}, {7, math.MinInt}, {7, math.MinInt}, {0, 6}, {299, -1}, {9, 1}} {
		if !h.Put(x[0], x[1]) {
			t.Errorf("Put %v", x)
		}
		p.put(x[0], x[1])
		same(t, h, p)
	}
	emptied(t, h, p)
}

func TestP501WrongKeys(t *testing.T) {
	h, p := heap.New(), plain{}
	for _, many := range []int{0, 1, 300} {
		for key := range many {
			h.Put(key, -key)
			p.put(key, -key)
		}
		for _, key := range wrongKeys() {
			if h.Put(key, 0) || h.Put(key, math.MinInt) || h.Drop(key) {
				t.Errorf("%d is taken for a key", key)
			}
			if rank, is := h.Rank(key); is || rank != 0 {
				t.Errorf("Rank %d: %d %v", key, rank, is)
			}
		}
		same(t, h, p)
	}
	emptied(t, h, p)
}

// Of several of one rank the least key comes first, whenever it was put there.
func TestP501Ties(t *testing.T) {
	dice := nettest.NewDice(5010)
	for _, rank := range []int{0, 1, -1, math.MaxInt, math.MinInt} {
		h, p := heap.New(), plain{}
		for _, key := range dice.Order(api.MaxKeys) {
			h.Put(key, rank)
			p.put(key, rank)
		}
		same(t, h, p)
		emptied(t, h, p)
	}
}

// The ranks' difference is no number: it would go round.
func TestP501FarRanks(t *testing.T) {
	h, p := heap.New(), plain{}
	for key, rank := range []int{1, math.MaxInt, -2, math.MinInt, 0, math.MinInt + 1, math.MaxInt - 1, -1, api.Far, -api.Far} {
		h.Put(key, rank)
		p.put(key, rank)
		same(t, h, p)
	}
	emptied(t, h, p)
}

// orders tells the numbers below many in every order.
func orders(many int) [][]int {
	if many == 0 {
		return [][]int{nil}
	}
	var all [][]int
	for _, l := range orders(many - 1) {
		for i := range many {
			all = append(all, slices.Insert(slices.Clone(l), i, many-1))
		}
	}
	return all
}

// Whatever the order in which up to six are put, each one may be dropped, and each one may be given each new rank.
func TestP501Few(t *testing.T) {
	for many := range 7 {
		for _, ranks := range orders(many) {
			filled := func() (*heap.Heap, plain) {
				h, p := heap.New(), plain{}
				for i, rank := range ranks {
					h.Put(3*i, 2*rank)
					p.put(3*i, 2*rank)
				}
				return h, p
			}
			h, p := filled()
			emptied(t, h, p)
			for i := range many {
				h, p := filled()
				if !h.Drop(3*i) || h.Drop(3*i) {
					t.Fatalf("Drop %d of %v", i, ranks)
				}
				p.drop(3 * i)
				emptied(t, h, p)
				for rank := -1; rank < 2*many; rank++ {
					h, p := filled()
					h.Put(3*i, rank)
					p.put(3*i, rank)
					emptied(t, h, p)
				}
			}
		}
	}
}

// rank throws one, often the same as another's, now and then a bound.
func rank(dice *nettest.Dice, spread int) int {
	switch dice.Of(20) {
	case 0:
		return math.MaxInt - dice.Of(2)
	case 1:
		return math.MinInt + dice.Of(2)
	}
	return dice.Of(2*spread) - spread
}

func TestP501ByDice(t *testing.T) {
	dice := nettest.NewDice(501)
	full, none := 0, 0
	for range 60 {
		h, p := heap.New(), plain{}
		keys, spread := 1+dice.Of(api.MaxKeys), 1+dice.Of(400)
		// so many of ten calls put something there: some heaps grow full, others stay near none
		puts := 3 + dice.Of(7)
		for range 1200 {
			key := dice.Of(keys)
			switch what := dice.Of(10); {
			case what < puts:
				r := rank(dice, spread)
				if !h.Put(key, r) {
					t.Fatalf("Put %d", key)
				}
				p.put(key, r)
			case what%2 == 0:
				x, is := h.Take()
				if want, has := p.take(); x != want || is != has {
					t.Fatalf("Take %v %v, not %v %v", x, is, want, has)
				}
			default:
				if is, has := h.Drop(key), p.drop(key); is != has {
					t.Fatalf("Drop %d: %v, not %v", key, is, has)
				}
			}
			if dice.Of(8) == 0 {
				same(t, h, p)
			}
			if h.Len() > 200 {
				full++
			}
			if h.Len() == 0 {
				none++
			}
		}
		emptied(t, h, p)
	}
	if full < 1000 || none < 1000 {
		t.Errorf("the dice are too even: %d, %d", full, none)
	}
}

func TestP502(t *testing.T) {
	dice := nettest.NewDice(502)
	for many := range api.MaxKeys + 1 {
		h := heap.New()
		put := dice.Order(api.MaxKeys)[:many]
		for _, key := range put {
			h.Put(key, rank(dice, 1+dice.Of(100)))
		}
		var row []api.Item
		for h.Len() > 0 {
			x, is := h.Take()
			if !is {
				t.Fatal("Take: none, but Len is above 0")
			}
			row = append(row, x)
		}
		for i := range len(row) - 1 {
			x, y := row[i], row[i+1]
			if x.Rank > y.Rank || x.Rank == y.Rank && x.Key >= y.Key {
				t.Fatalf("%v ahead of %v", x, y)
			}
		}
		if len(row) != many {
			t.Fatalf("%d taken, not %d", len(row), many)
		}
	}
}

// A heap that was full and is empty again is like a new one, again and again.
func TestP501Again(t *testing.T) {
	h := heap.New()
	dice := nettest.NewDice(5011)
	for round := range 6 {
		p := plain{}
		for _, key := range dice.Order(api.MaxKeys) {
			r := rank(dice, 50)
			h.Put(key, r)
			p.put(key, r)
		}
		same(t, h, p)
		if round%2 == 0 {
			emptied(t, h, p)
			continue
		}
		for _, key := range dice.Order(api.MaxKeys) {
			if !h.Drop(key) {
				t.Fatalf("Drop %d", key)
			}
			p.drop(key)
			x, is := h.Least()
			if want, has := p.least(); x != want || is != has {
				t.Fatalf("Least %v %v, not %v %v", x, is, want, has)
			}
		}
		same(t, h, p)
	}
}

// P1: no key and no rank makes a call panic.
func TestP1(t *testing.T) {
	h := heap.New()
	bounds := append(wrongKeys(), 0, 1, 298, 299)
	for _, key := range bounds {
		for _, rank := range bounds {
			h.Put(key, rank)
			h.Rank(key)
			h.Least()
			h.Drop(rank)
			h.Rank(rank)
			h.Take()
			h.Take()
			h.Put(key, rank)
		}
	}
}

// script does the same calls for each seed, and tells all that they answered.
func script(h *heap.Heap, seed uint64, told func()) []int {
	dice := nettest.NewDice(seed)
	var all []int
	tell := func(is bool, numbers ...int) {
		if is {
			all = append(all, 1)
		} else {
			all = append(all, 0)
		}
		all = append(all, numbers...)
	}
	for range 500 {
		key, r := dice.Of(40)-1, dice.Of(30)
		switch dice.Of(4) {
		case 0:
			tell(h.Drop(key))
		case 1:
			x, is := h.Take()
			tell(is, x.Key, x.Rank)
		default:
			tell(h.Put(key, r))
		}
		x, is := h.Least()
		tell(is, x.Key, x.Rank, h.Len())
		told()
	}
	return all
}

func TestP3(t *testing.T) {
	for seed := range uint64(20) {
		if !slices.Equal(script(heap.New(), seed, func() {}), script(heap.New(), seed, func() {})) {
			t.Fatalf("seed %d: not the same", seed)
		}
	}
}

// P7: what is done to one is not seen in another one.
func TestP7(t *testing.T) {
	for seed := range uint64(20) {
		alone := script(heap.New(), seed, func() {})
		dice := nettest.NewDice(seed + 700)
		h, other, p := heap.New(), heap.New(), plain{}
		beside := script(h, seed, func() {
			key, r := dice.Of(40), dice.Of(30)
			if dice.Of(3) == 0 {
				other.Take()
				p.take()
			}
			other.Put(key, r)
			p.put(key, r)
		})
		if !slices.Equal(alone, beside) {
			t.Fatalf("seed %d: another one is seen", seed)
		}
		same(t, other, p)
		emptied(t, other, p)
	}
}
