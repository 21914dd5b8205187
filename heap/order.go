package heap

import (
	"watershed/api"
)

// isKey tells whether key may be one.
func isKey(key int) bool {
	return key >= 0 && key < api.MaxKeys
}

// ahead tells whether x is to be taken before y. The ranks are held against each other, not taken off each other: they may lie further apart than a number goes.
func ahead(x, y api.Item) bool {
	return x.Rank < y.Rank || x.Rank == y.Rank && x.Key < y.Key
}

// find tells at which place a key is, if it is there.
func (h *Heap) find(key int) (int, bool) {
	if !isKey(key) || h.places[key] == 0 {
		return 0, false
	}
	return h.places[key] - 1, true
}

// stand lays an item at a place.
func (h *Heap) stand(place int, x api.Item) {
	h.items[place] = x
	h.places[x.Key] = place + 1
}

// settle lays an item at a free place, or above or below it if the others there ask for it.
func (h *Heap) settle(free int, x api.Item) {
	free = h.rise(free, x)
	free = h.sink(free, x)
	h.stand(free, x)
}

// rise moves those above the free place down as long as x is ahead of them, and tells the place that is free then.
func (h *Heap) rise(free int, x api.Item) int {
	for free > 0 {
		above := (free - 1) / 2
		if !ahead(x, h.items[above]) {
			break
		}
		h.stand(free, h.items[above])
		free = above
	}
	return free
}

// sink moves those below the free place up as long as one is ahead of x, and tells the place that is free then.
func (h *Heap) sink(free int, x api.Item) int {
down:
	for {
		below := 2*free + 1
		switch {
		case below >= h.many:
			break down
		case below+1 < h.many && ahead(h.items[below+1], h.items[below]):
			below++
		}
		if !ahead(h.items[below], x) {
			break down
		}
		h.stand(free, h.items[below])
		free = below
	}
	return free
}

// remove takes the item at a place away; the last one settles there, so that the row has no gap.
func (h *Heap) remove(place int) {
	h.many--
	last := h.items[h.many]
	h.places[h.items[place].Key] = 0
	if place < h.many {
		h.settle(place, last)
	}
	// nothing of what is gone is kept behind the row: Least counts on it
	clear(h.items[h.many : h.many+1])
}
