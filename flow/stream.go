package flow

import (
	"math"

	"watershed/api"
	"watershed/rot"
)

// nowhere stands for no vertex.
const nowhere = -1

// stream is a flow that may still grow: how much more may run along each dart. These are floats, for where it springs there is room without end. Of a flow they are whole and below 2^53, so that none is rounded.
type stream struct {
	net  api.Net
	left []float64
}

// streamOf tells what the numbers f leave of n, which is plane. Cap is exact as a float, so what is left is above 0 just where f is below Cap, however far f lies from it.
func streamOf(n api.Net, f []int) stream {
	left := make([]float64, len(f))
	for d, x := range f {
		left[d] = float64(n.Cap[d]) - float64(x)
	}
	return stream{n, left}
}

// spread tells how much more may run from s to each vertex by the way on which it is found first, and the dart by which that way comes there. There is room for nothing at a vertex that is not found. Once till is found nothing more is looked for.
func (m stream) spread(s, till int) (room []float64, by []int) {
	room, by = make([]float64, m.net.N), make([]int, m.net.N)
	room[s] = math.Inf(1)
	found := []int{s}
search:
	for i := 0; i < len(found); i++ {
		for d, v := range m.net.Tail {
			w := rot.Head(m.net, d)
			if v != found[i] || m.left[d] <= 0 || room[w] > 0 {
				continue
			}
			room[w], by[w] = min(room[v], m.left[d]), d
			if w == till {
				break search
			}
			found = append(found, w)
		}
	}
	return room, by
}

// grow lets as much more run from s to t as one way takes; false: no way is left. As each way has the fewest darts that it may have, there are no more of them than vertices times darts, whatever the darts hold.
func (m stream) grow(s, t int) bool {
	room, by := m.spread(s, t)
	more := room[t]
	if more == 0 {
		return false
	}
	for v := t; v != s; v = m.net.Tail[by[v]] {
		m.left[by[v]] -= more
		// what runs there may be taken back
		m.left[by[v]^1] += more
	}
	return true
}

// numbers tells the flow's number of each dart.
func (m stream) numbers() []int {
	f := make([]int, len(m.left))
	for d, left := range m.left {
		f[d] = m.net.Cap[d] - int(left)
	}
	return f
}
