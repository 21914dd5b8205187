package rot

import "watershed/api"

// few tells whether n has no more vertices and darts than a net may have.
func few(n api.Net) bool {
	return n.N <= api.MaxVertices && len(n.Tail) <= 2*api.MaxEdges
}

// matched tells whether each dart has its other, its Next, which is a dart, and its Cap.
func matched(n api.Net) bool {
	darts := len(n.Tail)
	if darts%2 != 0 || len(n.Next) != darts || len(n.Cap) != darts {
		return false
	}
	for _, next := range n.Next {
		if next < 0 || next >= darts {
			return false
		}
	}
	return true
}

// placed tells whether each dart begins at a vertex.
func placed(n api.Net) bool {
	for _, v := range n.Tail {
		if v < 0 || v >= n.N {
			return false
		}
	}
	return n.N >= 0
}

// turning tells whether by Next each vertex's darts are one round; n is walkable.
func turning(n api.Net) bool {
	l, is := rounds(n.Next)
	begun := make([]bool, n.N)
	for _, round := range l {
		v := n.Tail[round[0]]
		if begun[v] {
			return false
		}
		begun[v] = true
		for _, d := range round {
			if n.Tail[d] != v {
				return false
			}
		}
	}
	return is
}

// held tells whether each dart's Cap is one that it may have.
func held(n api.Net) bool {
	for _, most := range n.Cap {
		if most < 0 || most > api.MaxCap {
			return false
		}
	}
	return true
}

// walkable tells whether n's lists lead nowhere out of themselves. Every call that goes along them asks for it, so that it ends on what is no net, too (P1).
func walkable(n api.Net) bool {
	return few(n) && matched(n) && placed(n)
}
