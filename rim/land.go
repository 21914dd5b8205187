package rim

import (
	"watershed/api"
	"watershed/dual"
	"watershed/path"
)

// land is what lies between the edges of a net, one face parted into a and b (dual.Split): each dart's face, and how high each lies, a at 0. (b need not lie highest.)
type land struct {
	of, height []int
	b          int
}

// survey tells the land of n, parted between s and t, or why there is none.
func survey(n api.Net, s, t int) (land, api.Errno) {
	switch {
	case !isVertex(n, s) || !isVertex(n, t):
		return land{}, api.BadVertex
	case s == t:
		return land{}, api.SameEnds
	}
	of, faces, a, b, is := dual.Split(n, s, t)
	if !is {
		return land{}, api.NoRim
	}
	l := land{of: of, b: b}
	l.height = path.From(faces, l.arcs(n.Cap), a)
	return l, api.OK
}

// isVertex tells whether v is one of n's.
func isVertex(n api.Net, v int) bool {
	return v >= 0 && v < n.N
}

// arcs tells how the darts lead from face to face, each as long as it holds. Several darts may lead from one face to the same other one: the shortest alone is told, for no shortest way goes along the others.
func (l land) arcs(hold []int) []api.Arc {
	var arcs []api.Arc
darts:
	for d, face := range l.of {
		a := api.Arc{From: face, To: l.of[other(d)], Len: hold[d]}
		for i, told := range arcs {
			if told.From == a.From && told.To == a.To {
				arcs[i].Len = min(told.Len, a.Len)
				continue darts
			}
		}
		arcs = append(arcs, a)
	}
	return arcs
}

// rise tells how much higher it is on the far side of d than on its own.
func (l land) rise(d int) int {
	return l.height[l.of[other(d)]] - l.height[l.of[d]]
}

// each asks the same of every dart.
func (l land) each(ask func(d int) int) []int {
	answers := make([]int, len(l.of))
	for d := range answers {
		answers[d] = ask(d)
	}
	return answers
}

// other tells the dart of the same edge that leads back.
func other(d int) int {
	return d ^ 1
}
