package dual

import (
	"slices"

	"watershed/api"
	"watershed/rot"
)

// none stands for no face.
const none = -1

// mesh is a net with each dart's face beside it, and how many faces there are.
type mesh struct {
	net   api.Net
	of    []int
	faces int
}

// meshOf numbers the faces of n, which is linked. rot.Faces would do so for a net by W1 alone, and a dual may have twice as many vertices.
func meshOf(n api.Net) mesh {
	m := mesh{net: n, of: slices.Repeat([]int{none}, len(n.Tail))}
	for least := range m.of {
		if m.of[least] != none {
			continue
		}
		for d := least; m.of[d] == none; d = m.behind(d) {
			m.of[d] = m.faces
		}
		m.faces++
	}
	// a net without darts has a face that no dart goes round
	m.faces = max(m.faces, 1)
	return m
}

// face tells which face d goes along.
func (m mesh) face(d int) int {
	return m.of[d]
}

// behind tells which dart comes behind d about its face.
func (m mesh) behind(d int) int {
	return m.net.Next[d^1]
}

// hold tells how much d holds.
func (m mesh) hold(d int) int {
	return m.net.Cap[d]
}

// each asks the same of every dart.
func (m mesh) each(ask func(mesh, int) int) []int {
	l := make([]int, len(m.of))
	for d := range l {
		l[d] = ask(m, d)
	}
	return l
}

// meets tells whether a dart of that face begins at v.
func (m mesh) meets(face, v int) bool {
	for d, tail := range m.net.Tail {
		if tail == v && m.of[d] == face {
			return true
		}
	}
	return false
}

// round tells the darts of a face that meets v: first the one of v's to which one comes first from the face's least dart on. The net is plane.
func (m mesh) round(face, v int) []int {
	l := rot.Face(m.net, slices.Index(m.of, face))
	at := slices.IndexFunc(l, func(d int) bool { return m.net.Tail[d] == v })
	return rot.Face(m.net, l[at])
}
