// Package net: nets as texts. See doc/01-net.md.
package net

import (
	"strconv"
	"strings"

	"watershed/api"
)

// Parse reads a net's text. Beside an error it tells the line that has it, counted from 1.
func Parse(s string) (api.Net, int, api.Errno) {
	var d draft
	var lines []string
	at, fault := 1, api.BadText
	if len(s) > api.MaxText {
		goto refused
	}
	lines = strings.Split(strings.TrimSuffix(s, "\n"), "\n")
	if fault = d.head(lineAt(lines, at)); fault != api.OK {
		goto refused
	}
edges:
	at++
	if l := lineAt(lines, at); l.word == edgeWord {
		if fault = d.edge(l); fault != api.OK {
			goto refused
		}
		goto edges
	}
	for v := range d.net.N {
		if fault = d.turn(v, lineAt(lines, at)); fault != api.OK {
			goto refused
		}
		at++
	}
	if at <= len(lines) {
		fault = api.BadText
		goto refused
	}
	return d.net, 0, api.OK
refused:
	return api.Net{}, at, fault
}

// Text tells a net. Of what is no net (W1) nothing is promised but that the call ends: where the lists would lead out of themselves, no bytes are told.
func Text(n api.Net) string {
	if !walkable(n) {
		return ""
	}
	lines := []string{headWord + " " + strconv.Itoa(n.N)}
	for d := 0; d < len(n.Tail); d += 2 {
		lines = append(lines, edgeWord+" "+RowText(n.Tail[d], n.Tail[d+1], n.Cap[d], n.Cap[d+1]))
	}
vertices:
	for v := range n.N {
		for d, tail := range n.Tail {
			if tail == v {
				lines = append(lines, turnWord+" "+RowText(round(n, d)...))
				continue vertices
			}
		}
		lines = append(lines, turnWord)
	}
	return strings.Join(lines, "\n") + "\n"
}

// Row reads numbers, one blank between.
func Row(s string) ([]int, bool) {
	l, is := numbers(s)
	for _, x := range l {
		if x == tooGreat || x == -tooGreat {
			return nil, false
		}
	}
	return l, is
}

// RowText tells numbers, one blank between.
func RowText(l ...int) string {
	var b strings.Builder
	for i, x := range l {
		if i > 0 {
			b.WriteByte(' ')
		}
		b.WriteString(strconv.Itoa(x))
	}
	return b.String()
}

// walkable tells whether Text can go through n without leaving its lists, and within W1's bounds.
func walkable(n api.Net) bool {
	darts := len(n.Tail)
	if n.N < 0 || n.N > api.MaxVertices || darts%2 != 0 || darts > 2*api.MaxEdges {
		return false
	}
	if len(n.Next) != darts || len(n.Cap) != darts {
		return false
	}
	for d := range darts {
		if n.Tail[d] < 0 || n.Tail[d] >= n.N || n.Next[d] < 0 || n.Next[d] >= darts {
			return false
		}
	}
	return true
}

// round tells the darts about d's vertex, d first. It counts them instead of waiting for d to come back, so that it ends where Next has no such round.
func round(n api.Net, d int) []int {
	l := []int{d}
	for range countOf(n.Tail, n.Tail[d]) - 1 {
		d = n.Next[d]
		l = append(l, d)
	}
	return l
}

// countOf tells how often x is in l.
func countOf(l []int, x int) int {
	many := 0
	for _, y := range l {
		if y == x {
			many++
		}
	}
	return many
}
