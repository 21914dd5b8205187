package net

import (
	"strings"

	"watershed/api"
)

// The words with which a net's lines begin.
const (
	headWord = "net"
	edgeWord = "edge"
	turnWord = "turn"
)

// notTurned stands for the Next of a dart that no turn has named yet.
const notTurned = -1

// line is a word and the numbers behind it, none of them below 0; what is no such line, or lacks, has no word.
type line struct {
	word    string
	numbers []int
}

// lineAt reads the line of that number, counted from 1.
func lineAt(lines []string, at int) line {
	if at > len(lines) {
		return line{}
	}
	word, row, more := strings.Cut(lines[at-1], " ")
	l, is := numbers(row)
	if !is || more && len(l) == 0 {
		return line{}
	}
	for _, x := range l {
		if x < 0 {
			return line{}
		}
	}
	return line{word, l}
}

// draft is a net of which some lines are read.
type draft struct {
	net api.Net
}

// head takes the line that says how many vertices there are.
func (d *draft) head(l line) api.Errno {
	if l.word != headWord || len(l.numbers) != 1 {
		return api.BadText
	}
	if l.numbers[0] > api.MaxVertices {
		return api.TooMany
	}
	d.net.N = l.numbers[0]
	return api.OK
}

// edge takes an edge's line.
func (d *draft) edge(l line) api.Errno {
	if len(l.numbers) != 4 {
		return api.BadText
	}
	from, to, there, back := l.numbers[0], l.numbers[1], l.numbers[2], l.numbers[3]
	switch {
	case len(d.net.Tail) == 2*api.MaxEdges:
		return api.TooMany
	case from >= d.net.N || to >= d.net.N:
		return api.BadVertex
	case there > api.MaxCap || back > api.MaxCap:
		return api.TooMuch
	}
	d.net.Tail = append(d.net.Tail, from, to)
	d.net.Next = append(d.net.Next, notTurned, notTurned)
	d.net.Cap = append(d.net.Cap, there, back)
	return api.OK
}

// turn takes vertex v's line.
func (d *draft) turn(v int, l line) api.Errno {
	if l.word != turnWord {
		return api.BadText
	}
	for _, x := range l.numbers {
		if x >= len(d.net.Tail) || d.net.Tail[x] != v {
			return api.BadDart
		}
	}
	for i, x := range l.numbers {
		if d.net.Next[x] != notTurned {
			return api.BadNext
		}
		d.net.Next[x] = l.numbers[(i+1)%len(l.numbers)]
	}
	if len(l.numbers) != countOf(d.net.Tail, v) {
		return api.BadNext
	}
	return api.OK
}
