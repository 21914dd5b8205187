package rot

import (
	"slices"

	"watershed/api"
)

// other tells the dart of the same edge that leads back.
func other(d int) int {
	return d ^ 1
}

// behind tells for each dart the one that comes behind it about its face.
func behind(n api.Net) []int {
	step := make([]int, len(n.Next))
	for d := range step {
		step[d] = n.Next[other(d)]
	}
	return step
}

// rounds tells the rounds that step leads the darts in, each from its least dart on, in the order of these; false where step runs into a round that it has not begun, so that its darts are not rounds alone.
func rounds(step []int) ([][]int, bool) {
	// all rounds lie in one row, each with no room behind it: laying a dart behind one cannot write over the next one
	row := make([]int, 0, len(step))
	met := make([]bool, len(step))
	var l [][]int
darts:
	for least := range step {
		if met[least] {
			continue
		}
		begin := len(row)
		for d := least; ; d = step[d] {
			switch {
			case !met[d]:
				met[d] = true
				row = append(row, d)
			case d == least:
				l = append(l, row[begin:len(row):len(row)])
				continue darts
			default:
				return nil, false
			}
		}
	}
	return l, true
}

// roundOf tells the round that has d, d first.
func roundOf(step []int, d int) []int {
	l, _ := rounds(step)
	for _, round := range l {
		if at := slices.Index(round, d); at >= 0 {
			return append(round[at:], round[:at]...)
		}
	}
	return nil
}
