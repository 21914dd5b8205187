package nettest

import (
	"math"

	"watershed/api"
)

// Ends are two numbers for the ends of a flow, and what a face is to say of them.
type Ends struct {
	Net  api.Net
	S, T int
	Want api.Errno
}

// WrongEnds tells some of which one is no vertex, or both are the same. (Where both are the same, but no vertex, the latter comes first: P6.)
func WrongEnds() []Ends {
	one, fence := api.Net{N: 1}, Fence()
	return []Ends{
		{one, 0, 0, api.SameEnds}, {one, 0, 1, api.BadVertex}, {one, 1, 0, api.BadVertex}, {Loops(3), 0, 0, api.SameEnds},
		{fence, 0, -1, api.BadVertex}, {fence, -1, 0, api.BadVertex}, {fence, 0, 3, api.BadVertex}, {fence, 3, 0, api.BadVertex},
		{fence, math.MinInt, 0, api.BadVertex}, {fence, 0, math.MaxInt, api.BadVertex}, {fence, math.MaxInt, math.MinInt, api.BadVertex}, {fence, 1 << 32, 1, api.BadVertex},
		{one, 1, 1, api.BadVertex}, {fence, -1, -1, api.BadVertex}, {fence, 3, 3, api.BadVertex}, {fence, math.MaxInt, math.MaxInt, api.BadVertex},
		{fence, 0, 0, api.SameEnds}, {fence, 1, 1, api.SameEnds}, {fence, 2, 2, api.SameEnds},
	}
}
