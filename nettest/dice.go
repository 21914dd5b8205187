// Package nettest: nets by dice, and what the tests of several packages ask of nets and lists. The program itself does not call it.
package nettest

import "watershed/api"

// Dice throw the same numbers whenever they begin with the same seed.
type Dice struct {
	state uint64
}

// NewDice begins with a seed.
func NewDice(seed uint64) *Dice {
	return &Dice{seed}
}

// Of throws a number from 0 on, below sides.
func (d *Dice) Of(sides int) int {
	d.state = d.state*6364136223846793005 + 1442695040888963407
	return int(d.state>>33) % sides
}

// Order throws the numbers below many, in any order.
func (d *Dice) Order(many int) []int {
	l := make([]int, many)
	for i := range l {
		j := d.Of(i + 1)
		l[i] = l[j]
		l[j] = i
	}
	return l
}

// capacity throws how much a dart holds, the bounds more often than others.
func (d *Dice) capacity() int {
	switch d.Of(5) {
	case 0:
		return 0
	case 1:
		return d.Of(9)
	case 2:
		return api.MaxCap
	case 3:
		return api.MaxCap - d.Of(3)
	}
	return d.Of(api.MaxCap)
}
