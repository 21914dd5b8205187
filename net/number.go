package net

import "strings"

// tooGreat is the least amount that a row does not hold. It is above every bound of a net's text, too: so a number that is told as tooGreat, for it would not fit, is refused by the bound that it breaks.
const tooGreat = 1_000_000_000_000_000

// number reads a number (W5); one whose amount is tooGreat or more is told as tooGreat, or that below 0.
func number(s string) (int, bool) {
	digits, below := strings.CutPrefix(s, "-")
	if digits == "" || digits[0] == '0' && s != "0" {
		return 0, false
	}
	x := 0
	for i := range len(digits) {
		if digits[i] < '0' || digits[i] > '9' {
			return 0, false
		}
		x = min(10*x+int(digits[i]-'0'), tooGreat)
	}
	if below {
		x = -x
	}
	return x, true
}

// numbers reads numbers, one blank between; of no bytes none.
func numbers(s string) ([]int, bool) {
	var l []int
	for more := s != ""; more; {
		var part string
		part, s, more = strings.Cut(s, " ")
		x, is := number(part)
		if !is {
			return nil, false
		}
		l = append(l, x)
	}
	return l, true
}
