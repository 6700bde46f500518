package whole

import (
	"strings"

	"heijunka/api"
	"heijunka/nat"
)

const minus = "-"

// Text: a number's text.
func Text(a api.Int) string {
	if isBelow(a) {
		return minus + nat.Text(a.Mag)
	}
	return nat.Text(a.Mag)
}

// Parse: the number of a text.
func Parse(s string) (api.Int, bool) {
	digits, neg := strings.CutPrefix(s, minus)
	isWhole := behind(neg)
	mag, ok := nat.Parse(digits)
	if !ok || !isWhole(mag) {
		return api.Int{}, false
	}
	return api.Int{Neg: neg, Mag: mag}, true
}

// behind answers what tells whether a trimmed size makes a whole number behind a sign: 0 makes none behind that of numbers below it, so that each number is written in one way.
func behind(neg bool) func(mag []uint32) bool {
	return func(mag []uint32) bool {
		return !neg || len(mag) > 0
	}
}
