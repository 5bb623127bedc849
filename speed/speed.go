// Package speed is layer 1: see shared/doc/01-speed.md.
package speed

import (
	"cmp"
	"math"
	"strconv"
	"strings"

	"catenary/api"
)

// reference is the speed, in megabits per second, of a link that costs 1.
const reference = 20000000

// The bytes that the text of a speed may have.
const (
	minText = 2
	maxText = 20
)

// Speed is a link's speed, in megabits per second.
type Speed float64

// Right reports whether a speed is valid: greater than 0, and finite.
func (s Speed) Right() bool { return s > 0 && s <= math.MaxFloat64 }

// Cost returns the path cost of a link: the slower it is, the more.
func (s Speed) Cost() (uint32, api.Errno) {
	if !s.Right() {
		return 0, api.ErrRange
	}
	// The bounds are applied ahead of the conversion: a quotient may be beyond uint32, even infinite.
	cost := reference / float64(s)
	return uint32(min(max(cost, 1), api.MaxCost)), api.OK
}

// Compare orders all speeds: NaNs first, then by value, negative zero before positive zero.
func Compare(a, b Speed) int {
	if a == 0 && b == 0 {
		return cmp.Compare(zeroRank(a), zeroRank(b))
	}
	return cmp.Compare(a, b)
}

// zeroRank tells the two zeros apart, which Go's comparisons take as equal.
func zeroRank(zero Speed) int {
	if math.Signbit(float64(zero)) {
		return 0
	}
	return 1
}

// Least returns the least of the valid speeds; false: there is none.
func Least(l ...Speed) (Speed, bool) {
	least, found := Speed(0), false
	for _, s := range l {
		if s.Right() && (!found || s < least) {
			least, found = s, true
		}
	}
	return least, found
}

// Sum returns the sum of the valid speeds, at most the greatest finite one.
func Sum(l ...Speed) Speed {
	sum := Speed(0)
	for _, s := range l {
		if s.Right() {
			sum = min(sum+s, math.MaxFloat64)
		}
	}
	return sum
}

// Parse returns the speed that a text denotes: a number, and a letter for its unit.
func Parse(s string) (Speed, api.Errno) {
	if len(s) < minText || len(s) > maxText {
		return 0, api.ErrForm
	}
	last := len(s) - 1
	unit, ok := unitOf(s[last])
	if !ok || !isNumber(s[:last]) {
		return 0, api.ErrForm
	}
	// A number of so few digits is always in range, so that no error is possible here.
	number, _ := strconv.ParseFloat(s[:last], 64)
	speed := Speed(number * unit)
	if !speed.Right() {
		return 0, api.ErrRange
	}
	return speed, api.OK
}

// unitOf returns how many megabits per second a letter stands for; false: it is no unit.
func unitOf(letter byte) (float64, bool) {
	switch letter {
	case 'K':
		return 1e-3, true
	case 'M':
		return 1, true
	case 'G':
		return 1e3, true
	case 'T':
		return 1e6, true
	}
	return 0, false
}

// isNumber keeps out what strconv would take beyond digits and a point among them: signs, exponents, Inf, NaN.
func isNumber(s string) bool {
	whole, part, pointed := strings.Cut(s, ".")
	return areDigits(whole) && (!pointed || areDigits(part))
}

// areDigits reports whether a text is one digit or more.
func areDigits(s string) bool {
	for i := range len(s) {
		if s[i] < '0' || s[i] > '9' {
			return false
		}
	}
	return s != ""
}
