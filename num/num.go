// Package num is layer 1: numbers: see shared/doc/01-num.md.
package num

import (
	"strconv"

	"felucca/api"
)

// Ceil divides a by b, upwards; there is no answer of a below 0, or b below 1.
func Ceil(a, b int) (int, bool) {
	if a < 0 || b < 1 {
		return 0, false
	}
	n := a / b
	// Not (a+b-1)/b: that sum may go round.
	if a%b != 0 {
		n++
	}
	return n, true
}

// In tells if n is at least low, and at most high.
func In(n, low, high int) bool {
	return n >= low && n <= high
}

// Clamp is what is nearest to n from low to high; low goes ahead where they cross.
func Clamp(n, low, high int) int {
	if n < low {
		return low
	}
	if n > high {
		return high
	}
	return n
}

// Text is n in decimals.
func Text(n int) string {
	return strconv.Itoa(n)
}

// Parse is the number from 0 to high whose Text is s.
func Parse(s string, high int) (int, bool) {
	if s == "" || len(s) > 1 && s[0] == '0' {
		return 0, false
	}
	n := 0
	for _, r := range s {
		if r < '0' || r > '9' {
			return 0, false
		}
		digit := int(r - '0')
		if n > (api.MaxInt-digit)/10 {
			return 0, false
		}
		n = n*10 + digit
	}
	if n > high {
		return 0, false
	}
	return n, true
}
