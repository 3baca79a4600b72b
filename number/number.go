// Package number reads the numbers that stand in texts.
package number

import "math"

// Parse reads a number: `0`, or digits of which the first is not `0`, of 64 bits with a sign.
func Parse(text string) (int64, bool) {
	if text == "" || text[0] == '0' && len(text) > 1 {
		return 0, false
	}
	var n int64
	for i := range len(text) {
		if text[i] < '0' || text[i] > '9' {
			return 0, false
		}
		digit := int64(text[i] - '0')
		// Asked ahead of the step: a number that wrapped round could look like a small one.
		if n > (math.MaxInt64-digit)/10 {
			return 0, false
		}
		n = n*10 + digit
	}
	return n, true
}

// Within reads a number that must be from low to high.
func Within(text string, low int, high int) (int, bool) {
	n, ok := Parse(text)
	if !ok || n < int64(low) || n > int64(high) {
		return 0, false
	}
	return int(n), true
}
