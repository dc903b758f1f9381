// Package decimal reads the numbers that layers find in texts: decimal, without leading zeros.
package decimal

import "strconv"

// Parse returns the number that s writes if it is one from least to most. Only the canonical spelling is written again as it was: without a plus sign, leading zeros or anything else.
func Parse(s string, least, most int) (int, bool) {
	n, err := strconv.Atoi(s)
	if err != nil || strconv.Itoa(n) != s || n < least || n > most {
		return 0, false
	}
	return n, true
}
