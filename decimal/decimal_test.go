package decimal_test

import (
	"math"
	"regexp"
	"strconv"
	"testing"

	"ostiary/decimal"
)

// TestP7_1EverySpelling: of all short texts of telling characters, only the canonical spellings of numbers in the range are accepted.
func TestP7_1EverySpelling(t *testing.T) {
	canonical := regexp.MustCompile(`^(0|-?[1-9][0-9]*)$`)
	var visit func(string)
	visit = func(s string) {
		for _, span := range [][2]int{{0, 9999}, {1, 64}, {1, 10}, {10, 10}, {-19, 19}, {2, 1}} {
			want, wantOK := 0, false
			if canonical.MatchString(s) {
				n, err := strconv.Atoi(s)
				if err == nil && span[0] <= n && n <= span[1] {
					want, wantOK = n, true
				}
			}
			if n, ok := decimal.Parse(s, span[0], span[1]); n != want || ok != wantOK {
				t.Fatalf("%q from %d to %d: %d, %v", s, span[0], span[1], n, ok)
			}
		}
		for _, sign := range "0196-+_ xe.\x00" {
			if len(s) < 4 {
				visit(s + string(sign))
			}
		}
	}
	visit("")
}

func TestP9_3Bounds(t *testing.T) {
	for _, c := range []struct {
		s           string
		least, most int
		want        int
		ok          bool
	}{
		{"0", 0, 9, 0, true},
		{"0", 1, 9, 0, false},
		{"65535", 1, 65535, 65535, true},
		{"65536", 1, 65535, 0, false},
		{"9223372036854775807", 0, math.MaxInt, math.MaxInt, true},
		{"9223372036854775808", 0, math.MaxInt, 0, false},
		{"18446744073709551617", 0, math.MaxInt, 0, false},
		{"99999999999999999999999999999999999", 0, math.MaxInt, 0, false},
		{"", 0, 9, 0, false},
		{"٣", 0, 9, 0, false},
		{"1\n", 0, 9, 0, false},
		{"0x1", 0, 9, 0, false},
		{"\xff", 0, 9, 0, false},
	} {
		if n, ok := decimal.Parse(c.s, c.least, c.most); n != c.want || ok != c.ok {
			t.Errorf("%q from %d to %d: %d, %v", c.s, c.least, c.most, n, ok)
		}
	}
}
