package nat

import (
	"bytes"
	"math/bits"
	"slices"
	"strings"

	"cutwater/api"
)

// A group is as many decimal digits as fit into a word whatever they are.
const (
	groupDigits = 19
	groupSize   = 10_000_000_000_000_000_000
)

// Parse reads decimal digits.
func Parse(s string) ([]uint64, api.Errno) {
	if s == "" || strings.Trim(s, "0123456789") != "" {
		return nil, api.ErrDigit
	}
	if len(s) > api.MaxDigits {
		return nil, api.ErrLong
	}
	var a []uint64
	for i := range len(s) {
		a = appendDigit(a, uint64(s[i]-'0'))
	}
	return a, api.OK
}

// appendDigit makes a, in its place, 10 times a and digit.
func appendDigit(a []uint64, digit uint64) []uint64 {
	over := digit
	for i, w := range a {
		high, low := bits.Mul64(w, 10)
		var carry uint64
		a[i], carry = bits.Add64(low, over, 0)
		over = high + carry
	}
	if over != 0 {
		a = append(a, over)
	}
	return a
}

// Text gives a number's decimal digits.
func Text(a []uint64) string {
	var digits []byte // the last one first
	for rest := Trim(a); len(rest) > 0; rest = clip(rest) {
		group := divWord(rest, groupSize)
		for range groupDigits {
			digits = append(digits, byte('0'+group%10))
			group /= 10
		}
	}
	digits = bytes.TrimRight(digits, "0")
	if len(digits) == 0 {
		return "0"
	}
	slices.Reverse(digits)
	return string(digits)
}
