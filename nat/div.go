package nat

import (
	"math"
	"math/bits"

	"cutwater/api"
)

// DivMod gives a quotient and a rest.
func DivMod(a, b []uint64) ([]uint64, []uint64, api.Errno) {
	a, b = clip(a), clip(b)
	switch {
	case len(b) == 0:
		return nil, nil, api.ErrZero
	case len(a) < len(b):
		return nil, Trim(a), api.OK
	case len(b) == 1:
		quotient := Trim(a)
		rest := divWord(quotient, b[0])
		return clip(quotient), clip([]uint64{rest}), api.OK
	}
	quotient, rest := divLong(a, b)
	return clip(quotient), clip(rest), api.OK
}

// divWord divides a by d in its place, and gives the rest.
func divWord(a []uint64, d uint64) uint64 {
	var rest uint64
	for i := len(a) - 1; i >= 0; i-- {
		a[i], rest = bits.Div64(rest, a[i], d)
	}
	return rest
}

// divLong divides as it is done by hand, word by word. Both are without words 0 at their ends; b has two words or more, and a no fewer.
func divLong(a, b []uint64) (quotient, rest []uint64) {
	// With the top bit of b set, a word of the quotient can be guessed from the topmost words.
	lead := bits.LeadingZeros64(b[len(b)-1])
	b = up(b, lead, len(b))
	rest = up(a, lead, len(a)+1)
	quotient = make([]uint64, len(a)-len(b)+1)
	for i := len(quotient) - 1; i >= 0; i-- {
		part := rest[i : i+len(b)+1]
		w := guess(part, b)
		for over := takeTimes(part, b, w); over; over = !putBack(part, b) {
			w--
		}
		quotient[i] = w
	}
	return quotient, down(rest, lead)
}

// guess gives how often b goes into a, or a little more. The top bit of b is set; a has one word more, and b doesn't go 2^64 times into it.
func guess(a, b []uint64) uint64 {
	n := len(b)
	if a[n] >= b[n-1] {
		return math.MaxUint64
	}
	w, rest := bits.Div64(a[n], a[n-1], b[n-1])
	for {
		high, low := bits.Mul64(w, b[n-2])
		if high < rest || high == rest && low <= a[n-2] {
			return w
		}
		w--
		var carry uint64
		if rest, carry = bits.Add64(rest, b[n-1], 0); carry != 0 {
			return w
		}
	}
}

// takeTimes takes w times b from a, which has one word more, and tells whether that was too much; then 2 to the power of a's bits was added.
func takeTimes(a, b []uint64, w uint64) bool {
	var over, borrow uint64
	for i, v := range b {
		high, low := bits.Mul64(v, w)
		low, carry := bits.Add64(low, over, 0)
		over = high + carry
		a[i], borrow = bits.Sub64(a[i], low, borrow)
	}
	a[len(b)], borrow = bits.Sub64(a[len(b)], over, borrow)
	return borrow != 0
}

// putBack adds b to a, which has one word more, and tells whether that went over a's end.
func putBack(a, b []uint64) bool {
	var carry uint64
	for i, v := range b {
		a[i], carry = bits.Add64(a[i], v, carry)
	}
	a[len(b)], carry = bits.Add64(a[len(b)], 0, carry)
	return carry != 0
}
