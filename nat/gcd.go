package nat

import (
	"math/bits"

	"cutwater/lists"
)

// Gcd gives the greatest common divisor.
func Gcd(a, b []uint64) []uint64 {
	a, b = Trim(a), Trim(b)
	if Cmp(a, b) < 0 {
		a, b = b, a
	}
	for len(b) > 1 {
		if l := findLeap(a, b); l.far() {
			a, b = l.apply(a, b)
		} else {
			_, rest, _ := DivMod(a, b)
			a, b = b, rest
		}
	}
	if len(b) == 0 {
		return a
	}
	return []uint64{gcdWord(b[0], divWord(a, b[0]))}
}

// gcdWord gives the greatest common divisor of numbers of one word.
func gcdWord(a, b uint64) uint64 {
	for b != 0 {
		a, b = b, a%b
	}
	return a
}

// leap is what some of Euclid's steps, taken at once, make of numbers a and b:
// first[0]*a - first[1]*b and second[1]*b - second[0]*a, or both with the other sign, if odd.
type leap struct {
	odd           bool
	first, second [2]uint64
}

// far tells whether a leap has any steps.
func (l leap) far() bool { return l.first[1] != 0 }

// apply gives what the leap makes of a and b.
func (l leap) apply(a, b []uint64) (first, second []uint64) {
	if l.odd {
		return lessTimes(l.first[1], b, l.first[0], a), lessTimes(l.second[0], a, l.second[1], b)
	}
	return lessTimes(l.first[0], a, l.first[1], b), lessTimes(l.second[1], b, l.second[0], a)
}

// lessTimes gives v*a - w*b, which is neither below 0 nor longer than both lists.
func lessTimes(v uint64, a []uint64, w uint64, b []uint64) []uint64 {
	out := make([]uint64, max(len(a), len(b)))
	var overA, overB, borrow uint64
	for i := range out {
		highA, lowA := bits.Mul64(v, lists.At(a, i))
		highB, lowB := bits.Mul64(w, lists.At(b, i))
		var carryA, carryB uint64
		lowA, carryA = bits.Add64(lowA, overA, 0)
		lowB, carryB = bits.Add64(lowB, overB, 0)
		overA, overB = highA+carryA, highB+carryB
		out[i], borrow = bits.Sub64(lowA, lowB, borrow)
	}
	return clip(out)
}

// findLeap finds Euclid's steps from the topmost 64 bits alone (Lehmer's way), as long as the bits below can't change them (Collins's bound). a isn't below b, and both have two words or more.
func findLeap(a, b []uint64) leap {
	lead := bits.LeadingZeros64(a[len(a)-1])
	x, y := window(a, len(a), lead), window(b, len(a), lead)
	l := leap{first: [2]uint64{1, 0}, second: [2]uint64{0, 1}}
	for y != 0 {
		times, rest := x/y, x%y
		next := [2]uint64{l.first[0] + times*l.second[0], l.first[1] + times*l.second[1]}
		if rest < next[1] || y-rest < l.second[1]+next[1] {
			break
		}
		x, y = y, rest
		l.first, l.second, l.odd = l.second, next, !l.odd
	}
	return l
}

// window gives the 64 bits of a that stand where a number of n words, the topmost of which begins with lead noughts, has its first ones.
func window(a []uint64, n, lead int) uint64 {
	return lists.At(a, n-1)<<lead | lists.At(a, n-2)>>(wordBits-lead)
}
