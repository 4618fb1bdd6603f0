// Package nat is layer 1, natural numbers of any size: see shared/doc/01-nat.md.
//
// A number is a list of words, the one of the least weight first. Lists that are handed in are only read; each answer is a list of its own.
package nat

import (
	"cmp"
	"math/bits"
	"slices"

	"cutwater/api"
	"cutwater/lists"
)

const wordBits = 64

// Trim gives a number's one form.
func Trim(a []uint64) []uint64 { return slices.Clone(clip(a)) }

// clip cuts off the words 0 at a list's end; what is left still is the list's own memory.
func clip(a []uint64) []uint64 {
	for n := len(a); n > 0; n-- {
		if a[n-1] != 0 {
			return a[:n]
		}
	}
	return nil
}

// Cmp tells which of two numbers is the greater: -1, 0, 1.
func Cmp(a, b []uint64) int {
	for i := max(len(a), len(b)) - 1; i >= 0; i-- {
		if c := cmp.Compare(lists.At(a, i), lists.At(b, i)); c != 0 {
			return c
		}
	}
	return 0
}

// Bits tells how many bits a number has.
func Bits(a []uint64) int {
	a = clip(a)
	if len(a) == 0 {
		return 0
	}
	return (len(a)-1)*wordBits + bits.Len64(a[len(a)-1])
}

// Add gives a sum.
func Add(a, b []uint64) []uint64 {
	sum := make([]uint64, max(len(a), len(b))+1)
	var carry uint64
	for i := range sum {
		sum[i], carry = bits.Add64(lists.At(a, i), lists.At(b, i), carry)
	}
	return clip(sum)
}

// Sub gives a difference.
func Sub(a, b []uint64) ([]uint64, api.Errno) {
	rest := make([]uint64, max(len(a), len(b)))
	var borrow uint64
	for i := range rest {
		rest[i], borrow = bits.Sub64(lists.At(a, i), lists.At(b, i), borrow)
	}
	if borrow != 0 {
		return nil, api.ErrBelow
	}
	return clip(rest), api.OK
}

// Mul gives a product.
func Mul(a, b []uint64) []uint64 {
	a, b = clip(a), clip(b)
	product := make([]uint64, len(a)+len(b))
	for i, w := range a {
		product[i+len(b)] = addTimes(product[i:i+len(b)], b, w)
	}
	return clip(product)
}

// addTimes adds w times b to a, which is as long as b, and gives what is carried over its end.
func addTimes(a, b []uint64, w uint64) uint64 {
	var over uint64
	for i, v := range b {
		high, low := bits.Mul64(v, w)
		var carry uint64
		low, carry = bits.Add64(low, over, 0)
		high += carry
		a[i], carry = bits.Add64(a[i], low, 0)
		over = high + carry
	}
	return over
}
