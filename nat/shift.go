package nat

import (
	"cutwater/api"
	"cutwater/lists"
)

// Shl gives a number times a power of two.
func Shl(a []uint64, n int) ([]uint64, api.Errno) {
	if n < 0 || n > api.MaxShift {
		return nil, api.ErrArg
	}
	a = clip(a)
	return clip(up(a, n, len(a)+n/wordBits+1)), api.OK
}

// Shr gives a number divided by a power of two.
func Shr(a []uint64, n int) ([]uint64, api.Errno) {
	if n < 0 || n > api.MaxShift {
		return nil, api.ErrArg
	}
	return clip(down(a, n)), api.OK
}

// up gives the lowest words, size of them, of a times 2 to the power of n.
func up(a []uint64, n, size int) []uint64 {
	far, near := n/wordBits, n%wordBits
	out := make([]uint64, size)
	for i := range out {
		out[i] = lists.At(a, i-far)<<near | lists.At(a, i-far-1)>>(wordBits-near)
	}
	return out
}

// down gives a divided by 2 to the power of n, perhaps with words 0 at its end.
func down(a []uint64, n int) []uint64 {
	far, near := n/wordBits, n%wordBits
	out := make([]uint64, max(len(a)-far, 0))
	for i := range out {
		out[i] = lists.At(a, i+far)>>near | lists.At(a, i+far+1)<<(wordBits-near)
	}
	return out
}
