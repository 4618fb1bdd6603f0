package zint_test

import (
	"math"
	"math/big"
	"slices"

	"cutwater/api"
)

const maxWord = 1<<64 - 1

// numberOf gives the number that a, in any form, tells.
func numberOf(a api.Int) *big.Int {
	x := new(big.Int)
	for _, w := range slices.Backward(a.Abs) {
		x.Lsh(x, 64)
		x.Or(x, new(big.Int).SetUint64(w))
	}
	if a.Neg {
		x.Neg(x)
	}
	return x
}

// is tells whether a is that number in its one form.
func is(a api.Int, want *big.Int) bool {
	formed := len(a.Abs) == 0 && !a.Neg || len(a.Abs) > 0 && a.Abs[len(a.Abs)-1] != 0
	return formed && numberOf(a).Cmp(want) == 0
}

// same tells whether two numbers have the same sign and words.
func same(a, b api.Int) bool { return a.Neg == b.Neg && slices.Equal(a.Abs, b.Abs) }

// some gives numbers of all kinds, of both signs, in forms of all kinds.
func some() []api.Int {
	great := make([]uint64, 30)
	for i := range great {
		great[i] = maxWord / uint64(i+1) << i
	}
	lists := [][]uint64{
		nil, {}, {0}, {0, 0}, {1}, {1, 0}, {2}, {3}, {6}, {7, 0, 0}, {10},
		{math.MaxInt64 - 1}, {math.MaxInt64}, {1 << 63}, {1 << 63, 0}, {1<<63 + 1}, {maxWord},
		{0, 1}, {1, 1}, {maxWord, 1, 0}, {0, 1 << 63}, {maxWord, maxWord}, {0, 0, 1}, great, great[:17],
	}
	var out []api.Int
	for _, a := range lists {
		out = append(out, api.Int{Abs: a}, api.Int{Neg: true, Abs: a})
	}
	return out
}

// smalls gives numbers of 64 bits.
func smalls() []int64 {
	return []int64{0, 1, -1, 2, -2, 3, -3, 7, -7, 1 << 31, -1 << 31, 1 << 40, math.MaxInt64, math.MaxInt64 - 1, math.MinInt64, math.MinInt64 + 1}
}
