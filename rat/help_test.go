package rat_test

import (
	"math"
	"math/big"
	"math/rand"
	"slices"

	"cutwater/api"
	"cutwater/nat"
)

const maxWord = math.MaxUint64

// wordsAs gives the number that words tell.
func wordsAs(a []uint64) *big.Int {
	x := new(big.Int)
	for _, w := range slices.Backward(a) {
		x.Lsh(x, 64)
		x.Or(x, new(big.Int).SetUint64(w))
	}
	return x
}

// intAs gives the number that a, in any form, tells.
func intAs(a api.Int) *big.Int {
	x := wordsAs(a.Abs)
	if a.Neg {
		x.Neg(x)
	}
	return x
}

// numberOf gives the number that a, in any form, tells.
func numberOf(a api.Rat) *big.Rat {
	den := wordsAs(a.Den)
	if den.Sign() == 0 {
		den.SetInt64(1)
	}
	return new(big.Rat).SetFrac(intAs(a.Num), den)
}

// trimmed tells whether words have no 0 at their end.
func trimmed(a []uint64) bool { return len(a) == 0 || a[len(a)-1] != 0 }

// isInt tells whether a is that number in its one form.
func isInt(a api.Int, want *big.Int) bool {
	return trimmed(a.Abs) && (len(a.Abs) > 0 || !a.Neg) && intAs(a).Cmp(want) == 0
}

// is tells whether a is that number in its one form; the other reckoner has its numbers in lowest terms too.
func is(a api.Rat, want *big.Rat) bool {
	return isInt(a.Num, want.Num()) && trimmed(a.Den) && wordsAs(a.Den).Cmp(want.Denom()) == 0
}

// none tells whether a is the zero value, a fraction without words.
func none(a api.Rat) bool { return !a.Num.Neg && len(a.Num.Abs) == 0 && len(a.Den) == 0 }

// chance gives n words; runs of noughts and ones are as likely as others.
func chance(r *rand.Rand, n int) []uint64 {
	out := make([]uint64, n)
	for i := range out {
		out[i] = []uint64{0, maxWord, r.Uint64(), r.Uint64() >> r.Intn(64)}[r.Intn(4)]
	}
	return out
}

// ints gives whole numbers of all kinds, of both signs, in forms of all kinds.
func ints() []api.Int {
	long := chance(rand.New(rand.NewSource(1)), 30)
	lists := [][]uint64{
		nil, {0}, {0, 0}, {1}, {1, 0}, {2}, {3, 0, 0}, {6}, {7}, {60},
		{math.MaxInt64}, {1 << 63, 0}, {maxWord}, {0, 1}, {1, 1}, {0, 6, 0}, {maxWord, maxWord}, long, long[:11],
	}
	var out []api.Int
	for _, a := range lists {
		out = append(out, api.Int{Abs: a}, api.Int{Neg: true, Abs: a})
	}
	return out
}

// some gives fractions of all kinds, in forms of all kinds: not in their lowest terms, with a Den of 0, with words 0 at their ends, below 0 and yet 0.
func some() []api.Rat {
	common := chance(rand.New(rand.NewSource(2)), 20)
	dens := [][]uint64{nil, {0, 0}, {1}, {1, 0}, {2}, {4, 0}, {6}, {0, 1}, {maxWord, maxWord, 0}, common}
	var out []api.Rat
	for i, num := range ints() {
		for j, den := range dens {
			a := api.Rat{Num: num, Den: den}
			if (i+j)%3 == 0 {
				out = append(out, a)
			}
			if (i+j)%15 == 1 && len(den) > 0 {
				a.Num.Abs, a.Den = nat.Mul(a.Num.Abs, common), nat.Mul(a.Den, common)
				out = append(out, a)
			}
		}
	}
	return out
}

// smalls gives numbers of 64 bits.
func smalls() []int64 {
	return []int64{0, 1, -1, 2, -2, 3, -3, 4, 6, -6, 7, 12, 1 << 31, -1 << 31, 3 << 40, math.MaxInt64, math.MaxInt64 - 1, math.MinInt64, math.MinInt64 + 1}
}
