package nat_test

import (
	"math/big"
	"math/rand"
	"slices"
)

const maxWord = 1<<64 - 1

// wordsOf gives the words of a number.
func wordsOf(x *big.Int) []uint64 {
	var out []uint64
	for rest := new(big.Int).Set(x); rest.Sign() > 0; rest.Rsh(rest, 64) {
		out = append(out, new(big.Int).And(rest, big.NewInt(0).SetUint64(maxWord)).Uint64())
	}
	return out
}

// numberOf gives the number that words tell.
func numberOf(a []uint64) *big.Int {
	x := new(big.Int)
	for _, w := range slices.Backward(a) {
		x.Lsh(x, 64)
		x.Or(x, new(big.Int).SetUint64(w))
	}
	return x
}

// is tells whether a list is a number in its one form.
func is(a []uint64, want *big.Int) bool { return slices.Equal(a, wordsOf(want)) }

// ofEdges gives all lists of n words of those given.
func ofEdges(n int, edges ...uint64) [][]uint64 {
	out := [][]uint64{nil}
	for range n {
		var longer [][]uint64
		for _, a := range out {
			for _, w := range edges {
				longer = append(longer, append(slices.Clone(a), w))
			}
		}
		out = longer
	}
	return out
}

// chance gives a list of n words; runs of noughts and ones are as likely as others.
func chance(r *rand.Rand, n int) []uint64 {
	out := make([]uint64, n)
	for i := range out {
		switch r.Intn(4) {
		case 0:
			out[i] = 0
		case 1:
			out[i] = maxWord
		default:
			out[i] = r.Uint64() >> r.Intn(64)
		}
	}
	return out
}

// some gives numbers of all kinds, in forms of all kinds.
func some() [][]uint64 {
	out := [][]uint64{nil, {}, {0}, {0, 0, 0}, {1, 0}, {7}, {10}, {0, 1, 0, 0}}
	out = append(out, ofEdges(1, 1, 2, 1<<63-1, 1<<63, maxWord)...)
	out = append(out, ofEdges(2, 0, 1, 1<<63, maxWord)...)
	out = append(out, ofEdges(3, 0, 1, maxWord)...)
	r := rand.New(rand.NewSource(1))
	for _, n := range []int{1, 2, 3, 5, 8, 13, 40, 41} {
		out = append(out, chance(r, n), append(chance(r, n), 0))
	}
	return out
}
