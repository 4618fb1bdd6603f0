package ratext_test

import (
	"math/big"
	"regexp"
	"slices"
	"strings"

	"cutwater/api"
)

// wordsAs gives the number that words tell.
func wordsAs(a []uint64) *big.Int {
	x := new(big.Int)
	for _, w := range slices.Backward(a) {
		x.Lsh(x, 64)
		x.Or(x, new(big.Int).SetUint64(w))
	}
	return x
}

// wordsOf gives the words of a number that isn't below 0.
func wordsOf(x *big.Int) []uint64 {
	var out []uint64
	for rest := new(big.Int).Set(x); rest.Sign() > 0; rest.Rsh(rest, 64) {
		out = append(out, new(big.Int).And(rest, new(big.Int).SetUint64(1<<64-1)).Uint64())
	}
	return out
}

// is tells whether a is that number in its one form.
func is(a api.Rat, want *big.Rat) bool {
	return a.Num.Neg == (want.Sign() < 0) && slices.Equal(a.Num.Abs, wordsOf(new(big.Int).Abs(want.Num()))) && slices.Equal(a.Den, wordsOf(want.Denom()))
}

// none tells whether a is the zero value, a fraction without words.
func none(a api.Rat) bool { return !a.Num.Neg && len(a.Num.Abs) == 0 && len(a.Den) == 0 }

var shape = regexp.MustCompile(`^([+-]?)([0-9]+)(?:/([0-9]+)|(?:\.([0-9]+))?(?:[eE]([+-]?)([0-9]+))?)$`)

// digitsOf gives the number that digits tell; 0, if there are none.
func digitsOf(s string) *big.Int {
	x, _ := new(big.Int).SetString("0"+s, 10)
	return x
}

// read is another reader of numbers' texts.
func read(s string) (*big.Rat, api.Errno) {
	m := shape.FindStringSubmatch(s)
	if m == nil {
		return nil, api.ErrDigit
	}
	sign, ahead, under, behind, expSign, exp := m[1], m[2], m[3], m[4], m[5], digitsOf(m[6])
	if len(ahead)+len(under)+len(behind)+len(m[6]) > api.MaxDigits || exp.Cmp(big.NewInt(api.MaxExp)) > 0 {
		return nil, api.ErrLong
	}
	den := digitsOf("1" + strings.Repeat("0", len(behind)))
	if under != "" {
		den = digitsOf(under)
	}
	if den.Sign() == 0 {
		return nil, api.ErrZero
	}
	x := new(big.Rat).SetFrac(digitsOf(ahead+behind), den)
	power := new(big.Rat).SetInt(new(big.Int).Exp(big.NewInt(10), exp, nil))
	if expSign == "-" {
		power.Inv(power)
	}
	x.Mul(x, power)
	if sign == "-" {
		x.Neg(x)
	}
	return x, api.OK
}
