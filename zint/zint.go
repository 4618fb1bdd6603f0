// Package zint is layer 2, whole numbers of any size: see shared/doc/02-zint.md.
package zint

import (
	"math"

	"cutwater/api"
	"cutwater/lists"
	"cutwater/nat"
)

// Make gives a whole number's one form.
func Make(below bool, abs []uint64) api.Int { return signed(below, nat.Trim(abs)) }

// signed gives a whole number that keeps abs, which is in its one form and nobody else's.
func signed(below bool, abs []uint64) api.Int {
	return api.Int{Neg: below && len(abs) > 0, Abs: abs}
}

// Of gives a whole number.
func Of(n int64) api.Int {
	distance := uint64(n)
	if n < 0 {
		distance = -distance
	}
	return Make(n < 0, []uint64{distance})
}

// To gives a whole number, if it is small.
func To(a api.Int) (int64, api.Errno) {
	most := uint64(math.MaxInt64)
	if a.Neg {
		most++
	}
	distance := lists.At(a.Abs, 0)
	if nat.Bits(a.Abs) > 64 || distance > most {
		return 0, api.ErrLong
	}
	if a.Neg {
		return int64(-distance), api.OK
	}
	return int64(distance), api.OK
}

// Sign tells whether a number is below 0, 0, or above.
func Sign(a api.Int) int {
	switch {
	case nat.Bits(a.Abs) == 0:
		return 0
	case a.Neg:
		return -1
	}
	return 1
}

// Cmp tells which of two numbers is the greater: -1, 0, 1.
func Cmp(a, b api.Int) int {
	signA, signB := Sign(a), Sign(b)
	switch {
	case signA < signB:
		return -1
	case signA > signB:
		return 1
	}
	return signA * nat.Cmp(a.Abs, b.Abs)
}

// Neg gives a number with the other sign.
func Neg(a api.Int) api.Int { return Make(!a.Neg, a.Abs) }

// Add gives a sum.
func Add(a, b api.Int) api.Int { return addSigned(a, b.Neg, b.Abs) }

// Sub gives a difference.
func Sub(a, b api.Int) api.Int { return addSigned(a, !b.Neg, b.Abs) }

// addSigned adds to a the number abs, below 0 if below holds.
func addSigned(a api.Int, below bool, abs []uint64) api.Int {
	if a.Neg == below {
		return signed(below, nat.Add(a.Abs, abs))
	}
	if rest, e := nat.Sub(a.Abs, abs); e == api.OK {
		return signed(a.Neg, rest)
	}
	rest, _ := nat.Sub(abs, a.Abs)
	return signed(below, rest)
}

// Mul gives a product.
func Mul(a, b api.Int) api.Int { return signed(a.Neg != b.Neg, nat.Mul(a.Abs, b.Abs)) }

// DivFloor gives a quotient that is rounded down, and the rest.
func DivFloor(a, b api.Int) (api.Int, api.Int, api.Errno) {
	quotient, rest, e := nat.DivMod(a.Abs, b.Abs)
	if e != api.OK {
		return api.Int{}, api.Int{}, e
	}
	if a.Neg != b.Neg && len(rest) > 0 {
		quotient = nat.Add(quotient, []uint64{1})
		rest, _ = nat.Sub(b.Abs, rest)
	}
	return signed(a.Neg != b.Neg, quotient), signed(b.Neg, rest), api.OK
}

// Parse reads a sign and decimal digits.
func Parse(s string) (api.Int, api.Errno) {
	below := false
	if s != "" && (s[0] == '+' || s[0] == '-') {
		below, s = s[0] == '-', s[1:]
	}
	abs, e := nat.Parse(s)
	if e != api.OK {
		return api.Int{}, e
	}
	return signed(below, abs), api.OK
}

// Text gives a number's sign and digits.
func Text(a api.Int) string {
	if Sign(a) < 0 {
		return "-" + nat.Text(a.Abs)
	}
	return nat.Text(a.Abs)
}
