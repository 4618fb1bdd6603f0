package nat_test

import (
	"math"
	"math/big"
	"math/rand"
	"slices"
	"testing"

	"cutwater/api"
	"cutwater/nat"
)

// P1.1
func TestForm(t *testing.T) {
	for _, c := range []struct{ a, want []uint64 }{
		{nil, nil}, {[]uint64{}, nil}, {[]uint64{0}, nil}, {[]uint64{0, 0}, nil},
		{[]uint64{1}, []uint64{1}}, {[]uint64{1, 0, 0}, []uint64{1}},
		{[]uint64{0, 1}, []uint64{0, 1}}, {[]uint64{0, 1, 0}, []uint64{0, 1}},
	} {
		if got := nat.Trim(c.a); !slices.Equal(got, c.want) {
			t.Errorf("Trim(%v) = %v", c.a, got)
		}
	}
	for _, a := range some() {
		if got := nat.Trim(a); !is(got, numberOf(a)) {
			t.Errorf("Trim(%x) = %x", a, got)
		}
		if got := nat.Bits(a); got != numberOf(a).BitLen() {
			t.Errorf("Bits(%x) = %d", a, got)
		}
	}
}

// P1.1
func TestCmp(t *testing.T) {
	for _, a := range some() {
		for _, b := range some() {
			if got := nat.Cmp(a, b); got != numberOf(a).Cmp(numberOf(b)) {
				t.Errorf("Cmp(%x, %x) = %d", a, b, got)
			}
		}
	}
}

// checkPair holds the sums of chapter 1 against another reckoner.
func checkPair(t *testing.T, a, b []uint64) {
	t.Helper()
	x, y := numberOf(a), numberOf(b)
	if got := nat.Add(a, b); !is(got, new(big.Int).Add(x, y)) {
		t.Errorf("Add(%x, %x) = %x", a, b, got)
	}
	if got := nat.Mul(a, b); !is(got, new(big.Int).Mul(x, y)) {
		t.Errorf("Mul(%x, %x) = %x", a, b, got)
	}
	if got := nat.Gcd(a, b); !is(got, new(big.Int).GCD(nil, nil, x, y)) {
		t.Errorf("Gcd(%x, %x) = %x", a, b, got)
	}
	rest, e := nat.Sub(a, b)
	if x.Cmp(y) < 0 {
		if e != api.ErrBelow || len(rest) != 0 {
			t.Errorf("Sub(%x, %x) = %x, %v", a, b, rest, e)
		}
	} else if e != api.OK || !is(rest, new(big.Int).Sub(x, y)) {
		t.Errorf("Sub(%x, %x) = %x, %v", a, b, rest, e)
	}
	checkDivMod(t, a, b)
}

func checkDivMod(t *testing.T, a, b []uint64) {
	t.Helper()
	x, y := numberOf(a), numberOf(b)
	quotient, rest, e := nat.DivMod(a, b)
	if y.Sign() == 0 {
		if e != api.ErrZero || len(quotient) != 0 || len(rest) != 0 {
			t.Errorf("DivMod(%x, %x) = %x, %x, %v", a, b, quotient, rest, e)
		}
		return
	}
	x.QuoRem(x, y, y)
	if e != api.OK || !is(quotient, x) || !is(rest, y) {
		t.Errorf("DivMod(%x, %x) = %x, %x, %v", a, b, quotient, rest, e)
	}
}

// P1.2
func TestSums(t *testing.T) {
	for _, a := range some() {
		for _, b := range some() {
			checkPair(t, a, b)
		}
	}
}

// P1.2: the example, by its words.
func TestExample(t *testing.T) {
	if got := nat.Mul([]uint64{maxWord}, []uint64{maxWord}); !slices.Equal(got, []uint64{1, 0xfffffffffffffffe}) {
		t.Errorf("Mul = %x", got)
	}
	if got := nat.Text([]uint64{0, 1}); got != "18446744073709551616" {
		t.Errorf("Text = %s", got)
	}
	if q, r, e := nat.DivMod([]uint64{7}, []uint64{2}); e != api.OK || !slices.Equal(q, []uint64{3}) || !slices.Equal(r, []uint64{1}) {
		t.Errorf("DivMod = %v, %v, %v", q, r, e)
	}
	if got := nat.Gcd([]uint64{12}, []uint64{18}); !slices.Equal(got, []uint64{6}) {
		t.Errorf("Gcd = %v", got)
	}
}

// P1.2: words at their ends, where a word of the quotient is guessed too great.
func TestDivEdges(t *testing.T) {
	over := ofEdges(4, 0, 1, 1<<63-1, 1<<63, maxWord-1, maxWord)
	under := append(ofEdges(2, 0, 1, 1<<63-1, 1<<63, maxWord), ofEdges(3, 0, 1, 1<<63, maxWord)...)
	for _, b := range under {
		for i, a := range over {
			if i%3 == len(b)%3 {
				checkDivMod(t, a, b)
			}
		}
	}
	for _, c := range [][2][]uint64{
		{{0, 0, 1 << 63, 1<<63 - 1}, {1, 0, 1 << 63}},
		{{0, maxWord - 1, 1 << 63}, {maxWord, 1 << 63}},
		{{3, 0, 1 << 63}, {1, 0, 1 << 61}},
		{{0, 0, 1 << 63}, {maxWord, 1 << 63}},
		{{maxWord, maxWord, maxWord, maxWord}, {maxWord, maxWord}},
	} {
		checkDivMod(t, c[0], c[1])
	}
}

// P1.2: great numbers.
func TestGreat(t *testing.T) {
	r := rand.New(rand.NewSource(2))
	for _, n := range []int{1, 2, 3, 50, 150, 400} {
		for _, m := range []int{1, 2, 50, 399} {
			a, b := chance(r, n), chance(r, m)
			checkPair(t, a, b)
			product := nat.Mul(a, b)
			checkPair(t, product, b)
			checkPair(t, nat.Add(product, []uint64{1}), b)
			if less, e := nat.Sub(product, []uint64{1}); e == api.OK {
				checkPair(t, less, b)
			}
		}
	}
}

// P1.2: divisors found over many steps, and great common ones.
func TestGcdGreat(t *testing.T) {
	a, b := []uint64{1}, []uint64{1}
	for i := range 2000 {
		a, b = nat.Add(a, b), a
		if i%97 == 0 {
			checkPair(t, a, b)
		}
	}
	r := rand.New(rand.NewSource(3))
	for i := range 3000 {
		common := chance(r, 1+i%4)
		checkPair(t, nat.Mul(common, chance(r, 1+i%5)), nat.Mul(common, chance(r, 1+i%7)))
		x, y := nat.Add(nat.Mul(common, []uint64{0, 0, 1}), chance(r, 2)), nat.Add(nat.Mul(common, []uint64{0, 0, 1}), chance(r, 2))
		checkPair(t, x, y)
	}
}

// P1.3
func TestShifts(t *testing.T) {
	for _, a := range some() {
		x := numberOf(a)
		for _, n := range []int{0, 1, 8, 63, 64, 65, 127, 128, 129, 4096, api.MaxShift - 1, api.MaxShift} {
			if got, e := nat.Shl(a, n); e != api.OK || !is(got, new(big.Int).Lsh(x, uint(n))) {
				t.Errorf("Shl(%x, %d): %v", a, n, e)
			}
			if got, e := nat.Shr(a, n); e != api.OK || !is(got, new(big.Int).Rsh(x, uint(n))) {
				t.Errorf("Shr(%x, %d) = %x, %v", a, n, got, e)
			}
			if got, e := nat.Shr(wordsOf(new(big.Int).Lsh(x, uint(n))), n); e != api.OK || !is(got, x) {
				t.Errorf("Shr(Shl(%x, %d)) = %x, %v", a, n, got, e)
			}
		}
		for _, n := range []int{-1, api.MaxShift + 1, math.MinInt, math.MaxInt, -64, 1 << 32} {
			if got, e := nat.Shl(a, n); e != api.ErrArg || len(got) != 0 {
				t.Errorf("Shl(%x, %d) = %x, %v", a, n, got, e)
			}
			if got, e := nat.Shr(a, n); e != api.ErrArg || len(got) != 0 {
				t.Errorf("Shr(%x, %d) = %x, %v", a, n, got, e)
			}
		}
	}
}
