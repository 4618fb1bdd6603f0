package zint_test

import (
	"math"
	"math/big"
	"slices"
	"strings"
	"testing"

	"cutwater/api"
	"cutwater/zint"
)

// P2.1
func TestMake(t *testing.T) {
	for _, a := range some() {
		if got := zint.Make(a.Neg, a.Abs); !is(got, numberOf(a)) {
			t.Errorf("Make(%v, %x) = %v", a.Neg, a.Abs, got)
		}
		if got := zint.Sign(a); got != numberOf(a).Sign() {
			t.Errorf("Sign(%v) = %d", a, got)
		}
	}
	for _, n := range smalls() {
		if got := zint.Of(n); !is(got, big.NewInt(n)) {
			t.Errorf("Of(%d) = %v", n, got)
		}
	}
}

// P2.1
func TestTo(t *testing.T) {
	for _, n := range smalls() {
		if got, e := zint.To(zint.Of(n)); e != api.OK || got != n {
			t.Errorf("To(Of(%d)) = %d, %v", n, got, e)
		}
	}
	for _, a := range some() {
		got, e := zint.To(a)
		if x := numberOf(a); x.IsInt64() {
			if e != api.OK || got != x.Int64() {
				t.Errorf("To(%v) = %d, %v", a, got, e)
			}
		} else if e != api.ErrLong || got != 0 {
			t.Errorf("To(%v) = %d, %v", a, got, e)
		}
	}
	for _, c := range []struct {
		a    api.Int
		want int64
		e    api.Errno
	}{
		{api.Int{Abs: []uint64{math.MaxInt64}}, math.MaxInt64, api.OK},
		{api.Int{Abs: []uint64{1 << 63}}, 0, api.ErrLong},
		{api.Int{Neg: true, Abs: []uint64{1 << 63, 0}}, math.MinInt64, api.OK},
		{api.Int{Neg: true, Abs: []uint64{1<<63 + 1}}, 0, api.ErrLong},
		{api.Int{Abs: []uint64{0, 1}}, 0, api.ErrLong},
		{api.Int{Neg: true, Abs: []uint64{0, 1}}, 0, api.ErrLong},
		{api.Int{Neg: true}, 0, api.OK},
	} {
		if got, e := zint.To(c.a); got != c.want || e != c.e {
			t.Errorf("To(%v) = %d, %v", c.a, got, e)
		}
	}
}

// P2.1, P2.2
func TestSums(t *testing.T) {
	for _, a := range some() {
		x := numberOf(a)
		if got := zint.Neg(a); !is(got, new(big.Int).Neg(x)) {
			t.Errorf("Neg(%v) = %v", a, got)
		}
		for _, b := range some() {
			y := numberOf(b)
			if got := zint.Cmp(a, b); got != x.Cmp(y) {
				t.Errorf("Cmp(%v, %v) = %d", a, b, got)
			}
			if got := zint.Add(a, b); !is(got, new(big.Int).Add(x, y)) {
				t.Errorf("Add(%v, %v) = %v", a, b, got)
			}
			if got := zint.Sub(a, b); !is(got, new(big.Int).Sub(x, y)) {
				t.Errorf("Sub(%v, %v) = %v", a, b, got)
			}
			if got := zint.Mul(a, b); !is(got, new(big.Int).Mul(x, y)) {
				t.Errorf("Mul(%v, %v) = %v", a, b, got)
			}
		}
	}
}

// divFloor is the quotient, rounded down, by another reckoner, which rounds towards 0.
func divFloor(x, y *big.Int) (quotient, rest *big.Int) {
	quotient, rest = new(big.Int).QuoRem(x, y, new(big.Int))
	if rest.Sign() != 0 && rest.Sign() != y.Sign() {
		quotient.Sub(quotient, big.NewInt(1))
		rest.Add(rest, y)
	}
	return quotient, rest
}

// P2.2
func TestDivFloor(t *testing.T) {
	for _, a := range some() {
		for _, b := range some() {
			got, rest, e := zint.DivFloor(a, b)
			x, y := numberOf(a), numberOf(b)
			if y.Sign() == 0 {
				if e != api.ErrZero || !same(got, api.Int{}) || !same(rest, api.Int{}) {
					t.Errorf("DivFloor(%v, %v) = %v, %v, %v", a, b, got, rest, e)
				}
				continue
			}
			if q, r := divFloor(x, y); e != api.OK || !is(got, q) || !is(rest, r) {
				t.Errorf("DivFloor(%v, %v) = %v, %v, %v", a, b, got, rest, e)
			}
		}
	}
	for _, c := range [][4]int64{{-7, 2, -4, 1}, {7, -2, -4, -1}, {-7, -2, 3, -1}, {7, 2, 3, 1}, {6, -2, -3, 0}, {-6, 2, -3, 0}, {0, -2, 0, 0}, {1, -2, -1, -1}, {-1, 2, -1, 1}} {
		got, rest, e := zint.DivFloor(zint.Of(c[0]), zint.Of(c[1]))
		if e != api.OK || !same(got, zint.Of(c[2])) || !same(rest, zint.Of(c[3])) {
			t.Errorf("DivFloor(%d, %d) = %v, %v, %v", c[0], c[1], got, rest, e)
		}
	}
}

// P2.3
func TestParse(t *testing.T) {
	most := strings.Repeat("9", api.MaxDigits)
	for _, s := range []string{"0", "-0", "+0", "12", "+12", "-12", "-00012", "+007", "9223372036854775808", "-9223372036854775808", "-18446744073709551616", most, "-" + most, "+" + most} {
		want, _ := new(big.Int).SetString(s, 10)
		got, e := zint.Parse(s)
		if e != api.OK || !is(got, want) {
			t.Errorf("Parse(%q) = %v, %v", s, got, e)
		}
		if text := zint.Text(got); text != want.String() {
			t.Errorf("Text of %q = %q", s, text)
		}
	}
	for _, s := range []string{"", "+", "-", "+-1", "-+1", "--1", "++1", "- 1", " -1", "1-", "-1+", "-x", "1a", "\u22121", "-\xff", "-" + most + "1x", "x" + most} {
		if got, e := zint.Parse(s); e != api.ErrDigit || !same(got, api.Int{}) {
			t.Errorf("Parse(%.20q) = %v, %v", s, got, e)
		}
	}
	for _, s := range []string{most + "9", "-" + most + "9", "+0" + most, "-" + strings.Repeat("0", api.MaxDigits+1)} {
		if got, e := zint.Parse(s); e != api.ErrLong || !same(got, api.Int{}) {
			t.Errorf("Parse(%.20q) = %v, %v", s, got, e)
		}
	}
}

// P2.3
func TestText(t *testing.T) {
	for _, a := range some() {
		if got := zint.Text(a); got != numberOf(a).String() {
			t.Errorf("Text(%v) = %q", a, got)
		}
	}
	if got := zint.Text(zint.Of(math.MinInt64)); got != "-9223372036854775808" {
		t.Errorf("Text = %q", got)
	}
}

// P2.4: Make keeps nothing of its list.
func TestMakeOwns(t *testing.T) {
	list := []uint64{1, 2, 0}
	a := zint.Make(true, list)
	list[0], list[1], list[2] = 9, 9, 9
	if !slices.Equal(a.Abs, []uint64{1, 2}) {
		t.Errorf("Make kept its list: %v", a)
	}
	a.Abs[0] = 5
	if b := zint.Neg(a); list[0] != 9 || !slices.Equal(b.Abs, []uint64{5, 2}) || &b.Abs[0] == &a.Abs[0] {
		t.Errorf("Neg of %v = %v", a, b)
	}
}
