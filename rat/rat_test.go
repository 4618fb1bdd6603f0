package rat_test

import (
	"math"
	"math/big"
	"math/rand"
	"testing"

	"cutwater/api"
	"cutwater/nat"
	"cutwater/rat"
	"cutwater/zint"
)

// of gives a fraction of small numbers.
func of(t *testing.T, num, den int64) api.Rat {
	t.Helper()
	a, e := rat.Of(num, den)
	if e != api.OK {
		t.Fatalf("Of(%d, %d): %v", num, den, e)
	}
	return a
}

// P3.1
func TestMake(t *testing.T) {
	for _, num := range ints() {
		if got := rat.OfInt(num); !is(got, new(big.Rat).SetInt(intAs(num))) {
			t.Errorf("OfInt(%v) = %v", num, got)
		}
		for _, den := range ints() {
			got, e := rat.Make(num, den)
			if zint.Sign(den) == 0 {
				if e != api.ErrZero || !none(got) {
					t.Errorf("Make(%v, %v) = %v, %v", num, den, got, e)
				}
			} else if e != api.OK || !is(got, new(big.Rat).SetFrac(intAs(num), intAs(den))) {
				t.Errorf("Make(%v, %v) = %v, %v", num, den, got, e)
			}
		}
	}
	for _, a := range some() {
		if got := rat.Form(a); !is(got, numberOf(a)) {
			t.Errorf("Form(%v) = %v", a, got)
		}
	}
}

// P3.1
func TestSmall(t *testing.T) {
	for _, num := range smalls() {
		if got := rat.Whole(num); !is(got, new(big.Rat).SetInt64(num)) {
			t.Errorf("Whole(%d) = %v", num, got)
		}
		if got, e := rat.Of(num, 0); e != api.ErrZero || !none(got) {
			t.Errorf("Of(%d, 0) = %v, %v", num, got, e)
		}
		for _, den := range smalls() {
			if den == 0 {
				continue
			}
			got, e := rat.Of(num, den)
			if e != api.OK || !is(got, big.NewRat(num, den)) {
				t.Errorf("Of(%d, %d) = %v, %v", num, den, got, e)
			}
		}
	}
}

// checkPair holds the sums of P3.2 against another reckoner.
func checkPair(t *testing.T, a, b api.Rat) {
	t.Helper()
	x, y := numberOf(a), numberOf(b)
	if got := rat.Cmp(a, b); got != x.Cmp(y) {
		t.Errorf("Cmp(%v, %v) = %d", a, b, got)
	}
	if got := rat.Add(a, b); !is(got, new(big.Rat).Add(x, y)) {
		t.Errorf("Add(%v, %v) = %v", a, b, got)
	}
	if got := rat.Sub(a, b); !is(got, new(big.Rat).Sub(x, y)) {
		t.Errorf("Sub(%v, %v) = %v", a, b, got)
	}
	if got := rat.Mul(a, b); !is(got, new(big.Rat).Mul(x, y)) {
		t.Errorf("Mul(%v, %v) = %v", a, b, got)
	}
	got, e := rat.Div(a, b)
	if y.Sign() == 0 {
		if e != api.ErrZero || !none(got) {
			t.Errorf("Div(%v, %v) = %v, %v", a, b, got, e)
		}
	} else if e != api.OK || !is(got, new(big.Rat).Quo(x, y)) {
		t.Errorf("Div(%v, %v) = %v, %v", a, b, got, e)
	}
}

// P3.2
func TestSums(t *testing.T) {
	for _, a := range some() {
		x := numberOf(a)
		if got := rat.Sign(a); got != x.Sign() {
			t.Errorf("Sign(%v) = %d", a, got)
		}
		if got := rat.Neg(a); !is(got, new(big.Rat).Neg(x)) {
			t.Errorf("Neg(%v) = %v", a, got)
		}
		for _, b := range some() {
			checkPair(t, a, b)
		}
	}
}

// P3.2: great numbers, with great common divisors, and such as hardly differ.
func TestGreat(t *testing.T) {
	r := rand.New(rand.NewSource(3))
	whole := func(n int) api.Int { return api.Int{Neg: r.Intn(2) == 0, Abs: append(chance(r, n), 1)} }
	for _, n := range []int{1, 2, 3, 8, 40, 150} {
		for range 8 {
			common, num, den := whole(n), whole(n), whole(1+n/2)
			a := api.Rat{Num: zint.Mul(num, common), Den: zint.Mul(den, common).Abs}
			b := api.Rat{Num: whole(2 * n), Den: zint.Mul(common, den).Abs}
			near := api.Rat{Num: zint.Add(a.Num, zint.Of(1)), Den: a.Den}
			checkPair(t, a, b)
			checkPair(t, b, a)
			checkPair(t, a, near)
			checkPair(t, near, a)
			checkPair(t, a, api.Rat{Num: num, Den: den.Abs})
			checkPair(t, a, api.Rat{Num: whole(0)})
			checkRounding(t, a)
			checkRounding(t, b)
		}
	}
}

// checkRounding holds P3.3 against another reckoner, whose Div rounds towards -infinity where what is divided by is above 0.
func checkRounding(t *testing.T, a api.Rat) {
	t.Helper()
	x := numberOf(a)
	floor := new(big.Int).Div(x.Num(), x.Denom())
	ceil := new(big.Int).Set(floor)
	if !x.IsInt() {
		ceil.Add(ceil, big.NewInt(1))
	}
	if got := rat.Floor(a); !isInt(got, floor) {
		t.Errorf("Floor(%v) = %v", a, got)
	}
	if got := rat.Ceil(a); !isInt(got, ceil) {
		t.Errorf("Ceil(%v) = %v", a, got)
	}
	if got := rat.Frac(a); !is(got, new(big.Rat).Sub(x, new(big.Rat).SetInt(floor))) {
		t.Errorf("Frac(%v) = %v", a, got)
	}
	if got := rat.IsWhole(a); got != x.IsInt() {
		t.Errorf("IsWhole(%v) = %v", a, got)
	}
}

// P3.3
func TestRounding(t *testing.T) {
	for _, a := range some() {
		checkRounding(t, a)
	}
	for _, c := range []struct {
		num, den, floor, ceil, above int64
		whole                        bool
	}{
		{7, 2, 3, 4, 1, false}, {-7, 2, -4, -3, 1, false}, {7, 3, 2, 3, 1, false}, {-7, 3, -3, -2, 2, false}, {1, 9, 0, 1, 1, false}, {-1, 9, -1, 0, 8, false},
		{6, 2, 3, 3, 0, true}, {-6, 2, -3, -3, 0, true}, {0, 5, 0, 0, 0, true}, {-1, 1, -1, -1, 0, true},
		{math.MaxInt64, 2, math.MaxInt64 / 2, 1 << 62, 1, false}, {math.MinInt64, 1, math.MinInt64, math.MinInt64, 0, true},
	} {
		a := of(t, c.num, c.den)
		floor, _ := zint.To(rat.Floor(a))
		ceil, _ := zint.To(rat.Ceil(a))
		if floor != c.floor || ceil != c.ceil || rat.Cmp(rat.Frac(a), of(t, c.above, c.den)) != 0 || rat.IsWhole(a) != c.whole {
			t.Errorf("%d/%d: Floor %d, Ceil %d, Frac %v, IsWhole %v", c.num, c.den, floor, ceil, rat.Frac(a), rat.IsWhole(a))
		}
	}
}

// The examples of chapter 3.
func TestExamples(t *testing.T) {
	if got := rat.Add(of(t, 1, 6), of(t, 1, 3)); !is(got, big.NewRat(1, 2)) {
		t.Errorf("1/6 + 1/3 = %v", got)
	}
	a := of(t, -7, 2)
	if f, c := rat.Floor(a), rat.Ceil(a); !isInt(f, big.NewInt(-4)) || !isInt(c, big.NewInt(-3)) || !is(rat.Frac(a), big.NewRat(1, 2)) {
		t.Errorf("-7/2: Floor %v, Ceil %v, Frac %v", f, c, rat.Frac(a))
	}
	if got, e := rat.Make(zint.Of(6), zint.Of(-4)); e != api.OK || !is(got, big.NewRat(-3, 2)) {
		t.Errorf("Make(6, -4) = %v, %v", got, e)
	}
	if got := rat.Form(api.Rat{}); !is(got, new(big.Rat)) || len(got.Den) != 1 || got.Den[0] != 1 {
		t.Errorf("Form of no words = %v", got)
	}
}

// P3.4: what was given stays as it was, and an answer outlives what it came of.
func TestOwnMemory(t *testing.T) {
	num, den := []uint64{1, 2, 0}, []uint64{3, 0}
	a := api.Rat{Num: api.Int{Neg: true, Abs: num}, Den: den}
	want := numberOf(a)
	answers := []api.Rat{rat.Form(a), rat.Neg(rat.Neg(a)), rat.Add(a, rat.Whole(0)), rat.Sub(a, api.Rat{}), rat.Mul(a, rat.Whole(1))}
	made, e := rat.Make(a.Num, api.Int{Abs: den})
	if e != api.OK {
		t.Fatal(e)
	}
	divided, e := rat.Div(a, rat.Whole(1))
	if e != api.OK {
		t.Fatal(e)
	}
	answers = append(answers, made, divided)
	if numberOf(a).Cmp(want) != 0 || nat.Bits(den) != 2 {
		t.Fatalf("what was handed in became %v", a)
	}
	clear(num)
	clear(den)
	for i, got := range answers {
		if !is(got, want) {
			t.Errorf("answer %d was kept in what was handed in: %v", i, got)
		}
		clear(got.Num.Abs)
		clear(got.Den)
	}
}
