package ratext_test

import (
	"math"
	"math/big"
	"strings"
	"testing"

	"cutwater/api"
	"cutwater/nat"
	"cutwater/rat"
	"cutwater/ratext"
	"cutwater/zint"
)

// checkParse holds Parse against the other reader.
func checkParse(t *testing.T, s string) {
	t.Helper()
	got, e := ratext.Parse(s)
	want, wantE := read(s)
	if e != wantE || e != api.OK && !none(got) || e == api.OK && !is(got, want) {
		t.Errorf("Parse(%.60q) = %v, %v, not %v, %v", s, got, e, want, wantE)
	}
}

// P4.1: all short texts of these bytes.
func TestParseShort(t *testing.T) {
	var all func(s string, n int)
	all = func(s string, n int) {
		checkParse(t, s)
		for i := 0; n > 0 && i < len("07+-/.eE "); i++ {
			all(s+"07+-/.eE "[i:i+1], n-1)
		}
	}
	all("", 5)
	for _, s := range []string{"-12.50e+07", "-12.50E-07", "+3/4", "0.000e-00", "100/010", "-0/7", "000.125e3"} {
		for i := range s { // each of these with a byte changed, doubled or left out
			checkParse(t, s)
			checkParse(t, s[:i]+s[i+1:])
			checkParse(t, s[:i]+s[i:i+1]+s[i:])
			for b := range 256 {
				checkParse(t, s[:i]+string([]byte{byte(b)})+s[i+1:])
			}
		}
	}
}

// P4.1
func TestParse(t *testing.T) {
	for s, want := range map[string]string{
		"-6/4": "-3/2", "12.50": "25/2", "2.5e-1": "1/4", "007E2": "700",
		"0": "0", "-0": "0", "+0": "0", "-0.0": "0", "0/5": "0", "-0/5": "0", "0e99": "0", "0e-99": "0",
		"+7": "7", "-7": "-7", "+1/2": "1/2", "6/3": "2", "010/020": "1/2", "1.0": "1", "-1.25": "-5/4", "0.1": "1/10",
		"1e0": "1", "1e00": "1", "1e+2": "100", "1E+2": "100", "1e-2": "1/100", "25e-1": "5/2", "1.5e1": "15", "1.25e1": "25/2", "0.5E-1": "1/20",
		"18446744073709551616/36893488147419103232": "1/2",
	} {
		got, e := ratext.Parse(s)
		if text := ratext.Text(got); e != api.OK || text != want {
			t.Errorf("Parse(%q) = %s, %v, not %s", s, text, e, want)
		}
	}
}

// P4.1: what isn't a number's text, whatever else is wrong with it.
func TestParseWrong(t *testing.T) {
	long := strings.Repeat("1", api.MaxDigits+1)
	for _, s := range []string{
		"", "+", "-", "/", ".", "e", "e5", "+e5", ".5", "5.", "-.5", "5.e1", "1e", "1e+", "1E-", "1e.5", "1e1.5", "1e1e1", "1e+-1",
		"1/", "/2", "1//2", "1/-2", "1/+2", "1/2/3", "1/2.0", "1.0/2", "1/2e1", "1e1/2", "1/e", "+-1", "-+1", "--1", "1-", "1+1",
		" 1", "1 ", "1 2", "1\n", "\t1", "1\x00", "\x00", "1,5", "1_000", "0x1", "0x1p4", "1p4", "1d2", "inf", "Inf", "NaN", "nan", "one",
		"\xff", "1\xff", "1/\xff", "1.\xc0\x80", "\u0661", "\uff11", "1\u20442", "\u22121", "1e\u0661",
		long + "x", "x" + long, long + ".", long + "/", long + "/0x", "1e" + long + "x", "1/0/0", "1/0e1", "1/0x", "1e100.", "1e100/0", "-" + long + "-", strings.Repeat("1", 1<<20) + " ",
	} {
		if got, e := ratext.Parse(s); e != api.ErrDigit || !none(got) {
			t.Errorf("Parse(%.60q) = %v, %v", s, got, e)
		}
	}
}

// P4.1: the limits' edges: all digits count, noughts and those of the exponent too, and signs, points and the like don't.
func TestParseLimits(t *testing.T) {
	digits := func(n int) string { return strings.Repeat("9", n) }
	noughts := func(n int) string { return strings.Repeat("0", n) }
	for _, s := range []string{
		digits(200), "-" + digits(200), "+" + digits(200), noughts(199) + "1", noughts(200),
		digits(100) + "/" + digits(100), "-" + digits(199) + "/7", "1/" + digits(199), "-3/" + noughts(198) + "6",
		digits(100) + "." + digits(100), "0." + digits(199), "-0." + noughts(198) + "1", digits(198) + "e99", digits(198) + "E-99", "-0." + digits(197) + "e-99", digits(99) + "." + digits(99) + "e+99",
		"1e99", "1e-99", "1e+99", "1e0099", "1e-" + noughts(197) + "99", "1e" + noughts(199), "1.5e" + noughts(196) + "42",
	} {
		if _, e := ratext.Parse(s); e != api.OK {
			t.Errorf("Parse(%.60q): %v", s, e)
		}
		checkParse(t, s)
	}
	for _, s := range []string{
		digits(201), "-" + digits(201), noughts(201), noughts(200) + "1", digits(100) + "/" + digits(101), "1/" + digits(200), "1/" + noughts(200), digits(201) + "/0",
		digits(200) + ".0", "0." + digits(200), digits(199) + "e99", digits(200) + "e0", "1e" + noughts(200), "1e-" + noughts(198) + "99", digits(100) + "." + digits(100) + "e1",
		"1e100", "1e+100", "1e-100", "0e100", "0.0e-100", "1e0100", "1e999", "1e9223372036854775807", "1e9223372036854775808", "1e-9223372036854775808", "1e18446744073709551616", "1e-18446744073709551617",
		"1e" + digits(199), "1e-" + digits(199), strings.Repeat("1", 1<<20), "1e" + strings.Repeat("1", 1<<20), "1/" + noughts(1<<20),
	} {
		if got, e := ratext.Parse(s); e != api.ErrLong || !none(got) {
			t.Errorf("Parse(%.60q) = %v, %v", s, got, e)
		}
	}
	for _, s := range []string{"1/0", "0/0", "-0/0", "+5/000", "-1/" + noughts(199), digits(100) + "/" + noughts(100)} {
		if got, e := ratext.Parse(s); e != api.ErrZero || !none(got) {
			t.Errorf("Parse(%.60q) = %v, %v", s, got, e)
		}
	}
}

// P4.2
func TestText(t *testing.T) {
	two := []uint64{2}
	for _, c := range []struct {
		a    api.Rat
		want string
	}{
		{api.Rat{}, "0"}, {api.Rat{Num: api.Int{Neg: true}}, "0"}, {api.Rat{Num: api.Int{Neg: true, Abs: []uint64{0, 0}}, Den: []uint64{0}}, "0"},
		{api.Rat{Num: api.Int{Abs: []uint64{0}}, Den: []uint64{6}}, "0"},
		{api.Rat{Num: api.Int{Abs: two}}, "2"}, {api.Rat{Num: api.Int{Abs: two}, Den: []uint64{0, 0}}, "2"}, {api.Rat{Num: api.Int{Neg: true, Abs: two}, Den: []uint64{1, 0}}, "-2"},
		{api.Rat{Num: api.Int{Neg: true, Abs: []uint64{6, 0}}, Den: []uint64{4, 0, 0}}, "-3/2"}, {api.Rat{Num: api.Int{Abs: []uint64{6}}, Den: []uint64{3}}, "2"},
		{api.Rat{Num: api.Int{Abs: []uint64{0, 1}}, Den: []uint64{0, 0, 1}}, "1/18446744073709551616"},
		{api.Rat{Num: api.Int{Neg: true, Abs: []uint64{1, 1}}, Den: []uint64{10}}, "-18446744073709551617/10"},
		{rat.Whole(math.MinInt64), "-9223372036854775808"}, {rat.Whole(10), "10"}, {rat.Whole(-1), "-1"},
	} {
		if got := ratext.Text(c.a); got != c.want {
			t.Errorf("Text(%v) = %q, not %q", c.a, got, c.want)
		}
	}
	great := new(big.Int).Exp(big.NewInt(7), big.NewInt(3000), nil)
	a := api.Rat{Num: api.Int{Neg: true, Abs: wordsOf(great)}, Den: wordsOf(new(big.Int).Add(great, big.NewInt(7)))}
	want := new(big.Rat).SetFrac(new(big.Int).Neg(great), wordsAs(a.Den))
	if got := ratext.Text(a); got != want.String() {
		t.Errorf("Text of 7^3000 over 7 more = %q", got)
	}
}

// P4.3
func TestTextParse(t *testing.T) {
	seven, common := zint.Of(-7), zint.Of(12)
	num, den := zint.Of(1), zint.Of(5)
	met := map[api.Errno]int{}
	for range 200 {
		num, den = zint.Add(zint.Mul(num, seven), zint.Of(3)), zint.Mul(den, zint.Of(5))
		a := api.Rat{Num: zint.Mul(num, common), Den: nat.Mul(den.Abs, common.Abs)}
		text := ratext.Text(a)
		digits := len(text) - strings.Count(text, "-") - strings.Count(text, "/")
		got, e := ratext.Parse(text)
		met[e]++
		if digits > api.MaxDigits {
			if e != api.ErrLong || !none(got) {
				t.Errorf("Parse(%q) = %v, %v", text, got, e)
			}
		} else if e != api.OK || rat.Cmp(got, a) != 0 || ratext.Text(got) != text {
			t.Errorf("Parse(%q) = %v, %v", text, got, e)
		}
	}
	if met[api.OK] < 20 || met[api.ErrLong] < 20 {
		t.Errorf("how often there was each error: %v", met)
	}
}

// P4.3: what was given stays as it was, and an answer outlives another.
func TestOwnMemory(t *testing.T) {
	num, den := []uint64{6, 0}, []uint64{4, 0}
	if got := ratext.Text(api.Rat{Num: api.Int{Abs: num}, Den: den}); got != "3/2" {
		t.Errorf("Text = %q", got)
	}
	if num[0] != 6 || num[1] != 0 || den[0] != 4 || den[1] != 0 {
		t.Errorf("Text changed what was handed in: %v, %v", num, den)
	}
	for _, s := range []string{"1", "5", "0", "-3/2", "1e40", "1e-40"} {
		first, _ := ratext.Parse(s)
		clear(first.Num.Abs)
		clear(first.Den)
		checkParse(t, s)
	}
}
