package nat_test

import (
	"math/big"
	"math/rand"
	"slices"
	"strings"
	"testing"

	"cutwater/api"
	"cutwater/nat"
)

// P1.4
func TestParse(t *testing.T) {
	long := strings.Repeat("9876543210", api.MaxDigits/10)
	for _, s := range []string{
		"0", "00", "1", "9", "10", "007", "18446744073709551615", "18446744073709551616", "018446744073709551616",
		strings.Repeat("0", api.MaxDigits), strings.Repeat("0", api.MaxDigits-1) + "5", long, strings.Repeat("9", api.MaxDigits), "1" + strings.Repeat("0", api.MaxDigits-1),
	} {
		want, _ := new(big.Int).SetString(s, 10)
		got, e := nat.Parse(s)
		if e != api.OK || !is(got, want) {
			t.Errorf("Parse(%q) = %x, %v", s, got, e)
		}
		if text := nat.Text(got); text != want.String() {
			t.Errorf("Text of %q = %q", s, text)
		}
	}
}

// P1.4
func TestParseRefuses(t *testing.T) {
	tooLong := strings.Repeat("1", api.MaxDigits+1)
	for _, c := range []struct {
		s    string
		want api.Errno
	}{
		{"", api.ErrDigit}, {" ", api.ErrDigit}, {" 1", api.ErrDigit}, {"1 ", api.ErrDigit}, {"1\n", api.ErrDigit},
		{"+1", api.ErrDigit}, {"-1", api.ErrDigit}, {"-", api.ErrDigit}, {"1a1", api.ErrDigit}, {"0x1", api.ErrDigit},
		{"1_0", api.ErrDigit}, {"1/2", api.ErrDigit}, {"1.", api.ErrDigit}, {"/", api.ErrDigit}, {":", api.ErrDigit},
		{"\x00", api.ErrDigit}, {"1\xff", api.ErrDigit}, {"\xc0\x80", api.ErrDigit}, {"\u0663", api.ErrDigit}, {"\uff11", api.ErrDigit},
		{tooLong, api.ErrLong}, {strings.Repeat("0", api.MaxDigits+1), api.ErrLong}, {strings.Repeat("7", 100_000), api.ErrLong},
		{tooLong + "x", api.ErrDigit}, {"x" + tooLong, api.ErrDigit}, {tooLong + "x" + tooLong, api.ErrDigit},
	} {
		if got, e := nat.Parse(c.s); e != c.want || len(got) != 0 {
			t.Errorf("Parse(%.20q) = %x, %v, not %v", c.s, got, e, c.want)
		}
	}
}

// P1.4
func TestText(t *testing.T) {
	lists := some()
	r := rand.New(rand.NewSource(4))
	for _, n := range []int{100, 300, 1024} {
		lists = append(lists, chance(r, n))
	}
	ten := big.NewInt(10)
	for i := range int64(80) { // groups of digits that begin or end with noughts
		x := new(big.Int).Exp(ten, big.NewInt(i), nil)
		lists = append(lists, wordsOf(x), wordsOf(new(big.Int).Sub(x, big.NewInt(1))), wordsOf(new(big.Int).Add(x, ten)))
	}
	for _, a := range lists {
		text := nat.Text(a)
		if want := numberOf(a).String(); text != want {
			t.Errorf("Text(%x) = %q, not %q", a, text, want)
		}
		if got, e := nat.Parse(text); len(text) <= api.MaxDigits && (e != api.OK || !slices.Equal(got, nat.Trim(a))) {
			t.Errorf("Parse(%q) = %x, %v", text, got, e)
		}
	}
}
