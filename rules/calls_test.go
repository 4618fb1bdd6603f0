// Package rules holds all calls of the program against the rules that hold everywhere.
package rules

import (
	"fmt"
	"strconv"

	"cutwater/api"
	"cutwater/nat"
	"cutwater/rat"
	"cutwater/ratext"
	"cutwater/zint"
)

// given is what a call is given; each call takes of it what it needs, those of nat and zint but the Nums of a and b.
type given struct {
	a, b api.Rat
	n, m int
	text string
}

// lists gives all lists of words in it, to be read or set.
func (g *given) lists() []*[]uint64 {
	return []*[]uint64{&g.a.Num.Abs, &g.a.Den, &g.b.Num.Abs, &g.b.Den}
}

// String tells it in a test's words.
func (g given) String() string {
	return fmt.Sprintf("%v, %v, %d, %d, %.20q", g.a, g.b, g.n, g.m, g.text)
}

// answer is what a call answered: its lists of words, what else it answered as a text, its error, and whether all but the error is a zero value.
type answer struct {
	lists [][]uint64
	other string
	e     api.Errno
	empty bool
}

// call is a call of the program by its name.
type call struct {
	name string
	run  func(g given) answer
}

func ofLists(e api.Errno, lists ...[]uint64) answer {
	empty := true
	for _, l := range lists {
		empty = empty && len(l) == 0
	}
	return answer{lists: lists, e: e, empty: empty}
}

func ofInts(e api.Errno, ints ...api.Int) answer {
	out := answer{e: e, empty: true}
	for _, a := range ints {
		out.lists = append(out.lists, a.Abs)
		out.other += strconv.FormatBool(a.Neg) + " "
		out.empty = out.empty && !a.Neg && len(a.Abs) == 0
	}
	return out
}

func ofRat(e api.Errno, a api.Rat) answer {
	out := ofInts(e, a.Num)
	out.lists = append(out.lists, a.Den)
	out.empty = out.empty && len(a.Den) == 0
	return out
}

func ofNumber(e api.Errno, n int64) answer {
	return answer{other: strconv.FormatInt(n, 10), e: e, empty: n == 0}
}

func ofText(s string) answer { return answer{other: s, empty: s == ""} }

// callsOfWholes are those of nat and zint.
func callsOfWholes() []call {
	return []call{
		{"nat.Trim", func(g given) answer { return ofLists(api.OK, nat.Trim(g.a.Num.Abs)) }},
		{"nat.Cmp", func(g given) answer { return ofNumber(api.OK, int64(nat.Cmp(g.a.Num.Abs, g.b.Num.Abs))) }},
		{"nat.Add", func(g given) answer { return ofLists(api.OK, nat.Add(g.a.Num.Abs, g.b.Num.Abs)) }},
		{"nat.Sub", func(g given) answer { l, e := nat.Sub(g.a.Num.Abs, g.b.Num.Abs); return ofLists(e, l) }},
		{"nat.Mul", func(g given) answer { return ofLists(api.OK, nat.Mul(g.a.Num.Abs, g.b.Num.Abs)) }},
		{"nat.DivMod", func(g given) answer { q, r, e := nat.DivMod(g.a.Num.Abs, g.b.Num.Abs); return ofLists(e, q, r) }},
		{"nat.Gcd", func(g given) answer { return ofLists(api.OK, nat.Gcd(g.a.Num.Abs, g.b.Num.Abs)) }},
		{"nat.Shl", func(g given) answer { l, e := nat.Shl(g.a.Num.Abs, g.n); return ofLists(e, l) }},
		{"nat.Shr", func(g given) answer { l, e := nat.Shr(g.a.Num.Abs, g.n); return ofLists(e, l) }},
		{"nat.Bits", func(g given) answer { return ofNumber(api.OK, int64(nat.Bits(g.a.Num.Abs))) }},
		{"nat.Parse", func(g given) answer { l, e := nat.Parse(g.text); return ofLists(e, l) }},
		{"nat.Text", func(g given) answer { return ofText(nat.Text(g.a.Num.Abs)) }},
		{"zint.Make", func(g given) answer { return ofInts(api.OK, zint.Make(g.a.Num.Neg, g.a.Num.Abs)) }},
		{"zint.Of", func(g given) answer { return ofInts(api.OK, zint.Of(int64(g.n))) }},
		{"zint.To", func(g given) answer { n, e := zint.To(g.a.Num); return ofNumber(e, n) }},
		{"zint.Sign", func(g given) answer { return ofNumber(api.OK, int64(zint.Sign(g.a.Num))) }},
		{"zint.Cmp", func(g given) answer { return ofNumber(api.OK, int64(zint.Cmp(g.a.Num, g.b.Num))) }},
		{"zint.Neg", func(g given) answer { return ofInts(api.OK, zint.Neg(g.a.Num)) }},
		{"zint.Add", func(g given) answer { return ofInts(api.OK, zint.Add(g.a.Num, g.b.Num)) }},
		{"zint.Sub", func(g given) answer { return ofInts(api.OK, zint.Sub(g.a.Num, g.b.Num)) }},
		{"zint.Mul", func(g given) answer { return ofInts(api.OK, zint.Mul(g.a.Num, g.b.Num)) }},
		{"zint.DivFloor", func(g given) answer { q, r, e := zint.DivFloor(g.a.Num, g.b.Num); return ofInts(e, q, r) }},
		{"zint.Parse", func(g given) answer { a, e := zint.Parse(g.text); return ofInts(e, a) }},
		{"zint.Text", func(g given) answer { return ofText(zint.Text(g.a.Num)) }},
	}
}

// callsOfFractions are those of rat and ratext.
func callsOfFractions() []call {
	return []call{
		{"rat.Make", func(g given) answer { a, e := rat.Make(g.a.Num, g.b.Num); return ofRat(e, a) }},
		{"rat.Form", func(g given) answer { return ofRat(api.OK, rat.Form(g.a)) }},
		{"rat.Of", func(g given) answer { a, e := rat.Of(int64(g.n), int64(g.m)); return ofRat(e, a) }},
		{"rat.Whole", func(g given) answer { return ofRat(api.OK, rat.Whole(int64(g.n))) }},
		{"rat.OfInt", func(g given) answer { return ofRat(api.OK, rat.OfInt(g.a.Num)) }},
		{"rat.Sign", func(g given) answer { return ofNumber(api.OK, int64(rat.Sign(g.a))) }},
		{"rat.Cmp", func(g given) answer { return ofNumber(api.OK, int64(rat.Cmp(g.a, g.b))) }},
		{"rat.Neg", func(g given) answer { return ofRat(api.OK, rat.Neg(g.a)) }},
		{"rat.Add", func(g given) answer { return ofRat(api.OK, rat.Add(g.a, g.b)) }},
		{"rat.Sub", func(g given) answer { return ofRat(api.OK, rat.Sub(g.a, g.b)) }},
		{"rat.Mul", func(g given) answer { return ofRat(api.OK, rat.Mul(g.a, g.b)) }},
		{"rat.Div", func(g given) answer { a, e := rat.Div(g.a, g.b); return ofRat(e, a) }},
		{"rat.Floor", func(g given) answer { return ofInts(api.OK, rat.Floor(g.a)) }},
		{"rat.Ceil", func(g given) answer { return ofInts(api.OK, rat.Ceil(g.a)) }},
		{"rat.Frac", func(g given) answer { return ofRat(api.OK, rat.Frac(g.a)) }},
		{"rat.IsWhole", func(g given) answer { return ofText(strconv.FormatBool(rat.IsWhole(g.a))) }},
		{"ratext.Parse", func(g given) answer { a, e := ratext.Parse(g.text); return ofRat(e, a) }},
		{"ratext.Text", func(g given) answer { return ofText(ratext.Text(g.a)) }},
	}
}

// calls are all that stand now.
func calls() []call { return append(callsOfWholes(), callsOfFractions()...) }
