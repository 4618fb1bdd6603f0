// Package rules holds all calls of the program against the rules that hold everywhere.
package rules

import (
	"fmt"
	"strconv"

	"cutwater/api"
	"cutwater/nat"
	"cutwater/zint"
)

// given is what a call is given; each call takes of it what it needs.
type given struct {
	a, b api.Int
	n    int
	text string
}

// String tells it in a test's words.
func (g given) String() string {
	return fmt.Sprintf("%v, %v, %d, %.20q", g.a, g.b, g.n, g.text)
}

// answer is what a call answered: its lists of words, what else it answered as a text, its error, and whether all but the error is a zero value.
type answer struct {
	lists [][]uint64
	other string
	e     api.Errno
	empty bool
}

// call is a call of the program by its name.
type call struct {
	name string
	run  func(g given) answer
}

func ofLists(e api.Errno, lists ...[]uint64) answer {
	empty := true
	for _, l := range lists {
		empty = empty && len(l) == 0
	}
	return answer{lists: lists, e: e, empty: empty}
}

func ofInts(e api.Errno, ints ...api.Int) answer {
	out := answer{e: e, empty: true}
	for _, a := range ints {
		out.lists = append(out.lists, a.Abs)
		out.other += strconv.FormatBool(a.Neg) + " "
		out.empty = out.empty && !a.Neg && len(a.Abs) == 0
	}
	return out
}

func ofNumber(e api.Errno, n int64) answer {
	return answer{other: strconv.FormatInt(n, 10), e: e, empty: n == 0}
}

func ofText(s string) answer { return answer{other: s, empty: s == ""} }

// calls are those of nat and zint.
func calls() []call {
	return []call{
		{"nat.Trim", func(g given) answer { return ofLists(api.OK, nat.Trim(g.a.Abs)) }},
		{"nat.Cmp", func(g given) answer { return ofNumber(api.OK, int64(nat.Cmp(g.a.Abs, g.b.Abs))) }},
		{"nat.Add", func(g given) answer { return ofLists(api.OK, nat.Add(g.a.Abs, g.b.Abs)) }},
		{"nat.Sub", func(g given) answer { l, e := nat.Sub(g.a.Abs, g.b.Abs); return ofLists(e, l) }},
		{"nat.Mul", func(g given) answer { return ofLists(api.OK, nat.Mul(g.a.Abs, g.b.Abs)) }},
		{"nat.DivMod", func(g given) answer { q, r, e := nat.DivMod(g.a.Abs, g.b.Abs); return ofLists(e, q, r) }},
		{"nat.Gcd", func(g given) answer { return ofLists(api.OK, nat.Gcd(g.a.Abs, g.b.Abs)) }},
		{"nat.Shl", func(g given) answer { l, e := nat.Shl(g.a.Abs, g.n); return ofLists(e, l) }},
		{"nat.Shr", func(g given) answer { l, e := nat.Shr(g.a.Abs, g.n); return ofLists(e, l) }},
		{"nat.Bits", func(g given) answer { return ofNumber(api.OK, int64(nat.Bits(g.a.Abs))) }},
		{"nat.Parse", func(g given) answer { l, e := nat.Parse(g.text); return ofLists(e, l) }},
		{"nat.Text", func(g given) answer { return ofText(nat.Text(g.a.Abs)) }},
		{"zint.Make", func(g given) answer { return ofInts(api.OK, zint.Make(g.a.Neg, g.a.Abs)) }},
		{"zint.Of", func(g given) answer { return ofInts(api.OK, zint.Of(int64(g.n))) }},
		{"zint.To", func(g given) answer { n, e := zint.To(g.a); return ofNumber(e, n) }},
		{"zint.Sign", func(g given) answer { return ofNumber(api.OK, int64(zint.Sign(g.a))) }},
		{"zint.Cmp", func(g given) answer { return ofNumber(api.OK, int64(zint.Cmp(g.a, g.b))) }},
		{"zint.Neg", func(g given) answer { return ofInts(api.OK, zint.Neg(g.a)) }},
		{"zint.Add", func(g given) answer { return ofInts(api.OK, zint.Add(g.a, g.b)) }},
		{"zint.Sub", func(g given) answer { return ofInts(api.OK, zint.Sub(g.a, g.b)) }},
		{"zint.Mul", func(g given) answer { return ofInts(api.OK, zint.Mul(g.a, g.b)) }},
		{"zint.DivFloor", func(g given) answer { q, r, e := zint.DivFloor(g.a, g.b); return ofInts(e, q, r) }},
		{"zint.Parse", func(g given) answer { a, e := zint.Parse(g.text); return ofInts(e, a) }},
		{"zint.Text", func(g given) answer { return ofText(zint.Text(g.a)) }},
	}
}
