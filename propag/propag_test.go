package propag_test

import (
	"math"
	"strings"
	"testing"

	"cutwater/api"
	"cutwater/propag"
	"cutwater/tell"
)

// Example 1.
func TestExample(t *testing.T) {
	l := tell.LP("- - 0 2@0; 2 9 0 1@0;", "- 7;")
	if got, want := told(propag.Tighten(l, []bool{true, false}, 0, 0, true)), "0 <= 2 rounded: 1/2@2h -1/2@1l"; got != want {
		t.Errorf("%s, not %s", got, want)
	}
	if got, want := told(propag.Tighten(l, []bool{false, true}, 0, 0, true)), "0 <= 5/2: 1/2@2h -1/2@1l"; got != want {
		t.Errorf("%s, not %s", got, want)
	}
}

// P16.1: the bounds that a row tells; the first variable is whole.
func TestTighten(t *testing.T) {
	for _, c := range []struct{ vars, row, lo, hi string }{
		{"- - 0 2@0; 1 4 0 3@0; -1 2 0 -5@0;", "-3 8;", "0 >= -10: 1/2@3l -3/2@1h 5/2@2l", "0 <= 7 rounded: 1/2@3h -3/2@1l 5/2@2h"}, // each bound on its side
		{"- - 0 -2@0; 1 4 0 3@0; -1 2 0 -5@0;", "-3 8;", "0 >= -7 rounded: -1/2@3h 3/2@1l -5/2@2h", "0 <= 10: -1/2@3l 3/2@1h -5/2@2l"},
		{"- - 0 2@0; 1 - 0 3@0;", "-3 8;", "", "0 <= 2 rounded: 1/2@2h -3/2@1l"}, {"- - 0 2@0; - 4 0 3@0;", "-3 8;", "0 >= -7 rounded: 1/2@2l -3/2@1h", ""}, // one of them isn't there
		{"- - 0 2@0; 1 4 0 -3@0;", "- 8;", "", "0 <= 10: 1/2@2h 3/2@1h"}, {"- - 0 2@0; 1 4 0 -3@0;", "-3 -;", "0 >= 0: 1/2@2l 3/2@1l", ""}, {"- - 0 2@0; 1 4 0 -3@0;", "- -;", "", ""},
		{"- - 0 2@0; - 4 0 3@0; - 4 0 3@0;", "-3 8;", "0 >= -13 rounded: 1/2@3l -3/2@1h -3/2@2h", ""}, {"- - 0 2@0; - - 0 3@0; 4 4 0 3@0;", "-3 8;", "", ""},
		{"- - 0 2@0;", "-3 8;", "0 >= -1 rounded: 1/2@1l", "0 <= 4: 1/2@1h"}, {"- - 0 2@0; 1 4 0;", "-3 8;", "0 >= -1 rounded: 1/2@2l", "0 <= 4: 1/2@2h"}, // others aren't in the row
		{"- - 0; 1 4 0 2@0;", "-3 8;", "", ""}, {"-5 9 0 2@0;", "-3 8;", "0 >= -1 rounded: 1/2@1l", "0 <= 4: 1/2@1h"},
		{"-1 4 0 2@0;", "-3 8;", "", ""}, {"-1/2 3 0 2@0;", "-3 8;", "", ""}, {"-3/2 9/2 0 2@0;", "-3 8;", "0 >= -1 rounded: 1/2@1l", "0 <= 4: 1/2@1h"}, // as tight, tighter, not whole
		{"-1 9/2 0 2@0;", "-3 9;", "", "0 <= 4 rounded: 1/2@1h"}, {"-5/4 17/4 0 2@0;", "-3 9;", "0 >= -1 rounded: 1/2@1l", "0 <= 4 rounded: 1/2@1h"}, {"- 4 0 2@0;", "1 9;", "0 >= 1 rounded: 1/2@1l", ""},
		{"5 4 0 2@0;", "3 20;", "", ""}, {"0 9 0 2@0;", "8 3;", "0 >= 4: 1/2@1l", "0 <= 1 rounded: 1/2@1h"}, {"0 9 0 2@0; 5 1 0 1@0;", "- 6;", "", "0 <= 0 rounded: 1/2@2h -1/2@1l"}, // bounds that cross
		{"0 100 0 1000000000000000000000000000000@0;", "- 70000000000000000000000000000005;", "", "0 <= 70 rounded: 1/1000000000000000000000000000000@1h"},
	} {
		l := tell.LP(c.vars, c.row)
		whole := make([]bool, l.N)
		whole[0] = true
		for i, want := range []string{c.lo, c.hi} {
			if got := told(propag.Tighten(l, whole, 0, 0, i == 1)); got != want {
				t.Errorf("%s %s, %d: %s, not %s", c.vars, c.row, i, got, want)
			}
		}
	}
}

// P16.1: which row and which variable.
func TestPlaces(t *testing.T) {
	l := tell.LP("- - 0 2@0; - - 0 3@1;", "- 8; 6 -;")
	for _, c := range []struct {
		row, col int
		upper    bool
		want     string
	}{
		{0, 0, true, "0 <= 4: 1/2@2h"}, {1, 1, false, "1 >= 2: 1/3@3l"}, {0, 0, false, ""}, {1, 1, true, ""}, {0, 1, true, ""}, {1, 0, false, ""},
		{-1, 0, true, ""}, {2, 0, true, ""}, {0, -1, true, ""}, {0, 2, true, ""}, {1, 3, false, ""}, {math.MaxInt, 0, true, ""}, {math.MinInt, 0, true, ""}, {0, math.MaxInt, true, ""}, {0, math.MinInt, true, ""},
	} {
		if got := told(propag.Tighten(l, []bool{true, true}, c.row, c.col, c.upper)); got != c.want {
			t.Errorf("%d, %d: %s, not %s", c.row, c.col, got, c.want)
		}
	}
}

// P16.2: row by row, in each variable by variable, its Lo first.
func TestAll(t *testing.T) {
	for _, c := range []struct {
		vars, rows string
		whole      []bool
		passes     int
		want, then string
	}{
		{"- - 0 2@0; 2 9 0 1@0;", "- 7;", []bool{true, false}, 1, "0 <= 2 rounded: 1/2@2h -1/2@1l", "- 2 0 2@0; 2 9 0 1@0; | - 7;"},
		{"0 9 0 1@0; 0 9 0 1@0;", "14 5;", []bool{true, true}, 1, "0 >= 5: 1@2l -1@1h; 0 <= 5: 1@2h -1@1l; 1 >= 9: 1@2l -1@0h; 1 <= 0: 1@2h -1@0l", "5 5 0 1@0; 9 0 0 1@0; | 14 5;"}, // it ends where a Lo is above its Hi
		{"0 9 0 1@0; 0 9 0 1@0;", "15 5;", []bool{true, true}, 10, "0 >= 6: 1@2l -1@1h; 0 <= 5: 1@2h -1@1l", "6 5 0 1@0; 0 9 0 1@0; | 15 5;"},
		{"0 9 0 1@0; 0 9 0 1@0;", "19 -;", []bool{true, true}, 10, "0 >= 10: 1@2l -1@1h", "10 9 0 1@0; 0 9 0 1@0; | 19 -;"},
		{"9 0 0 1@1; 0 9 0 1@0; 0 5 0 1@2;", "- 7; - -1; - 4;", nil, 2, "1 <= 7: 1@3h; 0 <= -1: 1@4h", "9 -1 0 1@1; 0 7 0 1@0; 0 5 0 1@2; | - 7; - -1; - 4;"}, // one that is so at the beginning ends nothing, but is the end once it is given a bound
		{"0 8 0 1@0 -2@1; 0 8 0 -1@0 1@1;", "- 0; - 0;", []bool{false, false}, 0, "", "0 8"},
		{"0 8 0 1@0 -1@1; 0 8 0 -2@0 1@1;", "0 -; 0 -;", nil, 1, "1 <= 4: -1/2@2l 1/2@0h; 0 <= 4: -1@3l 1@1h", "0 4 0 1@0 -1@1; 0 4 0 -2@0 1@1;"},
		{"0 8 0 1@0 -1@1; 0 8 0 -2@0 1@1;", "0 -; 0 -;", nil, 2, "1 <= 4: -1/2@2l 1/2@0h; 0 <= 4: -1@3l 1@1h; 1 <= 2: -1/2@2l 1/2@0h; 0 <= 2: -1@3l 1@1h", "0 2"},
		{"0 8 0 1@0 -1@1; 0 8 0 -2@0 1@1;", "0 -; 0 -;", []bool{true, true}, 10, "1 <= 4: -1/2@2l 1/2@0h; 0 <= 4: -1@3l 1@1h; 1 <= 2: -1/2@2l 1/2@0h; 0 <= 2: -1@3l 1@1h; 1 <= 1: -1/2@2l 1/2@0h; 0 <= 1: -1@3l 1@1h; 1 <= 0 rounded: -1/2@2l 1/2@0h; 0 <= 0: -1@3l 1@1h", "0 0"},
		{"1 1 0 1@0; 1 1 0 1@0;", "2 2;", nil, 10, "", "1 1 0 1@0; 1 1 0 1@0; | 2 2;"}, {"", "", nil, 10, "", ""}, {"", "2 1;", nil, 10, "", "| 2 1;"}, {"0 1 5;", "", []bool{true}, 3, "", "0 1 5; |"},
		{"- - 7 1@0; - - -1/2 1@0;", "0 1;", nil, 10, "", "- - 7 1@0; - - -1/2 1@0; | 0 1;"}, {"1/2 3/2 0;", "", []bool{true}, 1, "", "1/2 3/2 0; |"}, // bounds are rounded by rows alone
	} {
		l, list, e := propag.All(tell.LP(c.vars, c.rows), c.whole, c.passes)
		then := tell.OfLP(l)
		if got := ofList(list); e != api.OK || got != c.want || !strings.HasPrefix(then, c.then) {
			t.Errorf("%s | %s, %d: %v, %s, %s, not %s, %s", c.vars, c.rows, c.passes, e, got, then, c.want, c.then)
		}
	}
}

// P16.2: how many passes there may be.
func TestPasses(t *testing.T) {
	l := tell.LP("0 1024 0 1@0 -1@1; 0 1024 0 -2@0 1@1;", "0 -; 0 -;")
	for passes, want := range map[int]int{0: 0, 1: 2, 9: 18, 10: 20} {
		if out, list, e := propag.All(l, nil, passes); e != api.OK || len(list) != want || tell.OfRat(out.Hi[0]) != tell.OfRat(tell.Rats("1024 512 256 128 64 32 16 8 4 2 1")[passes]) {
			t.Errorf("%d: %s, %v", passes, ofList(list), e)
		}
	}
	for _, passes := range []int{-1, 11, math.MaxInt, math.MinInt} {
		if out, list, e := propag.All(l, nil, passes); e != api.ErrArg || len(list) > 0 || out.N != 0 || len(out.Cols)+len(out.HasLo)+len(out.HasHi)+len(out.Lo)+len(out.Hi)+len(out.Cost) > 0 {
			t.Errorf("%d: %v, %s", passes, e, tell.OfLP(out))
		}
	}
}

// Linear problems that aren't right, and any number of flags: nothing is promised but an end.
func TestWrong(t *testing.T) {
	right := func() api.LP { return tell.LP("0 9 0 1@0 2@1; 0 9 0 1@0; 0 9 0 3@1;", "- 7; 3 -;") }
	all := []api.LP{{N: -1}, {N: math.MaxInt}, {N: math.MinInt}, {Cols: right().Cols}, right()}
	for _, n := range []int{-1, 0, 2, 4, 5, 6, math.MaxInt, math.MinInt} {
		l := right()
		l.N = n
		all = append(all, l)
	}
	for i := range 8 {
		l := right()
		switch i {
		case 0:
			l.HasLo = l.HasLo[:2]
		case 1:
			l.HasHi = nil
		case 2:
			l.Lo = l.Lo[:1]
		case 3:
			l.Hi = append(l.Hi, l.Hi[0])
		case 4:
			l.Cost = nil
		case 5:
			l.Cols[0] = tell.Vec("1@0 2@9 -1@-3")
		case 6:
			l.Cols[4] = nil
		case 7:
			l.Cols[1], l.Hi[0] = []api.Term{{}}, api.Rat{}
		}
		all = append(all, l)
	}
	for _, l := range all {
		for _, whole := range [][]bool{nil, {true}, make([]bool, 9)} {
			propag.All(l, whole, 3)
			for _, row := range []int{-1, 0, 1, 2, 5, math.MaxInt, math.MinInt} {
				propag.Tighten(l, whole, row, 0, true)
				propag.Tighten(l, whole, 0, row, false)
			}
		}
	}
}
