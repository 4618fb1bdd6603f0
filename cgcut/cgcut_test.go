package cgcut_test

import (
	"math"
	"testing"

	"cutwater/api"
	"cutwater/cgcut"
	"cutwater/shape"
	"cutwater/tell"
)

// told tells what Cut answered: nothing, if there is none.
func told(c api.Cons, uses []api.Use, found bool) string {
	switch {
	case found:
		return tell.OfCons(c) + ": " + tell.OfUses(uses)
	case c.Sense != 0 || len(c.Terms) > 0 || len(c.Rhs.Den) > 0 || len(uses) > 0:
		return "more than nothing"
	}
	return ""
}

// Example 1.
func TestExample(t *testing.T) {
	l := tell.LP("0 3 -3 2@0; 0 2 -2 1@0;", "- 7;")
	if got, want := told(cgcut.Cut(l, []bool{true, true}, []int{0}, tell.Status("bhh"), 0)), "1@0 1@1 <= 4: 1/2@1h 1/2@2h"; got != want {
		t.Errorf("%s, not %s", got, want)
	}
}

// P17.1: which columns are even, each at its Lo and at its Hi; the first three variables are whole.
func TestEven(t *testing.T) {
	l := tell.LP("0 2 0 2@0 1@1 -3@5; 1/2 3 0 1@0 1/2@2; -4 7/3 0; 0 5 0 3@1 1@4;", "-3 7; 1 9; 0 1; 1/3 4; 2 6; -1/2 100000000000000000000; 0 0;")
	whole := []bool{true, true, true, false}
	for col, want := range []string{"yes yes", "no yes", "yes no", "no no", "yes yes", "no no", "no no", "no yes", "no no", "no yes", "yes yes"} {
		got := ""
		for _, stands := range []int{api.AtLo, api.AtHi} {
			status := make([]int, len(l.Cols))
			status[col] = stands
			got += map[bool]string{false: " no", true: " yes"}[cgcut.Even(l, whole, status, col)]
		}
		if got != " "+want {
			t.Errorf("%d:%s, not %s", col, got, want)
		}
		for _, stands := range []int{api.Basic, api.Free, 0, 5, -1} {
			status := make([]int, len(l.Cols))
			status[col] = stands
			if cgcut.Even(l, whole, status, col) {
				t.Errorf("%d stands as %d", col, stands)
			}
		}
	}
	for _, col := range []int{-1, len(l.Cols), math.MaxInt, math.MinInt} {
		if cgcut.Even(l, whole, tell.Status("llllllllllllll"), col) {
			t.Errorf("a column %d", col)
		}
	}
}

// P17.2: the cut of the first place of the basis.
func TestCut(t *testing.T) {
	both := []bool{true, true}
	for _, c := range []struct {
		vars, rows   string
		whole        []bool
		basis        []int
		status, want string
	}{
		{"0 3 0 2@0; 0 2 0 1@0;", "3 -;", both, []int{0}, "bll", "-1@0 -1@1 <= -2: -1/2@1l -1/2@2l"},                                                                                 // all at their Lo
		{"0 3 0 2@0; 0 2 0 1@0;", "- 5;", both, []int{0}, "blh", "1@0 <= 2: -1/2@1l 1/2@2h"}, {"0 3 0 2@0; 0 2 0 1@0;", "3 -;", both, []int{0}, "bhl", "-1@0 <= -1: 1/2@1h -1/2@2l"}, // one at each
		{"0 3 0 3@0; 0 2 0 2@0;", "- 4;", both, []int{0}, "blh", "1@0 <= 1: -2/3@1l 1/3@2h"}, {"0 3 0 3@0; 0 2 0 -2@0;", "1 -;", both, []int{0}, "bhl", "-2@0 2@1 <= 0: 2/3@1h -2/3@2l"}, // thirds
		{"0 3 0 2@0; 0 2 0 2@0;", "- 3;", both, []int{0}, "blh", "1@0 1@1 <= 1: 1/2@2h"},                                                            // a whole number counts for nothing
		{"0 3 0 2@0; 1/2 2 0 2@0;", "- 4;", both, []int{0}, "blh", ""}, {"0 3 0 2@0; 0 2 0 2@0;", "- 3;", []bool{true, false}, []int{0}, "blh", ""}, // but must be even
		{"0 3 0 2@0; 1/2 2 0;", "- 3;", both, []int{0}, "blh", "1@0 <= 1: 1/2@2h"}, {"0 3 0 2@0; 1/2 2 0;", "- 3;", []bool{true, false}, []int{0}, "blh", "1@0 <= 1: 1/2@2h"}, // but one that is 0 needn't
		{"0 3 0 2@0; - - 0;", "- 3;", both, []int{0}, "bfh", "1@0 <= 1: 1/2@2h"}, {"0 3 0 2@0; - - 0 1@0;", "- 3;", both, []int{0}, "bfh", ""},
		{"0 3 0 4@0; 0 2 0 2@0;", "- 7/2;", both, []int{0}, "blh", ""}, {"0 3 0 4@0; 0 2 0 1/2@0;", "- 7;", both, []int{0}, "blh", ""}, // a row that isn't even
		{"0 3 0 2@0; 0 2 0 1@0;", "- 7;", []bool{false, true}, []int{0}, "bhh", ""}, {"0 3 0 2@0; 0 2 0 1@0;", "- 6;", both, []int{0}, "bhh", ""}, {"0 9 0 2@0; 0 2 0 1@0;", "- 7;", both, []int{2}, "hlb", ""}, // not a whole variable; whole; a row
		{"0 3 0 1/2@0; 0 2 0 1@0;", "- 1;", []bool{true, true, true}, []int{2}, "hlb", ""}, {"0 9 0 2@0; 0 2 0 1@0;", "- 7;", []bool{true}, []int{0}, "blh", ""}, {"0 9 0 2@0; 0 2 0 1@0;", "- 7;", nil, []int{0}, "bhh", ""},
		{"0 3 0 2@0; 0 3 0 2@1;", "- 3; - 5;", both, []int{0, 1}, "bbhh", "1@0 <= 1: 1/2@2h"}, {"0 3 0 2@0; 0 3 0 2@1;", "- 3; - 5;", both, []int{1, 0}, "bbhh", "1@1 <= 2: 1/2@3h"}, // in another order
		{"0 9 0 2@0 1@1; 0 9 0 1@0 3@1;", "- 5; - 7;", both, []int{0, 1}, "bbhh", "2@0 3@1 <= 8: 3/5@2h 4/5@3h"}, {"0 9 0 1000000000000000000000000000000@0; 0 9 0 1@1;", "- 3; - 7;", both, []int{0, 3}, "blhb", "1@0 <= 0: 1/1000000000000000000000000000000@2h"},
		{"9 0 0 2@0; 0 2 0 1@0;", "- 7;", both, []int{0}, "bhh", "1@0 1@1 <= 4: 1/2@1h 1/2@2h"}, // bounds that cross
	} {
		l := tell.LP(c.vars, c.rows)
		if got := told(cgcut.Cut(l, c.whole, c.basis, tell.Status(c.status), 0)); got != c.want {
			t.Errorf("%s | %s, %v, %v, %s: %s, not %s", c.vars, c.rows, c.whole, c.basis, c.status, got, c.want)
		}
	}
}

// P17.2: which place.
func TestPlaces(t *testing.T) {
	l := tell.LP("0 3 0 2@0; 0 3 0 2@1; 0 9 0 1@2;", "- 3; - 5; - 7;")
	for place, want := range map[int]string{
		0: "", 1: "1@1 <= 2: 1/2@4h", 2: "1@0 <= 1: 1/2@3h", -1: "", 3: "", math.MaxInt: "", math.MinInt: "",
	} {
		if got := told(cgcut.Cut(l, []bool{true, true, true}, []int{5, 1, 0}, tell.Status("bblhhb"), place)); got != want {
			t.Errorf("%d: %s, not %s", place, got, want)
		}
	}
}

// P17.3: what was given stays as it was, and an answer outlives what it came of.
func TestOwnMemory(t *testing.T) {
	l, whole, basis, status := tell.LP("0 3 -3 2@0; 0 2 -2 1@0;", "- 7;"), []bool{true, true}, []int{0}, tell.Status("bhh")
	c, uses, _ := cgcut.Cut(l, whole, basis, status, 0)
	if tell.OfLP(l) != "0 3 -3 2@0; 0 2 -2 1@0; | - 7;" || !whole[0] || !whole[1] || basis[0] != 0 || tell.OfStatus(status) != "bhh" {
		t.Errorf("changed: %s, %v, %v, %v", tell.OfLP(l), whole, basis, status)
	}
	for col, terms := range l.Cols {
		for _, a := range []api.Rat{l.Lo[col], l.Hi[col], l.Cost[col], terms[0].Val} {
			for _, words := range [][]uint64{a.Num.Abs, a.Den} {
				for i := range words {
					words[i] = 99
				}
			}
		}
	}
	if got, want := told(c, uses, true), "1@0 1@1 <= 4: 1/2@1h 1/2@2h"; got != want {
		t.Errorf("became %s", got)
	}
}

// Linear problems that aren't right, ways to stand that aren't, and any number of flags: nothing is promised but an end.
func TestWrong(t *testing.T) {
	right := func() api.LP { return tell.LP("0 3 -3 2@0; 0 2 -2 1@0;", "- 7;") }
	all := []api.LP{{}, {N: -1}, {N: math.MaxInt}, {N: math.MinInt, Cols: right().Cols}, {N: 2, Cols: right().Cols}, right()}
	for i := range 7 {
		l := right()
		switch i {
		case 0:
			l.HasLo = l.HasLo[:1]
		case 1:
			l.HasHi = nil
		case 2:
			l.Lo = l.Lo[:1]
		case 3:
			l.Hi = l.Hi[:1]
		case 4:
			l.Cost = nil
		case 5:
			l.Cols[0] = tell.Vec("1@0 2@9 -1@-3")
		case 6:
			l.N = 3
		}
		all = append(all, l)
	}
	for _, l := range all {
		for _, basis := range [][]int{nil, {0}, {-1}, {math.MaxInt}, {math.MinInt}, {2}, {0, 0}, {0, 1}} {
			for _, status := range []string{"", "bhh", "bhl", "hhb", "h", "bhhhhhh", "bff"} {
				for _, whole := range [][]bool{nil, {true}, {true, true}, {true, true, true, true}} {
					cgcut.Cut(l, whole, basis, tell.Status(status), 0)
					for col := -1; col < 8; col++ {
						cgcut.Even(l, whole, tell.Status(status), col)
					}
				}
			}
		}
	}
}

// P17.2: a great linear problem.
func TestGreat(t *testing.T) {
	l, whole, basis, status := great()
	x, e := shape.Primal(l, basis, status)
	cuts := 0
	for place := 0; place < api.MaxCols; place += 5 {
		c, uses, found := cgcut.Cut(l, whole, basis, status, place)
		if found {
			cuts++
			checkCut(t, l, whole, x, c, uses)
		}
	}
	if e != api.OK || cuts < 6 {
		t.Errorf("%v, %d cuts", e, cuts)
	}
}
