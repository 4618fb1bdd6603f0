package gmi_test

import (
	"math"
	"strings"
	"testing"

	"cutwater/api"
	"cutwater/gmi"
	"cutwater/tell"
)

// told tells what Cut answered: nothing, if there is none.
func told(s api.SplitCut, found bool) string {
	switch {
	case found:
		low, high := tell.OfRat(s.LowOften)+"x "+tell.OfUses(s.LowUses), tell.OfRat(s.HighOften)+"x "+tell.OfUses(s.HighUses)
		return tell.OfCons(s.Cut) + " of " + tell.OfCons(s.Low) + ": " + strings.TrimSpace(low) + ", " + strings.TrimSpace(high)
	case !blank(s.Cut) || !blank(s.Low) || len(s.LowOften.Den)+len(s.HighOften.Den)+len(s.LowUses)+len(s.HighUses) > 0:
		return "more than nothing"
	}
	return ""
}

// blank tells whether a constraint is a zero value.
func blank(c api.Cons) bool { return c.Sense == 0 && len(c.Terms) == 0 && len(c.Rhs.Den) == 0 }

// Example 1.
func TestExample(t *testing.T) {
	l := tell.LP("0 3 -3 2@0; 0 2 -2 1@0;", "- 7;")
	if got, want := told(gmi.Cut(l, []bool{true, false}, []int{0}, tell.Status("bhh"), 0)), "-2@0 -2@1 >= -8 of 1@0 <= 2: -2x -2@1h, 2x -2@2h"; got != want {
		t.Errorf("%s, not %s", got, want)
	}
}

// P18.1: the cut of the first place of the basis.
func TestCut(t *testing.T) {
	both, first := []bool{true, true}, []bool{true, false}
	for _, c := range []struct {
		vars, rows   string
		whole        []bool
		basis        []int
		status, want string
	}{
		{"0 3 0 2@0; 0 2 0 1@0;", "- 7;", both, []int{0}, "bhh", "-2@0 -2@1 >= -8 of 1@0 1@1 <= 4: -2x, 2x -2@1h -2@2h"},           // 1/2 isn't above 1/2
		{"0 3 0 3@0; 0 2 0 2@0;", "- 4;", both, []int{0}, "blh", "-3@0 -3/2@1 >= -3 of 1@0 1@1 <= 1: -3x 3/2@1l, 3/2x -3/2@2h"},    // 2/3 is above 1/3
		{"0 3 0 3@0; 0 2 0 1@0;", "- 4;", both, []int{0}, "blh", "-3@0 >= -3 of 1@0 <= 1: -3x, 3/2x 3/2@1l -3/2@2h"},               // 1/3 isn't
		{"0 3 0 3@0; 0 2 0 -5@0;", "1 -;", both, []int{0}, "bll", "3/2@0 -3/2@1 >= 3/2 of 1@0 -2@1 <= 0: -3x 3/2@2l, 3/2x 3/2@1l"}, // below 0, at the Lo
		{"0 3 0 2@0; 1 2 0 6@0;", "- 9;", both, []int{0}, "blh", "-2@0 -6@1 >= -8 of 1@0 3@1 <= 4: -2x, 2x -2@2h"},                 // whole
		{"0 3 0 2@0; 1/2 2 0 6@0;", "- 8;", both, []int{0}, "blh", "-2@0 >= -4 of 1@0 <= 2: -2x, 2x 12@1l -2@2h"},                  // not even: its bound
		{"0 3 0 2@0; 1 2 0 6@0;", "- 9;", first, []int{0}, "blh", "-2@0 >= -2 of 1@0 <= 1: -2x, 2x 12@1l -2@2h"},                   // not whole, at the Lo and the Hi, of both signs
		{"0 3 0 2@0; 0 2 0 -3@0;", "1 -;", first, []int{0}, "bll", "2@0 >= 2 of 1@0 <= 0: -2x 6@1l 2@2l, 2x"}, {"0 3 0 2@0; 0 2 0 1@0;", "- 7;", first, []int{0}, "bhh", "-2@0 -2@1 >= -8 of 1@0 <= 2: -2x -2@1h, 2x -2@2h"},
		{"0 9 0 2@0; 0 2 0 -3@0;", "- 7;", first, []int{0}, "bhh", "-2@0 >= -12 of 1@0 <= 6: -2x, 2x -6@1h -2@2h"},
		{"0 9 0 2@0 1@1; 0 9 0 1@0 3@1;", "- 5; - 8;", both, []int{0, 1}, "bbhh", "-5/3@0 -5/3@1 >= -5 of -1@0 -1@1 <= -4: -5/2x -5/3@2h -5/6@3h, 5/3x"}, // steps of a row
		{"0 3 0 2@0; - - 0;", "- 3;", both, []int{0}, "bfh", "-2@0 >= -2 of 1@0 <= 1: -2x, 2x -2@2h"}, {"0 3 0 2@0; - - 0 1@0;", "- 3;", both, []int{0}, "bfh", ""}, {"0 3 0 2@0; - - 0 1@0;", "- 3;", first, []int{0}, "bfh", ""},
		{"0 3 0 2@0; 0 2 0 1@0;", "- 7;", []bool{false, true}, []int{0}, "bhh", ""}, {"0 3 0 2@0; 0 2 0 1@0;", "- 6;", both, []int{0}, "bhh", ""}, {"0 9 0 2@0; 0 2 0 1@0;", "- 7;", both, []int{2}, "hlb", ""}, // not a whole variable; whole; a row
		{"0 3 0 1/2@0; 0 2 0 1@0;", "- 1;", []bool{true, true, true}, []int{2}, "hlb", ""}, {"0 9 0 2@0; 0 2 0 1@0;", "- 7;", nil, []int{0}, "blh", ""},
		{"0 9 0 1000000000000000000000000000000@0; 0 9 0;", "- 1;", first, []int{0}, "bhh", "-1000000000000000000000000000000@0 >= 0 of 1@0 <= 0: -1000000000000000000000000000000x, 1000000000000000000000000000000/999999999999999999999999999999x -1000000000000000000000000000000/999999999999999999999999999999@2h"},
		{"9 0 0 2@0; 0 2 0 1@0;", "- 7;", first, []int{0}, "bhh", "-2@0 -2@1 >= -8 of 1@0 <= 2: -2x -2@1h, 2x -2@2h"}, // bounds that cross
	} {
		l := tell.LP(c.vars, c.rows)
		if got := told(gmi.Cut(l, c.whole, c.basis, tell.Status(c.status), 0)); got != c.want {
			t.Errorf("%s | %s, %v, %v, %s: %s, not %s", c.vars, c.rows, c.whole, c.basis, c.status, got, c.want)
		}
	}
}

// P18.1: which place.
func TestPlaces(t *testing.T) {
	l := tell.LP("0 3 0 2@0; 0 3 0 2@1; 0 9 0 1@2;", "- 3; - 5; - 7;")
	for place, want := range map[int]string{
		0: "", 1: "-2@1 >= -4 of 1@1 <= 2: -2x, 2x -2@4h", 2: "-2@0 >= -2 of 1@0 <= 1: -2x, 2x -2@3h", -1: "", 3: "", math.MaxInt: "", math.MinInt: "",
	} {
		if got := told(gmi.Cut(l, []bool{true, true, true}, []int{5, 1, 0}, tell.Status("bblhhb"), place)); got != want {
			t.Errorf("%d: %s, not %s", place, got, want)
		}
	}
}

// splitCut gives what proves a cut on each side.
func splitCut(low, lowOften, highOften, lowUses, highUses string) api.SplitCut {
	return api.SplitCut{Low: tell.Cons(low), LowOften: tell.Rat(lowOften), HighOften: tell.Rat(highOften), LowUses: tell.Uses(lowUses), HighUses: tell.Uses(highUses)}
}

// P18.2
func TestSides(t *testing.T) {
	l := tell.LP("0 3 -3 2@0; - 2 -2 1@0;", "- 7; -1 -;")
	for _, c := range []struct {
		s         api.SplitCut
		low, high string
	}{
		{splitCut("1@0 <= 2", "-2", "2", "-2@1h", "-2@2h"), "-2@0 -2@1 >= -8", "-2@0 -2@1 >= -8"}, {splitCut("1@0 <= 2", "-1", "1/2", "", ""), "-1@0 >= -2", "1/2@0 >= 3/2"},
		{splitCut("2@1 1@0 -1@1 0@3 9@-1 <= 1/2", "-2", "4", "1@0l 0@0h", "1@3l 2@0l"), "-1@0 -2@1 >= -1", "6@0 4@1 >= 5"}, // any form; sides that aren't one
		{splitCut("1@0 <= 2", "0", "0", "", ""), ">= 0", ">= 0"}, {splitCut("<= 2", "-1", "1", "", ""), ">= -2", ">= 3"}, {splitCut("1@7 <= 2", "-1", "1", "", ""), "-1@7 >= -2", "1@7 >= 3"},
		{splitCut("1@0 = 2", "-1", "1", "", ""), "-1@0 >= -2", "1@0 >= 3"}, {splitCut("1@0 = 2", "1", "1", "", ""), "1@0 >= 2", "1@0 >= 3"}, {splitCut("1@0 >= 2", "1", "1", "", ""), "1@0 >= 2", "1@0 >= 3"}, // of another sense
		{splitCut("1@0 <= 2", "-1", "1", "1@9l", ""), "errno 2", ""}, {splitCut("1@0 <= 2", "-1", "1", "0@1l", ""), "errno 2", ""}, {splitCut("1@0 <= 2", "-1", "1", "1@2l", ""), "errno 2", ""}, {splitCut("1@0 <= 2", "-1", "1", "0@-1h", ""), "errno 2", ""}, // no such bound
		{splitCut("1@0 <= 2", "-1", "1", "", "1@9l"), "errno 2", ""}, {splitCut("1@0 <= 2", "-1", "1", "1@0l", "-1@2h 0@1l"), "errno 2", ""}, {splitCut("1@0 0 2", "-1", "1", "", ""), "errno 2", ""}, {splitCut("1@0 4 2", "0", "1", "", ""), "errno 2", ""},
		{splitCut("1@0 <= 2", "1", "1", "", ""), "errno 241", ""}, {splitCut("1@0 <= 2", "-1", "-1", "", ""), "errno 241", ""}, {splitCut("1@0 >= 2", "-1", "1", "", ""), "errno 241", ""}, // may not stand so often
		{splitCut("1@0 <= 2", "-1", "1", "-1@0l", ""), "errno 241", ""}, {splitCut("1@0 <= 2", "-1", "1", "1@0h", ""), "errno 241", ""}, {splitCut("1@0 <= 2", "-1", "1", "", "-1@3l"), "errno 241", ""},
		{splitCut("1@0 <= 2", "1", "1", "-1@0l 1@9l", ""), "errno 2", ""}, {splitCut("1@0 <= 2", "1", "1", "", "1@9l"), "errno 241", ""}, {splitCut("1@0 <= 2", "-1", "-1", "1@9l", "1@0h"), "errno 2", ""}, // the first one
	} {
		low, high, e := gmi.Sides(l, c.s)
		got := tell.OfCons(low) + ", " + tell.OfCons(high)
		if e != api.OK && blank(low) && blank(high) {
			got = e.Error() + ", "
		}
		if got != c.low+", "+c.high {
			t.Errorf("%s: %s, not %s, %s", told(c.s, true), got, c.low, c.high)
		}
	}
}

// P18.2
func TestHigh(t *testing.T) {
	for low, want := range map[string]string{
		"-1@0 1@2 <= 3": "-1@0 1@2 >= 4", "1@0 <= -1/2": "1@0 >= 1/2", "<= -1": ">= 0", "2@1 1@0 -2@1 0@2 5@-1 <= 0": "1@0 >= 1", "1@0 = 3": "1@0 >= 4", "1@0 >= 3": "1@0 >= 4", "1@0 0 3": "1@0 >= 4", "-7 99999999999999999999": ">= 100000000000000000000",
	} {
		if got := tell.OfCons(gmi.High(tell.Cons(low))); got != want {
			t.Errorf("%s: %s, not %s", low, got, want)
		}
	}
	loose := api.Cons{Sense: api.AtMost, Terms: []api.Term{{Col: 2, Val: api.Rat{Num: api.Int{Abs: []uint64{6, 0}}, Den: []uint64{4}}}, {Col: 1}}}
	if got, want := tell.OfCons(gmi.High(loose)), "3/2@2 >= 1"; got != want {
		t.Errorf("%s, not %s", got, want)
	}
}

// wipe writes over a number.
func wipe(a api.Rat) {
	for _, words := range [][]uint64{a.Num.Abs, a.Den} {
		for i := range words {
			words[i] = 99
		}
	}
}

// P18.3: what was given stays as it was, and an answer outlives what it came of.
func TestOwnMemory(t *testing.T) {
	l, whole, basis, status := tell.LP("0 3 -3 2@0; 0 2 -2 1@0;", "- 7;"), []bool{true, true}, []int{0}, tell.Status("bhh")
	s, _ := gmi.Cut(l, whole, basis, status, 0)
	want := told(s, true)
	low, high, _ := gmi.Sides(l, s)
	other := gmi.High(s.Low)
	if tell.OfLP(l) != "0 3 -3 2@0; 0 2 -2 1@0; | - 7;" || !whole[0] || !whole[1] || basis[0] != 0 || tell.OfStatus(status) != "bhh" || told(s, true) != want {
		t.Errorf("changed: %s, %v, %v, %v, %s", tell.OfLP(l), whole, basis, status, told(s, true))
	}
	for col, terms := range l.Cols {
		wipe(l.Lo[col])
		wipe(l.Hi[col])
		wipe(terms[0].Val)
	}
	if got := told(s, true); got != want {
		t.Errorf("became %s", got)
	}
	wipe(s.Low.Rhs)
	wipe(s.LowOften)
	wipe(s.HighOften)
	for _, u := range s.HighUses {
		wipe(u.Often)
	}
	for _, a := range s.Low.Terms {
		wipe(a.Val)
	}
	if got, want := tell.OfConsList([]api.Cons{s.Cut, low, high, other}), "-2@0 -2@1 >= -8; -2@0 -2@1 >= -8; -2@0 -2@1 >= -8; 1@0 1@1 >= 5;"; got != want {
		t.Errorf("became %s", got)
	}
}

// Linear problems that aren't right, ways to stand that aren't, and any number of flags: nothing is promised but an end.
func TestWrong(t *testing.T) {
	right := func() api.LP { return tell.LP("0 3 -3 2@0; 0 2 -2 1@0;", "- 7;") }
	all := []api.LP{{}, {N: -1}, {N: math.MaxInt}, {N: math.MinInt, Cols: right().Cols}, {N: 2, Cols: right().Cols}, right()}
	for i := range 7 {
		l := right()
		switch i {
		case 0:
			l.HasLo = l.HasLo[:1]
		case 1:
			l.HasHi = nil
		case 2:
			l.Lo = l.Lo[:1]
		case 3:
			l.Hi = l.Hi[:1]
		case 4:
			l.Cost = nil
		case 5:
			l.Cols[0] = tell.Vec("1@0 2@9 -1@-3")
		case 6:
			l.N = 3
		}
		all = append(all, l)
	}
	uses := []api.Use{{Col: math.MaxInt}, {Col: 2, Upper: true}, {Col: math.MinInt}}
	for _, l := range all {
		for _, basis := range [][]int{nil, {0}, {-1}, {math.MaxInt}, {math.MinInt}, {2}, {0, 0}, {0, 1}} {
			for _, status := range []string{"", "bhh", "bhl", "hhb", "h", "bhhhhhh", "bff"} {
				for _, whole := range [][]bool{nil, {true}, {true, true}, {true, true, true, true}} {
					s, _ := gmi.Cut(l, whole, basis, tell.Status(status), 0)
					gmi.Sides(l, s)
				}
			}
		}
		for i := range uses {
			gmi.Sides(l, api.SplitCut{LowUses: uses[i:], HighUses: uses})
			gmi.Sides(l, api.SplitCut{Low: tell.Cons("1@0 <= 1"), LowUses: uses[i : i+1], HighUses: uses[:i]})
		}
	}
}
