package derive_test

import (
	"math"
	"testing"

	"cutwater/api"
	"cutwater/cons"
	"cutwater/derive"
	"cutwater/dual"
	"cutwater/rat"
	"cutwater/shape"
	"cutwater/tell"
)

// told tells what a call answered: the constraint, if it is OK.
func told(c api.Cons, e api.Errno) string {
	if e != api.OK {
		if c.Sense != 0 || len(c.Terms) > 0 || len(c.Rhs.Den) > 0 {
			return "more than " + e.Error()
		}
		return e.Error()
	}
	return tell.OfCons(c)
}

// wide is a linear problem with columns of all kinds: two variables with both bounds and with one, one with none, one that is in no row, and rows with both, one, or no bounds, one of which has no variables.
func wide() api.LP {
	return tell.LP("0 4 -1 2@0 1/2@1; - 7 3 -3@0 1@3; -1/3 - 0 -1@1; - - 0 5@0; 1 1 0;", "- 3; 1 2; 0 0; - -;")
}

// Example 1.
func TestExample(t *testing.T) {
	l := tell.LP("0 4 -1 2@0;", "- 3;")
	basis, status, _ := shape.Start(l)
	a, _ := dual.Solve(l, basis, status, api.LPOptions{Most: -1})
	uses := derive.Best(l, a.D)
	if got, want := tell.OfUses(uses), "-1/2@1h"; got != want {
		t.Errorf("%s, not %s", got, want)
	}
	if got, want := told(derive.Sum(l, uses, api.AtLeast)), "-1@0 >= -3/2"; got != want {
		t.Errorf("%s, not %s", got, want)
	}
	if got, want := told(derive.Sum(l, uses, api.AtMost)), api.ErrRule.Error(); got != want {
		t.Errorf("%s, not %s", got, want)
	}
}

// P15.1
func TestBound(t *testing.T) {
	const none = "none"
	for _, c := range []struct {
		col    int
		lo, hi string
	}{
		{0, "1@0 >= 0", "1@0 <= 4"}, {1, none, "1@1 <= 7"}, {2, "1@2 >= -1/3", none}, {3, none, none}, {4, "1@4 >= 1", "1@4 <= 1"},
		{5, none, "2@0 -3@1 5@3 <= 3"}, {6, "1/2@0 -1@2 >= 1", "1/2@0 -1@2 <= 2"}, {7, ">= 0", "<= 0"}, {8, none, none},
		{9, none, none}, {-1, none, none}, {math.MaxInt, none, none}, {math.MinInt, none, none},
	} {
		for _, upper := range []bool{false, true} {
			want := c.lo
			if upper {
				want = c.hi
			}
			if want == none {
				want = api.ErrArg.Error()
			}
			if got := told(derive.Bound(wide(), c.col, upper)); got != want {
				t.Errorf("%d, %v: %s, not %s", c.col, upper, got, want)
			}
		}
	}
	if got := told(derive.Bound(api.LP{}, 0, false)); got != api.ErrArg.Error() {
		t.Errorf("without columns: %s", got)
	}
}

// P15.2
func TestSum(t *testing.T) {
	for _, c := range []struct {
		uses  string
		sense int
		want  string
	}{
		{"", api.AtMost, "<= 0"}, {"", api.AtLeast, ">= 0"}, {"", api.Equal, "= 0"}, {"", 0, "errno 2"}, {"", 4, "errno 2"}, {"1@0l", -1, "errno 2"},
		{"1/2@6h -1@2l", api.AtMost, "1/4@0 -3/2@2 <= 4/3"}, {"2@5h 1/3@1h -10@4l", api.AtMost, "4@0 -17/3@1 10@3 -10@4 <= -5/3"},
		{"-1/2@5h 1@0l", api.AtLeast, "3/2@1 -5/2@3 >= -3/2"}, {"1@7l -1@7h", api.AtLeast, ">= 0"}, {"1@0l 1@0l -2@0h", api.AtLeast, ">= -8"},
		{"1@0l -2@7h", api.AtMost, "errno 241"}, {"-1@0l 2@7h", api.AtLeast, "errno 241"}, {"0@0h 1@2l", api.AtLeast, "1@2 >= -1/3"}, {"0@0h 0@2l", api.AtMost, "<= 0"}, {"0@0h", api.Equal, "= 0"}, {"1@4l", api.Equal, "errno 241"},
		{"1@1l", api.AtMost, "errno 2"}, {"0@1l", api.AtMost, "errno 2"}, {"-1@0h 1@3h", api.AtMost, "errno 2"}, {"-1@0h 1@9h", api.AtMost, "errno 2"}, {"1@-1l", api.AtLeast, "errno 2"}, {"-1@0h 0@8l", api.AtMost, "errno 2"},
	} {
		if got := told(derive.Sum(wide(), tell.Uses(c.uses), c.sense)); got != c.want {
			t.Errorf("%s, %d: %s, not %s", c.uses, c.sense, got, c.want)
		}
	}
}

// P15.3
func TestBest(t *testing.T) {
	for d, want := range map[string]string{
		"0 0 0 0 0 0 0 0 0": "", "1/2 0 -1 0 0 0 0 0 0": "1/2@0l -1@2h", "-3 1 1 7 -1/9 2 -2 0 1": "-3@0h 1@1l 1@2l 7@3l -1/9@4h 2@5l -2@6h 1@8l",
		"": "", "1": "", "1 1 1 1 1 1 1 1": "", "1 1 1 1 1 1 1 1 1 1": "",
	} {
		if got := tell.OfUses(derive.Best(wide(), tell.Rats(d))); got != want {
			t.Errorf("%s: %s, not %s", d, got, want)
		}
	}
}

// P15.4
func TestNone(t *testing.T) {
	const row = "-3 1 0 7 -1/9 2 -2 0 1"
	for _, c := range []struct {
		col            int
		up             bool
		row, status, w string
	}{
		{1, true, row, "lbhfhlbhb", "1@1l -3@0h 7@3l -1/9@4h 2@5l"}, {1, false, row, "lbhfhlbhb", "-1@1h 3@0l -7@3h 1/9@4l -2@5h"},
		{1, true, row, "bbbbbbbbb", "1@1l"}, {1, false, row, "bbbbbbbbb", "-1@1h"}, {8, true, row, "lllllllll", "1@8l -3@0h 1@1l 7@3l -1/9@4h 2@5l -2@6h 1@8l"},
		{8, false, row, "?????????", "-1@8h 3@0l -1@1h -7@3h 1/9@4l -2@5h 2@6l -1@8h"}, {0, true, "0 0 0 0 0 0 0 0 0", "lllllllll", "1@0l"},
		{-1, true, row, "lbhfhlbhb", ""}, {9, true, row, "lbhfhlbhb", ""}, {math.MaxInt, false, row, "lbhfhlbhb", ""}, {math.MinInt, false, row, "lbhfhlbhb", ""},
		{0, true, row + " 1", "lbhfhlbhb", ""}, {0, true, "1", "lbhfhlbhb", ""}, {0, true, "", "lbhfhlbhb", ""}, {0, true, row, "lbhfhlbhbl", ""}, {0, true, row, "lbhfhlbh", ""}, {0, true, row, "", ""},
	} {
		a := api.LPAnswer{State: api.LPNone, Col: c.col, Up: c.up, Row: tell.Rats(c.row), Status: tell.Status(c.status)}
		if got := tell.OfUses(derive.None(wide(), a)); got != c.w {
			t.Errorf("%d, %v, %s, %s: %s, not %s", c.col, c.up, c.row, c.status, got, c.w)
		}
	}
}

// P15.3, P15.4: what stands in any form is answered in its one form.
func TestForms(t *testing.T) {
	odd := api.Rat{Num: api.Int{Neg: true, Abs: []uint64{6, 0}}, Den: []uint64{4, 0, 0}}
	zero := api.Rat{Num: api.Int{Neg: true, Abs: []uint64{0}}}
	l := tell.LP("0 4 -1 2@0; 0 4 -1 2@0;", "- 3;")
	for _, list := range [][]api.Rat{{odd, zero, odd}, {odd, {}, rat.Form(odd)}} {
		if got, want := tell.OfUses(derive.Best(l, list)), "-3/2@0h -3/2@2h"; got != want {
			t.Errorf("%s, not %s", got, want)
		}
		a := api.LPAnswer{State: api.LPNone, Col: 1, Row: list, Status: tell.Status("lbl")}
		if got, want := tell.OfUses(derive.None(l, a)), "-1@1h 3/2@0l 3/2@2l"; got != want {
			t.Errorf("%s, not %s", got, want)
		}
	}
	if got := told(derive.Sum(l, []api.Use{{Col: 2, Upper: true, Often: odd}}, api.AtLeast)); got != "-3@0 -3@1 >= -9/2" {
		t.Errorf("%s", got)
	}
}

// P15.1, P15.4: two classical proofs: bounds that cross, and a row that can't be what it must.
func TestFalse(t *testing.T) {
	for _, c := range []struct{ vars, rows, uses string }{
		{"3 2 0;", "", "1@0l -1@0h"}, {"0 1 0 1@0; 0 1 0 1@0;", "3 -;", "1@2l -1@0h -1@1h"}, {"0 1 0 2@0; 0 1 0 -2@0;", "3 3;", "1@2l -2@0h 2@1l"},
	} {
		l := tell.LP(c.vars, c.rows)
		sum, e := derive.Sum(l, tell.Uses(c.uses), api.AtLeast)
		if e != api.OK || !cons.False(sum) {
			t.Errorf("%s: %s", c.uses, told(sum, e))
		}
	}
}

// Linear problems that aren't right, and lists of any length: nothing is promised but an end.
func TestWrong(t *testing.T) {
	right := wide()
	var all []api.LP
	for _, n := range []int{-1, 3, 9, 10, math.MaxInt, math.MinInt} {
		l := wide()
		l.N = n
		all = append(all, l, api.LP{N: n})
	}
	all = append(all, api.LP{N: 5, HasLo: right.HasLo, HasHi: right.HasHi}, api.LP{N: 5, Cols: right.Cols, HasLo: right.HasLo}, api.LP{Cols: right.Cols, HasHi: right.HasHi[:6], Hi: right.Hi[:1]}, api.LP{N: 7, HasLo: right.HasLo, Cols: right.Cols[:5]})
	for _, l := range all {
		for _, col := range []int{-1, 0, 1, 4, 5, 8, 9, math.MaxInt, math.MinInt} {
			for _, upper := range []bool{false, true} {
				derive.Bound(l, col, upper)
				derive.Sum(l, []api.Use{{Col: col, Upper: upper}, {Col: col, Often: tell.Rat("1")}}, api.AtLeast)
				derive.None(l, api.LPAnswer{Col: col, Up: upper, Row: make([]api.Rat, len(l.Cols)), Status: make([]int, len(l.Cols))})
			}
		}
		derive.Best(l, make([]api.Rat, len(l.Cols)))
	}
}
