package ratio_test

import (
	"math"
	"slices"
	"testing"

	"cutwater/api"
	"cutwater/ratio"
	"cutwater/tell"
)

// columns gives a linear problem of columns with these bounds; the last one is a row's.
func columns(bounds string) api.LP {
	l := tell.LP("", bounds)
	l.N = max(0, len(l.Cols)-1)
	return l
}

// P13.1
func TestLeave(t *testing.T) {
	bounds := "0 4; - 3; 1 -; - -; 2 2; 5 1;"
	for _, c := range []struct {
		basis     []int
		x         string
		place     int
		up, found bool
		first     int // the place with first
	}{
		{nil, "9 9 9 9 9 9", 0, false, false, 0}, {[]int{0}, "4 9 9 9 9 9", 0, false, false, 0}, {[]int{0}, "0 9 9 9 9 9", 0, false, false, 0}, {[]int{0, 1, 2, 3}, "2 3 1 9 9 9", 0, false, false, 0},
		{[]int{0}, "9/2 9 9 9 9 9", 0, false, true, 0}, {[]int{0}, "-1/9 9 9 9 9 9", 0, true, true, 0}, {[]int{3}, "0 0 0 -100 0 0", 0, false, false, 0}, {[]int{1}, "0 -100 0 0 0 0", 0, false, false, 0}, {[]int{2}, "0 0 100 0 0 0", 0, false, false, 0}, {[]int{3, 2}, "0 0 1/2 0 0 0", 1, true, true, 1}, {[]int{3, 1}, "0 7/2 0 0 0 0", 1, false, true, 1},
		{[]int{0, 1, 2}, "5 5 2 0 0 0", 1, false, true, 0}, {[]int{1, 0, 2}, "5 4 2 0 0 0", 1, false, true, 1}, {[]int{2, 1, 0}, "-1 4 0 0 0 0", 2, true, true, 2}, {[]int{2, 0, 1}, "6 4 -3 0 0 0", 0, true, true, 1}, {[]int{1, 2, 0}, "0 6 -2 0 0 0", 0, false, true, 0}, {[]int{2, 1, 0}, "0 6 -2 0 0 0", 1, false, true, 1},
		{[]int{4}, "0 0 0 0 3 0", 0, false, true, 0}, {[]int{4}, "0 0 0 0 1 0", 0, true, true, 0}, {[]int{4}, "0 0 0 0 2 0", 0, false, false, 0}, {[]int{5}, "0 0 0 0 0 3", 0, true, true, 0}, {[]int{5}, "0 0 0 0 0 9", 0, false, true, 0}, {[]int{5}, "0 0 0 0 0 5", 0, false, true, 0},
		{[]int{5, 4}, "0 0 0 0 7 3", 1, false, true, 1}, {[]int{0, 5}, "13/3 0 0 0 0 4", 1, true, true, 0}, {[]int{1, 0}, "100000000000000000000 100000000000000000000 0 0 0 0", 0, false, true, 1},
	} {
		l := columns(bounds)
		place, up, found := ratio.Leave(l, c.basis, tell.Rats(c.x), false)
		if place != c.place || up != c.up || found != c.found {
			t.Errorf("Leave(%v, %s) = %d, %v, %v", c.basis, c.x, place, up, found)
		}
		if place, _, found := ratio.Leave(l, c.basis, tell.Rats(c.x), true); place != c.first || found != c.found {
			t.Errorf("Leave(%v, %s, first) = %d, %v", c.basis, c.x, place, found)
		}
	}
	if place, up, found := ratio.Leave(columns(bounds), []int{2, 0, 1}, tell.Rats("6 4 -3 0 0 0"), true); place != 1 || up || !found {
		t.Errorf("the first: %d, %v, %v", place, up, found)
	}
}

// P13.2: which column enters, without flips; the letters tell how the columns stand.
func TestMayEnter(t *testing.T) {
	for _, c := range []struct {
		bounds, status, d, row string
		up, down               int // the column that enters, with Up and without; -1: none
	}{
		{"- -; 0 1;", "bl", "0 1", "1 -1", 1, -1}, {"- -; 0 1;", "bl", "0 1", "1 1", -1, 1}, {"- -; 0 1;", "bh", "0 -1", "1 1", 1, -1}, {"- -; 0 1;", "bh", "0 -1", "1 -1", -1, 1}, {"- -; - -;", "bf", "0 0", "1 1", 1, 1}, {"- -; - -;", "bf", "0 0", "1 -1", 1, 1}, {"- -; - -;", "bf", "0 0", "1 0", -1, -1}, {"- -; 0 1;", "bl", "0 1", "1 0", -1, -1}, {"- -; 0 1;", "bh", "0 0", "1 0", -1, -1},
		{"0 1; 0 1;", "bb", "0 0", "1 -1", -1, -1}, {"- -; 1 1;", "bl", "0 1", "1 -1", -1, -1}, {"- -; 1 1;", "bl", "0 1", "1 1", -1, -1}, {"- -; 1 1;", "bh", "0 1", "1 1", -1, -1}, {"- -; 1 -;", "bl", "0 1", "1 -1/9", 1, -1}, {"- -; - 1;", "bh", "0 -1", "1 -1/9", -1, 1}, {"- -; 0 -;", "bl", "0 1", "1 -1", 1, -1}, {"- -; - 0;", "bh", "0 -1", "1 1", 1, -1},
		{"0 1; 0 1; 0 1; 0 1;", "llll", "3 2 1 4", "-1 -1 -1 -1", 2, -1}, {"0 1; 0 1; 0 1; 0 1;", "llll", "3 2 1 4", "-4 -1 -1 -8", 3, -1}, {"0 1; 0 1; 0 1; 0 1;", "lhlh", "3 -2 1 -4", "4 -4 1 -4", -1, 1}, {"0 1; 0 1; 0 1;", "lll", "1 2 3", "-2 -4 -6", 0, -1}, {"0 1; 0 1; 0 1;", "hll", "-1 2 3", "-2 -4 -6", 1, 0}, {"0 1; 0 1; - -;", "hlf", "-1 2 0", "2 -4 6", 2, 2}, {"0 1; 0 1; - -;", "hlf", "0 0 0", "2 -4 6", 0, 2}, {"0 1; 0 1; - -;", "hlf", "0 0 0", "-2 4 6", 2, 0},
		{"0 1; 0 1;", "lh", "1 -1", "-3 3", 0, -1}, {"0 1; 0 1;", "hl", "-1/3 1/2", "3 -5", 1, -1}, {"0 1; 0 1;", "ll", "100000000000000000001 100000000000000000000", "-1 -1", 1, -1}, {"", "", "", "", -1, -1}, {"3 1; 0 1;", "ll", "0 1", "-1 -1", 0, -1},
	} {
		for _, up := range []bool{true, false} {
			want := c.down
			if up {
				want = c.up
			}
			col, flips, found := ratio.Enter(columns(c.bounds), tell.Status(c.status), tell.Rats(c.d), tell.Rats(c.row), ratio.Turn{Up: up, Short: tell.Rat("100")})
			if found != (want >= 0) || found && col != want || !found && col != 0 || len(flips) > 0 {
				t.Errorf("Enter(%s, %s, %s, %s, %v) = %d, %v, %v", c.bounds, c.status, c.d, c.row, up, col, flips, found)
			}
		}
	}
}

// P13.2: with flips.
func TestFlips(t *testing.T) {
	bounds := "0 1; 0 2; - 5; 0 1/2; 2 1; 1 4;" // the ratios: 1, 3, 5, 1/4, 2, 9/2
	status, d, row := "llhlll", "2 6 -5 1 4 9", "-2 -2 1 -4 -2 -2"
	for _, c := range []struct {
		short string
		col   int
		flips []int
	}{
		// the rest becomes less by 2 (column 3), 2 (0), -2 (4), 4 (1), 6 (5); column 2 lacks a bound
		{"1", 3, nil}, {"2", 3, nil}, {"17/8", 0, []int{3}}, {"4", 0, []int{3}}, {"5", 1, []int{3, 0, 4}}, {"6", 1, []int{3, 0, 4}}, {"13/2", 5, []int{3, 0, 4, 1}}, {"12", 5, []int{3, 0, 4, 1}}, {"100", 2, []int{3, 0, 4, 1, 5}}, {"0", 3, nil}, {"-1", 3, nil},
	} {
		turn := ratio.Turn{Up: true, Short: tell.Rat(c.short), Flip: true}
		col, flips, found := ratio.Enter(columns(bounds), tell.Status(status), tell.Rats(d), tell.Rats(row), turn)
		if col != c.col || !slices.Equal(flips, c.flips) || !found {
			t.Errorf("Enter(%s) = %d, %v, %v", c.short, col, flips, found)
		}
		turn.Flip = false
		if col, flips, found := ratio.Enter(columns(bounds), tell.Status(status), tell.Rats(d), tell.Rats(row), turn); col != 3 || len(flips) > 0 || !found {
			t.Errorf("Enter(%s) without flips = %d, %v, %v", c.short, col, flips, found)
		}
	}
	for _, c := range []struct {
		bounds, status, d, row string
		short                  string
		col                    int
		flips                  []int
		found                  bool
	}{
		{"0 1; 0 1;", "ll", "1 2", "-1 -1", "3", 0, nil, false}, {"0 1; 0 1;", "ll", "1 2", "-1 -1", "2", 1, []int{0}, true}, {"0 1; 0 -;", "ll", "1 2", "-1 -1", "3", 1, []int{0}, true}, {"0 -; 0 1;", "ll", "1 2", "-1 -1", "3", 0, nil, true}, {"- -; 0 1;", "fl", "0 2", "7 -1", "3", 0, nil, true}, {"0 1; 1 1; 0 1;", "lll", "1 2 3", "-1 -1 -1", "2", 2, []int{0}, true}, {"0 1; 0 1; 0 1;", "lll", "1 1 1", "-1 -1 -1", "5/2", 2, []int{0, 1}, true}, {"", "", "", "", "1", 0, nil, false},
	} {
		col, flips, found := ratio.Enter(columns(c.bounds), tell.Status(c.status), tell.Rats(c.d), tell.Rats(c.row), ratio.Turn{Up: true, Short: tell.Rat(c.short), Flip: true})
		if col != c.col || !slices.Equal(flips, c.flips) || found != c.found {
			t.Errorf("Enter(%s, %s) = %d, %v, %v", c.bounds, c.short, col, flips, found)
		}
	}
}

// P13.3
func TestFeasible(t *testing.T) {
	for _, c := range []struct {
		bounds, status, d string
		want              bool
	}{
		{"0 1;", "b", "0", true}, {"0 1;", "b", "1", false}, {"0 1;", "b", "-1/9", false}, {"1 1;", "b", "1", false}, {"- -;", "f", "0", true}, {"- -;", "f", "1/9", false}, {"- -;", "f", "-1", false},
		{"0 1;", "l", "0", true}, {"0 1;", "l", "1", true}, {"0 1;", "l", "-1/9", false}, {"0 -;", "l", "-1", false}, {"0 -;", "l", "1", true}, {"1 1;", "l", "-1", true}, {"1 1;", "l", "1", true}, {"1 0;", "l", "-1", false},
		{"0 1;", "h", "0", true}, {"0 1;", "h", "-1", true}, {"0 1;", "h", "1/9", false}, {"- 1;", "h", "1", false}, {"- 1;", "h", "-1", true}, {"1 1;", "h", "1", true}, {"1 1;", "h", "-1", true}, {"1 0;", "h", "1", false}, {"0 -;", "l", "-1/3", false}, {"- 0;", "h", "1/3", false},
		{"", "", "", true}, {"0 1; 0 1; - -; 0 1;", "lhfb", "1 -1 0 0", true}, {"0 1; 0 1; - -; 0 1;", "lhfb", "1 -1 0 1", false}, {"0 1; 0 1; - -; 0 1;", "lhfb", "1 1 0 0", false}, {"0 1; 0 1; - -; 0 1;", "lhfb", "-1 -1 0 0", false},
	} {
		if got := ratio.Feasible(columns(c.bounds), tell.Status(c.status), tell.Rats(c.d)); got != c.want {
			t.Errorf("Feasible(%s, %s, %s) = %v", c.bounds, c.status, c.d, got)
		}
	}
}

// Linear problems and lists of any kind end nothing.
func TestAnything(t *testing.T) {
	cut := columns("0 1; 0 1; - 1; 0 1;")
	cut.HasLo, cut.Hi, cut.N = cut.HasLo[:1], cut.Hi[:2], math.MinInt
	for _, l := range []api.LP{{}, {N: -1}, {N: math.MaxInt}, {Cols: make([][]api.Term, 3)}, cut, columns("0 1; 2 1; - -;")} {
		for _, list := range [][]int{nil, {0}, {-1, 7}, {math.MaxInt, math.MinInt}, {1, 2, 3, 4, 5, 6}, {2, 2, 2, 2}} {
			for _, x := range [][]api.Rat{nil, {{}}, tell.Rats("1 2 3 -9 0 1 1"), make([]api.Rat, 5)} {
				ratio.Leave(l, list, x, len(x) > 3)
				ratio.Feasible(l, list, x)
				for _, turn := range []ratio.Turn{{}, {Up: true}, {Flip: true, Short: tell.Rat("5")}} {
					ratio.Enter(l, list, x, x, turn)
					ratio.Enter(l, list, nil, x, turn)
					ratio.Enter(l, nil, x, nil, turn)
				}
			}
		}
	}
}

// Example 1.
func TestExample(t *testing.T) {
	l := tell.LP("0 4 -1 2@0;", "- 3;")
	place, up, found := ratio.Leave(l, []int{1}, tell.Rats("4 8"), false)
	col, flips, enters := ratio.Enter(l, tell.Status("hb"), tell.Rats("-1 0"), tell.Rats("-2 1"), ratio.Turn{Up: up, Short: tell.Rat("5")})
	if place != 0 || up || !found || col != 0 || len(flips) > 0 || !enters {
		t.Errorf("%d, %v, %v; %d, %v, %v", place, up, found, col, flips, enters)
	}
}
