package dual_test

import (
	"math"
	"slices"
	"strconv"
	"testing"

	"cutwater/api"
	"cutwater/dual"
	"cutwater/mps"
	"cutwater/shape"
	"cutwater/tell"
)

// Example 1, from its text.
func TestExample(t *testing.T) {
	p, _, _ := mps.Parse("NAME\nROWS\n N cost\n L r1\nCOLUMNS\n x cost -1 r1 2\nRHS\n RHS r1 3\nBOUNDS\n UP B x 4\nENDATA\n")
	l := shape.Make(p)
	basis, status, _ := shape.Start(l)
	for _, o := range []api.LPOptions{{Most: -1}, {First: true, Most: 1}, {Most: math.MaxInt}, {Most: math.MinInt}} {
		a, e := dual.Solve(l, basis, status, o)
		if got, want := ofAnswer(a), "best 1 [0] bh X 3/2 3 D 0 -1/2 Y -1/2"; e != api.OK || got != want {
			t.Errorf("%v: %s, %v, not %s", o, got, e, want)
		}
	}
	if a, e := dual.Solve(l, basis, status, api.LPOptions{}); e != api.OK || ofAnswer(a) != "tired 0 [1] hb" || !onlyState(a) {
		t.Errorf("without pivots: %s, %v", ofAnswer(a), e)
	}
}

// P14.1, P14.2, P14.3: linear problems whose answers can be told by hand; pivots: how many there must be at least, and are at most allowed.
func TestAnswers(t *testing.T) {
	for _, c := range []struct {
		vars, rows string
		basis      []int
		status     string
		want       string // the numbers, or the column that doesn't reach its bound, and whether that is its Lo
		pivots     int
	}{
		{"0 3 -3 2@0; 0 2 -2 1@0;", "- 7;", []int{2}, "hhb", "5/2 2 7", 1}, // a column falls from its Hi
		{"0 4 1 2@0; 0 - 3 1@0;", "20 -;", []int{2}, "llb", "4 12 20", 1},  // one goes by where it has both bounds
		{"0 4 1 2@0; 0 1 1 2@0; 0 1 3 1@0;", "9 -;", []int{3}, "lllb", "4 1/2 0 9", 1},
		{"0 4 0 2@0; - - 0 1@0;", "5 6;", []int{2}, "lfb", "0 5 5", 1}, {"0 4 3 2@0; - - 0 -1@0;", "- -6;", []int{2}, "lfb", "0 6 -6", 1}, // a free column enters
		{"- - 1 1@0;", "2 -;", []int{0}, "bl", "2 2", 0}, {"- - 1 1@0 1@1;", "2 -; 5/2 7;", []int{0, 2}, "blb", "5/2 5/2 5/2", 1}, {"- - -1 1@0;", "- 2;", []int{0}, "bh", "2 2", 0},
		{"0 4 0 2@0;", "9 9;", []int{1}, "lb", "1 Lo", 0}, {"0 4 0 2@0;", "- -1;", []int{1}, "lb", "1 Hi", 0}, {"0 4 0 2@0;", "9 9;", []int{1}, "hb", "1 Lo", 0}, {"0 4 0 2@0;", "3 3;", []int{1}, "hb", "3/2 3", 1},
		{"0 4 1 2@0; 0 1 1 2@0; 0 1 3 1@0;", "12 -;", []int{3}, "lllb", "3 Lo", 0}, {"0 4 1 2@0; 0 1 1 2@0; 0 1 3 1@0;", "11 -;", []int{3}, "lllb", "4 1 1 11", 1},
		{"3 3 -1 1@0; 0 1 0 1@0;", "- 2;", []int{2}, "llb", "2 Hi", 0}, {"3 3 -1 1@0; 0 1 0 1@0;", "- 4;", []int{2}, "hlb", "3 0 3", 0}, {"3 3 -1 1@0; -9 1 -1 1@0;", "- 2;", []int{2}, "lhb", "3 -1 2", 1}, // a fixed column may cost what it will
		{"0 1 1; 2 3 -1; 1 1 5; 1 1 -5; - - 0; 0 - 0;", "", nil, "lhhlfl", "0 3 1 1 0 0", 0}, {"", "", nil, "", "", 0}, {"", "- -; 0 0; -1 1;", []int{2, 0, 1}, "bbb", "0 0 0", 0},
		{"", "1 2;", []int{0}, "b", "0 Lo", 0}, {"", "- -1/2;", []int{0}, "b", "0 Hi", 0},
		{"0 10 -100000000000000000000 1/3@0 3@1;", "- 1/7; - 100000000000000000000;", []int{2, 1}, "hbb", "3/7 1/7 9/7", 1},
	} {
		l := tell.LP(c.vars, c.rows)
		for _, first := range []bool{false, true} {
			a, e := dual.Solve(l, c.basis, tell.Status(c.status), api.LPOptions{Most: -1, First: first})
			got := tell.OfRats(a.X)
			if a.State == api.LPNone {
				got = strconv.Itoa(a.Col) + map[bool]string{true: " Lo", false: " Hi"}[a.Up]
			}
			if e != api.OK || got != c.want || a.Pivots != c.pivots || !onlyState(a) {
				t.Errorf("%s | %s: %s, %v, not %s", c.vars, c.rows, ofAnswer(a), e, c.want)
			}
			if a.State == api.LPBest && !provesBest(l, a) || a.State == api.LPNone && !provesNone(l, a) || a.State == api.LPTired {
				t.Errorf("%s | %s: %s proves nothing", c.vars, c.rows, ofAnswer(a))
			}
		}
	}
}

// P14.1: the errors, and which of several comes first.
func TestErrors(t *testing.T) {
	half := tell.LP("0 4 -1 2@0;", "- 3;")
	half.Cost[0] = api.Rat{Num: api.Int{Abs: []uint64{2}}, Den: []uint64{4}}
	for what, c := range map[string]struct {
		l      api.LP
		basis  []int
		status string
		want   api.Errno
	}{
		"N":                                {api.LP{N: -1}, nil, "", api.ErrArg},
		"a cost's form":                    {half, []int{1}, "lb", api.ErrArg},
		"a status too many":                {tell.LP("0 4 -1 2@0;", "- 3;"), []int{1}, "hbb", api.ErrArg},
		"no basis":                         {tell.LP("0 4 -1 2@0;", "- 3;"), nil, "hb", api.ErrArg},
		"a column without a Lo":            {tell.LP("- 4 -1 2@0;", "- 3;"), []int{1}, "lb", api.ErrArg},
		"crossed, and a wrong status":      {tell.LP("5 4 -1 2@0;", "- 3;"), []int{1}, "bb", api.ErrArg},
		"a basis that depends":             {tell.LP("0 1 0 1@0; 0 1 0 2@0;", "- 3; - 3;"), []int{0, 1}, "bbhh", api.ErrSingular},
		"crossed, and a basis so":          {tell.LP("0 1 0 1@0; 0 1 0 2@0; 2 1 0;", "- 3; - 3;"), []int{0, 1}, "bblhh", api.ErrSingular},
		"crossed":                          {tell.LP("5 4 1 2@0;", "- 3;"), []int{1}, "lb", api.ErrBounds},
		"crossed by a little":              {tell.LP("1/3 33/100 1 2@0;", "- 3;"), []int{1}, "lb", api.ErrBounds},
		"a row crossed":                    {tell.LP("0 4 1 2@0;", "3 2;"), []int{1}, "lb", api.ErrBounds},
		"a row crossed that isn't in":      {tell.LP("0 4 0 2@0;", "3 2;"), []int{0}, "bh", api.ErrBounds},
		"a row's Lo above 0, no Hi":        {tell.LP("0 4 1 2@0;", "3 -;"), []int{1}, "lb", api.OK},
		"a row's Hi below 0, no Lo":        {tell.LP("0 4 1 2@0;", "- -3;"), []int{1}, "lb", api.OK},
		"crossed, and reduced costs wrong": {tell.LP("5 4 -1 2@0;", "- 3;"), []int{1}, "lb", api.ErrBounds},
		"at Lo, below 0":                   {tell.LP("0 4 -1 2@0;", "- 3;"), []int{1}, "lb", api.ErrRule},
		"at Hi, above 0":                   {tell.LP("0 4 1/9 2@0;", "- 3;"), []int{1}, "hb", api.ErrRule},
		"free, above 0":                    {tell.LP("- - 1 2@0;", "- 3;"), []int{1}, "fb", api.ErrRule},
		"free, below 0":                    {tell.LP("0 4 1; - - -1 2@0;", "- 3;"), []int{2}, "lfb", api.ErrRule},
		"a row's, at Lo, below 0":          {tell.LP("0 4 -1 2@0;", "1 3;"), []int{0}, "bl", api.ErrRule},
		"a row's, at Hi, below 0":          {tell.LP("0 4 -1 2@0;", "1 3;"), []int{0}, "bh", api.OK},
		"fixed, below 0":                   {tell.LP("4 4 -1 2@0;", "- 3;"), []int{1}, "lb", api.OK},
		"fixed, above 0":                   {tell.LP("4 4 1 2@0;", "- 3;"), []int{1}, "hb", api.OK},
		"right":                            {tell.LP("0 4 -1 2@0;", "- 3;"), []int{1}, "hb", api.OK},
		"nothing":                          {api.LP{}, nil, "", api.OK},
	} {
		for _, o := range []api.LPOptions{{}, {Most: -1}, {First: true, Most: 7}} {
			a, e := dual.Solve(c.l, c.basis, tell.Status(c.status), o)
			if e != c.want {
				t.Errorf("%s: %v, not %v", what, e, c.want)
			}
			if empty := a.State == 0 && len(a.Basis)+len(a.Status) == 0 && a.Pivots == 0 && onlyState(a); empty != (c.want != api.OK) {
				t.Errorf("%s: %s", what, ofAnswer(a))
			}
		}
	}
}

// P14.5: the column that leaves: the first one that lacks, or the one that lacks most.
func TestFirst(t *testing.T) {
	l := tell.LP("0 9 1 1@0; 0 9 1 1@1; 0 9 1 1@2;", "1 9; 5 9; 3 9;")
	basis, status := []int{5, 4, 3}, tell.Status("lllbbb")
	for _, c := range []struct {
		first bool
		most  int
		want  []int
	}{{true, 0, []int{5, 4, 3}}, {true, 1, []int{5, 4, 0}}, {true, 2, []int{5, 1, 0}}, {true, 3, []int{2, 1, 0}}, {false, 0, []int{5, 4, 3}}, {false, 1, []int{5, 1, 3}}, {false, 2, []int{2, 1, 3}}, {false, 3, []int{2, 1, 0}}} {
		a, e := dual.Solve(l, basis, status, api.LPOptions{First: c.first, Most: c.most})
		if e != api.OK || !slices.Equal(a.Basis, c.want) || a.Pivots != c.most || (a.State == api.LPTired) != (c.most < 3) {
			t.Errorf("%v, %d: %s, %v", c.first, c.most, ofAnswer(a), e)
		}
	}
}

// P14.5: what was given stays as it was, and an answer outlives what it came of.
func TestOwnMemory(t *testing.T) {
	vars, rows := "0 3 -3 2@0 1@1; 0 2 -2 1@0;", "- 7; 1 5/2;"
	l, basis, status := tell.LP(vars, rows), []int{2, 3}, tell.Status("hhbb")
	before := tell.OfLP(l)
	one, _ := dual.Solve(l, basis, status, api.LPOptions{Most: -1})
	two, _ := dual.Solve(l, basis, status, api.LPOptions{Most: -1})
	if tell.OfLP(l) != before || !slices.Equal(basis, []int{2, 3}) || tell.OfStatus(status) != "hhbb" {
		t.Errorf("changed: %s, %v, %s", tell.OfLP(l), basis, tell.OfStatus(status))
	}
	want := ofAnswer(two)
	over := func(list []api.Rat) {
		for _, a := range list {
			for _, words := range [][]uint64{a.Num.Abs, a.Den} {
				for i := range words {
					words[i] = 99
				}
			}
		}
	}
	for _, list := range [][]api.Rat{one.X, one.D, one.Y, l.Lo, l.Hi, l.Cost} {
		over(list)
	}
	one.Basis[0], one.Status[0], basis[0], status[0] = 9, 9, 9, 9
	if got := ofAnswer(two); got != want || two.State != api.LPBest {
		t.Errorf("%s became %s", want, got)
	}
}
