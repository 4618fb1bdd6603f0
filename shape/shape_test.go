package shape_test

import (
	"math"
	"slices"
	"testing"

	"cutwater/api"
	"cutwater/mps"
	"cutwater/shape"
	"cutwater/tell"
)

// P12.1
func TestMake(t *testing.T) {
	for _, c := range []struct{ rows, vars, want string }{
		{"- 3 2@0;", "0 4 -1;", "0 4 -1 2@0; | - 3;"},
		{"", "", "|"}, {"", "0 4 -1 whole;", "0 4 -1; |"}, {"1 - ; - 2 ; 3 3;", "", "| 1 -; - 2; 3 3;"},
		{"1 7 2@0 -1/3@2; - 4 1@2; 5 5 1@0 1@1 1@2;", "0 4 -1 whole; - - 1/2; - 3 0 whole;", "0 4 -1 2@0 1@2; - - 1/2 1@2; - 3 0 -1/3@0 1@1 1@2; | 1 7; - 4; 5 5;"},
		{"- 3 100000000000000000000000@0;", "5 4 0; 1/3 1/3 0;", "5 4 0 100000000000000000000000@0; 1/3 1/3 0; | - 3;"},
	} {
		if got := tell.OfLP(shape.Make(tell.Problem(c.rows, c.vars))); got != c.want {
			t.Errorf("Make(%s, %s) = %s, not %s", c.rows, c.vars, got, c.want)
		}
	}
}

// P12.1: example 1, from its text.
func TestMakeOfText(t *testing.T) {
	p, e, line := mps.Parse("NAME\nROWS\n N cost\n L r1\nCOLUMNS\n x cost -1 r1 2\nRHS\n RHS r1 3\nBOUNDS\n UP B x 4\nENDATA\n")
	if e != api.OK || tell.OfLP(shape.Make(p)) != "0 4 -1 2@0; | - 3;" {
		t.Errorf("%v in line %d: %s", e, line, tell.OfLP(shape.Make(p)))
	}
	one, two := api.Rat{Num: api.Int{Abs: []uint64{1}}}, api.Rat{Num: api.Int{Abs: []uint64{2}}}
	odd := api.Problem{Vars: []api.Var{{Lo: one, Cost: two}}, Rows: []api.Row{{HasLo: true, Hi: two, Terms: append(tell.Vec("1@7 1@-2 3@0"), api.Term{Val: one})}, {}}}
	odd.Rows = append(odd.Rows, api.Row{Terms: tell.Vec("5@1 5@2 5@0")})
	if got, want := tell.OfLP(shape.Make(odd)), "- - 2 4@0 5@2; | 0 -; - -; - -;"; got != want {
		t.Errorf("Make of an odd problem: %s, not %s", got, want)
	}
}

// P12.2
func TestAddRow(t *testing.T) {
	for _, c := range []struct{ vars, rows, c, want string }{
		{"0 4 -1 2@0;", "- 3;", "1@0 <= 7", "0 4 -1 2@0 1@1; | - 3; - 7;"},
		{"0 4 -1 2@0;", "- 3;", "1@0 >= 7", "0 4 -1 2@0 1@1; | - 3; 7 -;"},
		{"0 4 -1 2@0;", "- 3;", "1@0 = -7/2", "0 4 -1 2@0 1@1; | - 3; -7/2 -7/2;"},
		{"", "", "<= 1", "| - 1;"}, {"", "", "1@4 -1@4 1@-1 0@9 = 0", "| 0 0;"},
		{"0 1 0; 0 1 0;", "", "3@1 1/2@0 1@0 -3@1 >= 0", "0 1 0 3/2@0; 0 1 0; | 0 -;"},
		{"0 1 0 1@0; 0 1 0 5@1; - - 1;", "1 -; 2 2;", "-1@2 1@0 1@9223372036854775807 -1@9223372036854775807 <= 4", "0 1 0 1@0 1@2; 0 1 0 5@1; - - 1 -1@2; | 1 -; 2 2; - 4;"},
	} {
		if got, e := shape.AddRow(tell.LP(c.vars, c.rows), tell.Cons(c.c)); e != api.OK || tell.OfLP(got) != c.want {
			t.Errorf("AddRow(%s | %s, %s) = %s, %v, not %s", c.vars, c.rows, c.c, tell.OfLP(got), e, c.want)
		}
	}
	for _, c := range []string{"1@3 <= 1", "1@0 1@4 >= 1", "1@9223372036854775807 = 1", "1@0 0 1", "1@0 4 1", "1@0 -1 1", "9223372036854775807 1", "-9223372036854775808 1"} {
		if got, e := shape.AddRow(good(), tell.Cons(c)); e != api.ErrArg || !isZero(got) {
			t.Errorf("AddRow of %s = %v, %v", c, got, e)
		}
	}
}

// P12.2
func TestSetBound(t *testing.T) {
	for _, c := range []struct {
		col   int
		upper bool
		v     string
		want  string
	}{
		{0, false, "1/2", "1/2 4 -1 2@0 1/2@1; - - 3; 1 - 0 -1@1; | - 3; 1 2;"}, {0, true, "-1/2", "0 -1/2 -1 2@0 1/2@1; - - 3; 1 - 0 -1@1; | - 3; 1 2;"},
		{1, false, "0", "0 4 -1 2@0 1/2@1; 0 - 3; 1 - 0 -1@1; | - 3; 1 2;"}, {2, true, "0", "0 4 -1 2@0 1/2@1; - - 3; 1 0 0 -1@1; | - 3; 1 2;"},
		{3, false, "5", "0 4 -1 2@0 1/2@1; - - 3; 1 - 0 -1@1; | 5 3; 1 2;"}, {4, true, "-100000000000000000000", "0 4 -1 2@0 1/2@1; - - 3; 1 - 0 -1@1; | - 3; 1 -100000000000000000000;"},
	} {
		if got, e := shape.SetBound(good(), c.col, c.upper, tell.Rat(c.v)); e != api.OK || tell.OfLP(got) != c.want {
			t.Errorf("SetBound(%d, %v, %s) = %s, %v, not %s", c.col, c.upper, c.v, tell.OfLP(got), e, c.want)
		}
	}
	if got, e := shape.SetBound(good(), 1, true, api.Rat{Num: api.Int{Neg: true, Abs: []uint64{6, 0}}, Den: []uint64{4}}); e != api.OK || tell.OfRat(got.Hi[1]) != "-3/2" {
		t.Errorf("of -6/4: %v, %v", tell.OfLP(got), e)
	}
	for _, col := range []int{-1, 5, 6, math.MaxInt, math.MinInt} {
		for _, upper := range []bool{false, true} {
			if got, e := shape.SetBound(good(), col, upper, tell.Rat("1")); e != api.ErrArg || !isZero(got) {
				t.Errorf("SetBound of %d = %v, %v", col, got, e)
			}
		}
	}
}

// P12.2, P12.3, P12.6: a linear problem that isn't right.
func TestWrong(t *testing.T) {
	for what, l := range wrong() {
		_, one := shape.AddRow(l, tell.Cons("<= 1"))
		_, two := shape.SetBound(l, 0, true, tell.Rat("1"))
		_, _, three := shape.Start(l)
		basis, status := []int{3, 4}, tell.Status("lflbb")
		four := shape.Check(l, basis, status)
		x, five := shape.Primal(l, basis, status)
		y, d, six := shape.Duals(l, basis, status)
		row, seven := shape.Tableau(l, basis, status, 0)
		if !slices.Equal([]api.Errno{one, two, three, four, five, six, seven}, slices.Repeat([]api.Errno{api.ErrArg}, 7)) || len(x)+len(y)+len(d)+len(row) > 0 {
			t.Errorf("%s: %v, %v, %v, %v, %v, %v, %v", what, one, two, three, four, five, six, seven)
		}
	}
}

// P12.3, and that the others have its error; P12.5: a place that isn't there is told behind it.
func TestCheck(t *testing.T) {
	twice := tell.LP("0 4 -1 2@0 1@1; - - 3 4@0 2@1; - 1 0;", "- 3; 1 2;")
	for _, c := range []struct {
		l      api.LP
		basis  []int
		status string
		want   api.Errno
	}{
		{good(), []int{3, 4}, "lflbb", api.OK}, {good(), []int{4, 3}, "hflbb", api.OK}, {good(), []int{0, 2}, "bfbhl", api.OK}, {good(), []int{0, 3}, "bflbh", api.OK}, {api.LP{}, nil, "", api.OK}, {tell.LP("0 1 0; 0 - 1;", ""), nil, "hl", api.OK}, {tell.LP("", "0 1;"), []int{0}, "b", api.OK},
		{good(), []int{3}, "lflbb", api.ErrArg}, {good(), []int{3, 4, 0}, "bflbb", api.ErrArg}, {good(), nil, "lflhl", api.ErrArg}, {good(), []int{3, 4}, "lflb", api.ErrArg}, {good(), []int{3, 4}, "lflbbb", api.ErrArg}, {good(), []int{3, 4}, "", api.ErrArg}, {api.LP{}, []int{0}, "", api.ErrArg}, {api.LP{}, nil, "b", api.ErrArg},
		{good(), []int{3, 3}, "lflbh", api.ErrArg}, {good(), []int{3, 3}, "lflbb", api.ErrArg}, {good(), []int{3, 5}, "lflbh", api.ErrArg}, {good(), []int{-1, 3}, "lflbh", api.ErrArg}, {good(), []int{3, 4}, "lflbh", api.ErrArg}, {good(), []int{3, 0}, "lflbh", api.ErrArg}, {good(), []int{3, 0}, "lflbb", api.ErrArg}, {good(), []int{math.MaxInt, math.MinInt}, "lflhh", api.ErrArg},
		{good(), []int{3, 4}, "fflbb", api.ErrArg}, {good(), []int{3, 4}, "lllbb", api.ErrArg}, {good(), []int{3, 4}, "lhlbb", api.ErrArg}, {good(), []int{3, 4}, "lfhbb", api.ErrArg}, {good(), []int{3, 4}, "lffbb", api.ErrArg}, {good(), []int{0, 4}, "bfllb", api.ErrArg}, {good(), []int{0, 4}, "bflfb", api.ErrArg}, {good(), []int{3, 4}, "?flbb", api.ErrArg},
		{good(), []int{1, 3}, "lblbh", api.ErrSingular}, {good(), []int{0, 1}, "bblhl", api.ErrSingular}, {good(), []int{2, 4}, "lfbhb", api.ErrSingular}, {twice, []int{1, 0}, "bbhhh", api.ErrSingular}, {twice, []int{0, 2}, "bfbhh", api.ErrSingular}, {twice, []int{0, 4}, "bfhhb", api.OK}, {twice, []int{2, 1}, "lbbhl", api.ErrSingular},
	} {
		status := tell.Status(c.status)
		x, one := shape.Primal(c.l, c.basis, status)
		y, d, two := shape.Duals(c.l, c.basis, status)
		if e := shape.Check(c.l, c.basis, status); e != c.want || one != c.want || two != c.want || c.want != api.OK && len(x)+len(y)+len(d) > 0 {
			t.Errorf("Check(%s, %v, %s) = %v, %v, %v, not %v", tell.OfLP(c.l), c.basis, c.status, e, one, two, c.want)
		}
		for _, place := range []int{-1, len(c.basis), len(c.basis) + 1, math.MaxInt, math.MinInt} {
			want := max(c.want, api.ErrArg)
			if row, e := shape.Tableau(c.l, c.basis, status, place); e != want || len(row) > 0 {
				t.Errorf("Tableau(%s, %v, %s, %d) = %v, %v, not %v", tell.OfLP(c.l), c.basis, c.status, place, row, e, want)
			}
		}
	}
	for _, stands := range []int{0, -1, 5, math.MaxInt, math.MinInt} {
		if e := shape.Check(good(), []int{3, 4}, []int{stands, api.Free, api.AtLo, api.Basic, api.Basic}); e != api.ErrArg {
			t.Errorf("a column may stand as %d: %v", stands, e)
		}
	}
}

// P12.4, P12.5: ordinary inputs; the first is example 1.
func TestNumbers(t *testing.T) {
	for _, c := range []struct {
		l                         api.LP
		basis                     []int
		status, x, y, d, tableaus string
	}{
		{tell.LP("0 4 -1 2@0;", "- 3;"), []int{1}, "hb", "4 8", "0", "-1 0", "-2 1;"},
		{tell.LP("0 4 -1 2@0;", "- 3;"), []int{0}, "bh", "3/2 3", "-1/2", "0 -1/2", "1 -1/2;"},
		{good(), []int{3, 4}, "lflbb", "0 0 1 0 -1", "0 0", "-1 3 0 0 0", "-2 0 0 1 0; -1/2 0 1 0 1;"},
		{good(), []int{4, 3}, "hflbb", "4 0 1 8 1", "0 0", "-1 3 0 0 0", "-1/2 0 1 0 1; -2 0 0 1 0;"},
		{good(), []int{0, 2}, "bfbhl", "3/2 0 -1/4 3 1", "-1/2 0", "0 3 0 -1/2 0", "1 0 0 -1/2 0; 0 0 1 -1/4 1;"},
		{tell.LP("1 2 5; - 3 7;", ""), nil, "lh", "1 3", "", "5 7", ""}, {tell.LP("", "2 2; - -;"), []int{1, 0}, "bb", "0 0", "0 0", "0 0", "0 1; 1 0;"}, {api.LP{}, nil, "", "", "", "", ""},
		{tell.LP("3 2 5 1@0;", "- -;"), []int{1}, "hb", "2 2", "0", "5 0", "-1 1;"},
	} {
		status := tell.Status(c.status)
		x, _ := shape.Primal(c.l, c.basis, status)
		y, d, e := shape.Duals(c.l, c.basis, status)
		tableaus := ""
		for place := range c.basis {
			row, _ := shape.Tableau(c.l, c.basis, status, place)
			tableaus += " " + tell.OfRats(row) + ";"
		}
		if e != api.OK || tell.OfRats(x) != c.x || tell.OfRats(y) != c.y || tell.OfRats(d) != c.d || tableaus != " "+c.tableaus && c.tableaus != "" {
			t.Errorf("%s, %v, %s: %s, %s, %s, %s", tell.OfLP(c.l), c.basis, c.status, tell.OfRats(x), tell.OfRats(y), tell.OfRats(d), tableaus)
		}
	}
}

// P12.6
func TestStart(t *testing.T) {
	for _, c := range []struct {
		vars, rows string
		basis      []int
		status     string
	}{
		{"0 4 -1 2@0;", "- 3;", []int{1}, "hb"}, {"0 4 1 2@0; 0 4 0; 5 4 -1/9; -1 0 1/9;", "- 3; - -; 1 -;", []int{4, 5, 6}, "llhlbbb"}, {"", "", nil, ""}, {"1 1 0; 1 1 -1;", "", nil, "lh"}, {"", "0 0;", []int{0}, "b"},
	} {
		l := tell.LP(c.vars, c.rows)
		basis, status, e := shape.Start(l)
		if e != api.OK || !slices.Equal(basis, c.basis) || tell.OfStatus(status) != c.status || shape.Check(l, basis, status) != api.OK {
			t.Errorf("Start(%s) = %v, %s, %v", tell.OfLP(l), basis, tell.OfStatus(status), e)
		}
	}
	for _, vars := range []string{"0 - 1;", "- 0 -1;", "- - 0;", "0 1 1; 0 1 1; 0 - 1;"} {
		if basis, status, e := shape.Start(tell.LP(vars, "1 2;")); e != api.ErrFree || len(basis)+len(status) > 0 {
			t.Errorf("Start(%s) = %v, %v, %v", vars, basis, status, e)
		}
	}
}

// P12.1, P12.3, P12.4: more rows than MaxShift.
func TestManyRows(t *testing.T) {
	p := tell.Problem("", "2 3 1;")
	p.Rows = make([]api.Row, api.MaxShift+10)
	for i := range p.Rows {
		p.Rows[i] = api.Row{HasLo: true, Lo: tell.Rat("1"), Terms: tell.Vec("7@0")}
	}
	l := shape.Make(p)
	basis, status, e := shape.Start(l)
	x, _ := shape.Primal(l, basis, status)
	y, d, _ := shape.Duals(l, basis, status)
	if e != api.OK || len(x) != len(p.Rows)+1 || tell.OfRat(x[api.MaxShift+10]) != "14" || len(y) != len(p.Rows) || tell.OfRats(d[:2]) != "1 0" {
		t.Errorf("%v, %d numbers, %d prices", e, len(x), len(y))
	}
}

// P12.6: what was given stays as it was, and an answer outlives what it came of.
func TestOwnMemory(t *testing.T) {
	l, c, v, p := good(), tell.Cons("2@0 <= 5"), tell.Rat("1/3"), tell.Problem("- 3 2@0;", "0 4 -1;")
	basis, status := []int{0, 2}, tell.Status("bfbhl")
	made := shape.Make(p)
	more, _ := shape.AddRow(l, c)
	other, _ := shape.SetBound(l, 4, true, v)
	x, _ := shape.Primal(l, basis, status)
	if tell.OfLP(l) != tell.OfLP(good()) || tell.OfCons(c) != "2@0 <= 5" || !slices.Equal(basis, []int{0, 2}) || tell.OfStatus(status) != "bfbhl" {
		t.Errorf("changed: %s, %s, %v, %s", tell.OfLP(l), tell.OfCons(c), basis, tell.OfStatus(status))
	}
	over := func(a api.Rat) {
		for _, words := range [][]uint64{a.Num.Abs, a.Den} {
			for i := range words {
				words[i] = 99
			}
		}
	}
	for i := range l.Cols {
		over(l.Lo[i])
		over(l.Hi[i])
		over(l.Cost[i])
		l.HasLo[i], l.HasHi[i] = false, true
		for k := range l.Cols[i] {
			over(l.Cols[i][k].Val)
			l.Cols[i][k].Col = 99
		}
	}
	over(c.Terms[0].Val)
	over(c.Rhs)
	over(v)
	over(p.Rows[0].Hi)
	over(p.Rows[0].Terms[0].Val)
	over(p.Vars[0].Hi)
	if tell.OfLP(made) != "0 4 -1 2@0; | - 3;" || tell.OfLP(more) != "0 4 -1 2@0 1/2@1 2@2; - - 3; 1 - 0 -1@1; | - 3; 1 2; - 5;" || tell.OfLP(other) != "0 4 -1 2@0 1/2@1; - - 3; 1 - 0 -1@1; | - 3; 1 1/3;" || tell.OfRats(x) != "3/2 0 -1/4 3 1" {
		t.Errorf("became %s, %s, %s, %s", tell.OfLP(made), tell.OfLP(more), tell.OfLP(other), tell.OfRats(x))
	}
}
