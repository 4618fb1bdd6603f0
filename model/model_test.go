package model_test

import (
	"math/rand"
	"slices"
	"strconv"
	"testing"

	"cutwater/api"
	"cutwater/cons"
	"cutwater/model"
	"cutwater/mps"
	"cutwater/rat"
	"cutwater/tell"
)

// loose are numbers in other forms: 0, 0 again, -3/2, 7.
func loose() []api.Rat {
	return []api.Rat{{}, {Num: api.Int{Neg: true, Abs: []uint64{0}}, Den: []uint64{5}}, {Num: api.Int{Neg: true, Abs: []uint64{6, 0}}, Den: []uint64{4, 0}}, {Num: api.Int{Abs: []uint64{7}}, Den: []uint64{0, 0}}}
}

// P10.1: all the chapter's conditions, each of them broken and just kept.
func TestHolds(t *testing.T) {
	for _, c := range []struct {
		rows, vars, x string
		want          bool
	}{
		{"- 3 2@0;", "0 4 -1;", "1", true}, {"- 3 2@0;", "0 4 -1;", "2", false}, {"- 3 2@0;", "0 4 -1;", "3/2", true}, {"- 3 2@0;", "0 4 -1;", "1501/1000", false},
		{"", "", "", true}, {"", "", "0", false}, {"- - ;", "", "", true}, {"1 - ;", "", "", false}, {"0 0 ;", "", "", true}, {"- -1 ;", "", "", false}, {"-1 1 5@0;", "", "", true},
		{"", "0 4 0; 0 4 0;", "1", false}, {"", "0 4 0; 0 4 0;", "1 1", true}, {"", "0 4 0; 0 4 0;", "1 1 1", false}, {"", "0 4 0; 0 4 0;", "", false}, {"", "- - 0;", "", false},
		{"", "1/2 4 0;", "1/2", true}, {"", "1/2 4 0;", "1/3", false}, {"", "1/2 4 0;", "4", true}, {"", "1/2 4 0;", "401/100", false}, {"", "1/2 - 0;", "100", true}, {"", "1/2 - 0;", "-100", false},
		{"", "- 4 0;", "-100", true}, {"", "- 4 0;", "5", false}, {"", "- - 0;", "-100000000000000000000", true}, {"", "3 2 0;", "5/2", false}, {"", "3 2 0;", "3", false}, {"", "3 2 0;", "2", false}, {"", "3 3 0;", "3", true},
		{"", "0 4 0 whole;", "1/2", false}, {"", "0 4 0 whole;", "2", true}, {"", "0 4 0 whole;", "5", false}, {"", "0 4 0; 0 4 0 whole;", "1/2 2", true}, {"", "0 4 0; 0 4 0 whole;", "2 1/2", false}, {"", "- - 0 whole;", "-7/2", false}, {"", "1/2 1/2 0 whole;", "1/2", false},
		{"3 - 1@0 2@1;", "- - 0; - - 0;", "1 1", true}, {"3 - 1@0 2@1;", "- - 0; - - 0;", "1 99/100", false}, {"3 - 1@0 2@1;", "- - 0; - - 0;", "-1 100", true}, {"1 3 1@0 2@1;", "- - 0; - - 0;", "-1 100", false},
		{"3 3 1@0 2@1;", "- - 0; - - 0;", "0 3/2", true}, {"3 3 1@0 2@1;", "- - 0; - - 0;", "0 2", false}, {"4 3 1@0 2@1;", "- - 0; - - 0;", "0 7/4", false}, {"- - 1@0;", "- - 0;", "9", true},
		{"3 - 1@0; - 3 1@0;", "- - 0;", "3", true}, {"3 - 1@0; - 3 1@0;", "- - 0;", "2", false}, {"3 - 1@0; - 3 1@0;", "- - 0;", "4", false},
		{"2 2 1@1 9@2 3@1 -2@1 5@-1 1@0 -1@0;", "- - 0; - - 0;", "7 1", true}, {"2 2 1@1 9@2 3@1 -2@1 5@-1 1@0 -1@0;", "- - 0; - - 0;", "7 2", false}, {"1 - 1@9223372036854775807 1@-9223372036854775808;", "- - 0;", "5", false},
	} {
		p, x := tell.Problem(c.rows, c.vars), tell.Rats(c.x)
		if got := model.Holds(p, x); got != c.want {
			t.Errorf("Holds(%s, %s; %s) = %v", c.rows, c.vars, c.x, got)
		}
	}
}

// P10.1: a bound that isn't there says nothing, whatever its number; numbers may be in any form.
func TestHoldsForms(t *testing.T) {
	two := tell.Rat("2")
	p := api.Problem{Vars: []api.Var{{Lo: two, Hi: rat.Neg(two)}}, Rows: []api.Row{{Lo: two, Hi: rat.Neg(two), Terms: tell.Vec("1@0")}}}
	if !model.Holds(p, tell.Rats("1")) {
		t.Error("a bound that isn't there was broken")
	}
	p.Vars[0].HasLo = true
	if model.Holds(p, tell.Rats("1")) || !model.Holds(p, tell.Rats("2")) {
		t.Error("the variable's Lo")
	}
	p.Vars[0].HasLo, p.Rows[0].HasHi = false, true
	if model.Holds(p, tell.Rats("1")) || !model.Holds(p, tell.Rats("-2")) {
		t.Error("the row's Hi")
	}
	for i, a := range loose() {
		p := api.Problem{Vars: []api.Var{{Whole: true, HasLo: true, Lo: a, HasHi: true, Hi: a}}}
		if got, want := model.Holds(p, []api.Rat{a}), i != 2; got != want {
			t.Errorf("%v from %v to %v: %v", a, a, a, got)
		}
	}
}

// P10.2
func TestCost(t *testing.T) {
	for _, c := range []struct{ vars, x, want, objective string }{
		{"0 4 -1;", "1", "-1", "-1@0"}, {"", "", "0", ""}, {"", "5 6", "0", ""}, {"- - 0; - - 0;", "5 6", "0", ""}, {"- - 2; - - 1/3;", "5 6", "12", "2@0 1/3@1"}, {"- - 2; - - 1/3;", "5", "10", "2@0 1/3@1"},
		{"- - 2; - - 1/3;", "", "0", "2@0 1/3@1"}, {"- - 2; - - 1/3;", "5 6 7", "12", "2@0 1/3@1"}, {"0 1 0; 0 1 -7 whole; 0 1 0; 0 1 1/2;", "1 1/2 1 7/3", "-7/3", "-7@1 1/2@3"}, {"0 1 100000000000000000000 whole;", "2/100000000000000000000", "2", "100000000000000000000@0"},
	} {
		p := tell.Problem("0 0 5@0;", c.vars)
		if got := tell.OfRat(model.Cost(p, tell.Rats(c.x))); got != c.want {
			t.Errorf("Cost(%s, %s) = %s, not %s", c.vars, c.x, got, c.want)
		}
		if got := tell.OfVec(model.Objective(p)); got != c.objective {
			t.Errorf("Objective(%s) = %s, not %s", c.vars, got, c.objective)
		}
	}
	var p api.Problem
	for _, a := range loose() {
		p.Vars = append(p.Vars, api.Var{Cost: a})
	}
	if cost, objective := tell.OfRat(model.Cost(p, loose())), tell.OfVec(model.Objective(p)); cost != "205/4" || objective != "-3/2@2 7@3" {
		t.Errorf("%s, %s", cost, objective)
	}
}

// P10.2
func TestFiniteAndWhole(t *testing.T) {
	for _, c := range []struct {
		vars   string
		finite bool
		whole  []bool
	}{
		{"", true, nil}, {"0 4 -1;", true, []bool{false}}, {"- 4 0;", false, []bool{false}}, {"0 - 0 whole;", false, []bool{true}}, {"- - 0;", false, []bool{false}}, {"5 4 0 whole;", true, []bool{true}},
		{"0 1 0 whole; 0 1 0; 0 0 0 whole;", true, []bool{true, false, true}}, {"0 1 0; 0 1 0 whole; - 1 0;", false, []bool{false, true, false}}, {"- 1 0 whole; 0 1 0 whole;", false, []bool{true, true}}, {"0 1 0; 0 - 0; 0 1 0;", false, []bool{false, false, false}},
	} {
		p := tell.Problem("- - 1@0; 1 - 1@1;", c.vars)
		if finite, whole := model.Finite(p), model.Whole(p); finite != c.finite || !slices.Equal(whole, c.whole) {
			t.Errorf("%s: %v, %v", c.vars, finite, whole)
		}
	}
}

// P10.3
func TestConstraints(t *testing.T) {
	for _, c := range []struct{ rows, vars, want string }{
		{"- 3 2@0;", "0 4 -1;", "2@0 <= 3; 1@0 >= 0; 1@0 <= 4;"}, {"", "", ""}, {"- - 1@0;", "- - 1;", ""}, {"1 1 ;", "", "= 1;"}, {"1 2 ;", "", ">= 1; <= 2;"}, {"1 1 1@0;", "", "= 1;"},
		{"1 - 1@0 2@1; - 7 -1/2@1; 3 5 1@1; 4 4 1@0; 5 3 2@0;", "0 - 1; - 9 1 whole;", "1@0 2@1 >= 1; -1/2@1 <= 7; 1@1 >= 3; 1@1 <= 5; 1@0 = 4; 2@0 >= 5; 2@0 <= 3; 1@0 >= 0; 1@1 <= 9;"},
		{"", "2 2 1 whole; 5 3 1; - - 1; -1/2 1/2 0;", "1@0 >= 2; 1@0 <= 2; 1@1 >= 5; 1@1 <= 3; 1@3 >= -1/2; 1@3 <= 1/2;"},
		{"0 0 1@1 9@2 3@1 -2@1 5@-1 1@0 -1@0 7@9223372036854775807;", "- - 0; - - 0;", "2@1 = 0;"}, {"- 0 1@1 1@0;", "- - 0;", "1@0 <= 0;"}, {"2/3 1 3@1 -3@1;", "- - 0; - - 0;", ">= 2/3; <= 1;"},
	} {
		if got := tell.OfConsList(model.Constraints(tell.Problem(c.rows, c.vars))); got != c.want {
			t.Errorf("Constraints(%s, %s) = %s, not %s", c.rows, c.vars, got, c.want)
		}
	}
}

// P10.3: bounds that aren't there, and bounds that are one number in two forms.
func TestConstraintsForms(t *testing.T) {
	list := loose()
	p := api.Problem{
		Rows: []api.Row{
			{HasLo: true, HasHi: true, Lo: list[0], Hi: list[1], Terms: []api.Term{{Col: 1, Val: list[2]}, {Col: 0, Val: list[1]}}},
			{HasLo: true, Lo: list[3], Hi: list[3], Terms: []api.Term{{Col: 0, Val: list[3]}}}, {HasHi: true, Lo: list[2], Hi: list[2]}, {Lo: list[3], Hi: list[3]},
		},
		Vars: []api.Var{{HasLo: true, Lo: list[2], Hi: list[2]}, {HasHi: true, Lo: list[1], Hi: list[1]}, {Lo: list[3], Hi: list[3]}},
	}
	if got, want := tell.OfConsList(model.Constraints(p)), "-3/2@1 = 0; 7@0 >= 7; <= -3/2; 1@0 >= -3/2; 1@1 <= 0;"; got != want {
		t.Errorf("%s, not %s", got, want)
	}
}

// P10.1, P10.2, P10.3, P10.4: problems and numbers by chance, held against another reckoner and against the constraints.
func TestByChance(t *testing.T) {
	r := rand.New(rand.NewSource(3))
	kept := map[bool]int{}
	for range 6000 {
		p := chance(r)
		list := model.Constraints(p)
		if got, want := tell.OfConsList(list), constraints(p); got != want {
			t.Fatalf("Constraints(%v) = %s, not %s", p, got, want)
		}
		for range 4 {
			x := near(r, p)
			want := holds(p, x)
			kept[want]++
			if got := model.Holds(p, x); got != want {
				t.Fatalf("Holds(%v, %v) = %v", p, x, got)
			}
			in := len(x) == len(p.Vars)
			for _, c := range list {
				in = in && cons.Holds(c, x)
			}
			for i, whole := range model.Whole(p) {
				in = in && (!whole || rat.IsWhole(x[i]))
			}
			if in != want {
				t.Fatalf("%v, %v: %v by the constraints", p, x, in)
			}
			costs := dense(nil, len(p.Vars))
			for i, v := range p.Vars {
				costs[i] = number(v.Cost)
			}
			cost, objective := tell.OfRat(model.Cost(p, x)), tell.OfVec(model.Objective(p))
			if cost != times(costs, x).RatString() || objective != textOf(costs) {
				t.Fatalf("%v, %v: Cost %s, Objective %s", p, x, cost, objective)
			}
		}
	}
	if kept[true] < 2000 || kept[false] < 2000 {
		t.Errorf("how often something held: %v", kept)
	}
}

// A text's problem: the chapter's example, from the text on.
func TestOfText(t *testing.T) {
	p, e, _ := mps.Parse("NAME\nROWS\n N cost\n L r1\nCOLUMNS\n x cost -1 r1 2\nRHS\n RHS r1 3\nBOUNDS\n UP B x 4\nENDATA\n")
	one, two := tell.Rats("1"), tell.Rats("2")
	if e != api.OK || tell.OfRat(model.Cost(p, one)) != "-1" || !model.Holds(p, one) || model.Holds(p, two) || !model.Finite(p) {
		t.Errorf("%v, %v", p, e)
	}
}

// P10.3: more rows, variables and terms than a text may have.
func TestMany(t *testing.T) {
	var p api.Problem
	const n = 3000
	var x []api.Rat
	for i := range n {
		p.Vars = append(p.Vars, api.Var{HasLo: true, Lo: rat.Whole(int64(i)), Cost: rat.Whole(2)})
		p.Rows = append(p.Rows, api.Row{HasHi: true, Hi: rat.Whole(int64(i)), Terms: tell.Vec("1@" + strconv.Itoa(i) + " 1@" + strconv.Itoa(n+i))})
		x = append(x, rat.Whole(int64(i)))
	}
	list := model.Constraints(p)
	if len(list) != 2*n || tell.OfCons(list[n-1]) != "1@2999 <= 2999" || tell.OfCons(list[n+7]) != "1@7 >= 7" || !model.Holds(p, x) || tell.OfRat(model.Cost(p, x)) != "8997000" || model.Holds(p, x[1:]) {
		t.Errorf("%d constraints", len(list))
	}
	x[n-1] = rat.Whole(n)
	if model.Holds(p, x) {
		t.Error("the last row is broken")
	}
}

// P10.4: what was given stays as it was, and an answer outlives what it came of.
func TestOwnMemory(t *testing.T) {
	p := tell.Problem("1 2 5@2 3@1 4@0; 5 5 1@0;", "0 4 -1 whole; 6 6 7;")
	list, whole, objective, cost := model.Constraints(p), model.Whole(p), model.Objective(p), model.Cost(p, tell.Rats("1 1"))
	if tell.OfVec(p.Rows[0].Terms) != "5@2 3@1 4@0" || tell.OfRat(p.Rows[0].Lo) != "1" || tell.OfRat(p.Vars[0].Hi) != "4" {
		t.Errorf("changed: %v", p)
	}
	for _, w := range p.Rows {
		w.Lo.Num.Abs[0], w.Hi.Num.Abs[0], w.Lo.Den[0], w.Hi.Den[0] = 99, 99, 99, 99
		for i := range w.Terms {
			w.Terms[i].Val.Num.Abs[0], w.Terms[i].Col = 99, 99
		}
	}
	for i := range p.Vars {
		v := &p.Vars[i]
		v.Hi.Num.Abs[0], v.Lo.Den[0], v.Hi.Den[0], v.Cost.Num.Abs[0], v.Whole = 99, 99, 99, 99, false
	}
	want := "4@0 3@1 >= 1; 4@0 3@1 <= 2; 1@0 = 5; 1@0 >= 0; 1@0 <= 4; 1@1 >= 6; 1@1 <= 6;"
	if got := tell.OfConsList(list); got != want || !whole[0] || tell.OfVec(objective) != "-1@0 7@1" || tell.OfRat(cost) != "6" {
		t.Errorf("became %s, %v, %s, %s", got, whole, tell.OfVec(objective), tell.OfRat(cost))
	}
	list[0].Terms[0].Val.Num.Abs[0], list[0].Rhs.Num.Abs[0] = 99, 99
	if got := tell.OfConsList(list[1:]); got != want[len("4@0 3@1 >= 1; "):] {
		t.Errorf("became %s", got)
	}
}
