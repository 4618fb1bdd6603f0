package cons_test

import (
	"math"
	"slices"
	"strings"
	"testing"

	"cutwater/api"
	"cutwater/cons"
	"cutwater/tell"
)

// bits gives bools that are told by letters, w for a whole variable.
func bits(s string) []bool {
	var out []bool
	for _, letter := range s {
		out = append(out, letter == 'w')
	}
	return out
}

// P11.1
func TestForm(t *testing.T) {
	for s, want := range map[string]string{
		"2@1 1@0 -2@1 >= 3": "1@0 >= 3", "<= 0": "<= 0", "0@0 5@-1 <= -1/2": "<= -1/2", "1@5 1/2@2 = 7/3": "1/2@2 1@5 = 7/3", "2@1 1@0 -2@1 4 1": "1@0 4 1", "3@3 3@2 0 1": "3@2 3@3 0 1", "1@1 1@0 -7 2": "1@0 1@1 -7 2",
		"1@9223372036854775807 <= 1": "1@9223372036854775807 <= 1",
	} {
		if got := tell.OfCons(cons.Form(tell.Cons(s))); got != want {
			t.Errorf("Form(%s) = %s, not %s", s, got, want)
		}
	}
	long := []uint64{6, 0}
	c := api.Cons{Sense: api.Equal, Terms: []api.Term{{Col: 1, Val: api.Rat{Num: api.Int{Neg: true, Abs: long}, Den: []uint64{4, 0}}}, {}}, Rhs: api.Rat{Num: api.Int{Abs: long}}}
	if got := tell.OfCons(cons.Form(c)); got != "-3/2@1 = 6" {
		t.Errorf("Form(%v) = %s", c, got)
	}
	if got := tell.OfCons(cons.Form(api.Cons{})); got != "0 0" {
		t.Errorf("Form of nothing = %s", got)
	}
}

// P11.1
func TestHolds(t *testing.T) {
	for _, c := range []struct {
		c, x string
		want bool
	}{
		{"2@0 <= 7", "7/2", true}, {"2@0 <= 7", "4", false}, {"2@0 <= 7", "-9", true}, {"2@0 >= 7", "7/2", true}, {"2@0 >= 7", "3", false}, {"2@0 >= 7", "9", true}, {"2@0 = 7", "7/2", true}, {"2@0 = 7", "3", false}, {"2@0 = 7", "4", false},
		{"1@0 1@1 <= 3", "4", false}, {"1@0 1@1 <= 3", "3", true}, {"1@0 1@1 <= 3", "4 -1 9", true}, {"1@1 >= 0", "", true}, {"1@1 >= 1", "5", false}, {"1@1 = 0", "5", true}, {"<= 0", "1 2", true}, {"<= -1", "", false}, {">= 1", "", false}, {"= 0", "", true}, {"= 1/2", "1/2", false},
		{"2@1 1@0 -2@1 5@-1 = 3", "3 8", true}, {"1@9223372036854775807 1@-9223372036854775808 >= 0", "1", true}, {"1@9223372036854775807 >= 1", "1", false},
		{"1@0 0 1", "1", false}, {"1@0 4 1", "1", false}, {"1@0 -1 1", "1", false}, {"0 0", "", false}, {"5 0", "", false}, {"1@0 9223372036854775807 1", "1", false}, {"1@0 -9223372036854775808 1", "1", false},
	} {
		if got := cons.Holds(tell.Cons(c.c), tell.Rats(c.x)); got != c.want {
			t.Errorf("Holds(%s, %s) = %v", c.c, c.x, got)
		}
	}
	if cons.Holds(api.Cons{}, nil) || !cons.Holds(api.Cons{Sense: api.Equal}, []api.Rat{{}}) {
		t.Error("constraints of zero values")
	}
}

// P11.2
func TestCombine(t *testing.T) {
	for _, c := range []struct{ list, often, sense, want string }{
		{"2@0 <= 7; 1@0 >= 1;", "1 -1", "<=", "1@0 <= 6"}, {"2@0 <= 7; 1@0 >= 1;", "-1 1", ">=", "-1@0 >= -6"}, {"2@0 <= 7;", "1/2", "<=", "1@0 <= 7/2"}, {"2@0 <= 7;", "-1/2", ">=", "-1@0 >= -7/2"},
		{"", "", "<=", "<= 0"}, {"", "", ">=", ">= 0"}, {"", "", "=", "= 0"}, {"1@0 = 3;", "-2", "=", "-2@0 = -6"}, {"1@0 = 3;", "-2", "<=", "-2@0 <= -6"}, {"1@0 = 3;", "2", ">=", "2@0 >= 6"}, {"1@0 = 3; 1@1 = 4;", "1 -1", "=", "1@0 -1@1 = -1"},
		{"1@0 <= 3; 1@1 >= 4; 1@2 = 5;", "0 0 0", "=", "= 0"}, {"1@0 <= 3; 1@1 >= 4; 1@2 = 5;", "0 0 1/5", "=", "1/5@2 = 1"}, {"1@0 <= 3; 1@1 >= 4; 1@2 = 5;", "2 -3 -1", "<=", "2@0 -3@1 -1@2 <= -11"},
		{"1@0 <= 3; 1@1 >= 4; 1@2 = 5;", "-2 3 -1", ">=", "-2@0 3@1 -1@2 >= 1"}, {"1@0 1@1 <= 1; -1@0 1@1 <= 1;", "1 1", "<=", "2@1 <= 2"}, {"1@0 <= 1; 1@0 >= 2;", "1 -1", "<=", "<= -1"}, {"1@0 1@0 5@-1 = 1/3;", "3", "=", "6@0 = 1"},
		{"1@0 <= 3; 1@0 <= 3;", "1/2 1/2", "<=", "1@0 <= 3"}, {"1@9223372036854775807 >= 3;", "2", ">=", "2@9223372036854775807 >= 6"},
	} {
		got, e := cons.Combine(tell.ConsList(c.list), tell.Rats(c.often), tell.Cons(c.sense+" 0").Sense)
		if e != api.OK || tell.OfCons(got) != c.want {
			t.Errorf("Combine(%s, %s, %s) = %s, %v, not %s", c.list, c.often, c.sense, tell.OfCons(got), e, c.want)
		}
	}
	if got, e := cons.Combine([]api.Cons{{Sense: api.Equal}}, []api.Rat{{}}, api.AtMost); e != api.OK || tell.OfCons(got) != "<= 0" {
		t.Errorf("of zero values: %v, %v", got, e)
	}
}

// P11.2: each sense so often in a sum of each sense: above 0, below, and not at all.
func TestCombineSenses(t *testing.T) {
	for _, c := range []struct{ sense, above, below string }{{"<=", "<= =", ">= ="}, {">=", ">= =", "<= ="}, {"=", "=", "="}} {
		for _, s := range []string{"<=", ">=", "="} {
			for often, fit := range map[string]string{"1/3": c.above, "-7": c.below, "0": "<= >= ="} {
				want := api.ErrRule
				if slices.Contains(strings.Fields(fit), s) {
					want = api.OK
				}
				checkCombine(t, "1@0 "+s+" 3; 1@1 = 2;", often+" 0", c.sense, want)
				checkCombine(t, "1@1 = 2; 1@0 "+s+" 3;", "5 "+often, c.sense, want)
			}
		}
	}
}

// checkCombine holds a sum's error against one.
func checkCombine(t *testing.T, list, often, sense string, want api.Errno) {
	t.Helper()
	got, e := cons.Combine(tell.ConsList(list), tell.Rats(often), tell.Cons(sense+" 0").Sense)
	if e != want || e != api.OK && !zero(got) {
		t.Errorf("Combine(%s, %s, %s) = %v, %v, not %v", list, often, sense, got, e, want)
	}
}

// zero tells whether a constraint is the zero value.
func zero(c api.Cons) bool {
	return c.Sense == 0 && len(c.Terms) == 0 && !c.Rhs.Num.Neg && len(c.Rhs.Num.Abs) == 0 && len(c.Rhs.Den) == 0
}

// P11.2: what may not be handed in, also where nothing is taken of it; ErrArg comes first.
func TestCombineWrong(t *testing.T) {
	for _, c := range []struct {
		list, often, sense string
		want               api.Errno
	}{
		{"", "", "0", api.ErrArg}, {"", "", "4", api.ErrArg}, {"", "", "-1", api.ErrArg}, {"", "", "9223372036854775807", api.ErrArg}, {"", "", "-9223372036854775808", api.ErrArg}, {"", "1", "<=", api.ErrArg}, {"", "0", "<=", api.ErrArg},
		{"1@0 <= 1;", "", "<=", api.ErrArg}, {"1@0 <= 1;", "1 0", "<=", api.ErrArg}, {"1@0 <= 1; 1@0 <= 1;", "1", "<=", api.ErrArg}, {"1@0 0 1;", "1", "<=", api.ErrArg}, {"1@0 0 1;", "0", "<=", api.ErrArg}, {"1@0 4 1;", "0", "=", api.ErrArg}, {"1@0 <= 1; 1@0 -3 1;", "1 0", "<=", api.ErrArg},
		{"1@0 >= 1; 1@0 4 1;", "1 1", "<=", api.ErrArg}, {"1@0 >= 1;", "1 1", "<=", api.ErrArg}, {"1@0 >= 1;", "1", "7", api.ErrArg}, {"1@0 <= 1;", "1", "4", api.ErrArg}, {"1@0 4 1;", "1", "4", api.ErrArg},
		{"1@0 >= 1;", "1", "<=", api.ErrRule}, {"1@0 <= 1;", "-1", "<=", api.ErrRule}, {"1@0 <= 1;", "1", ">=", api.ErrRule}, {"1@0 >= 1;", "-1/2", ">=", api.ErrRule}, {"1@0 >= 1;", "1", "=", api.ErrRule}, {"1@0 <= 1;", "-1", "=", api.ErrRule},
		{"1@0 <= 1; 1@0 >= 1; 1@0 = 1;", "1 1 0", "<=", api.ErrRule}, {"1@0 <= 1; 1@0 >= 1; 1@0 = 1;", "-1 -1 0", ">=", api.ErrRule}, {"<= 0;", "-1", "<=", api.ErrRule}, {"0@0 >= 0;", "1", "=", api.ErrRule},
	} {
		checkCombine(t, c.list, c.often, c.sense, c.want)
	}
}

// P11.3
func TestRound(t *testing.T) {
	for _, c := range []struct{ c, whole, want string }{
		{"1@0 <= 7/2", "w", "1@0 <= 3"}, {"1@0 >= 7/2", "w", "1@0 >= 4"}, {"1@0 = 7/2", "w", ">= 1"}, {"1@0 <= -7/2", "w", "1@0 <= -4"}, {"1@0 >= -7/2", "w", "1@0 >= -3"}, {"1@0 = -7/2", "w", ">= 1"}, {"1@0 <= 3", "w", "1@0 <= 3"}, {"1@0 >= 3", "w", "1@0 >= 3"}, {"1@0 = 3", "w", "1@0 = 3"}, {"-5@0 = -3", "w", "-5@0 = -3"},
		{"<= 1/2", "", "<= 0"}, {"<= -1/2", "", "<= -1"}, {">= 1/2", "", ">= 1"}, {"= 1/2", "", ">= 1"}, {"= 0", "", "= 0"}, {"= 1", "-", "= 1"}, {"1/2@0 1/2@0 <= 1/3", "w", "1@0 <= 0"}, {"1/2@0 -1/2@0 1@1 <= 1/3", "-w", "1@1 <= 0"}, {"1/2@-1 3@2 1@1 >= 1/3", "-wwww", "1@1 3@2 >= 1"},
		{"2@0 4@1 <= 100000000000000000001/3", "ww", "2@0 4@1 <= 33333333333333333333"},
	} {
		got, e := cons.Round(tell.Cons(c.c), bits(c.whole))
		if e != api.OK || tell.OfCons(got) != c.want {
			t.Errorf("Round(%s, %s) = %s, %v, not %s", c.c, c.whole, tell.OfCons(got), e, c.want)
		}
	}
	for _, c := range []struct {
		c, whole string
		want     api.Errno
	}{
		{"1@0 0 1/2", "w", api.ErrArg}, {"1/2@0 4 1", "w", api.ErrArg}, {"-1 1", "", api.ErrArg}, {"1@0 9223372036854775807 1", "-", api.ErrArg}, {"1@0 <= 1", "-", api.ErrRule}, {"1@0 <= 1", "", api.ErrRule}, {"1@1 = 1", "w", api.ErrRule}, {"1@1 = 1", "w-w", api.ErrRule},
		{"1/2@0 >= 1", "w", api.ErrRule}, {"1@0 -3/2@1 <= 1", "ww", api.ErrRule}, {"1@0 3@1 <= 1", "w-", api.ErrRule}, {"1@0 3@1 = 1/2", "-w", api.ErrRule}, {"1@9223372036854775807 >= 1", "ww", api.ErrRule}, {"1@0 1/2@0 >= 1", "w", api.ErrRule},
	} {
		if got, e := cons.Round(tell.Cons(c.c), bits(c.whole)); e != c.want || !zero(got) {
			t.Errorf("Round(%s, %s) = %v, %v, not %v", c.c, c.whole, got, e, c.want)
		}
	}
}

// P11.4
func TestFalse(t *testing.T) {
	for s, want := range map[string]bool{
		"<= 0": false, "<= 1": false, "<= -1/2": true, ">= 0": false, ">= -1": false, ">= 1/9": true, "= 0": false, "= 1": true, "= -1": true, "0 1": false, "4 1": false, "-1 1": false, "0 0": false, "9223372036854775807 1": false,
		"1@0 <= -1": false, "1@0 >= 1": false, "1@0 = 1": false, "0@0 >= 1": true, "1@0 -1@0 = 1": true, "1@-1 >= 1": true, "1@9223372036854775807 >= 1": false, "1@0 -1@0 1@1 = 1": false, "1@0 -1@0 0 1": false,
	} {
		if got := cons.False(tell.Cons(s)); got != want {
			t.Errorf("False(%s) = %v", s, got)
		}
	}
}

// P11.4
func TestDominates(t *testing.T) {
	for _, c := range []struct {
		a, b string
		want bool
	}{
		{"1@0 <= 3", "1@0 <= 4", true}, {"1@0 <= 4", "1@0 <= 4", true}, {"1@0 <= 5", "1@0 <= 4", false}, {"1@0 >= 3", "1@0 <= 4", false}, {"1@0 >= 4", "1@0 <= 4", false}, {"1@0 = 3", "1@0 <= 4", true}, {"1@0 = 4", "1@0 <= 4", true}, {"1@0 = 5", "1@0 <= 4", false},
		{"1@0 >= 5", "1@0 >= 4", true}, {"1@0 >= 4", "1@0 >= 4", true}, {"1@0 >= 3", "1@0 >= 4", false}, {"1@0 <= 5", "1@0 >= 4", false}, {"1@0 <= 4", "1@0 >= 4", false}, {"1@0 = 5", "1@0 >= 4", true}, {"1@0 = 4", "1@0 >= 4", true}, {"1@0 = 3", "1@0 >= 4", false},
		{"1@0 = 4", "1@0 = 4", true}, {"1@0 = 5", "1@0 = 4", false}, {"1@0 = 3", "1@0 = 4", false}, {"1@0 <= 4", "1@0 = 4", false}, {"1@0 >= 4", "1@0 = 4", false},
		{"1@0 <= 3", "2@0 <= 8", false}, {"1@0 <= 3", "1@1 <= 4", false}, {"1@0 <= 3", "1@0 1@1 <= 4", false}, {"1@0 1@1 <= 3", "1@0 <= 4", false}, {"1@1 1@0 <= 3", "1@0 2@1 -1@1 <= 4", true}, {"-1@0 >= -3", "1@0 <= 4", false}, {"0@5 1@0 <= 3", "1@0 9@-1 <= 4", true},
		{">= 1", "1@0 <= 4", true}, {"= 1", "1@0 = 4", true}, {"<= -1", "7@3 >= 4", true}, {"0@0 = 1", "= 2", true}, {">= 1", "<= -1", true}, {">= 1", ">= 1", true}, {"<= 0", "1@0 <= 4", false}, {">= 1", "= 0", true}, {"= 0", "= 1", false},
		{"1@0 <= 3", "<= 0", true}, {"1@0 <= 3", ">= -1", true}, {"1@0 >= 3", "1@1 -1@1 = 0", true}, {"1@0 >= 3", "= 1", false}, {"1@0 >= 3", ">= 1", false}, {"<= 5", "<= 3", true}, {"<= 5", "<= -3", false}, {"= 0", ">= 0", true}, {"<= 1", ">= 0", true}, {"<= 1", "= 0", true}, {"= 0", "<= -1", false},
		{"0 1", "1@0 <= 4", false}, {">= 1", "1@0 0 4", false}, {"1@0 <= 3", "4 0", false}, {"4 0", "<= 0", false}, {"1@0 0 3", "1@0 0 3", false}, {"1@0 4 3", "1@0 4 3", false}, {"1@0 = 3", "1@0 -1 3", false}, {"1@0 -1 3", "1@0 = 3", false}, {"0 0", "0 0", false}, {"4 1", "<= 0", false},
	} {
		if got := cons.Dominates(tell.Cons(c.a), tell.Cons(c.b)); got != c.want {
			t.Errorf("Dominates(%s, %s) = %v", c.a, c.b, got)
		}
	}
}

// P11.5: in both orders.
func TestSplit(t *testing.T) {
	for _, c := range []struct {
		a, b, whole string
		want        bool
	}{
		{"1@0 <= 3", "1@0 >= 4", "w", true}, {"1@0 <= 3", "1@0 >= 3", "w", false}, {"1@0 <= 3", "1@0 >= 5", "w", false}, {"1@0 <= 4", "1@0 >= 3", "w", false}, {"1@0 <= -1", "1@0 >= 0", "w", true}, {"1@0 <= 7/2", "1@0 >= 9/2", "w", false}, {"1@0 <= 3", "1@0 >= 4", "-", false}, {"1@0 <= 3", "1@0 >= 4", "", false},
		{"1@0 <= 3", "1@0 = 4", "w", false}, {"1@0 = 3", "1@0 >= 4", "w", false}, {"1@0 <= 3", "1@0 <= 4", "w", false}, {"1@0 >= 3", "1@0 >= 4", "w", false}, {"1@0 = 3", "1@0 = 4", "w", false}, {"1@0 <= 3", "1@0 0 4", "w", false}, {"1@0 <= 3", "1@0 4 4", "w", false}, {"1@0 0 3", "1@0 >= 4", "w", false}, {"1@0 -1 3", "1@0 4 4", "w", false},
		{"2@0 -3@1 <= 3", "-3@1 2@0 >= 4", "ww", true}, {"2@0 -3@1 <= 3", "-3@1 2@0 >= 4", "w-", false}, {"2@0 -3@1 <= 3", "-3@1 2@0 >= 4", "-w", false}, {"2@0 -3@1 <= 3", "-3@1 2@0 >= 4", "w", false}, {"2@0 -3@1 <= 3", "-3@1 1@0 >= 4", "ww", false}, {"1/2@0 <= 3", "1/2@0 >= 4", "w", false}, {"2@0 1/2@1 <= 3", "2@0 1/2@1 >= 4", "ww", false},
		{"1@0 <= 3", "1@1 >= 4", "ww", false}, {"1@0 <= 3", "-1@0 >= 4", "ww", false}, {"1@0 <= 3", "1@0 1@1 >= 4", "ww", false}, {"1@0 1@1 <= 3", "1@0 >= 4", "ww", false}, {"<= 3", ">= 4", "", true}, {"<= 3", ">= 5", "", false}, {"<= 1/2", ">= 3/2", "", false}, {"1/2@1 -1/2@1 <= 0", ">= 1", "", true}, {"1@-1 <= 0", ">= 1", "", true}, {"1@0 <= 3", ">= 4", "w", false},
		{"1@9223372036854775807 <= 3", "1@9223372036854775807 >= 4", "w", false}, {"1@2 <= 100000000000000000000", "1@2 >= 100000000000000000001", "--w", true}, {"1@2 <= 100000000000000000000", "1@2 >= 100000000000000000002", "--w", false}, {"1@0 <= 18446744073709551615", "1@0 >= 18446744073709551616", "w", true}, {"1@0 <= 3", "1@0 >= 7/2", "w", false}, {"1@0 <= 7/2", "1@0 >= 4", "w", false},
	} {
		a, b := tell.Cons(c.a), tell.Cons(c.b)
		if got, back := cons.Split(a, b, bits(c.whole)), cons.Split(b, a, bits(c.whole)); got != c.want || back != c.want {
			t.Errorf("Split(%s, %s, %s) = %v, %v", c.a, c.b, c.whole, got, back)
		}
	}
}

// All numbers that are no sense.
func TestNoSense(t *testing.T) {
	for _, sense := range []int{0, -1, -2, -3, 4, 5, math.MaxInt, math.MinInt} {
		c := tell.Cons("1@0 -1@0 <= -1")
		good := tell.Cons("1@0 <= 3")
		c.Sense = sense
		if cons.Form(c).Sense != sense || cons.Holds(c, nil) || cons.False(c) || cons.Dominates(c, good) || cons.Dominates(good, c) || cons.Split(c, tell.Cons(">= 0"), nil) || cons.Split(tell.Cons("<= -2"), c, nil) {
			t.Errorf("%d is a sense", sense)
		}
		_, round := cons.Round(c, nil)
		_, one := cons.Combine([]api.Cons{c}, tell.Rats("0"), api.AtMost)
		if _, e := cons.Combine([]api.Cons{good}, tell.Rats("1"), sense); e != api.ErrArg || one != api.ErrArg || round != api.ErrArg {
			t.Errorf("%d: %v, %v, %v", sense, e, one, round)
		}
	}
}

// P11.6: what was given stays as it was, and an answer outlives what it came of.
func TestOwnMemory(t *testing.T) {
	list, often, whole := tell.ConsList("4@1 2@0 <= 7; 1@0 1@1 >= 3;"), tell.Rats("1/2 -2"), bits("ww")
	form := cons.Form(list[0])
	sum, _ := cons.Combine(list, often, api.AtMost)
	rounded, _ := cons.Round(list[0], whole)
	same, _ := cons.Round(list[1], whole)
	if tell.OfConsList(list) != "4@1 2@0 <= 7; 1@0 1@1 >= 3;" || tell.OfRats(often) != "1/2 -2" || !whole[0] || !whole[1] {
		t.Errorf("changed: %v, %v, %v", list, often, whole)
	}
	for i := range list {
		for k := range list[i].Terms {
			list[i].Terms[k].Val.Num.Abs[0], list[i].Terms[k].Val.Den[0], list[i].Terms[k].Col = 99, 99, 99
		}
		list[i].Rhs.Num.Abs[0], list[i].Rhs.Den[0] = 99, 99
		often[i].Num.Abs[0], often[i].Den[0], whole[i] = 99, 99, false
	}
	if got, want := tell.OfConsList([]api.Cons{form, sum, rounded, same}), "2@0 4@1 <= 7; -1@0 <= -5/2; 2@0 4@1 <= 7; 1@0 1@1 >= 3;"; got != want {
		t.Errorf("became %s, not %s", got, want)
	}
}
