package cons_test

import (
	"math/rand"
	"testing"

	"cutwater/api"
	"cutwater/cons"
	"cutwater/tell"
)

// told tells what a call answered: the constraint, if it is OK.
func told(c api.Cons, e api.Errno) string {
	if e != api.OK {
		return e.Error()
	}
	return tell.OfCons(c)
}

// otherTold tells likewise what the other reckoner answered.
func otherTold(o other, e api.Errno) string {
	if e != api.OK {
		return e.Error()
	}
	return o.text()
}

// tally counts how often something was so, and how often it wasn't.
type tally map[string]int

// add counts a game.
func (l tally) add(what string, so bool) {
	if so {
		l[what]++
	} else {
		l["not "+what]++
	}
}

// check tells whether each was so often enough, and wasn't often enough.
func (l tally) check(t *testing.T, least int, whats ...string) {
	t.Helper()
	for _, what := range whats {
		if l[what] < least || l["not "+what] < least {
			t.Errorf("%s: %d times, and %d times not", what, l[what], l["not "+what])
		}
	}
}

// P11.1, P11.3, P11.4, P11.5: constraints by chance, held against another reckoner; and P11.6: numbers that keep some keep what follows.
func TestTwoByChance(t *testing.T) {
	r := rand.New(rand.NewSource(11))
	met := tally{}
	for range 12000 {
		a, whole := chance(r), wholes(r)
		b := akin(r, a)
		if r.Intn(4) == 0 {
			b = chance(r)
		}
		o, p := otherOf(a), otherOf(b)
		dominates, split := cons.Dominates(a, b), cons.Split(a, b, whole)
		rounded, e := cons.Round(a, whole)
		if got, want := told(rounded, e), otherTold(o.rounded(whole)); got != want {
			t.Fatalf("Round(%v, %v) = %s, not %s", o.text(), whole, got, want)
		}
		if tell.OfCons(cons.Form(a)) != o.text() || cons.False(a) != o.isFalse() || dominates != o.dominates(p) || split != o.splits(p, whole) || split != cons.Split(b, a, whole) {
			t.Fatalf("%s, %s, %v: %v, %v, %v, %v", o.text(), p.text(), whole, tell.OfCons(cons.Form(a)), cons.False(a), dominates, split)
		}
		met.add("false", cons.False(a))
		met.add("dominates", dominates)
		met.add("split", split && !o.empty())
		met.add("rounded", e == api.OK)
		for range 4 {
			x := points(r, whole)
			keptA, keptB := cons.Holds(a, x), cons.Holds(b, x)
			met.add("kept", keptA)
			if keptA != o.kept(x) || cons.Holds(a, x[:2]) != o.kept(x[:2]) {
				t.Fatalf("Holds(%s, %v) = %v", o.text(), x, keptA)
			}
			if keptA && cons.False(a) || keptA && dominates && !keptB || keptA && e == api.OK && !cons.Holds(rounded, x) || split && !keptA && !keptB {
				t.Fatalf("%s, %s, %v, %v: %v, %v", o.text(), p.text(), whole, x, keptA, keptB)
			}
		}
	}
	met.check(t, 100, "false", "dominates", "split", "rounded", "kept")
}

// P11.2: sums by chance, held against another reckoner; and P11.6: numbers that keep all keep the sum.
func TestSumsByChance(t *testing.T) {
	r := rand.New(rand.NewSource(12))
	met := tally{}
	for range 12000 {
		var list []api.Cons
		var others []other
		var often []api.Rat
		sense := r.Intn(4)
		for range r.Intn(4) {
			c, n := chance(r), small(r)
			list, others, often = append(list, c), append(others, otherOf(c)), append(often, tell.LooseRat(n, r.Intn))
		}
		if r.Intn(10) == 0 {
			often = append(often, small(r))
		}
		sum, e := cons.Combine(list, often, sense)
		if got, want := told(sum, e), otherTold(combined(others, often, sense)); got != want {
			t.Fatalf("Combine(%v, %v, %d) = %s, not %s", list, often, sense, got, want)
		}
		met.add("OK", e == api.OK)
		met.add("ErrArg", e == api.ErrArg)
		met.add("ErrRule", e == api.ErrRule)
		for range 4 {
			x := points(r, nil)
			all := e == api.OK
			for _, c := range list {
				all = all && cons.Holds(c, x)
			}
			met.add("kept", all && len(list) > 1)
			if all && !cons.Holds(sum, x) {
				t.Fatalf("%v keeps %v, but not %s", x, list, tell.OfCons(sum))
			}
		}
	}
	met.check(t, 100, "OK", "ErrArg", "ErrRule", "kept")
}

// P11.2: a long sum of many constraints of many terms.
func TestLongSum(t *testing.T) {
	const n = 2000
	var list []api.Cons
	var often []api.Rat
	for i := range n {
		c := api.Cons{Sense: api.AtMost, Rhs: tell.Rat("1")}
		for k := range 20 {
			c.Terms = append(c.Terms, api.Term{Col: (i + k) % n, Val: tell.Rat("1/2")})
		}
		list, often = append(list, c), append(often, tell.Rat("2"))
	}
	sum, e := cons.Combine(list, often, api.AtMost)
	if e != api.OK || len(sum.Terms) != n || tell.OfRat(sum.Rhs) != "4000" || tell.OfRat(sum.Terms[n-1].Val) != "20" {
		t.Errorf("%v, %d terms, %s", e, len(sum.Terms), tell.OfRat(sum.Rhs))
	}
	if !cons.Dominates(sum, sum) || cons.False(sum) {
		t.Error("it doesn't dominate itself")
	}
}
