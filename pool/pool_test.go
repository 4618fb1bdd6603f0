package pool_test

import (
	"math"
	"slices"
	"testing"

	"cutwater/api"
	"cutwater/pool"
	"cutwater/rat"
	"cutwater/tell"
)

// added tells what a list of constraints does to a pool, one by one: a plus for each that it took.
func added(p *pool.Pool, list string) string {
	out := ""
	for _, c := range tell.ConsList(list) {
		out += map[bool]string{false: "-", true: "+"}[p.Add(c)]
	}
	return out
}

// Example 1.
func TestExample(t *testing.T) {
	p := pool.New(3)
	if got := added(p, "2@0 4@1 <= 6;"); got != "+" || tell.OfConsList(p.Cuts()) != "1@0 2@1 <= 3;" {
		t.Errorf("%s, %s", got, tell.OfConsList(p.Cuts()))
	}
	if got := added(p, "1@0 2@1 <= 4; 1@0 2@1 <= 2;"); got != "-+" || tell.OfConsList(p.Cuts()) != "1@0 2@1 <= 2;" || p.Len() != 1 {
		t.Errorf("%s, %s", got, tell.OfConsList(p.Cuts()))
	}
}

// P19.1
func TestScale(t *testing.T) {
	for c, want := range map[string]string{
		"2@0 4@1 <= 6": "1@0 2@1 <= 3", "-2@0 4@1 >= 6": "-1@0 2@1 >= 3", "4@1 -1/2@0 = 1/3": "-1@0 8@1 = 2/3", "2/3@5 <= -1": "1@5 <= -3/2", "1@0 <= 7": "1@0 <= 7", "-1@0 <= 7": "-1@0 <= 7",
		"2@1 3@0 -1@1 0@2 5@-1 1@0 <= 8": "1@0 1/4@1 <= 2", "<= 6": "<= 6", "1@3 -1@3 >= -1/2": ">= -1/2", "5@-1 = 4": "= 4", "2@0 0 3": "1@0 0 3/2", "-4@1 -7 3": "-1@1 -7 3/4", "4 5": "4 5",
		"100000000000000000000@2 1@3 = 1": "1@2 1/100000000000000000000@3 = 1/100000000000000000000",
	} {
		if got := tell.OfCons(pool.Scale(tell.Cons(c))); got != want {
			t.Errorf("%s: %s, not %s", c, got, want)
		}
	}
	loose := api.Cons{Sense: api.AtMost, Terms: []api.Term{{Col: 2, Val: api.Rat{Num: api.Int{Neg: true, Abs: []uint64{6, 0}}, Den: []uint64{4}}}, {Col: 1}}}
	if got, want := tell.OfCons(pool.Scale(loose)), "-1@2 <= 0"; got != want {
		t.Errorf("%s, not %s", got, want)
	}
}

// P19.2, P19.3: what is added, and what stands then.
func TestAdd(t *testing.T) {
	for _, c := range []struct{ list, took, cuts string }{
		{"", "", ""}, {"1@0 0 1; 1@0 4 1; 1@0 -1 1;", "---", ""}, {"<= -1; >= 1; = 1; <= 1; 1@3 -1@3 = 1; 0@1 >= 5; 2@-1 <= 4;", "-------", ""}, // no sense, no terms
		{"3@0 <= 6; 1@0 <= 2; 1@0 <= 3; 5@0 <= 9; 1@0 <= 2;", "+--+-", "1@0 <= 9/5;"}, {"3@0 >= 6; 1@0 >= 2; 1@0 >= 1; 5@0 >= 11; 1@0 >= 2;", "+--+-", "1@0 >= 11/5;"},
		{"3@0 = 6; 1@0 = 2; 1@0 <= 2; 1@0 >= 2; 1@0 <= 3; 1@0 >= 1;", "+-----", "1@0 = 2;"}, {"1@0 = 2; 1@0 <= 1; 1@0 >= 3;", "+++", "1@0 = 2; 1@0 <= 1; 1@0 >= 3;"}, // what is Equal dominates
		{"1@0 = 2; 2@0 = 6; 1@0 = 2;", "+++", "1@0 = 2;"}, {"1@0 <= 2; 1@0 >= 2; 1@0 = 2; 1@0 <= 2;", "+++-", "1@0 <= 2; 1@0 >= 2; 1@0 = 2;"}, // but isn't dominated by others
		{"1@0 <= 2; -1@0 >= -2; -1@0 <= 2; 1@0 >= -2;", "++++", "1@0 <= 2; -1@0 >= -2; -1@0 <= 2; 1@0 >= -2;"},                                   // the sign stays
		{"1@0 <= 2; 1@1 <= 2; 1@0 1@1 <= 2; 1@0 2@1 <= 2; 2@0 4@1 <= 2; 1@1 <= 1;", "++++++", "1@0 <= 2; 1@1 <= 1; 1@0 1@1 <= 2; 1@0 2@1 <= 1;"}, // at its old place
		{"1@0 1@1 1@2 <= 4; 1@2 1@0 1@1 <= 4; 2@0 1@1 -1@0 1@2 0@3 <= 3;", "+-+", "1@0 1@1 1@2 <= 3;"},
	} {
		p := pool.New(0)
		if got := added(p, c.list); got != c.took || tell.OfConsList(p.Cuts()) != c.cuts || p.Len() != len(p.Cuts()) {
			t.Errorf("%s: %s, %s, %d; not %s, %s", c.list, got, tell.OfConsList(p.Cuts()), p.Len(), c.took, c.cuts)
		}
	}
}

// P19.3
func TestBroken(t *testing.T) {
	p := pool.New(0)
	added(p, "1@0 <= 2; 1@0 >= 1; 1@0 1@1 = 3; 1@5 <= -1/2; 2@1 <= 1;")
	for x, want := range map[string][]int{
		"": {1, 2, 3}, "2 1": {3, 4}, "2 1 0 0 0 -1/2": {4}, "3": {0, 3}, "5/2 1/2 0 0 0 -1": {0}, "2 1/2 0 0 0 -7": {2}, "0 5 0 0 0 0 9": {1, 2, 3, 4},
	} {
		if got := p.Broken(tell.Rats(x)); !slices.Equal(got, want) {
			t.Errorf("%s: %v, not %v", x, got, want)
		}
	}
	if got := pool.New(1).Broken(nil); len(got) != 0 {
		t.Errorf("%v", got)
	}
}

// P19.4: cuts that are not touched go, when that is so too often one after the other.
func TestAge(t *testing.T) {
	type step struct {
		x    string // the numbers, or a constraint
		went int
		cuts string
	}
	all := "1@0 <= 2; 1@0 >= 1; 1@1 = 3;"
	for _, c := range []struct {
		patience int
		list     string
		steps    []step
	}{
		{1, all, []step{{"2 3", 0, all}, {"2 3", 1, "1@0 <= 2; 1@1 = 3;"}, {"", 0, "1@0 <= 2; 1@1 = 3;"}, {"2", 1, "1@0 <= 2;"}, {"0", 0, "1@0 <= 2;"}, {"0", 1, ""}, {"0", 0, ""}}},
		{0, all, []step{{"2 3", 1, "1@0 <= 2; 1@1 = 3;"}, {"1 3", 1, "1@1 = 3;"}, {"1 4", 1, ""}}}, {0, all, []step{{"7 7", 3, ""}}},
		{2, all, []step{{"", 0, all}, {"", 0, all}, {"2 3", 1, "1@0 <= 2; 1@1 = 3;"}, {"", 0, "1@0 <= 2; 1@1 = 3;"}, {"", 0, "1@0 <= 2; 1@1 = 3;"}, {"", 2, ""}}},                                                                 // one that is touched is as new
		{1, "1@0 <= 2; 1@1 <= 2;", []step{{"", 0, "1@0 <= 2; 1@1 <= 2;"}, {"+1@0 <= 1; 1@1 <= 2;", 0, "1@0 <= 1; 1@1 <= 2;"}, {"", 1, "1@0 <= 1;"}, {"+1@1 <= 2;", 0, "1@0 <= 1; 1@1 <= 2;"}, {"", 1, "1@1 <= 2;"}, {"", 1, ""}}}, // as is one that has another right side; one that is dominated changes nothing
		{-1, all, []step{{"2 3", 3, ""}}}, {math.MinInt, all, []step{{"1 3", 3, ""}}}, {math.MaxInt, all, []step{{"", 0, all}, {"", 0, all}}}, {5, "", []step{{"1", 0, ""}}},
		{0, "2@0 4@1 <= 3; 1/3@1 <= 2/3;", []step{{"-1/2 1", 1, "1@0 2@1 <= 3/2;"}, {"3/2 0 7", 0, "1@0 2@1 <= 3/2;"}}}, {0, "1@1 <= 0; 1@5 >= 0;", []step{{"7", 0, "1@1 <= 0; 1@5 >= 0;"}}},
	} {
		p := pool.New(c.patience)
		added(p, c.list)
		for i, s := range c.steps {
			went := 0
			if s.x != "" && s.x[0] == '+' {
				added(p, s.x[1:])
			} else {
				went = p.Age(tell.Rats(s.x))
			}
			if got := tell.OfConsList(p.Cuts()); went != s.went || got != s.cuts {
				t.Errorf("%d, %s, %d: %d, %s, not %d, %s", c.patience, c.list, i, went, got, s.went, s.cuts)
			}
		}
	}
}

// P19.5 and rule 6: what is handed in stays as it was, and is not kept; answers are new memory; two pools are apart.
func TestOwnMemory(t *testing.T) {
	p, q := pool.New(0), pool.New(1)
	c, x := tell.Cons("4@1 2@0 <= 6"), tell.Rats("1 1")
	scaled := pool.Scale(c)
	if !p.Add(c) || p.Add(scaled) || tell.OfCons(c) != "4@1 2@0 <= 6" || tell.OfCons(scaled) != "1@0 2@1 <= 3" || tell.OfRats(x) != "1 1" {
		t.Errorf("%s, %s, %s", tell.OfCons(c), tell.OfCons(scaled), tell.OfRats(x))
	}
	q.Add(scaled)
	wipe([]api.Cons{c})
	wipe([]api.Cons{scaled})
	wipe(p.Cuts())
	if got := tell.OfConsList(p.Cuts()) + tell.OfConsList(q.Cuts()); got != "1@0 2@1 <= 3;1@0 2@1 <= 3;" {
		t.Errorf("became %s", got)
	}
	broken := q.Broken(tell.Rats("7"))
	broken[0] = 5
	if p.Age(tell.Rats("7")) != 1 || p.Len() != 0 || q.Len() != 1 || !slices.Equal(q.Broken(tell.Rats("7")), []int{0}) {
		t.Errorf("%d, %d", p.Len(), q.Len())
	}
}

// P19.2: many cuts.
func TestMany(t *testing.T) {
	const many = 3000
	p := pool.New(0)
	for i := range many {
		c := api.Cons{Sense: api.AtMost, Terms: []api.Term{{Col: i % 40, Val: rat.Whole(1)}, {Col: 40 + i/40, Val: rat.Whole(int64(-1 - i))}}, Rhs: rat.Whole(int64(i))}
		if !p.Add(c) || p.Add(c) {
			t.Fatalf("%d", i)
		}
	}
	if p.Len() != many || len(p.Broken(nil)) != 0 || p.Age(nil) != many-1 {
		t.Errorf("%d", p.Len())
	}
}

// wipe writes over constraints.
func wipe(list []api.Cons) {
	for i, c := range list {
		numbers := []api.Rat{c.Rhs}
		for k, t := range c.Terms {
			numbers = append(numbers, t.Val)
			c.Terms[k].Col = 99
		}
		for _, a := range numbers {
			for _, words := range [][]uint64{a.Num.Abs, a.Den} {
				for j := range words {
					words[j] = 99
				}
			}
		}
		list[i].Sense = 7
	}
}
