package tell_test

import (
	"math/rand"
	"slices"
	"strings"
	"testing"

	"cutwater/api"
	"cutwater/cert"
	"cutwater/nat"
	"cutwater/rat"
	"cutwater/tell"
	"cutwater/vec"
	"cutwater/zint"
)

// What is read is written so again.
func TestTexts(t *testing.T) {
	for _, s := range []string{"", "0", "-3/2 7 0 7"} {
		if got := tell.OfRats(tell.Rats(s)); got != s {
			t.Errorf("%q is told as %q", s, got)
		}
	}
	for _, s := range []string{"", "1/2@0 -3@5", "0@5 1@-2 2@5"} {
		if got := tell.OfVec(tell.Vec(s)); got != s {
			t.Errorf("%q is told as %q", s, got)
		}
	}
	for _, s := range []string{"", ";", "1@0; ; -3/4@5 7@6;"} {
		if got := tell.OfRows(tell.Rows(s)); got != s {
			t.Errorf("%q is told as %q", s, got)
		}
	}
	for _, s := range []string{"", "1/2@0 -3@5 <= 7;", "= 0; 1@1 >= -1/3; 2@0 1@0 0 5; -4 5; 4 6;"} {
		if got := tell.OfConsList(tell.ConsList(s)); got != s {
			t.Errorf("%q is told as %q", s, got)
		}
	}
}

// Nodes have what their words tell, in that order.
func TestNodes(t *testing.T) {
	for _, s := range []string{"", "5 2 1/3;", "-9223372036854775808 9223372036854775807 -7; 0 0 0;"} {
		if got := tell.OfNodes(tell.Nodes(s)); got != s {
			t.Errorf("%q is told as %q", s, got)
		}
	}
	if n := tell.Nodes("1 1 1; 5 2 1/3;")[1]; n.Id != 5 || n.Depth != 2 || tell.OfRat(n.Least) != "1/3" {
		t.Errorf("%v", n)
	}
}

// Uses are of the bound that their letter tells.
func TestUses(t *testing.T) {
	for _, s := range []string{"", "1/2@3l -1@0h", "0@-1h 7@3l"} {
		if got := tell.OfUses(tell.Uses(s)); got != s {
			t.Errorf("%q is told as %q", s, got)
		}
	}
	if u := tell.Uses("1/2@3l -1@0h"); len(u) != 2 || u[0].Upper || !u[1].Upper || u[0].Col != 3 || tell.OfRat(u[1].Often) != "-1" {
		t.Errorf("%v", u)
	}
}

// Certificates have what their texts tell, and are written so again.
func TestCert(t *testing.T) {
	for _, s := range []string{
		"| | | | none - - | |", "x y | w- | -3@0 -2@1 | 2@0 1@1 <= 7; = 0; | range -11 - | 3@0 1@1; ; | 1@0 <= 2 by sum 1/2@0; <= 0 by assume; 0 1 by round; 1@1 >= 1 by split at 5 -3 0 7;",
		"x | ww- | 0@7 | | 7 - 1/2 | 1@-1; | <= 0 by -1 1@0 at 0 0 0 1; = 1 by 5; = 2 by split;",
	} {
		if got := tell.OfCert(tell.Cert(s)); got != s {
			t.Errorf("%q is told as %q", s, got)
		}
	}
	c := tell.Cert("x y | w- | -3@0 | 2@0 <= 7; | range - 5 | 3@0; ; | 1@0 <= 2 by sum 1/2@0; = 1 by split at 5 3 0 7; >= 1 by assume; = 2 by round 1@1;")
	if len(c.Names) != 2 || c.Names[1] != "y" || !slices.Equal(c.Whole, []bool{true, false}) || tell.OfVec(c.Obj) != "-3@0" || tell.OfConsList(c.Cons) != "2@0 <= 7;" {
		t.Errorf("%v", c)
	}
	if c.Claim != api.ClaimRange || c.HasLo || !c.HasHi || tell.OfRats([]api.Rat{c.Lo, c.Hi}) != "0 5" || tell.OfRows(c.Sols) != "3@0; ;" || tell.Cert("| | | | none - - | |").Claim != api.ClaimNone {
		t.Errorf("%v", c)
	}
	var reasons []int
	for _, d := range c.Ders {
		reasons = append(reasons, d.Reason)
	}
	if d := c.Ders[1]; !slices.Equal(reasons, []int{api.BySum, api.BySplit, api.ByAssume, api.ByRound}) || tell.OfVec(c.Ders[0].Uses) != "1/2@0" || d.Left != 5 || d.LeftIf != 3 || d.Right != 0 || d.RightIf != 7 || tell.OfCons(d.Cons) != "= 1" {
		t.Errorf("%v", c.Ders)
	}
	c.Lo = api.Rat{}
	if got, want := tell.OfCert(c), "range -0? 5"; !strings.Contains(got, want) {
		t.Errorf("%s", got)
	}
}

// Certificates by chance are right.
func TestChanceCert(t *testing.T) {
	r := rand.New(rand.NewSource(8))
	for range 300 {
		if c := tell.ChanceCert(r.Intn); cert.Check(c) != api.OK {
			t.Errorf("%s", tell.OfCert(c))
		}
	}
}

// Constraints have the senses that their words tell, and problems what stands in their texts.
func TestConsAndProblem(t *testing.T) {
	if a := tell.Cons("1@2 <= 7"); a.Sense != api.AtMost || tell.OfVec(a.Terms) != "1@2" || tell.OfRat(a.Rhs) != "7" || tell.Cons(">= 1").Sense != api.AtLeast || tell.Cons("= 1").Sense != api.Equal || tell.Cons("7 1").Sense != 7 {
		t.Errorf("%v", a)
	}
	p := tell.Problem("1 - 2@0 3@1; - 4;", "0 - -1 whole; - 1/2 7; - - 0;")
	if len(p.Rows) != 2 || len(p.Vars) != 3 || p.Obj == "" || p.Rows[0].Name == p.Rows[1].Name || p.Vars[0].Name == p.Vars[1].Name {
		t.Fatalf("%v", p)
	}
	w, v := p.Rows[0], p.Vars[1]
	if !w.HasLo || w.HasHi || tell.OfRats([]api.Rat{w.Lo, w.Hi}) != "1 0" || tell.OfVec(w.Terms) != "2@0 3@1" || len(p.Rows[1].Terms) != 0 {
		t.Errorf("%v", p.Rows)
	}
	if !p.Vars[0].Whole || v.Whole || v.HasLo || !v.HasHi || tell.OfRats([]api.Rat{v.Lo, v.Hi, v.Cost}) != "0 1/2 7" {
		t.Errorf("%v", p.Vars)
	}
	r := rand.New(rand.NewSource(7))
	q := tell.LooseProblem(p, r.Intn)
	if tell.OfVec(q.Rows[0].Terms) == "2@0 3@1" || tell.OfVec(vec.Make(q.Rows[0].Terms)) != "2@0 3@1" || rat.Cmp(q.Vars[1].Hi, v.Hi) != 0 || tell.OfVec(p.Rows[0].Terms) != "2@0 3@1" {
		t.Errorf("%v", q)
	}
	a := tell.LooseCons(tell.Cons("1@2 >= 7"), r.Intn)
	if a.Sense != api.AtLeast || tell.OfVec(vec.Make(a.Terms)) != "1@2" || tell.OfRat(rat.Form(a.Rhs)) != "7" || tell.OfCons(a) == "1@2 >= 7" {
		t.Errorf("%v", a)
	}
}

// Lists of numbers are vectors, and these in other forms are as many.
func TestGather(t *testing.T) {
	rows := tell.Gather([][]api.Rat{tell.Rats("0 2 -1/3"), nil, tell.Rats("7")})
	if got, want := tell.OfRows(rows), "2@1 -1/3@2; ; 7@0;"; got != want {
		t.Errorf("%q, not %q", got, want)
	}
	others := tell.LooseRows(rows, rand.New(rand.NewSource(6)).Intn)
	if len(others) != 3 || tell.OfRows(others) == tell.OfRows(rows) {
		t.Errorf("%q", tell.OfRows(others))
	}
	for i, row := range others {
		if got, want := tell.OfVec(vec.Make(row)), tell.OfVec(rows[i]); got != want {
			t.Errorf("%q, not %q", got, want)
		}
	}
}

// A number that isn't in its one form is told apart.
func TestMarks(t *testing.T) {
	two := []uint64{2}
	for _, a := range []api.Rat{{}, {Num: api.Int{Abs: two}}, {Num: api.Int{Abs: two}, Den: two}, {Num: api.Int{Abs: two}, Den: []uint64{1, 0}}, {Num: api.Int{Abs: []uint64{2, 0}}, Den: []uint64{1}}, {Num: api.Int{Neg: true}, Den: []uint64{1}}} {
		if got, want := tell.OfRat(a), tell.OfRat(rat.Form(a))+"?"; got != want {
			t.Errorf("%v is told as %q, not %q", a, got, want)
		}
	}
}

// Other forms tell the same.
func TestLoose(t *testing.T) {
	pick := rand.New(rand.NewSource(5)).Intn
	for _, a := range tell.Rats("0 1 -1 7 1/2 -6/35 100000000000000000000 3/100000000000000000000") {
		others := 0
		for range 50 {
			b := tell.LooseRat(a, pick)
			i := tell.LooseInt(a.Num, pick)
			if rat.Cmp(a, b) != 0 || zint.Cmp(a.Num, i) != 0 || nat.Cmp(a.Den, tell.LooseWords(a.Den, pick)) != 0 {
				t.Errorf("%v isn't %v", a, b)
			}
			if tell.OfRat(b) != tell.OfRat(a) {
				others++
			}
		}
		if others < 25 {
			t.Errorf("%v stays as it is", a)
		}
	}
	v := tell.Vec("1/2@0 -3@5 100@7")
	for range 50 {
		sums := map[int]api.Rat{}
		for _, term := range tell.LooseVec(v, pick) {
			sums[term.Col] = rat.Add(sums[term.Col], term.Val)
		}
		for col, sum := range sums {
			want := api.Rat{}
			for _, term := range v {
				if term.Col == col {
					want = term.Val
				}
			}
			if col >= 0 && rat.Cmp(sum, want) != 0 {
				t.Errorf("%v at the place %d", sum, col)
			}
		}
	}
}

// Linear problems have what their texts tell, and are written so again.
func TestLP(t *testing.T) {
	for _, c := range [][2]string{{"", ""}, {"0 4 -1 2@0;", "- 3;"}, {"- - 1/2; 1 - 0 1@1 -1/3@0;", "0 0; - -;"}, {"0 1 2;", ""}, {"", "1 2;"}} {
		l := tell.LP(c[0], c[1])
		if got, want := tell.OfLP(l), strings.TrimSpace(strings.TrimSpace(c[0]+" |")+" "+c[1]); got != want {
			t.Errorf("%q is told as %q", want, got)
		}
	}
	l := tell.LP("0 4 -1 2@0;", "- 3;")
	if l.N != 1 || len(l.Cols) != 2 || tell.OfRows(l.Cols) != "2@0; -1@0;" || !l.HasLo[0] || !l.HasHi[0] || l.HasLo[1] || !l.HasHi[1] || tell.OfRats(l.Lo) != "0 0" || tell.OfRats(l.Hi) != "4 3" || tell.OfRats(l.Cost) != "-1 0" {
		t.Errorf("%v", l)
	}
	l.Lo[1], l.Cost[1] = api.Rat{}, tell.Rat("5")
	if got, want := tell.OfLP(l), "0 4 -1 2@0; | -0? 3 5 -1@0;"; got != want {
		t.Errorf("%q, not %q", got, want)
	}
	if got := tell.Status("lhbf?"); !slices.Equal(got, []int{api.AtLo, api.AtHi, api.Basic, api.Free, 0}) || tell.OfStatus(append(got, -1, 5)) != "lhbf???" {
		t.Errorf("%v", got)
	}
}

// Columns go to the bounds that suit their reduced costs, where they have these.
func TestSuit(t *testing.T) {
	l := tell.LP("0 1 0; 0 1 0; 0 1 0; 0 - 0; - 1 0; - - 0; 0 1 0;", "")
	for _, c := range [][3]string{{"lhllhfb", "1 1 0 -1 1 1 1", "llllhfb"}, {"lhllhfb", "-1 -1 0 1 -1 -1 -1", "hhllhfb"}, {"hhhlhfb", "0 0 0 0 0 0 0", "hhhlhfb"}} {
		status := tell.Status(c[0])
		if tell.OfStatus(tell.Suit(l, status, tell.Rats(c[1]))) != c[2] || tell.OfStatus(status) != c[0] {
			t.Errorf("%s at %s: %s", c[0], c[1], tell.OfStatus(tell.Suit(l, status, tell.Rats(c[1]))))
		}
	}
}

// A linear problem is rounded in all its numbers, and stays as it was.
func TestRounded(t *testing.T) {
	was := "-1/2 7/2 -1/3 5/2@0 1/2@1; - 9 1; | - 3/2; 1 -;"
	l := tell.LP("-1/2 7/2 -1/3 5/2@0 1/2@1; - 9 1;", "- 3/2; 1 -;")
	if got, want := tell.OfLP(tell.Rounded(l)), "-1 3 -1 2@0; - 9 1; | - 1; 1 -;"; got != want || tell.OfLP(l) != was {
		t.Errorf("%s, not %s; %s", got, want, tell.OfLP(l))
	}
}
