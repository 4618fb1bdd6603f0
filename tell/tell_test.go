package tell_test

import (
	"math/rand"
	"testing"

	"cutwater/api"
	"cutwater/nat"
	"cutwater/rat"
	"cutwater/tell"
	"cutwater/vec"
	"cutwater/zint"
)

// What is read is written so again.
func TestTexts(t *testing.T) {
	for _, s := range []string{"", "0", "-3/2 7 0 7"} {
		if got := tell.OfRats(tell.Rats(s)); got != s {
			t.Errorf("%q is told as %q", s, got)
		}
	}
	for _, s := range []string{"", "1/2@0 -3@5", "0@5 1@-2 2@5"} {
		if got := tell.OfVec(tell.Vec(s)); got != s {
			t.Errorf("%q is told as %q", s, got)
		}
	}
	for _, s := range []string{"", ";", "1@0; ; -3/4@5 7@6;"} {
		if got := tell.OfRows(tell.Rows(s)); got != s {
			t.Errorf("%q is told as %q", s, got)
		}
	}
}

// Lists of numbers are vectors, and these in other forms are as many.
func TestGather(t *testing.T) {
	rows := tell.Gather([][]api.Rat{tell.Rats("0 2 -1/3"), nil, tell.Rats("7")})
	if got, want := tell.OfRows(rows), "2@1 -1/3@2; ; 7@0;"; got != want {
		t.Errorf("%q, not %q", got, want)
	}
	others := tell.LooseRows(rows, rand.New(rand.NewSource(6)).Intn)
	if len(others) != 3 || tell.OfRows(others) == tell.OfRows(rows) {
		t.Errorf("%q", tell.OfRows(others))
	}
	for i, row := range others {
		if got, want := tell.OfVec(vec.Make(row)), tell.OfVec(rows[i]); got != want {
			t.Errorf("%q, not %q", got, want)
		}
	}
}

// A number that isn't in its one form is told apart.
func TestMarks(t *testing.T) {
	two := []uint64{2}
	for _, a := range []api.Rat{{}, {Num: api.Int{Abs: two}}, {Num: api.Int{Abs: two}, Den: two}, {Num: api.Int{Abs: two}, Den: []uint64{1, 0}}, {Num: api.Int{Abs: []uint64{2, 0}}, Den: []uint64{1}}, {Num: api.Int{Neg: true}, Den: []uint64{1}}} {
		if got, want := tell.OfRat(a), tell.OfRat(rat.Form(a))+"?"; got != want {
			t.Errorf("%v is told as %q, not %q", a, got, want)
		}
	}
}

// Other forms tell the same.
func TestLoose(t *testing.T) {
	pick := rand.New(rand.NewSource(5)).Intn
	for _, a := range tell.Rats("0 1 -1 7 1/2 -6/35 100000000000000000000 3/100000000000000000000") {
		others := 0
		for range 50 {
			b := tell.LooseRat(a, pick)
			i := tell.LooseInt(a.Num, pick)
			if rat.Cmp(a, b) != 0 || zint.Cmp(a.Num, i) != 0 || nat.Cmp(a.Den, tell.LooseWords(a.Den, pick)) != 0 {
				t.Errorf("%v isn't %v", a, b)
			}
			if tell.OfRat(b) != tell.OfRat(a) {
				others++
			}
		}
		if others < 25 {
			t.Errorf("%v stays as it is", a)
		}
	}
	v := tell.Vec("1/2@0 -3@5 100@7")
	for range 50 {
		sums := map[int]api.Rat{}
		for _, term := range tell.LooseVec(v, pick) {
			sums[term.Col] = rat.Add(sums[term.Col], term.Val)
		}
		for col, sum := range sums {
			want := api.Rat{}
			for _, term := range v {
				if term.Col == col {
					want = term.Val
				}
			}
			if col >= 0 && rat.Cmp(sum, want) != 0 {
				t.Errorf("%v at the place %d", sum, col)
			}
		}
	}
}
