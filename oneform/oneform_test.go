package oneform_test

import (
	"math"
	"testing"

	"cutwater/api"
	"cutwater/oneform"
	"cutwater/tell"
)

func TestNumber(t *testing.T) {
	for _, a := range tell.Rats("0 1 -1 7/2 -6/35 100000000000000000000 -3/100000000000000000000") {
		if !oneform.Number(a) {
			t.Errorf("%v isn't in its one form", a)
		}
	}
	one, two := []uint64{1}, []uint64{2}
	for _, a := range []api.Rat{
		{}, {Den: []uint64{0}}, {Den: two}, {Den: []uint64{1, 0}}, {Num: api.Int{Neg: true}, Den: one}, {Num: api.Int{Abs: []uint64{0}}, Den: one},
		{Num: api.Int{Abs: two}}, {Num: api.Int{Abs: two}, Den: two}, {Num: api.Int{Abs: []uint64{2, 0}}, Den: one}, {Num: api.Int{Neg: true, Abs: two}, Den: []uint64{6}},
	} {
		if oneform.Number(a) {
			t.Errorf("%v is in its one form", a)
		}
	}
}

func TestVector(t *testing.T) {
	for _, c := range []struct {
		v    string
		n    int
		want bool
	}{
		{"", 0, true}, {"", -1, true}, {"", math.MinInt, true}, {"1@0", 1, true}, {"1@0", 0, false}, {"1@0", -1, false},
		{"1@0 -1/2@3", 4, true}, {"1@0 -1/2@3", 3, false}, {"1@3 1@0", 4, false}, {"1@0 1@0", 4, false}, {"1@-1", 4, false}, {"1@0 0@1", 4, false},
		{"1@0 2@1 3@2", 3, true}, {"1@9223372036854775807", math.MaxInt, false}, {"1@9223372036854775806", math.MaxInt, true}, {"1@-9223372036854775808", 1, false},
	} {
		if got := oneform.Vector(tell.Vec(c.v), c.n); got != c.want {
			t.Errorf("Vector(%s, %d) = %v", c.v, c.n, got)
		}
	}
	if oneform.Vector([]api.Term{{Val: api.Rat{Num: api.Int{Abs: []uint64{2}}}}}, 1) {
		t.Error("a number isn't in its one form")
	}
}
