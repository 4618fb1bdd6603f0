package branch_test

import (
	"math"
	"strconv"
	"strings"
	"testing"

	"cutwater/api"
	"cutwater/branch"
	"cutwater/tell"
)

// taught gives a brancher that was told, by words such as 3u1/2:5, that 1/2 upwards gained 5 of the variable 3; with d for downwards.
func taught(t *testing.T, rule int, lessons string) *branch.Brancher {
	t.Helper()
	b, e := branch.New(rule)
	if e != api.OK {
		t.Fatal(e)
	}
	for _, word := range strings.Fields(lessons) {
		at := strings.IndexAny(word, "ud")
		col, err := strconv.Atoi(word[:at])
		step, gain, _ := strings.Cut(word[at+1:], ":")
		if err != nil || !b.Learn(col, word[at] == 'u', tell.Rat(step), tell.Rat(gain)) {
			t.Fatal(word)
		}
	}
	return b
}

// flags reads which variables are whole: a w each.
func flags(s string) []bool {
	var out []bool
	for _, letter := range s {
		out = append(out, letter == 'w')
	}
	return out
}

// Example 1.
func TestExample(t *testing.T) {
	b := taught(t, api.MostBroken, "")
	if i, found := b.Choose(flags("wwww"), tell.Rats("1/3 1/2 5 1/2")); i != 1 || !found {
		t.Errorf("%d, %v", i, found)
	}
	b = taught(t, api.Learned, "0u1/3:2")
	if got := tell.OfRat(b.Score(0, tell.Rat("1/3"))); got != "4/3" {
		t.Errorf("%s", got)
	}
}

// P21.1: there are two rules.
func TestNew(t *testing.T) {
	for _, rule := range []int{-1, 2, 3, math.MaxInt, math.MinInt} {
		if b, e := branch.New(rule); b != nil || e != api.ErrArg {
			t.Errorf("%d: %v, %v", rule, b, e)
		}
	}
	for _, rule := range []int{api.MostBroken, api.Learned, 0, 1} {
		if b, e := branch.New(rule); b == nil || e != api.OK {
			t.Errorf("%d: %v, %v", rule, b, e)
		}
	}
}

// P21.1: what can't be learned changes nothing.
func TestLearn(t *testing.T) {
	for _, c := range []struct {
		col        int
		up         bool
		step, gain string
		want       bool
	}{
		{0, true, "1/2", "3", true}, {0, false, "1/2", "3", true}, {0, true, "7", "0", true}, {math.MaxInt, false, "1/100000000000000000000", "100000000000000000000", true},
		{-1, true, "1/2", "3", false}, {math.MinInt, false, "1/2", "3", false}, {0, true, "0", "3", false}, {0, false, "-1/2", "3", false}, {0, true, "1/2", "-1/9", false}, {0, false, "0", "0", false}, {-1, true, "0", "-1", false},
	} {
		for rule := range 2 {
			b := taught(t, rule, "0u1/3:5 0d1/7:2 9u1:1")
			before := tell.OfRat(b.Score(c.col, tell.Rat("2/5")))
			if got := b.Learn(c.col, c.up, tell.Rat(c.step), tell.Rat(c.gain)); got != c.want {
				t.Errorf("%d, %v: %v", rule, c, got)
			}
			if after := tell.OfRat(b.Score(c.col, tell.Rat("2/5"))); (after == before) != (!c.want || rule == api.MostBroken) {
				t.Errorf("%d, %v: %s became %s", rule, c, before, after)
			}
		}
	}
	loose := api.Rat{Num: api.Int{Neg: true}, Den: []uint64{1}} // 0, though its Neg is told
	b := taught(t, api.Learned, "")
	if b.Learn(1, true, loose, tell.Rat("1")) || !b.Learn(1, true, tell.Rat("1"), loose) || tell.OfRat(b.Score(1, tell.Rat("1/2"))) != "0" {
		t.Errorf("%v", b)
	}
}

// P21.2
func TestScore(t *testing.T) {
	for _, c := range []struct {
		rule    int
		lessons string
		col     int
		part    string
		want    string
	}{
		{api.MostBroken, "", 0, "1/3", "1/3"}, {api.MostBroken, "", 5, "3/4", "1/4"}, {api.MostBroken, "", -7, "1/2", "1/2"}, {api.MostBroken, "3u1:9 3d1:0", 3, "4/9", "4/9"},
		{api.MostBroken, "", 0, "0", "0"}, {api.MostBroken, "", 0, "1", "0"}, {api.MostBroken, "", 0, "-2", "-2"}, {api.MostBroken, "", 0, "7/2", "-5/2"}, // any number is a part
		{api.Learned, "", 0, "1/3", "2/9"}, {api.Learned, "", -1, "1/2", "1/4"}, {api.Learned, "0u1:5", math.MinInt, "1/2", "1/4"}, {api.Learned, "", math.MaxInt, "1/4", "3/16"},
		{api.Learned, "0u1/3:2", 0, "1/3", "4/3"}, {api.Learned, "0d1/3:2", 0, "1/3", "4/3"}, {api.Learned, "0u1/3:2", 1, "1/3", "2/9"}, // the other way, and the others, have learned nothing
		{api.Learned, "0d1/2:3 0d1/4:3", 0, "1/2", "9/4"}, // the mean of what each gained a step, not of gains and steps
		{api.Learned, "0u1/2:3 0u1/4:3 0u1:0", 0, "1/2", "3/2"}, {api.Learned, "0d1/2:1 0u1/2:3", 0, "1/4", "9/4"}, {api.Learned, "0d1/2:1 0u1/2:3", 0, "3/4", "9/4"}, {api.Learned, "0d1:2 0u1:3 0u1:3", 0, "2/3", "4/3"},
		{api.Learned, "0d1:0", 0, "1/2", "0"}, {api.Learned, "0u1:0 0d1:0", 0, "1/3", "0"}, // what gained nothing, and what wasn't told, are two
		{api.Learned, "", 0, "0", "0"}, {api.Learned, "", 0, "1", "0"}, {api.Learned, "4u1:2", 4, "3", "-12"}, {api.Learned, "4u1:2", 4, "-1/2", "-3/2"},
		{api.Learned, "2u1/100000000000000000000:1 2d1:1/3", 2, "1/2", "25000000000000000000/3"},
	} {
		b := taught(t, c.rule, c.lessons)
		for range 2 {
			if got := tell.OfRat(b.Score(c.col, tell.Rat(c.part))); got != c.want {
				t.Errorf("%v: %s", c, got)
			}
		}
	}
	loose := api.Rat{Num: api.Int{Abs: []uint64{2, 0}}, Den: []uint64{6, 0}}
	for rule, want := range []string{"1/3", "2/9"} {
		if got := tell.OfRat(taught(t, rule, "").Score(0, loose)); got != want {
			t.Errorf("%d: %s, not %s", rule, got, want)
		}
	}
}

// P21.3
func TestChoose(t *testing.T) {
	for _, c := range []struct {
		rule              int
		lessons, whole, x string
		want              int
		found             bool
	}{
		{api.MostBroken, "", "wwww", "1/3 1/2 5 1/2", 1, true}, {api.MostBroken, "", "w-w-", "1/3 1/2 5 1/2", 0, true}, {api.MostBroken, "", "---w", "1/3 1/2 5 1/2", 3, true},
		{api.MostBroken, "", "www", "1/4 3/4 1/4", 0, true}, {api.MostBroken, "", "www", "-7/4 1/9 9/4", 0, true}, {api.MostBroken, "", "www", "-1/9 1/8 7/8", 1, true}, {api.MostBroken, "", "ww", "100000000000000000000/7 -100000000000000000000/3", 1, true},
		{api.MostBroken, "2u1:9 2d1:9", "www", "1/2 1/3 1/4", 0, true},                                        // learns for nothing
		{api.MostBroken, "", "ww", "1 1/9 1/2", 1, true}, {api.MostBroken, "", "wwwww", "1 1/9 1/2", 2, true}, // below both lengths
		{api.MostBroken, "", "", "", 0, false}, {api.MostBroken, "", "", "1/2", 0, false}, {api.MostBroken, "", "w", "", 0, false}, {api.MostBroken, "", "w-w", "3 1/2 -4", 0, false}, {api.MostBroken, "", "www", "0 0 0", 0, false}, {api.MostBroken, "", "---", "1/2 1/3 1/4", 0, false},
		{api.Learned, "", "www", "1/3 1/2 2/3", 1, true}, {api.Learned, "", "www", "5 1/3 2/3", 1, true}, {api.Learned, "2u1:2", "www", "1/2 1/2 1/2", 2, true}, {api.Learned, "2u1:2 0d1:2", "www", "1/2 1/2 1/2", 0, true},
		{api.Learned, "0u1:0", "ww", "1/2 1/9", 1, true}, {api.Learned, "1u1:0", "-w", "1/2 1/9", 1, true}, {api.Learned, "0u1:0 1u1:0", "ww", "2/3 1/2", 0, true}, {api.Learned, "1u1:0", "ww", "1 8/9", 1, true}, // scores of 0
		{api.Learned, "0u1/2:3 1d1/2:4", "ww", "-7/3 -5/3", 1, true}, {api.Learned, "0u1:1", "w", "2", 0, false}, {api.Learned, "3u1:9", "www", "1/3 1/2 2/3 1/2", 1, true},
	} {
		b := taught(t, c.rule, c.lessons)
		for range 2 {
			if got, found := b.Choose(flags(c.whole), tell.Rats(c.x)); got != c.want || found != c.found {
				t.Errorf("%v: %d, %v", c, got, found)
			}
		}
	}
	loose := []api.Rat{{}, {Num: api.Int{Abs: []uint64{6, 0}}, Den: []uint64{3}}, {Num: api.Int{Abs: []uint64{7}}}, {Num: api.Int{Neg: true, Abs: []uint64{6}}, Den: []uint64{4, 0}}}
	if got, found := taught(t, api.MostBroken, "").Choose(flags("wwww"), loose); got != 3 || !found {
		t.Errorf("%d, %v", got, found)
	}
}

// P21.4 and rule 6: what is handed in stays as it was, and is not kept; answers are new memory; two branchers are apart.
func TestOwnMemory(t *testing.T) {
	for rule, want := range []string{"2/5", "132/25"} {
		b, other := taught(t, rule, "0d1:2"), taught(t, rule, "")
		step, gain, part := tell.Rat("1/11"), tell.Rat("1"), tell.Rat("2/5")
		whole, x := flags("-w"), tell.Rats("1/2 2/5")
		b.Learn(0, true, step, gain)
		score := b.Score(0, part)
		other.Score(0, part)
		b.Choose(whole, x)
		if tell.OfRats([]api.Rat{score, step, gain, part}) != want+" 1/11 1 2/5" || tell.OfRats(x) != "1/2 2/5" || whole[0] || !whole[1] {
			t.Errorf("%d: %s, %s", rule, tell.OfRats([]api.Rat{score, step, gain, part}), tell.OfRats(x))
		}
		for _, a := range append(x, score, step, gain, part) {
			wipe(a)
		}
		if got := tell.OfRat(b.Score(0, tell.Rat("2/5"))); got != want {
			t.Errorf("%d: %s, not %s", rule, got, want)
		}
		if got := tell.OfRat(other.Score(0, tell.Rat("2/5"))); got != []string{"2/5", "6/25"}[rule] {
			t.Errorf("%d: another one is %s", rule, got)
		}
	}
}

// wipe writes over a number, its spare room too.
func wipe(a api.Rat) {
	for _, words := range [][]uint64{a.Num.Abs, a.Den} {
		words = words[:cap(words)]
		for i := range words {
			words[i] = 99
		}
	}
}
