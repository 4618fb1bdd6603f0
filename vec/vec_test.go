package vec_test

import (
	"math"
	"math/rand"
	"strconv"
	"testing"

	"cutwater/api"
	"cutwater/rat"
	"cutwater/tell"
	"cutwater/vec"
)

// sums is another reckoner of vectors: what stands at the places below n, in a list without noughts left out.
func sums(v []api.Term, n int) []api.Rat {
	out := make([]api.Rat, n)
	for i := range out {
		out[i] = rat.Whole(0)
		for _, t := range v {
			if t.Col == i {
				out[i] = rat.Add(out[i], t.Val)
			}
		}
	}
	return out
}

// oneForm tells the vector of a list of numbers.
func oneForm(x []api.Rat) string {
	out := ""
	for i, a := range x {
		if rat.Sign(a) != 0 {
			out += " " + tell.OfRat(a) + "@" + strconv.Itoa(i)
		}
	}
	return out[min(1, len(out)):]
}

// great gives a number of many words.
func great(r *rand.Rand) api.Rat {
	out := rat.Whole(r.Int63n(5) - 2)
	for range r.Intn(6) {
		a, _ := rat.Of(r.Int63()-r.Int63(), 1+r.Int63n(1<<uint(1+r.Intn(62))))
		out = rat.Mul(a, rat.Add(a, out))
	}
	return out
}

// some gives vectors of all kinds, in forms of all kinds, whose places are below 10.
func some() [][]api.Term {
	r := rand.New(rand.NewSource(7))
	out := [][]api.Term{nil, {}, tell.Vec("0@0"), tell.Vec("1@0 -1@0"), tell.Vec("5@-1"), tell.Vec("1@2 1@1 1@2 -2@2 3@0"), {{}}, {{Col: 3}, {Col: 3, Val: api.Rat{Num: api.Int{Abs: []uint64{4, 0}}}}}}
	for i := range 60 {
		var v []api.Term
		for range r.Intn(9) {
			v = append(v, api.Term{Col: r.Intn(10), Val: great(r)})
		}
		if i%2 == 0 {
			v = tell.LooseVec(v, r.Intn)
		}
		out = append(out, v)
	}
	return out
}

// P5.1
func TestMake(t *testing.T) {
	for s, want := range map[string]string{
		"": "", "1@0": "1@0", "0@0": "", "0@0 0@7": "", "2@1 1@0 -2@1": "1@0", "1@5 2@3 3@4": "2@3 3@4 1@5", "1/2@4 1/3@4 1/6@4": "1@4", "-1/2@4 1/3@4": "-1/6@4",
		"1@-1": "", "1@-1 2@0 3@-1 4@0": "6@0", "5@-9223372036854775808 6@9223372036854775807 7@0 8@-1": "7@0 6@9223372036854775807",
		"1@9223372036854775807 1@9223372036854775806 -1@9223372036854775807": "1@9223372036854775806",
	} {
		if got := tell.OfVec(vec.Make(tell.Vec(s))); got != want {
			t.Errorf("Make(%s) = %s, not %s", s, got, want)
		}
	}
	for _, v := range some() {
		if got, want := tell.OfVec(vec.Make(v)), oneForm(sums(v, 10)); got != want {
			t.Errorf("Make(%v) = %s, not %s", v, got, want)
		}
	}
}

// P5.1: many terms, none of them where it belongs, and as many that leave nothing.
func TestMakeLong(t *testing.T) {
	const n = 5000
	var v []api.Term
	want := make([]api.Rat, n)
	for i := range n {
		col := i * 7 % n
		want[col] = rat.Whole(int64(col % 3))
		v = append(v, api.Term{Col: col, Val: want[col]}, api.Term{Col: n - i, Val: rat.Whole(1)}, api.Term{Col: n - i, Val: rat.Whole(-1)})
	}
	if got := tell.OfVec(vec.Make(v)); got != oneForm(want) {
		t.Errorf("Make = %s", got)
	}
}

// P5.1
func TestGet(t *testing.T) {
	for _, v := range some() {
		for i, want := range sums(v, 10) {
			if got := vec.Get(v, i); tell.OfRat(got) != tell.OfRat(want) {
				t.Errorf("Get(%v, %d) = %v, not %v", v, i, got, want)
			}
		}
		for _, col := range []int{-1, -2, 10, 11, math.MaxInt, math.MinInt} {
			if got := vec.Get(v, col); tell.OfRat(got) != "0" {
				t.Errorf("Get(%v, %d) = %v", v, col, got)
			}
		}
	}
	v := tell.Vec("3@-1 4@-9223372036854775808 5@9223372036854775807")
	for col, want := range map[int]string{-1: "0", math.MinInt: "0", math.MaxInt: "5"} {
		if got := tell.OfRat(vec.Get(v, col)); got != want {
			t.Errorf("at %d: %s, not %s", col, got, want)
		}
	}
}

// P5.1
func TestDot(t *testing.T) {
	for _, c := range []struct{ v, x, want string }{
		{"3@0 1@5", "2 7", "6"}, {"", "1 2", "0"}, {"1@0", "", "0"}, {"1@-1 1@2", "5 6", "0"}, {"1@1 2@0 3@1", "1/4 1/2", "5/2"}, {"1/2@0 -1/2@0", "7", "0"},
		{"5@9223372036854775807 6@-9223372036854775808 7@0", "-1", "-7"}, {"1@1", "0 1/3", "1/3"}, {"1@1", "1 0", "0"}, {"2@2", "1 1", "0"},
	} {
		if got := tell.OfRat(vec.Dot(tell.Vec(c.v), tell.Rats(c.x))); got != c.want {
			t.Errorf("Dot(%s, %s) = %s, not %s", c.v, c.x, got, c.want)
		}
	}
	r := rand.New(rand.NewSource(8))
	for _, v := range some() {
		var x []api.Rat
		want := rat.Whole(0)
		for _, a := range sums(v, r.Intn(12)) {
			b := great(r)
			want = rat.Add(want, rat.Mul(a, b))
			x = append(x, tell.LooseRat(b, r.Intn))
		}
		if got := vec.Dot(v, x); tell.OfRat(got) != tell.OfRat(want) {
			t.Errorf("Dot(%v, %v) = %v, not %v", v, x, got, want)
		}
	}
}

// P5.1
func TestScaleAxpy(t *testing.T) {
	for _, c := range []struct{ a, v, w, scaled, sum string }{
		{"2", "1@0 1/2@3", "-2@0 5@1", "2@0 1@3", "5@1 1@3"}, {"0", "1@0", "1@1", "", "1@1"}, {"1", "", "", "", ""}, {"-1/3", "3@2 1@2", "1@0 -1@0", "-4/3@2", "-4/3@2"},
		{"5", "1@-3 0@4", "7@-3 8@6", "", "8@6"}, {"-1", "1@2 2@1", "1@2 2@1", "-2@1 -1@2", ""}, {"7", "1@9223372036854775807", "2@0", "7@9223372036854775807", "2@0 7@9223372036854775807"},
	} {
		a, v, w := tell.Rat(c.a), tell.Vec(c.v), tell.Vec(c.w)
		if scaled, sum := tell.OfVec(vec.Scale(a, v)), tell.OfVec(vec.Axpy(a, v, w)); scaled != c.scaled || sum != c.sum {
			t.Errorf("%v: %s, %s", c, scaled, sum)
		}
	}
	r := rand.New(rand.NewSource(9))
	list := some()
	for i, v := range list {
		w := list[(i*5+3)%len(list)]
		a := great(r)
		scaled, sum := make([]api.Rat, 10), make([]api.Rat, 10)
		for k, b := range sums(v, 10) {
			scaled[k] = rat.Mul(a, b)
			sum[k] = rat.Add(scaled[k], sums(w, 10)[k])
		}
		a = tell.LooseRat(a, r.Intn)
		if got, want := tell.OfVec(vec.Scale(a, v)), oneForm(scaled); got != want {
			t.Errorf("Scale(%v, %v) = %s, not %s", a, v, got, want)
		}
		if got, want := tell.OfVec(vec.Axpy(a, v, w)), oneForm(sum); got != want {
			t.Errorf("Axpy(%v, %v, %v) = %s, not %s", a, v, w, got, want)
		}
	}
}

// P5.2
func TestGather(t *testing.T) {
	for x, want := range map[string]string{"": "", "0": "", "0 0 0": "", "5": "5@0", "0 1/2 0 -3 0": "1/2@1 -3@3"} {
		if got := tell.OfVec(vec.Gather(tell.Rats(x))); got != want {
			t.Errorf("Gather(%s) = %s, not %s", x, got, want)
		}
	}
	loose := []api.Rat{{}, {Num: api.Int{Neg: true, Abs: []uint64{0}}}, {Num: api.Int{Neg: true, Abs: []uint64{6, 0}}, Den: []uint64{4, 0}}, {Num: api.Int{Abs: []uint64{0, 1}}, Den: []uint64{0, 0}}}
	if got := tell.OfVec(vec.Gather(loose)); got != "-3/2@2 18446744073709551616@3" {
		t.Errorf("Gather = %s", got)
	}
	for _, v := range some() {
		if got, want := tell.OfVec(vec.Gather(sums(v, 10))), oneForm(sums(v, 10)); got != want {
			t.Errorf("Gather of %s = %s", want, got)
		}
	}
}

// P5.2
func TestScatter(t *testing.T) {
	for _, c := range []struct {
		v    string
		n    int
		want string
	}{
		{"", 0, ""}, {"0@0 1@-1", 0, ""}, {"", 2, "0 0"}, {"5@1", 2, "0 5"}, {"5@1", 3, "0 5 0"}, {"1@0 1/2@2 1@0", 3, "2 0 1/2"}, {"7@-1 -3@0", 1, "-3"},
		{"1@5 -1@5 2@0", 1, "2"}, {"0@9223372036854775807", 1, "0"},
	} {
		got, e := vec.Scatter(tell.Vec(c.v), c.n)
		if text := tell.OfRats(got); e != api.OK || len(got) != c.n || text != c.want {
			t.Errorf("Scatter(%s, %d) = %s, %v", c.v, c.n, text, e)
		}
	}
	for _, v := range some() {
		got, e := vec.Scatter(v, 10)
		if text, want := tell.OfRats(got), tell.OfRats(sums(v, 10)); e != api.OK || text != want {
			t.Errorf("Scatter(%v, 10) = %s, %v, not %s", v, text, e, want)
		}
	}
}

// P5.2: the edges that the chapter names.
func TestScatterLimits(t *testing.T) {
	for _, c := range []struct {
		v string
		n int
	}{
		{"", -1}, {"", api.MaxShift + 1}, {"", math.MaxInt}, {"", math.MinInt}, {"1@-1", -1}, {"1@0", 0}, {"1@1", 1}, {"1@0 1/2@7 1@3", 7}, {"1@9223372036854775807", api.MaxShift},
		{"1@65536", api.MaxShift + 1}, {"1@65536", api.MaxShift}, {"1@5 1@5 -1@5", 5},
	} {
		if got, e := vec.Scatter(tell.Vec(c.v), c.n); e != api.ErrArg || len(got) != 0 {
			t.Errorf("Scatter(%s, %d): %d numbers, %v", c.v, c.n, len(got), e)
		}
	}
	got, e := vec.Scatter(tell.Vec("3@65535 4@0"), api.MaxShift)
	if e != api.OK || len(got) != api.MaxShift || tell.OfRat(got[0]) != "4" || tell.OfRat(got[65535]) != "3" || tell.OfRat(got[1]) != "0" || tell.OfRat(got[65534]) != "0" {
		t.Errorf("the longest list: %d numbers, %v", len(got), e)
	}
}

// P5.3: what was given stays as it was, and an answer outlives what it came of.
func TestOwnMemory(t *testing.T) {
	v, w, x := tell.Vec("1@2 1/2@0 3@2 -1@-1"), tell.Vec("5@1 7@1"), tell.Rats("1/2 1/3 1/4")
	a := tell.Rat("3/2")
	made, scaled, sum, gathered := vec.Make(v), vec.Scale(a, v), vec.Axpy(a, v, w), vec.Gather(x)
	scattered, _ := vec.Scatter(v, 3)
	got, dot := vec.Get(w, 1), vec.Dot(w, x)
	if tell.OfVec(v) != "1@2 1/2@0 3@2 -1@-1" || tell.OfVec(w) != "5@1 7@1" || tell.OfRats(x) != "1/2 1/3 1/4" || tell.OfRat(a) != "3/2" {
		t.Errorf("changed: %v, %v, %v, %v", v, w, x, a)
	}
	for _, list := range [][]api.Term{v, w} {
		for i := range list {
			list[i].Val.Num.Abs[0], list[i].Val.Den[0], list[i].Col = 99, 99, 99
		}
	}
	for i := range x {
		x[i].Num.Abs[0], x[i].Den[0] = 99, 99
	}
	for i, got := range []string{tell.OfVec(made), tell.OfVec(scaled), tell.OfVec(sum), tell.OfVec(gathered), tell.OfRats(scattered), tell.OfRat(got), tell.OfRat(dot)} {
		if want := []string{"1/2@0 4@2", "3/4@0 6@2", "3/4@0 12@1 6@2", "1/2@0 1/3@1 1/4@2", "1/2 0 4", "12", "4"}[i]; got != want {
			t.Errorf("answer %d became %s, not %s", i, got, want)
		}
	}
}
