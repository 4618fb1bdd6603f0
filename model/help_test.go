package model_test

import (
	"math/big"
	"math/rand"
	"strconv"
	"strings"

	"cutwater/api"
	"cutwater/rat"
	"cutwater/ratext"
	"cutwater/tell"
)

// number gives the number that a, in any form, tells.
func number(a api.Rat) *big.Rat {
	out, _ := new(big.Rat).SetString(ratext.Text(a))
	return out
}

// dense gives what stands at the places below n.
func dense(v []api.Term, n int) []*big.Rat {
	out := make([]*big.Rat, n)
	for i := range out {
		out[i] = new(big.Rat)
	}
	for _, t := range v {
		if t.Col >= 0 && t.Col < n {
			out[t.Col].Add(out[t.Col], number(t.Val))
		}
	}
	return out
}

// times gives the sum of the products.
func times(a []*big.Rat, x []api.Rat) *big.Rat {
	sum := new(big.Rat)
	for i := range min(len(a), len(x)) {
		sum.Add(sum, new(big.Rat).Mul(a[i], number(x[i])))
	}
	return sum
}

// textOf tells numbers as a vector.
func textOf(a []*big.Rat) string {
	var words []string
	for i, b := range a {
		if b.Sign() != 0 {
			words = append(words, b.RatString()+"@"+strconv.Itoa(i))
		}
	}
	return strings.Join(words, " ")
}

// outside tells whether a number is beyond a bound that is there.
func outside(a *big.Rat, hasLo, hasHi bool, lo, hi api.Rat) bool {
	return hasLo && a.Cmp(number(lo)) < 0 || hasHi && a.Cmp(number(hi)) > 0
}

// holds is another teller of whether numbers break nothing.
func holds(p api.Problem, x []api.Rat) bool {
	if len(x) != len(p.Vars) {
		return false
	}
	out := true
	for i, v := range p.Vars {
		a := number(x[i])
		if outside(a, v.HasLo, v.HasHi, v.Lo, v.Hi) || v.Whole && !a.IsInt() {
			out = false
		}
	}
	for _, w := range p.Rows {
		if outside(times(dense(w.Terms, len(x)), x), w.HasLo, w.HasHi, w.Lo, w.Hi) {
			out = false
		}
	}
	return out
}

// constraints tells a problem's constraints.
func constraints(p api.Problem) string {
	out := ""
	say := func(terms, sense string, rhs api.Rat) {
		out += strings.TrimSpace(terms+" "+sense+" "+number(rhs).RatString()) + "; "
	}
	for _, w := range p.Rows {
		terms := textOf(dense(w.Terms, len(p.Vars)))
		if w.HasLo && w.HasHi && number(w.Lo).Cmp(number(w.Hi)) == 0 {
			say(terms, "=", w.Lo)
			continue
		}
		if w.HasLo {
			say(terms, ">=", w.Lo)
		}
		if w.HasHi {
			say(terms, "<=", w.Hi)
		}
	}
	for i, v := range p.Vars {
		if v.HasLo {
			say("1@"+strconv.Itoa(i), ">=", v.Lo)
		}
		if v.HasHi {
			say("1@"+strconv.Itoa(i), "<=", v.Hi)
		}
	}
	return strings.TrimSpace(out)
}

// small gives a number near 0.
func small(r *rand.Rand) api.Rat {
	a, _ := rat.Of(r.Int63n(9)-4, []int64{1, 1, 1, 2, 3}[r.Intn(5)])
	return a
}

// chance gives a problem of few rows and variables, in forms of all kinds.
func chance(r *rand.Rand) api.Problem {
	var p api.Problem
	n := r.Intn(4)
	for range n {
		p.Vars = append(p.Vars, api.Var{Whole: r.Intn(3) == 0, HasLo: r.Intn(3) > 0, HasHi: r.Intn(3) > 0, Lo: rat.Sub(small(r), rat.Whole(3)), Hi: rat.Add(small(r), rat.Whole(3)), Cost: small(r)})
	}
	for range r.Intn(4) {
		w := api.Row{HasLo: r.Intn(2) == 0, HasHi: r.Intn(2) == 0, Lo: rat.Sub(small(r), rat.Whole(4)), Hi: rat.Add(small(r), rat.Whole(4))}
		if r.Intn(4) == 0 {
			w.Hi = w.Lo
		}
		for range r.Intn(5) {
			w.Terms = append(w.Terms, api.Term{Col: r.Intn(n+2) - 1, Val: small(r)})
		}
		p.Rows = append(p.Rows, w)
	}
	return tell.LooseProblem(p, r.Intn)
}

// near gives numbers for a problem's variables, few of which break a bound; now and then one too few or too many.
func near(r *rand.Rand, p api.Problem) []api.Rat {
	n := len(p.Vars)
	if r.Intn(8) == 0 {
		n = max(0, n+2*r.Intn(2)-1)
	}
	var x []api.Rat
	for i := range n {
		a := small(r)
		if i < len(p.Vars) && p.Vars[i].HasHi && r.Intn(3) == 0 {
			a = p.Vars[i].Hi
		}
		if i < len(p.Vars) && p.Vars[i].HasLo && r.Intn(3) == 0 {
			a = p.Vars[i].Lo
		}
		if r.Intn(2) == 0 {
			a = rat.OfInt(rat.Floor(a))
		}
		x = append(x, tell.LooseRat(a, r.Intn))
	}
	return x
}
