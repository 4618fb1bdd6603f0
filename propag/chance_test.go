package propag_test

import (
	"math/big"
	"math/rand"
	"strconv"
	"strings"
	"testing"

	"cutwater/api"
	"cutwater/cons"
	"cutwater/derive"
	"cutwater/propag"
	"cutwater/rat"
	"cutwater/ratext"
	"cutwater/shape"
	"cutwater/tell"
)

// told tells a bound that was made tighter: nothing, if there is none.
func told(a api.Tight, found bool) string {
	if !found {
		if a.Col != 0 || a.Upper || a.Rounded || len(a.Uses) > 0 || len(a.V.Den) > 0 {
			return "more than nothing"
		}
		return ""
	}
	sense, how := " >= ", ": "
	if a.Upper {
		sense = " <= "
	}
	if a.Rounded {
		how = " rounded: "
	}
	return strconv.Itoa(a.Col) + sense + tell.OfRat(a.V) + how + tell.OfUses(a.Uses)
}

// ofList tells such bounds.
func ofList(list []api.Tight) string {
	var words []string
	for _, a := range list {
		words = append(words, told(a, true))
	}
	return strings.Join(words, "; ")
}

// number gives the number that a tells.
func number(a api.Rat) *big.Rat {
	out, _ := new(big.Rat).SetString(ratext.Text(a))
	return out
}

// get gives what a column has at a place.
func get(terms []api.Term, place int) *big.Rat {
	out := new(big.Rat)
	for _, t := range terms {
		if t.Col == place {
			out.Add(out, number(t.Val))
		}
	}
	return out
}

// other is another reckoner of what Tighten gives.
func other(l api.LP, whole []bool, row, col int, upper bool) (api.Tight, bool) {
	out := api.Tight{Col: col, Upper: upper}
	a, v, lacks := get(l.Cols[col], row), new(big.Rat), false
	if a.Sign() == 0 {
		return out, false
	}
	use := func(c int, often *big.Rat) {
		up := upper == (often.Sign() > 0)
		has, at := l.HasLo[c], l.Lo[c]
		if up {
			has, at = l.HasHi[c], l.Hi[c]
		}
		lacks = lacks || !has
		v.Add(v, new(big.Rat).Mul(often, number(at)))
		out.Uses = append(out.Uses, api.Use{Col: c, Upper: up, Often: tell.Rat(often.RatString())})
	}
	use(l.N+row, new(big.Rat).Inv(a))
	for j := range l.N {
		if b := get(l.Cols[j], row); j != col && b.Sign() != 0 {
			use(j, b.Neg(b.Quo(b, a)))
		}
	}
	if whole[col] && !v.IsInt() {
		n := new(big.Int).Div(v.Num(), v.Denom()) // rounded down
		if !upper {
			n.Add(n, big.NewInt(1))
		}
		v.SetInt(n)
		out.Rounded = true
	}
	out.V = tell.Rat(v.RatString())
	looser := upper && (!l.HasHi[col] || v.Cmp(number(l.Hi[col])) < 0) || !upper && (!l.HasLo[col] || v.Cmp(number(l.Lo[col])) > 0)
	return out, looser && !lacks
}

// chance gives a linear problem by chance, and which variables are whole; here and there bounds cross.
func chance(r *rand.Rand) (api.LP, []bool) {
	l := tell.ChanceLP(r.Intn)
	whole := make([]bool, l.N)
	for i := range whole {
		whole[i] = r.Intn(2) == 0
	}
	if len(l.Cols) > 0 && r.Intn(8) == 0 {
		if col := r.Intn(len(l.Cols)); l.HasLo[col] && l.HasHi[col] {
			l.Lo[col], l.Hi[col] = l.Hi[col], l.Lo[col]
		}
	}
	return l, whole
}

// P16.1: bounds by chance, held against another reckoner.
func TestTightenByChance(t *testing.T) {
	r := rand.New(rand.NewSource(161))
	met := map[string]int{}
	for range 3000 {
		l, whole := chance(r)
		for row := range len(l.Cols) - l.N {
			for col := range l.N {
				for _, upper := range []bool{false, true} {
					want, wanted := other(l, whole, row, col, upper)
					got, found := propag.Tighten(l, whole, row, col, upper)
					if found != wanted || found && told(got, found) != told(want, wanted) {
						t.Fatalf("%s, %v, %d, %d, %v: %s, not %v %s", tell.OfLP(l), whole, row, col, upper, told(got, found), wanted, told(want, true))
					}
					if found {
						checkProof(t, l, whole, got)
					}
					met[strconv.FormatBool(found)+strconv.FormatBool(want.Rounded)]++
				}
			}
		}
	}
	if len(met) < 4 || met["truetrue"] < 1000 || met["truefalse"] < 1000 || met["falsefalse"] < 1000 {
		t.Errorf("%v", met)
	}
}

// checkProof holds a bound that was made tighter against what its uses prove.
func checkProof(t *testing.T, l api.LP, whole []bool, a api.Tight) {
	t.Helper()
	sense := api.AtLeast
	if a.Upper {
		sense = api.AtMost
	}
	sum, e := derive.Sum(l, a.Uses, sense)
	if a.Rounded && e == api.OK {
		sum, e = cons.Round(sum, whole)
	}
	want := tell.OfCons(api.Cons{Sense: sense, Terms: []api.Term{{Col: a.Col, Val: rat.Whole(1)}}, Rhs: a.V})
	if e != api.OK || tell.OfCons(sum) != want {
		t.Fatalf("%s, %v: %s: %v, %s", tell.OfLP(l), whole, told(a, true), e, tell.OfCons(sum))
	}
}

// crossed tells whether a variable has its Lo above its Hi.
func crossed(l api.LP, col int) bool {
	return l.HasLo[col] && l.HasHi[col] && number(l.Lo[col]).Cmp(number(l.Hi[col])) > 0
}

// otherAll is another reckoner of what All gives: by Tighten, step by step.
func otherAll(l api.LP, whole []bool, passes int) (api.LP, []api.Tight) {
	var out []api.Tight
	for range passes {
		before := len(out)
		for row := range len(l.Cols) - l.N {
			for col := range l.N {
				for _, upper := range []bool{false, true} {
					a, found := propag.Tighten(l, whole, row, col, upper)
					if !found {
						continue
					}
					out = append(out, a)
					l, _ = shape.SetBound(l, col, upper, a.V)
					if crossed(l, col) {
						return l, out
					}
				}
			}
		}
		if len(out) == before {
			break
		}
	}
	return l, out
}

// P16.2: all passes by chance, held against another reckoner; P16.3: each bound is proved by those that are there then, and numbers that keep all bounds at first keep those at the end.
func TestAllByChance(t *testing.T) {
	r := rand.New(rand.NewSource(162))
	given, ends, kept := 0, 0, 0
	for range 3000 {
		l, whole := chance(r)
		passes := r.Intn(6)
		then, list, e := propag.All(l, whole, passes)
		want, wanted := otherAll(l, whole, passes)
		if e != api.OK || tell.OfLP(then) != tell.OfLP(want) || ofList(list) != ofList(wanted) {
			t.Fatalf("%s, %v, %d: %v, %s, %s, not %s", tell.OfLP(l), whole, passes, e, tell.OfLP(then), ofList(list), ofList(wanted))
		}
		step := l
		for _, a := range list {
			checkProof(t, step, whole, a)
			step, _ = shape.SetBound(step, a.Col, a.Upper, a.V)
			given++
			if crossed(step, a.Col) {
				ends++
			}
		}
		for range 20 {
			x := point(r, l, whole)
			if keeps(l, x) {
				kept++
				if !keeps(then, x) {
					t.Fatalf("%s, %v: %s loses %v", tell.OfLP(l), whole, ofList(list), x)
				}
			}
		}
	}
	if given < 2000 || ends < 300 || kept < 1000 {
		t.Errorf("%d bounds, %d ends, %d points", given, ends, kept)
	}
}

// point gives numbers for the variables near their bounds, whole ones where they must be.
func point(r *rand.Rand, l api.LP, whole []bool) []*big.Rat {
	var x []*big.Rat
	for col := range l.N {
		a := new(big.Rat).Add(number(l.Lo[col]), big.NewRat(int64(r.Intn(9)), 2))
		if r.Intn(2) == 0 {
			a.Set(number(l.Hi[col]))
		}
		if whole[col] {
			a.SetInt(new(big.Int).Div(a.Num(), a.Denom()))
		}
		x = append(x, a)
	}
	return x
}

// keeps tells whether the variables' numbers, and every row's sum, are within their bounds.
func keeps(l api.LP, x []*big.Rat) bool {
	for col := range l.Cols {
		sum := new(big.Rat)
		for j, a := range x {
			if j == col {
				sum.Add(sum, a)
			} else if col >= l.N {
				sum.Add(sum, new(big.Rat).Mul(a, get(l.Cols[j], col-l.N)))
			}
		}
		if l.HasLo[col] && sum.Cmp(number(l.Lo[col])) < 0 || l.HasHi[col] && sum.Cmp(number(l.Hi[col])) > 0 {
			return false
		}
	}
	return true
}

// P16.2: a great linear problem.
func TestGreat(t *testing.T) {
	r := rand.New(rand.NewSource(163))
	p := api.Problem{Obj: "cost"}
	for range api.MaxCols {
		p.Vars = append(p.Vars, api.Var{HasLo: true, HasHi: true, Lo: rat.Whole(0), Hi: rat.Whole(int64(50 + r.Intn(50)))})
	}
	for range api.MaxRows / 2 {
		w := api.Row{HasHi: true, Hi: rat.Whole(int64(60 + r.Intn(200)))}
		for col := range p.Vars {
			w.Terms = append(w.Terms, api.Term{Col: col, Val: rat.Whole(int64(1 + r.Intn(40)))})
		}
		p.Rows = append(p.Rows, w)
	}
	l := shape.Make(p)
	then, list, e := propag.All(l, make([]bool, api.MaxCols), 1)
	want, wanted := otherAll(l, make([]bool, api.MaxCols), 1)
	if e != api.OK || len(list) < api.MaxCols || tell.OfLP(then) != tell.OfLP(want) || ofList(list) != ofList(wanted) {
		t.Errorf("%v, %d bounds, not %d", e, len(list), len(wanted))
	}
}
