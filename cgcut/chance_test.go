package cgcut_test

import (
	"math/big"
	"math/rand"
	"slices"
	"strconv"
	"strings"
	"testing"

	"cutwater/api"
	"cutwater/cgcut"
	"cutwater/cons"
	"cutwater/derive"
	"cutwater/rat"
	"cutwater/ratext"
	"cutwater/shape"
	"cutwater/tell"
)

// number gives the number that a tells.
func number(a api.Rat) *big.Rat {
	out, _ := new(big.Rat).SetString(ratext.Text(a))
	return out
}

// floor gives a number, rounded down.
func floor(a *big.Rat) *big.Rat {
	return new(big.Rat).SetInt(new(big.Int).Div(a.Num(), a.Denom()))
}

// part gives how often a column has the variable v in it.
func part(l api.LP, col, v int) *big.Rat {
	out := new(big.Rat)
	if col == v {
		out.SetInt64(1)
	}
	for _, t := range l.Cols[v] {
		if t.Col == col-l.N {
			out.Add(out, number(t.Val))
		}
	}
	return out
}

// even is another teller of Even.
func even(l api.LP, whole []bool, status []int, col int) bool {
	at := map[int]api.Rat{api.AtLo: l.Lo[col], api.AtHi: l.Hi[col]}
	a, ok := at[status[col]]
	if !ok || !number(a).IsInt() {
		return false
	}
	for v := range l.N {
		if p := part(l, col, v); p.Sign() != 0 && (!whole[v] || !p.IsInt()) {
			return false
		}
	}
	return true
}

// other is another reckoner of what Cut gives: the row of the tableau, each of its numbers rounded down, less the row.
func other(l api.LP, whole []bool, basis, status []int, place int) string {
	x, _ := shape.Primal(l, basis, status)
	row, _ := shape.Tableau(l, basis, status, place)
	p := basis[place]
	if p >= l.N || !whole[p] || number(x[p]).IsInt() {
		return ""
	}
	sum, rhs := make([]*big.Rat, l.N), new(big.Rat)
	for v := range sum {
		sum[v] = new(big.Rat)
	}
	var uses []string
	for col := range l.Cols {
		a := number(row[col])
		if status[col] == api.Basic || a.Sign() == 0 {
			continue
		}
		if !even(l, whole, status, col) {
			return ""
		}
		at, often, side := number(l.Lo[col]), new(big.Rat).Sub(floor(a), a), "l"
		if status[col] == api.AtHi {
			up := new(big.Rat).Neg(floor(new(big.Rat).Neg(a)))
			at, often, side = number(l.Hi[col]), up.Sub(up, a), "h"
		}
		if often.Sign() == 0 {
			continue
		}
		uses = append(uses, often.RatString()+"@"+strconv.Itoa(col)+side)
		rhs.Add(rhs, new(big.Rat).Mul(often, at))
		for v := range sum {
			sum[v].Add(sum[v], new(big.Rat).Mul(often, part(l, col, v)))
		}
	}
	var words []string
	for v, a := range sum {
		if a.Sign() != 0 {
			words = append(words, a.RatString()+"@"+strconv.Itoa(v))
		}
	}
	return strings.Join(append(words, "<= "+floor(rhs).RatString()+": "), " ") + strings.Join(uses, " ")
}

// chance gives a linear problem by chance, most often of whole numbers, and which variables are whole.
func chance(r *rand.Rand) (api.LP, []bool) {
	l := tell.ChanceLP(r.Intn)
	if r.Intn(6) > 0 {
		l = tell.Rounded(l)
	}
	whole := make([]bool, l.N)
	for i := range whole {
		whole[i] = r.Intn(8) > 0
	}
	return l, whole
}

// checkCut holds a cut against its uses and the numbers of which it came.
func checkCut(t *testing.T, l api.LP, whole []bool, x []api.Rat, c api.Cons, uses []api.Use) {
	t.Helper()
	sum, e := derive.Sum(l, uses, api.AtMost)
	if e == api.OK {
		sum, e = cons.Round(sum, whole)
	}
	if e != api.OK || tell.OfCons(sum) != tell.OfCons(c) || cons.Holds(c, x[:l.N]) {
		t.Fatalf("%s, %v: %s: %v, %s", tell.OfLP(l), whole, told(c, uses, true), e, tell.OfCons(sum))
	}
}

// P17.1, P17.2, P17.3: cuts by chance, held against another reckoner, against their uses, and against whole numbers that keep all bounds.
func TestCutsByChance(t *testing.T) {
	r := rand.New(rand.NewSource(171))
	met := map[string]int{}
	for range 8000 {
		l, whole := chance(r)
		basis, status := tell.ChanceStand(l, r.Intn)
		x, e := shape.Primal(l, basis, status)
		if e != api.OK {
			continue
		}
		for col := range l.Cols {
			got := cgcut.Even(l, whole, status, col)
			met["even "+strconv.FormatBool(got)]++
			if got != even(l, whole, status, col) {
				t.Fatalf("%s, %v, %s: %d is %v", tell.OfLP(l), whole, tell.OfStatus(status), col, got)
			}
		}
		points := points(r, l, whole)
		for place := range basis {
			c, uses, found := cgcut.Cut(l, whole, basis, status, place)
			if got, want := told(c, uses, found), other(l, whole, basis, status, place); got != want {
				t.Fatalf("%s, %v, %v, %s: %s, not %s", tell.OfLP(l), whole, basis, tell.OfStatus(status), got, want)
			}
			met["cut "+strconv.FormatBool(found)]++
			if !found {
				continue
			}
			checkCut(t, l, whole, x, c, uses)
			for _, y := range points {
				met["point"]++
				if !cons.Holds(c, y) {
					t.Fatalf("%s, %v: %s loses %s", tell.OfLP(l), whole, tell.OfCons(c), tell.OfRats(y))
				}
			}
		}
	}
	if met["even true"] < 1000 || met["even false"] < 1000 || met["cut true"] < 500 || met["cut false"] < 500 || met["point"] < 500 {
		t.Errorf("%v", met)
	}
}

// points gives numbers, whole where they must be, that keep all bounds.
func points(r *rand.Rand, l api.LP, whole []bool) [][]api.Rat {
	var out [][]api.Rat
	for range 40 {
		var x []api.Rat
		for v := range l.N {
			a := rat.Add(l.Lo[v], rat.Whole(int64(r.Intn(5)-r.Intn(4)/3)))
			if !l.HasLo[v] {
				a = rat.Sub(l.Hi[v], rat.Whole(int64(r.Intn(5))))
			}
			if whole[v] {
				a = rat.OfInt(rat.Ceil(a))
			}
			x = append(x, a)
		}
		if keeps(l, x) {
			out = append(out, x)
		}
	}
	return out
}

// keeps tells whether the variables' numbers, and every row's sum, are within their bounds.
func keeps(l api.LP, x []api.Rat) bool {
	for col := range l.Cols {
		sum := new(big.Rat)
		for v, a := range x {
			sum.Add(sum, new(big.Rat).Mul(number(a), part(l, col, v)))
		}
		if l.HasLo[col] && sum.Cmp(number(l.Lo[col])) < 0 || l.HasHi[col] && sum.Cmp(number(l.Hi[col])) > 0 {
			return false
		}
	}
	return true
}

// great gives a great linear problem, whose variables all are in the basis.
func great() (l api.LP, whole []bool, basis, status []int) {
	r := rand.New(rand.NewSource(172))
	p := api.Problem{Obj: "cost"}
	for range api.MaxCols {
		p.Vars = append(p.Vars, api.Var{HasLo: true, HasHi: true, Lo: rat.Whole(0), Hi: rat.Whole(int64(50 + r.Intn(50)))})
	}
	for range api.MaxRows {
		w := api.Row{HasHi: true, Hi: rat.Whole(int64(600 + r.Intn(2000)))}
		for col := range p.Vars {
			w.Terms = append(w.Terms, api.Term{Col: col, Val: rat.Whole(int64(1 + r.Intn(40)))})
		}
		p.Rows = append(p.Rows, w)
	}
	l = shape.Make(p)
	for col := range l.Cols {
		stands := api.AtHi
		if col < l.N || col >= l.N+api.MaxCols {
			basis, stands = append(basis, col), api.Basic
		}
		status = append(status, stands)
	}
	return l, slices.Repeat([]bool{true}, l.N), basis, status
}
