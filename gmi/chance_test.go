package gmi_test

import (
	"math/big"
	"math/rand"
	"strconv"
	"strings"
	"testing"

	"cutwater/api"
	"cutwater/cgcut"
	"cutwater/cons"
	"cutwater/gmi"
	"cutwater/rat"
	"cutwater/ratext"
	"cutwater/shape"
	"cutwater/tell"
)

// number gives the number that a tells.
func number(a api.Rat) *big.Rat {
	out, _ := new(big.Rat).SetString(ratext.Text(a))
	return out
}

// These reckon with new numbers.
func sum(a, b *big.Rat) *big.Rat      { return new(big.Rat).Add(a, b) }
func product(a, b *big.Rat) *big.Rat  { return new(big.Rat).Mul(a, b) }
func quotient(a, b *big.Rat) *big.Rat { return new(big.Rat).Quo(a, b) }
func negated(a *big.Rat) *big.Rat     { return new(big.Rat).Neg(a) }
func floor(a *big.Rat) *big.Rat       { return new(big.Rat).SetInt(new(big.Int).Div(a.Num(), a.Denom())) }

// part gives how often a column has the variable v in it.
func part(l api.LP, col, v int) *big.Rat {
	out := new(big.Rat)
	if col == v {
		out.SetInt64(1)
	}
	for _, t := range l.Cols[v] {
		if t.Col == col-l.N {
			out.Add(out, number(t.Val))
		}
	}
	return out
}

// tally is a sum of columns.
type tally struct {
	often []*big.Rat
	rhs   *big.Rat
}

// tallyOf gives a sum that has nothing yet but its right side.
func tallyOf(l api.LP, rhs *big.Rat) tally {
	out := tally{rhs: rhs}
	for range l.N {
		out.often = append(out.often, new(big.Rat))
	}
	return out
}

// add adds a column, so often, and as often its bound to the right side.
func (a *tally) add(l api.LP, col int, bound, often *big.Rat) {
	a.rhs = sum(a.rhs, product(bound, often))
	for v := range a.often {
		a.often[v] = sum(a.often[v], product(often, part(l, col, v)))
	}
}

// text writes it as a constraint.
func (a *tally) text(sense string) string {
	var words []string
	for v, o := range a.often {
		if o.Sign() != 0 {
			words = append(words, o.RatString()+"@"+strconv.Itoa(v))
		}
	}
	return strings.Join(append(words, sense, a.rhs.RatString()), " ")
}

// other is another reckoner of what Cut gives: by the cut's own form, in which the columns' ways from their bounds make at least 1, so often.
func other(l api.LP, whole []bool, basis, status []int, place int) string {
	x, _ := shape.Primal(l, basis, status)
	row, _ := shape.Tableau(l, basis, status, place)
	p := basis[place]
	if p >= l.N || !whole[p] || number(x[p]).IsInt() {
		return ""
	}
	one, b := big.NewRat(1, 1), number(x[p])
	f := sum(b, negated(floor(b)))
	rest := sum(one, negated(f))
	cut, low := tallyOf(l, big.NewRat(1, 1)), tallyOf(l, floor(b))
	low.add(l, p, new(big.Rat), one)
	var lows, highs string
	for col := range l.Cols {
		t, at, way, side := number(row[col]), number(l.Lo[col]), one, "l "
		if status[col] == api.Basic || t.Sign() == 0 {
			continue
		}
		switch status[col] {
		case api.Free:
			return ""
		case api.AtHi:
			t, at, way, side = negated(t), number(l.Hi[col]), negated(one), "h "
		}
		k := new(big.Rat)
		if cgcut.Even(l, whole, status, col) {
			k = floor(t)
			if sum(t, negated(k)).Cmp(f) > 0 {
				k = sum(k, one)
			}
		}
		d := sum(t, negated(k))
		g := quotient(d, f)
		if d.Sign() < 0 {
			g = negated(quotient(d, rest))
		}
		cut.add(l, col, at, product(way, g))
		low.add(l, col, at, product(way, k))
		if a := product(way, sum(g, negated(quotient(d, f)))); a.Sign() != 0 {
			lows += a.RatString() + "@" + strconv.Itoa(col) + side
		}
		if a := product(way, sum(g, quotient(d, rest))); a.Sign() != 0 {
			highs += a.RatString() + "@" + strconv.Itoa(col) + side
		}
	}
	return cut.text(">=") + " of " + low.text("<=") + ": " + strings.TrimSpace(negated(quotient(one, f)).RatString()+"x "+lows) + ", " + strings.TrimSpace(quotient(one, rest).RatString()+"x "+highs)
}

// chance gives a linear problem by chance, and which variables are whole.
func chance(r *rand.Rand) (api.LP, []bool) {
	l := tell.ChanceLP(r.Intn)
	if r.Intn(2) > 0 {
		l = tell.Rounded(l)
	}
	whole := make([]bool, l.N)
	for i := range whole {
		whole[i] = r.Intn(4) > 0
	}
	return l, whole
}

// checkProof holds a cut against its sides, and against the numbers of which it came.
func checkProof(t *testing.T, l api.LP, whole []bool, x []api.Rat, s api.SplitCut) {
	t.Helper()
	low, high, e := gmi.Sides(l, s)
	if want := tell.OfCons(s.Cut); e != api.OK || tell.OfCons(low) != want || tell.OfCons(high) != want || cons.Holds(s.Cut, x[:l.N]) {
		t.Fatalf("%s, %v: %s: %v, %s, %s", tell.OfLP(l), whole, told(s, true), e, tell.OfCons(low), tell.OfCons(high))
	}
	if !cons.Split(s.Low, gmi.High(s.Low), whole) {
		t.Fatalf("%s, %v: %s doesn't split", tell.OfLP(l), whole, tell.OfCons(s.Low))
	}
}

// P18.1, P18.2, P18.3: cuts by chance, held against another reckoner, against their sides, and against numbers that keep all bounds.
func TestCutsByChance(t *testing.T) {
	r := rand.New(rand.NewSource(181))
	met := map[string]int{}
	for range 6000 {
		l, whole := chance(r)
		basis, status := tell.ChanceStand(l, r.Intn)
		x, e := shape.Primal(l, basis, status)
		if e != api.OK {
			continue
		}
		points := points(r, l, whole)
		for place := range basis {
			s, found := gmi.Cut(l, whole, basis, status, place)
			if got, want := told(s, found), other(l, whole, basis, status, place); got != want {
				t.Fatalf("%s, %v, %v, %s: %s, not %s", tell.OfLP(l), whole, basis, tell.OfStatus(status), got, want)
			}
			met["cut "+strconv.FormatBool(found)]++
			if !found {
				continue
			}
			checkProof(t, l, whole, x, s)
			met["terms "+strconv.Itoa(min(2, len(s.Low.Terms)))]++
			for _, y := range points {
				met["point"]++
				if !cons.Holds(s.Cut, y) {
					t.Fatalf("%s, %v: %s loses %s", tell.OfLP(l), whole, tell.OfCons(s.Cut), tell.OfRats(y))
				}
			}
		}
	}
	if met["cut true"] < 500 || met["cut false"] < 500 || met["terms 1"] < 200 || met["terms 2"] < 200 || met["point"] < 300 {
		t.Errorf("%v", met)
	}
}

// points gives numbers, whole where they must be, that keep all bounds.
func points(r *rand.Rand, l api.LP, whole []bool) [][]api.Rat {
	var out [][]api.Rat
	for range 40 {
		var x []api.Rat
		for v := range l.N {
			far, _ := rat.Of(int64(r.Intn(9)-r.Intn(4)/3), 2)
			a := rat.Add(l.Lo[v], far)
			if !l.HasLo[v] {
				a = rat.Sub(l.Hi[v], far)
			}
			if whole[v] {
				a = rat.OfInt(rat.Ceil(a))
			}
			x = append(x, a)
		}
		if keeps(l, x) {
			out = append(out, x)
		}
	}
	return out
}

// keeps tells whether the variables' numbers, and every row's sum, are within their bounds.
func keeps(l api.LP, x []api.Rat) bool {
	for col := range l.Cols {
		all := new(big.Rat)
		for v, a := range x {
			all = sum(all, product(number(a), part(l, col, v)))
		}
		if l.HasLo[col] && all.Cmp(number(l.Lo[col])) < 0 || l.HasHi[col] && all.Cmp(number(l.Hi[col])) > 0 {
			return false
		}
	}
	return true
}

// P18.1, P18.3: a great linear problem, whose variables all are in the basis.
func TestGreat(t *testing.T) {
	r := rand.New(rand.NewSource(182))
	p := api.Problem{Obj: "cost"}
	var whole []bool
	for i := range api.MaxCols {
		whole = append(whole, i%4 > 0)
		p.Vars = append(p.Vars, api.Var{HasLo: true, HasHi: true, Lo: rat.Whole(0), Hi: rat.Whole(int64(50 + r.Intn(50)))})
	}
	for range api.MaxRows {
		w := api.Row{HasHi: true, Hi: rat.Whole(int64(600 + r.Intn(2000)))}
		for col := range p.Vars {
			w.Terms = append(w.Terms, api.Term{Col: col, Val: rat.Whole(int64(1 + r.Intn(40)))})
		}
		p.Rows = append(p.Rows, w)
	}
	l := shape.Make(p)
	var basis, status []int
	for col := range l.Cols {
		stands := api.AtHi
		if col < l.N || col >= l.N+api.MaxCols {
			basis, stands = append(basis, col), api.Basic
		}
		status = append(status, stands)
	}
	x, e := shape.Primal(l, basis, status)
	cuts := 0
	for place := 1; place < api.MaxCols; place += 10 {
		if s, found := gmi.Cut(l, whole, basis, status, place); found {
			cuts++
			checkProof(t, l, whole, x, s)
		}
	}
	if e != api.OK || cuts < 3 {
		t.Errorf("%v, %d cuts", e, cuts)
	}
}
