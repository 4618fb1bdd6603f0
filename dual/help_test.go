package dual_test

import (
	"fmt"
	"math/big"
	"slices"

	"cutwater/api"
	"cutwater/ratext"
	"cutwater/tell"
)

// number gives the number that a tells.
func number(a api.Rat) *big.Rat {
	out, _ := new(big.Rat).SetString(ratext.Text(a))
	return out
}

// least gives the least that the sum of each column's number, so often, can be within the bounds; it tells whether there is an end.
func least(l api.LP, often []*big.Rat) (*big.Rat, bool) {
	sum := new(big.Rat)
	for col, o := range often {
		has, bound := l.HasLo[col], l.Lo[col]
		if o.Sign() < 0 {
			has, bound = l.HasHi[col], l.Hi[col]
		}
		if o.Sign() != 0 && !has {
			return nil, false
		}
		sum.Add(sum, new(big.Rat).Mul(o, number(bound)))
	}
	return sum, true
}

// times gives how often each column is taken, if each row is taken so often as the list says.
func times(l api.LP, list []api.Rat) []*big.Rat {
	var out []*big.Rat
	for _, terms := range l.Cols {
		sum := new(big.Rat)
		for _, t := range terms {
			sum.Add(sum, new(big.Rat).Mul(number(t.Val), number(list[t.Col])))
		}
		out = append(out, sum)
	}
	return out
}

// within tells whether every column's number is within its bounds, and every row's sum of all columns is 0.
func within(l api.LP, x []api.Rat) bool {
	sums := make([]*big.Rat, len(l.Cols)-l.N)
	for place := range sums {
		sums[place] = new(big.Rat)
	}
	for col, a := range x {
		if l.HasLo[col] && number(a).Cmp(number(l.Lo[col])) < 0 || l.HasHi[col] && number(a).Cmp(number(l.Hi[col])) > 0 {
			return false
		}
		for _, t := range l.Cols[col] {
			sums[t.Col].Add(sums[t.Col], new(big.Rat).Mul(number(t.Val), number(a)))
		}
	}
	return len(x) == len(l.Cols) && !slices.ContainsFunc(sums, func(a *big.Rat) bool { return a.Sign() != 0 })
}

// provesBest tells whether an answer's X is within all bounds, and Y proves that no numbers cost less: since the rows' sums are 0, what the columns cost is what they cost less Y.
func provesBest(l api.LP, a api.LPAnswer) bool {
	costs, reduced := new(big.Rat), times(l, a.Y)
	for col, price := range reduced {
		costs.Add(costs, new(big.Rat).Mul(number(l.Cost[col]), number(a.X[col])))
		if price.Sub(number(l.Cost[col]), price); price.RatString() != tell.OfRat(a.D[col]) {
			return false
		}
	}
	bound, ends := least(l, reduced)
	return within(l, a.X) && len(a.D) == len(l.Cols) && ends && bound.Cmp(costs) == 0
}

// provesNone tells whether an answer's Row proves that Col doesn't reach its bound.
func provesNone(l api.LP, a api.LPAnswer) bool {
	var list []api.Rat // how often each row is taken, as the rows' columns tell
	for _, r := range a.Row[l.N:] {
		list = append(list, tell.Rat(new(big.Rat).Neg(number(r)).RatString()))
	}
	row := times(l, list)
	for col, often := range row {
		if often.RatString() != tell.OfRat(a.Row[col]) || (col == a.Col) != (often.Sign() != 0) && slices.Contains(a.Basis, col) {
			return false
		}
		if !a.Up {
			often.Neg(often)
		}
	}
	far := number(l.Lo[a.Col]) // how far the others are from letting Col reach its Lo: the least of Lo less the sum of -Row times them
	has := l.HasLo[a.Col]
	if !a.Up {
		has, far = l.HasHi[a.Col], far.Neg(number(l.Hi[a.Col]))
	}
	row[a.Col] = new(big.Rat)
	bound, ends := least(l, row)
	return has && ends && tell.OfRat(a.Row[a.Col]) == "1" && far.Add(far, bound).Sign() > 0
}

// rightCosts tells whether reduced costs suit how the columns stand.
func rightCosts(l api.LP, status []int, d []api.Rat) bool {
	for col, stands := range status {
		sign := number(d[col]).Sign()
		fixed := l.HasLo[col] && l.HasHi[col] && number(l.Lo[col]).Cmp(number(l.Hi[col])) == 0
		switch {
		case sign == 0 || fixed && stands != api.Basic:
		case stands == api.AtLo && sign > 0 || stands == api.AtHi && sign < 0:
		default:
			return false
		}
	}
	return true
}

// onlyState tells whether an answer tells nothing that its state gives no meaning.
func onlyState(a api.LPAnswer) bool {
	best, none := len(a.X)+len(a.D)+len(a.Y) > 0, a.Col != 0 || a.Up || len(a.Row) > 0
	return (a.State == api.LPBest || !best) && (a.State == api.LPNone || !none)
}

// ofAnswer writes an answer.
func ofAnswer(a api.LPAnswer) string {
	out := fmt.Sprint([]string{"?", "best", "none", "tired"}[a.State], " ", a.Pivots, " ", a.Basis, " ", tell.OfStatus(a.Status))
	switch a.State {
	case api.LPBest:
		out += " X " + tell.OfRats(a.X) + " D " + tell.OfRats(a.D) + " Y " + tell.OfRats(a.Y)
	case api.LPNone:
		out += fmt.Sprint(" Col ", a.Col, " ", a.Up, " Row ", tell.OfRats(a.Row))
	}
	return out
}
