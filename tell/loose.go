package tell

import (
	"slices"

	"cutwater/api"
	"cutwater/nat"
	"cutwater/rat"
)

// LooseInt gives a whole number in another form; pick chooses one of n.
func LooseInt(a api.Int, pick func(n int) int) api.Int {
	return api.Int{Neg: a.Neg || nat.Bits(a.Abs) == 0 && pick(2) == 1, Abs: LooseWords(a.Abs, pick)}
}

// LooseWords gives a natural number in another form.
func LooseWords(a []uint64, pick func(n int) int) []uint64 {
	return append(slices.Clone(a), make([]uint64, pick(3))...)
}

// LooseRat gives a fraction in another form.
func LooseRat(a api.Rat, pick func(n int) int) api.Rat {
	a = rat.Form(a)
	if by := pick(6); by > 0 {
		a.Num.Abs, a.Den = nat.Mul(a.Num.Abs, []uint64{uint64(by)}), nat.Mul(a.Den, []uint64{uint64(by)})
	} else if rat.IsWhole(a) {
		a.Den = nil
	}
	return api.Rat{Num: LooseInt(a.Num, pick), Den: LooseWords(a.Den, pick)}
}

// LooseVec gives a vector in another form.
func LooseVec(v []api.Term, pick func(n int) int) []api.Term {
	var out []api.Term
	add := func(col int, val api.Rat) {
		out = append(out, api.Term{Col: col, Val: LooseRat(val, pick)})
		other := pick(len(out))
		out[other], out[len(out)-1] = out[len(out)-1], out[other]
	}
	for _, t := range v {
		part := rat.Whole(int64(pick(5) - 2))
		add(t.Col, part)
		add(t.Col, rat.Sub(t.Val, part))
	}
	for range pick(4) {
		add(-1-pick(9), rat.Whole(int64(pick(9))))
		add(pick(9), rat.Whole(0))
	}
	return out
}

// LooseRows gives vectors in other forms.
func LooseRows(rows [][]api.Term, pick func(n int) int) [][]api.Term {
	var out [][]api.Term
	for _, row := range rows {
		out = append(out, LooseVec(row, pick))
	}
	return out
}

// LooseCons gives a constraint in another form.
func LooseCons(c api.Cons, pick func(n int) int) api.Cons {
	return api.Cons{Sense: c.Sense, Terms: LooseVec(c.Terms, pick), Rhs: LooseRat(c.Rhs, pick)}
}

// LooseProblem gives a problem whose terms and numbers are in other forms.
func LooseProblem(p api.Problem, pick func(n int) int) api.Problem {
	p.Rows, p.Vars = slices.Clone(p.Rows), slices.Clone(p.Vars)
	for i, w := range p.Rows {
		p.Rows[i].Lo, p.Rows[i].Hi, p.Rows[i].Terms = LooseRat(w.Lo, pick), LooseRat(w.Hi, pick), LooseVec(w.Terms, pick)
	}
	for i, v := range p.Vars {
		p.Vars[i].Lo, p.Vars[i].Hi, p.Vars[i].Cost = LooseRat(v.Lo, pick), LooseRat(v.Hi, pick), LooseRat(v.Cost, pick)
	}
	return p
}
