// Package told gives what a basis tells of a linear problem, once its columns are taken apart: the layers share it that ask for it once, and that go from basis to basis.
//
// The linear problem must be right, its columns stand rightly, and f be their basis, taken apart.
package told

import (
	"cutwater/api"
	"cutwater/lu"
	"cutwater/mat"
	"cutwater/rat"
)

// Taken gives the columns of a basis, taken apart.
func Taken(l api.LP, basis []int) (*lu.LU, api.Errno) {
	cols := make([][]api.Term, len(basis))
	for place, col := range basis {
		cols[place] = l.Cols[col]
	}
	return lu.Factor(cols)
}

// Numbers gives the columns' numbers: those of the basis are such that each row's sum is 0.
func Numbers(l api.LP, basis, status []int, f *lu.LU) []api.Rat {
	x := make([]api.Rat, len(l.Cols))
	for col, stands := range status {
		x[col] = number(l, col, stands)
	}
	lack := make([]api.Rat, len(basis))
	for _, t := range mat.TimesT(x, l.Cols) {
		lack[t.Col] = rat.Neg(t.Val)
	}
	own, _ := f.Solve(lack)
	for place, col := range basis {
		x[col] = own[place]
	}
	return x
}

// number gives the number of a column that isn't in the basis; 0 of one that is.
func number(l api.LP, col, stands int) api.Rat {
	switch stands {
	case api.AtLo:
		return rat.Form(l.Lo[col])
	case api.AtHi:
		return rat.Form(l.Hi[col])
	}
	return rat.Whole(0)
}

// Prices gives the rows' prices, by which the basis costs nothing.
func Prices(l api.LP, basis []int, f *lu.LU) []api.Rat {
	costs := make([]api.Rat, len(basis))
	for place, col := range basis {
		costs[place] = l.Cost[col]
	}
	y, _ := f.SolveT(costs)
	return y
}

// Reduced gives the columns' reduced costs at these prices.
func Reduced(l api.LP, y []api.Rat) []api.Rat {
	d := mat.Times(l.Cols, y)
	for col, price := range d {
		d[col] = rat.Sub(l.Cost[col], price)
	}
	return d
}

// Row gives the row of the tableau at a place of the basis.
func Row(l api.LP, f *lu.LU, place int) []api.Rat {
	unit := make([]api.Rat, f.Len())
	unit[place] = rat.Whole(1)
	r, _ := f.SolveT(unit)
	return mat.Times(l.Cols, r)
}
