package shape

import (
	"cutwater/api"
	"cutwater/oneform"
	"cutwater/rat"
)

// right tells whether a linear problem is.
func right(l api.LP) bool {
	n := len(l.Cols)
	if l.N < 0 || l.N > n || len(l.HasLo) != n || len(l.HasHi) != n || len(l.Lo) != n || len(l.Hi) != n || len(l.Cost) != n {
		return false
	}
	for col := range n {
		if !rightTerms(l, col) || !rightBound(l.HasLo[col], l.Lo[col]) || !rightBound(l.HasHi[col], l.Hi[col]) || !oneform.Number(l.Cost[col]) {
			return false
		}
	}
	return true
}

// rightTerms tells whether a column's terms are right; of a row's also whether its cost is 0.
func rightTerms(l api.LP, col int) bool {
	terms, m := l.Cols[col], len(l.Cols)-l.N
	if !oneform.Vector(terms, m) {
		return false
	}
	return col < l.N || len(terms) == 1 && terms[0].Col == col-l.N && rat.Cmp(terms[0].Val, rat.Whole(-1)) == 0 && rat.Sign(l.Cost[col]) == 0
}

// rightBound tells whether a is in its one form, and 0 where it isn't there.
func rightBound(has bool, a api.Rat) bool {
	return oneform.Number(a) && (has || rat.Sign(a) == 0)
}

// standRightly tells whether the columns of a right linear problem stand rightly.
func standRightly(l api.LP, basis, status []int) bool {
	if len(basis) != len(l.Cols)-l.N || len(status) != len(l.Cols) {
		return false
	}
	often := map[int]int{}
	for _, col := range basis {
		often[col]++
	}
	in := 0
	for col, stands := range status {
		if !mayStand(l, col, stands, often[col]) {
			return false
		}
		in += often[col]
	}
	return in == len(basis) // else one isn't a column
}

// mayStand tells whether a column that is so often in the basis may stand so.
func mayStand(l api.LP, col, stands, often int) bool {
	switch stands {
	case api.Basic:
		return often == 1
	case api.AtLo:
		return often == 0 && l.HasLo[col]
	case api.AtHi:
		return often == 0 && l.HasHi[col]
	case api.Free:
		return often == 0 && !l.HasLo[col] && !l.HasHi[col]
	}
	return false
}
