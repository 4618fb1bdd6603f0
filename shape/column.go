package shape

import (
	"cutwater/api"
	"cutwater/rat"
	"cutwater/vec"
)

// bounds are those of a column.
type bounds struct {
	hasLo, hasHi bool
	lo, hi       api.Rat
}

// there gives a bound in memory of its own; 0, if it isn't there.
func there(has bool, a api.Rat) api.Rat {
	if !has {
		return rat.Whole(0)
	}
	return rat.Form(a)
}

// addColumn adds a column, and keeps its terms.
func addColumn(l *api.LP, terms []api.Term, b bounds, cost api.Rat) {
	l.Cols = append(l.Cols, terms)
	l.HasLo, l.Lo = append(l.HasLo, b.hasLo), append(l.Lo, there(b.hasLo, b.lo))
	l.HasHi, l.Hi = append(l.HasHi, b.hasHi), append(l.Hi, there(b.hasHi, b.hi))
	l.Cost = append(l.Cost, rat.Form(cost))
}

// addRow adds a row, and changes the variables' columns by it; terms from N on count for nothing.
func addRow(l *api.LP, terms []api.Term, b bounds) {
	place := len(l.Cols) - l.N
	for _, t := range vec.Make(terms) {
		if t.Col < l.N {
			l.Cols[t.Col] = append(l.Cols[t.Col], api.Term{Col: place, Val: t.Val})
		}
	}
	addColumn(l, []api.Term{{Col: place, Val: rat.Whole(-1)}}, b, rat.Whole(0))
}

// clone gives a right linear problem in memory of its own.
func clone(l api.LP) api.LP {
	out := api.LP{N: l.N}
	for col, terms := range l.Cols {
		addColumn(&out, vec.Make(terms), bounds{l.HasLo[col], l.HasHi[col], l.Lo[col], l.Hi[col]}, l.Cost[col])
	}
	return out
}
