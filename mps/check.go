package mps

import (
	"slices"
	"strings"

	"cutwater/api"
	"cutwater/oneform"
	"cutwater/rat"
)

// right tells whether there is nothing wrong with a problem but the length of its numbers.
func right(p api.Problem) bool {
	if len(p.Rows) > api.MaxRows || len(p.Vars) > api.MaxCols || p.Name != "" && !isName(p.Name) {
		return false
	}
	rows, cols := []string{p.Obj}, []string(nil)
	for _, w := range p.Rows {
		rows = append(rows, w.Name)
	}
	for _, v := range p.Vars {
		cols = append(cols, v.Name)
	}
	return areNames(rows) && !slices.Contains(rows, marker) && areNames(cols) &&
		!slices.ContainsFunc(p.Rows, func(w api.Row) bool { return !rightRow(w, len(p.Vars)) }) &&
		!slices.ContainsFunc(p.Vars, func(v api.Var) bool { return !rightVar(v) })
}

// isName tells whether a text is one.
func isName(s string) bool {
	return s != "" && len(s) <= api.MaxName && !strings.ContainsFunc(s, func(r rune) bool { return r < '!' || r > '~' })
}

// areNames tells whether all are names, no two of them one.
func areNames(list []string) bool {
	places := map[string]int{}
	for i, s := range list {
		if _, twice := places[s]; twice || !isName(s) {
			return false
		}
		places[s] = i
	}
	return true
}

// rightRow tells whether there is nothing wrong with a row of a problem of n variables.
func rightRow(w api.Row, n int) bool {
	apart := w.HasLo && w.HasHi && rat.Cmp(w.Lo, w.Hi) > 0
	return (w.HasLo || w.HasHi) && !apart && rightBound(w.HasLo, w.Lo) && rightBound(w.HasHi, w.Hi) && oneform.Vector(w.Terms, n)
}

// rightVar tells whether there is nothing wrong with a variable but perhaps its name.
func rightVar(v api.Var) bool {
	return rightBound(v.HasLo, v.Lo) && rightBound(v.HasHi, v.Hi) && oneform.Number(v.Cost)
}

// rightBound tells whether a is in its one form, and 0 where it isn't there.
func rightBound(has bool, a api.Rat) bool {
	return oneform.Number(a) && (has || rat.Sign(a) == 0)
}
