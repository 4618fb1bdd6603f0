// Package cutrow gives rows of the tableau as cuts are made of them: the layers of cuts share it.
package cutrow

import (
	"slices"

	"cutwater/api"
	"cutwater/lists"
	"cutwater/rat"
	"cutwater/shape"
)

// Row is a row of the tableau by which a whole variable isn't whole: its number and, of each step, how far the column is from its bound, so often, make At.
type Row struct {
	Var   int
	At    api.Rat
	Steps []Step
}

// Step is a column that isn't in the basis, the bound at which it stands, and how much the variable falls when the column goes 1 away from there.
type Step struct {
	Col   int
	Upper bool
	Falls api.Rat
}

// Of gives the row at a place of the basis. There is none, if no whole variable stands there, its number is whole, or a column without bounds moves it.
func Of(l api.LP, whole []bool, basis, status []int, place int) (Row, bool) {
	p := lists.At(basis, place)
	if p >= l.N || !lists.At(whole, p) {
		return Row{}, false
	}
	tableau, e := shape.Tableau(l, basis, status, place)
	if e != api.OK {
		return Row{}, false
	}
	out := Row{Var: p, At: rat.Whole(0)}
	for col, often := range tableau {
		if status[col] == api.Basic || rat.Sign(often) == 0 {
			continue
		}
		if status[col] == api.Free {
			return Row{}, false
		}
		out.add(l, col, status[col] == api.AtHi, often)
	}
	if rat.IsWhole(out.At) {
		return Row{}, false
	}
	return out, true
}

// add adds a column that is so often in the row of the tableau, the sum of which is 0.
func (r *Row) add(l api.LP, col int, upper bool, often api.Rat) {
	at, falls := l.Lo[col], often
	if upper {
		at, falls = l.Hi[col], rat.Neg(often)
	}
	r.At = rat.Sub(r.At, rat.Mul(often, at))
	r.Steps = append(r.Steps, Step{Col: col, Upper: upper, Falls: falls})
}

// Uses gives the steps' bounds, each as often as a sum has how far its column is from it; those that are 0 are left out.
func (r Row) Uses(often []api.Rat) []api.Use {
	var out []api.Use
	for i, s := range r.Steps {
		u := api.Use{Col: s.Col, Upper: s.Upper, Often: rat.Form(often[i])}
		if s.Upper {
			u.Often = rat.Neg(often[i]) // it is the bound less the column
		}
		out = append(out, u)
	}
	return slices.DeleteFunc(out, func(u api.Use) bool { return rat.Sign(u.Often) == 0 })
}
