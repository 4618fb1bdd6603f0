package mps

import (
	"cutwater/api"
	"cutwater/rat"
	"cutwater/vec"
)

// problem gives what the lines told in all; its numbers are copies, for one that was read may stand at two places.
func (r *reader) problem() api.Problem {
	p := api.Problem{Name: r.name}
	for place, w := range r.rows {
		if w.kind == "N" {
			p.Obj = w.name
		} else {
			p.Rows = append(p.Rows, r.rowAt(place))
		}
	}
	costs := r.numbersOf(r.objective())
	for place, c := range r.cols {
		p.Vars = append(p.Vars, api.Var{
			Name: c.name, Whole: c.whole,
			HasLo: c.lo.has, Lo: rat.Form(c.lo.at),
			HasHi: c.hi.has, Hi: rat.Form(c.hi.at),
			Cost: rat.Form(costs[place]),
		})
	}
	return p
}

// numbersOf gives the columns' numbers for a row; 0, where there is none.
func (r *reader) numbersOf(place int) []api.Rat {
	out := make([]api.Rat, len(r.cols))
	for col := range r.cols {
		out[col] = r.numbers[pair{inColumns, col, place}]
	}
	return out
}

// rowAt gives the row at that place, which isn't the objective.
func (r *reader) rowAt(place int) api.Row {
	kind := r.rows[place].kind
	rhs := r.numbers[pair{inRHS, 0, place}]
	t, ranged := r.numbers[pair{inRanges, 0, place}]
	down := kind == "L" || kind == "E" && rat.Sign(t) < 0
	if rat.Sign(t) < 0 {
		t = rat.Neg(t)
	}
	out := api.Row{
		Name:  r.rows[place].name,
		HasLo: kind != "L" || ranged, Lo: rat.Form(rhs),
		HasHi: kind != "G" || ranged, Hi: rat.Form(rhs),
		Terms: vec.Gather(r.numbersOf(place)),
	}
	switch {
	case !out.HasLo:
		out.Lo = rat.Whole(0)
	case !out.HasHi:
		out.Hi = rat.Whole(0)
	case down:
		out.Lo = rat.Sub(rhs, t)
	default:
		out.Hi = rat.Add(rhs, t)
	}
	return out
}
