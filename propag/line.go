package propag

import (
	"cutwater/api"
	"cutwater/rat"
)

// line is a row of a right linear problem.
type line struct {
	api.LP
	sum   int        // the column of its sum
	terms []api.Term // the variables' numbers in it, in order, none 0
	rests [2]rest    // what the sum's Lo leaves for them, and its Hi
}

// rest is what a bound of a row's sum leaves, if each variable takes all that it can of the Lo, or as little as it can of the Hi. What lacks counts for nothing, but is counted.
type rest struct {
	left  api.Rat
	lacks int
}

// lineOf gives a row.
func lineOf(l api.LP, row int) *line {
	w := &line{LP: l, sum: l.N + row}
	for col, terms := range l.Cols[:l.N] {
		for _, t := range terms {
			if t.Col == row {
				w.terms = append(w.terms, api.Term{Col: col, Val: t.Val})
			}
		}
	}
	w.reckon()
	return w
}

// reckon tells anew what the row leaves, by the bounds as they are.
func (w *line) reckon() {
	for i, upper := range [...]bool{false, true} {
		has, left := w.bound(w.sum, upper)
		lacks := lack(has)
		for _, t := range w.terms {
			has, at := w.bound(t.Col, (rat.Sign(t.Val) > 0) != upper)
			left = rat.Sub(left, rat.Mul(t.Val, at))
			lacks += lack(has)
		}
		w.rests[i] = rest{left, lacks}
	}
}

// lack is 1 of a bound that isn't there, else 0.
func lack(has bool) int {
	if has {
		return 0
	}
	return 1
}

// bound tells whether a column has a bound, and gives it: 0, if it hasn't.
func (w *line) bound(col int, upper bool) (bool, api.Rat) {
	if upper {
		return w.HasHi[col], w.Hi[col]
	}
	return w.HasLo[col], w.Lo[col]
}

// tighten gives the bound that the row tells of one of its variables, if that is tighter.
func (w *line) tighten(t api.Term, upper, whole bool) (api.Tight, bool) {
	r := w.rests[0]
	if (rat.Sign(t.Val) > 0) == upper {
		r = w.rests[1]
	}
	has, own := w.bound(t.Col, !upper) // the variable's own part is in the rest
	if r.lacks > lack(has) {
		return api.Tight{}, false
	}
	told, _ := rat.Div(r.left, t.Val)
	told = rat.Add(told, own)
	v := told
	if whole {
		v = rounded(told, upper)
	}
	if has, now := w.bound(t.Col, upper); has && !tighter(v, now, upper) {
		return api.Tight{}, false
	}
	return api.Tight{Col: t.Col, Upper: upper, V: v, Uses: w.uses(t, upper), Rounded: rat.Cmp(v, told) != 0}, true
}

// rounded gives the bound of a whole number.
func rounded(a api.Rat, upper bool) api.Rat {
	if upper {
		return rat.OfInt(rat.Floor(a))
	}
	return rat.OfInt(rat.Ceil(a))
}

// tighter tells whether a bound is tighter than the one that is there now.
func tighter(a, now api.Rat, upper bool) bool {
	side := rat.Cmp(a, now)
	return upper && side < 0 || !upper && side > 0
}

// uses gives the bounds whose sum is the row's bound of one of its variables.
func (w *line) uses(t api.Term, upper bool) []api.Use {
	var out []api.Use
	add := func(col int, by api.Rat) {
		often, _ := rat.Div(by, t.Val)
		out = append(out, api.Use{Col: col, Upper: (rat.Sign(often) > 0) == upper, Often: often})
	}
	add(w.sum, rat.Whole(1))
	for _, other := range w.terms {
		if other.Col != t.Col {
			add(other.Col, rat.Neg(other.Val))
		}
	}
	return out
}
