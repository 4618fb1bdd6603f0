package lu

import (
	"iter"

	"cutwater/api"
	"cutwater/zint"
)

// part is a whole number at its place.
type part struct {
	place int
	num   api.Int
}

// step is a matrix with ones at its diagonal and 0 else, but for the column at place: that has pivot there and rest elsewhere, each number over before. So before and pivot are the determinants of the steps ahead of it and of those up to it.
type step struct {
	place         int
	before, pivot api.Int
	rest          []part
}

// newStep gives the step whose column at place is col, over before; it keeps their memory.
func newStep(before api.Int, place int, col []part) step {
	s := step{place: place, before: before}
	for _, t := range col {
		if t.place == place {
			s.pivot = t.num
		} else {
			s.rest = append(s.rest, t)
		}
	}
	return s
}

// solve makes of v what the steps make into v.
func solve(steps []step, v *vector) {
	for _, s := range steps {
		s.solve(v)
	}
}

// solve makes of v what the step makes into v.
func (s step) solve(v *vector) {
	if zint.Sign(v.shares[s.place].num) == 0 {
		return
	}
	top := v.shares[s.place].over(s.before)
	for _, t := range s.rest {
		lead := zint.Mul(v.shares[t.place].over(s.before), s.pivot)
		v.set(t.place, share{exact(zint.Sub(lead, zint.Mul(t.num, top)), s.before), s.pivot})
	}
	v.set(s.place, share{top, s.pivot})
}

// solveT makes of y what makes the step into y; the numbers of both are over the determinant of all steps.
func (s step) solveT(y []api.Int) {
	sum := zint.Mul(y[s.place], s.before)
	for _, t := range s.rest {
		if zint.Sign(y[t.place]) != 0 {
			sum = zint.Sub(sum, zint.Mul(t.num, y[t.place]))
		}
	}
	y[s.place] = exact(sum, s.pivot)
}

// exact gives a quotient that is known to be a whole number.
func exact(a, b api.Int) api.Int {
	quotient, _, _ := zint.DivFloor(a, b)
	return quotient
}

// backwards goes through the steps from the last one to the first one.
func backwards(steps []step) iter.Seq[step] {
	return func(yield func(step) bool) {
		for i := len(steps) - 1; i >= 0; i-- {
			if !yield(steps[i]) {
				return
			}
		}
	}
}
