package model

import (
	"cutwater/api"
	"cutwater/rat"
)

// bounds are those of a row or a variable.
type bounds struct {
	hasLo, hasHi bool
	lo, hi       api.Rat
}

// ofRow gives a row's bounds.
func ofRow(w api.Row) bounds { return bounds{w.HasLo, w.HasHi, w.Lo, w.Hi} }

// ofVar gives a variable's bounds.
func ofVar(v api.Var) bounds { return bounds{v.HasLo, v.HasHi, v.Lo, v.Hi} }

// hold tells whether a number isn't beyond them.
func (b bounds) hold(a api.Rat) bool {
	return (!b.hasLo || rat.Cmp(a, b.lo) >= 0) && (!b.hasHi || rat.Cmp(a, b.hi) <= 0)
}

// meet tells whether both are there and are one number.
func (b bounds) meet() bool { return b.hasLo && b.hasHi && rat.Cmp(b.lo, b.hi) == 0 }

// appendTo adds what they say of the sum of terms, each bound by itself.
func (b bounds) appendTo(out []api.Cons, terms []api.Term) []api.Cons {
	if b.hasLo {
		out = append(out, constraint(api.AtLeast, terms, b.lo))
	}
	if b.hasHi {
		out = append(out, constraint(api.AtMost, terms, b.hi))
	}
	return out
}
