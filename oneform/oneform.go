// Package oneform tells whether numbers and vectors are in their one form: the layers share it that take nothing else.
package oneform

import (
	"slices"

	"cutwater/api"
	"cutwater/rat"
)

// Number tells whether a fraction is in its one form.
func Number(a api.Rat) bool {
	one := rat.Form(a)
	return a.Num.Neg == one.Num.Neg && slices.Equal(a.Num.Abs, one.Num.Abs) && slices.Equal(a.Den, one.Den)
}

// Vector tells whether terms are a vector's one form, all of whose places are below n.
func Vector(v []api.Term, n int) bool {
	last := -1
	for _, t := range v {
		if t.Col <= last || t.Col >= n || rat.Sign(t.Val) == 0 || !Number(t.Val) {
			return false
		}
		last = t.Col
	}
	return true
}
