package cert

import (
	"slices"

	"cutwater/api"
	"cutwater/oneform"
	"cutwater/rat"
	"cutwater/words"
)

// right tells whether a certificate is.
func right(c api.Cert) bool {
	n := len(c.Names)
	return every(c.Names, words.Name) && len(c.Whole) == n && oneform.Vector(c.Obj, n) &&
		every(c.Cons, func(a api.Cons) bool { return rightCons(a, n) }) &&
		rightClaim(c) && every(c.Sols, func(v []api.Term) bool { return oneform.Vector(v, n) }) && rightDers(c)
}

// every tells whether all of a list are so.
func every[T any](list []T, so func(T) bool) bool {
	return !slices.ContainsFunc(list, func(a T) bool { return !so(a) })
}

// rightCons tells whether a constraint of n variables is right.
func rightCons(a api.Cons, n int) bool {
	return a.Sense >= api.AtMost && a.Sense <= api.Equal && oneform.Vector(a.Terms, n) && oneform.Number(a.Rhs)
}

// rightClaim tells whether the claim is, and whether it has nothing that it has no use for.
func rightClaim(c api.Cert) bool {
	none := !c.HasLo && !c.HasHi && len(c.Sols) == 0
	return rightBound(c.HasLo, c.Lo) && rightBound(c.HasHi, c.Hi) && (c.Claim == api.ClaimRange || c.Claim == api.ClaimNone && none)
}

// rightBound tells whether a is in its one form, and 0 where it isn't there.
func rightBound(has bool, a api.Rat) bool {
	return oneform.Number(a) && (has || rat.Sign(a) == 0)
}

// rightDers tells whether all derivations are right.
func rightDers(c api.Cert) bool {
	for i, d := range c.Ders {
		if !rightCons(d.Cons, len(c.Names)) || !rightReason(d, len(c.Cons)+i) {
			return false
		}
	}
	return true
}

// rightReason tells whether a derivation's reason, with so many lines ahead of it, is right, and has nothing that it has no use for.
func rightReason(d api.Der, ahead int) bool {
	places := [4]int{d.Left, d.LeftIf, d.Right, d.RightIf}
	unsplit := places == [4]int{}
	switch d.Reason {
	case api.ByAssume:
		return unsplit && len(d.Uses) == 0
	case api.BySum, api.ByRound:
		return unsplit && oneform.Vector(d.Uses, ahead)
	case api.BySplit:
		return len(d.Uses) == 0 && every(places[:], func(i int) bool { return i >= 0 && i < ahead })
	}
	return false
}
