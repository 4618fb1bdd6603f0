package tell

import (
	"cutwater/api"
	"cutwater/rat"
)

// ChanceCert gives a right certificate; what it says needn't hold.
func ChanceCert(pick func(n int) int) api.Cert {
	n := pick(5)
	c := api.Cert{Obj: chanceVector(n, pick), Claim: api.ClaimNone + pick(2), Lo: rat.Whole(0), Hi: rat.Whole(0)}
	for range n {
		c.Names, c.Whole = append(c.Names, chanceName(pick)), append(c.Whole, pick(2) > 0)
	}
	for range pick(4) {
		c.Cons = append(c.Cons, chanceCons(n, pick))
	}
	if c.Claim == api.ClaimRange {
		c.HasLo, c.Lo = chanceBound(pick)
		c.HasHi, c.Hi = chanceBound(pick)
		for range pick(3) {
			c.Sols = append(c.Sols, chanceVector(n, pick))
		}
	}
	for range pick(6) {
		c.Ders = append(c.Ders, chanceDer(n, len(c.Cons)+len(c.Ders), pick))
	}
	return c
}

// chanceName gives a name.
func chanceName(pick func(n int) int) string {
	var out []byte
	for range 1 + pick([]int{3, 3, 3, api.MaxName}[pick(4)]) {
		out = append(out, byte('!'+pick('~'-'!'+1)))
	}
	return string(out)
}

// chanceGreat gives a number near 0, or one of many digits.
func chanceGreat(pick func(n int) int) api.Rat {
	out := ChanceNumber(pick)
	for range []int{0, 0, 0, 0, 0, 0, 1, 1, 2, 2, 14}[pick(11)] {
		out = rat.Mul(out, Rat("-12345678901234567891/1000000007"))
	}
	return out
}

// chanceVector gives a vector with places below n.
func chanceVector(n int, pick func(n int) int) []api.Term {
	var out []api.Term
	for place := range n {
		if pick(3) == 0 {
			continue
		}
		if a := chanceGreat(pick); rat.Sign(a) != 0 {
			out = append(out, api.Term{Col: place, Val: a})
		}
	}
	return out
}

// chanceCons gives a constraint of n variables.
func chanceCons(n int, pick func(n int) int) api.Cons {
	return api.Cons{Sense: api.AtMost + pick(3), Terms: chanceVector(n, pick), Rhs: chanceGreat(pick)}
}

// chanceBound gives a bound, or none.
func chanceBound(pick func(n int) int) (bool, api.Rat) {
	if pick(3) == 0 {
		return false, rat.Whole(0)
	}
	return true, chanceGreat(pick)
}

// chanceDer gives a derivation of n variables with so many lines ahead of it.
func chanceDer(n, ahead int, pick func(n int) int) api.Der {
	d := api.Der{Cons: chanceCons(n, pick), Reason: api.ByAssume + pick(4)}
	switch {
	case d.Reason == api.BySum || d.Reason == api.ByRound:
		d.Uses = chanceVector(ahead, pick)
	case d.Reason == api.BySplit && ahead == 0:
		d.Reason = api.ByAssume // there is no line that could be split
	case d.Reason == api.BySplit:
		d.Left, d.LeftIf, d.Right, d.RightIf = pick(ahead), pick(ahead), pick(ahead), pick(ahead)
	}
	return d
}
