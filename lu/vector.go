package lu

import (
	"cutwater/api"
	"cutwater/nat"
	"cutwater/rat"
	"cutwater/zint"
)

// whole gives a vector, which is in its one form, so often that its numbers are whole ones without a common divisor and the first one is above 0; and how often that is.
func whole(v []api.Term) ([]part, api.Rat) {
	if len(v) == 0 {
		return nil, rat.Whole(1)
	}
	up, down := []uint64{1}, []uint64{}
	for _, t := range v {
		own, _, _ := nat.DivMod(t.Val.Den, nat.Gcd(up, t.Val.Den))
		up, down = nat.Mul(up, own), nat.Gcd(down, t.Val.Num.Abs)
	}
	often, _ := rat.Make(zint.Make(v[0].Val.Num.Neg, up), zint.Make(false, down))
	out := make([]part, len(v))
	for i, t := range v {
		out[i] = part{t.Col, rat.Mul(often, t.Val).Num}
	}
	return out, often
}

// share is a fraction in any form; 0 also without den.
type share struct{ num, den api.Int }

// over gives what a share is over den, which is known to be a whole number.
func (a share) over(den api.Int) api.Int {
	if zint.Sign(a.num) == 0 || zint.Cmp(a.den, den) == 0 {
		return a.num
	}
	return exact(zint.Mul(a.num, den), a.den)
}

// times gives a share, so often, as a fraction in its one form.
func (a share) times(often api.Rat) api.Rat {
	if zint.Sign(a.num) == 0 {
		return rat.Whole(0)
	}
	out, _ := rat.Make(zint.Mul(a.num, often.Num), zint.Mul(a.den, zint.Make(false, often.Den)))
	return out
}

// vector is a list of shares that knows which of them are not 0. Each stands over the determinant of the last step that changed it: so a step needs not touch them all.
type vector struct {
	shares []share
	places []int // those that were set; the others are 0
}

// newVector gives a vector of so many numbers, all of them 0.
func newVector(n int) *vector { return &vector{shares: make([]share, n)} }

// put sets whole numbers.
func (v *vector) put(list []part) {
	for _, t := range list {
		v.set(t.place, share{t.num, zint.Of(1)})
	}
}

// set sets the share at a place.
func (v *vector) set(place int, a share) {
	if len(v.shares[place].den.Abs) == 0 {
		v.places = append(v.places, place)
	}
	v.shares[place] = a
}

// take gives the numbers that aren't 0, over den, and sets all to 0.
func (v *vector) take(den api.Int) []part {
	var out []part
	for _, place := range v.places {
		if num := v.shares[place].over(den); zint.Sign(num) != 0 {
			out = append(out, part{place, num})
		}
		v.shares[place] = share{}
	}
	v.places = v.places[:0]
	return out
}
