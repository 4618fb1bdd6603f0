package cons_test

import (
	"math/big"
	"math/rand"
	"strconv"
	"strings"

	"cutwater/api"
	"cutwater/rat"
	"cutwater/ratext"
	"cutwater/tell"
)

// places are those at which the constraints of other have terms.
const places = 4

// other is another reckoner's constraint: what stands at each place, the noughts too.
type other struct {
	sense int
	terms [places]*big.Rat
	rhs   *big.Rat
}

// number gives the number that a, in any form, tells.
func number(a api.Rat) *big.Rat {
	out, _ := new(big.Rat).SetString(ratext.Text(a))
	return out
}

// otherOf gives a constraint without terms behind its places.
func otherOf(c api.Cons) other {
	out := other{sense: c.Sense, rhs: number(c.Rhs)}
	for i := range places {
		out.terms[i] = new(big.Rat)
		for _, t := range c.Terms {
			if t.Col == i {
				out.terms[i].Add(out.terms[i], number(t.Val))
			}
		}
	}
	return out
}

// text tells it.
func (o other) text() string {
	var words []string
	for i, a := range o.terms {
		if a.Sign() != 0 {
			words = append(words, a.RatString()+"@"+strconv.Itoa(i))
		}
	}
	sense := map[int]string{api.AtMost: "<=", api.AtLeast: ">=", api.Equal: "="}[o.sense]
	if sense == "" {
		sense = strconv.Itoa(o.sense)
	}
	return strings.Join(append(words, sense, o.rhs.RatString()), " ")
}

// sensed tells whether it is a constraint at all.
func (o other) sensed() bool { return o.sense >= 1 && o.sense <= 3 }

// kept tells whether numbers keep it.
func (o other) kept(x []api.Rat) bool {
	sum := new(big.Rat)
	for i, a := range o.terms {
		if i < len(x) {
			sum.Add(sum, new(big.Rat).Mul(a, number(x[i])))
		}
	}
	side := sum.Cmp(o.rhs)
	return o.sense == api.AtMost && side <= 0 || o.sense == api.AtLeast && side >= 0 || o.sense == api.Equal && side == 0
}

// empty tells whether there is nothing at any place.
func (o other) empty() bool { return o.same(other{terms: otherOf(api.Cons{}).terms}) }

// same tells whether both have the same terms.
func (o other) same(p other) bool {
	out := true
	for i, a := range o.terms {
		out = out && a.Cmp(p.terms[i]) == 0
	}
	return out
}

// isFalse tells whether nothing keeps it, as the chapter says it.
func (o other) isFalse() bool { return o.sensed() && o.empty() && !o.kept(nil) }

// dominates tells it as the chapter does.
func (o other) dominates(p other) bool {
	side := o.rhs.Cmp(p.rhs)
	tight := p.sense == api.AtMost && (o.sense == api.AtMost || o.sense == api.Equal) && side <= 0 ||
		p.sense == api.AtLeast && (o.sense == api.AtLeast || o.sense == api.Equal) && side >= 0 ||
		p.sense == api.Equal && o.sense == api.Equal && side == 0
	return o.sensed() && p.sensed() && (o.isFalse() || p.empty() && p.kept(nil) || o.same(p) && tight)
}

// isWhole tells whether all terms are whole numbers at places of whole variables.
func (o other) isWhole(whole []bool) bool {
	out := true
	for i, a := range o.terms {
		out = out && (a.Sign() == 0 || a.IsInt() && i < len(whole) && whole[i])
	}
	return out
}

// splits tells whether whole numbers keep one of both.
func (o other) splits(p other, whole []bool) bool {
	if o.sense != api.AtMost {
		o, p = p, o
	}
	next := new(big.Rat).Add(o.rhs, big.NewRat(1, 1))
	return o.sense == api.AtMost && p.sense == api.AtLeast && o.same(p) && o.isWhole(whole) && o.rhs.IsInt() && next.Cmp(p.rhs) == 0
}

// rounded gives what it says of whole numbers.
func (o other) rounded(whole []bool) (other, api.Errno) {
	if !o.sensed() {
		return other{}, api.ErrArg
	}
	if !o.isWhole(whole) {
		return other{}, api.ErrRule
	}
	if o.rhs.IsInt() {
		return o, api.OK
	}
	quotient, _ := new(big.Int).DivMod(o.rhs.Num(), o.rhs.Denom(), new(big.Int))
	switch o.sense {
	case api.AtLeast:
		quotient.Add(quotient, big.NewInt(1))
	case api.Equal:
		return other{api.AtLeast, otherOf(api.Cons{}).terms, big.NewRat(1, 1)}, api.OK
	}
	return other{o.sense, o.terms, new(big.Rat).SetInt(quotient)}, api.OK
}

// combined gives a sum of constraints.
func combined(list []other, often []api.Rat, sense int) (other, api.Errno) {
	out := other{sense, otherOf(api.Cons{}).terms, new(big.Rat)}
	wrong := !out.sensed() || len(list) != len(often)
	for _, o := range list {
		wrong = wrong || !o.sensed()
	}
	if wrong {
		return other{}, api.ErrArg
	}
	for i, o := range list {
		n := number(often[i])
		seen := o.sense // as which it stands there
		if n.Sign() < 0 {
			seen = []int{0, api.AtLeast, api.AtMost, api.Equal}[o.sense]
		}
		if n.Sign() != 0 && seen != sense && o.sense != api.Equal {
			return other{}, api.ErrRule
		}
		for k, a := range o.terms {
			out.terms[k].Add(out.terms[k], new(big.Rat).Mul(n, a))
		}
		out.rhs.Add(out.rhs, new(big.Rat).Mul(n, o.rhs))
	}
	return out, api.OK
}

// small gives a number near 0.
func small(r *rand.Rand) api.Rat {
	a, _ := rat.Of(r.Int63n(7)-3, []int64{1, 1, 1, 1, 2, 3}[r.Intn(6)])
	return a
}

// chance gives a constraint of few terms, in a form of any kind; now and then it has no sense.
func chance(r *rand.Rand) api.Cons {
	c := api.Cons{Sense: 1 + r.Intn(3), Rhs: small(r)}
	if r.Intn(20) == 0 {
		c.Sense = []int{0, -1, 4}[r.Intn(3)]
	}
	for range r.Intn(4) {
		c.Terms = append(c.Terms, api.Term{Col: r.Intn(places), Val: small(r)})
	}
	if r.Intn(4) == 0 {
		c.Terms = nil
	}
	return tell.LooseCons(c, r.Intn)
}

// akin gives a constraint with the same terms, most often, but in another form.
func akin(r *rand.Rand, c api.Cons) api.Cons {
	if c.Sense == api.AtMost && r.Intn(3) == 0 {
		return tell.LooseCons(api.Cons{Sense: api.AtLeast, Terms: c.Terms, Rhs: rat.Add(c.Rhs, rat.Whole(1))}, r.Intn)
	}
	c.Sense = 1 + r.Intn(3)
	c.Rhs = []api.Rat{c.Rhs, rat.Add(c.Rhs, rat.Whole(1)), rat.Sub(c.Rhs, rat.Whole(1)), small(r)}[r.Intn(4)]
	if r.Intn(8) == 0 {
		c.Terms = append([]api.Term{{Col: r.Intn(places), Val: small(r)}}, c.Terms...)
	}
	return tell.LooseCons(c, r.Intn)
}

// wholes gives which variables are whole, most often nearly all.
func wholes(r *rand.Rand) []bool {
	out := make([]bool, r.Intn(3)+places-1)
	for i := range out {
		out[i] = r.Intn(6) > 0
	}
	return out
}

// points gives numbers near 0, whole where whole holds.
func points(r *rand.Rand, whole []bool) []api.Rat {
	var x []api.Rat
	for i := range places + r.Intn(2) {
		a := small(r)
		if i < len(whole) && whole[i] {
			a = rat.OfInt(rat.Floor(a))
		}
		x = append(x, tell.LooseRat(a, r.Intn))
	}
	return x
}
