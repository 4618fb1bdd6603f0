package derive_test

import (
	"math/big"
	"math/rand"
	"strconv"
	"strings"
	"testing"

	"cutwater/api"
	"cutwater/cons"
	"cutwater/derive"
	"cutwater/dual"
	"cutwater/ratext"
	"cutwater/shape"
	"cutwater/tell"
)

// number gives the number that a tells.
func number(a api.Rat) *big.Rat {
	out, _ := new(big.Rat).SetString(ratext.Text(a))
	return out
}

// sum is another reckoner of sums of bounds: how often each variable is in it, and its right side.
type sum struct {
	often []*big.Rat
	rhs   *big.Rat
}

// sumOf gives the sum of uses.
func sumOf(l api.LP, uses []api.Use) sum {
	s := sum{rhs: new(big.Rat)}
	for range l.N {
		s.often = append(s.often, new(big.Rat))
	}
	for _, u := range uses {
		by, at := number(u.Often), l.Lo[u.Col]
		if u.Upper {
			at = l.Hi[u.Col]
		}
		s.rhs.Add(s.rhs, new(big.Rat).Mul(by, number(at)))
		for v, o := range s.often {
			o.Add(o, new(big.Rat).Mul(by, part(l, u.Col, v)))
		}
	}
	return s
}

// part gives how often a column has the variable v in it.
func part(l api.LP, col, v int) *big.Rat {
	out := new(big.Rat)
	if col == v {
		out.SetInt64(1)
	}
	for _, t := range l.Cols[v] {
		if t.Col == col-l.N {
			out.Add(out, number(t.Val))
		}
	}
	return out
}

// text writes it as a constraint.
func (s sum) text(sense string) string {
	var words []string
	for v, o := range s.often {
		if o.Sign() != 0 {
			words = append(words, o.RatString()+"@"+strconv.Itoa(v))
		}
	}
	return strings.Join(append(words, sense, s.rhs.RatString()), " ")
}

// P15.1, P15.2: sums by chance, held against another reckoner.
func TestSumsByChance(t *testing.T) {
	r := rand.New(rand.NewSource(151))
	met := map[string]int{}
	for range 4000 {
		l := tell.ChanceLP(r.Intn)
		sense := 1 + r.Intn(2)
		want, wrong := "", false
		var uses []api.Use
		for range r.Intn(6) {
			u := api.Use{Col: r.Intn(len(l.Cols)+1) - r.Intn(8)/7, Upper: r.Intn(2) == 0, Often: tell.ChanceNumber(r.Intn)}
			if sign := number(u.Often).Sign(); r.Intn(8) > 0 && sign != 0 {
				u.Upper = (sign > 0) == (sense == api.AtMost)
			}
			has := u.Col >= 0 && u.Col < len(l.Cols) && (u.Upper && l.HasHi[u.Col] || !u.Upper && l.HasLo[u.Col])
			if !has && r.Intn(8) > 0 {
				continue
			}
			if sign := number(u.Often).Sign(); !has {
				wrong = true
			} else if sign != 0 && (sign > 0) != (u.Upper == (sense == api.AtMost)) {
				want = api.ErrRule.Error()
			}
			uses = append(uses, u)
		}
		switch {
		case wrong:
			want = api.ErrArg.Error()
		case want == "":
			want = sumOf(l, uses).text([]string{api.AtMost: "<=", api.AtLeast: ">="}[sense])
		}
		got := told(derive.Sum(l, uses, sense))
		if got != want {
			t.Fatalf("%s: %s, %d: %s, not %s", tell.OfLP(l), tell.OfUses(uses), sense, got, want)
		}
		switch {
		case strings.HasPrefix(got, "errno"):
			met[got]++
		case strings.Contains(got, "@"):
			met["terms"]++
		}
	}
	if met["errno 2"] < 200 || met["errno 241"] < 200 || met["terms"] < 500 {
		t.Errorf("%v", met)
	}
}

// P15.3, P15.4: what the dual simplex method answers, of linear problems by chance, is proved by sums of bounds.
func TestProofsByChance(t *testing.T) {
	r := rand.New(rand.NewSource(152))
	met := [4]int{}
	for range 6000 {
		l := tell.ChanceLP(r.Intn)
		basis, status := tell.ChanceStand(l, r.Intn)
		if _, d, e := shape.Duals(l, basis, status); e == api.OK {
			status = tell.Suit(l, status, d)
		}
		a, _ := dual.Solve(l, basis, status, api.LPOptions{Most: -1})
		met[a.State]++
		switch a.State {
		case api.LPBest:
			proveBest(t, l, a)
		case api.LPNone:
			sum, e := derive.Sum(l, derive.None(l, a), api.AtLeast)
			if e != api.OK || !cons.False(sum) {
				t.Fatalf("%s: %s proves nothing: %s", tell.OfLP(l), tell.OfUses(derive.None(l, a)), told(sum, e))
			}
		}
	}
	if met[api.LPBest] < 1000 || met[api.LPNone] < 500 {
		t.Errorf("%v", met)
	}
}

// proveBest holds the proof of an answer against what it costs.
func proveBest(t *testing.T, l api.LP, a api.LPAnswer) {
	t.Helper()
	costs := sum{rhs: new(big.Rat)}
	for v := range l.N {
		cost := number(l.Cost[v])
		costs.often = append(costs.often, cost)
		costs.rhs.Add(costs.rhs, new(big.Rat).Mul(cost, number(a.X[v])))
	}
	if got, want := told(derive.Sum(l, derive.Best(l, a.D), api.AtLeast)), costs.text(">="); got != want {
		t.Fatalf("%s: %s proves %s, not %s", tell.OfLP(l), tell.OfUses(derive.Best(l, a.D)), got, want)
	}
}
