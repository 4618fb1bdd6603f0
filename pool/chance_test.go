package pool_test

import (
	"math/big"
	"math/rand"
	"slices"
	"strconv"
	"strings"
	"testing"

	"cutwater/api"
	"cutwater/pool"
	"cutwater/ratext"
	"cutwater/tell"
)

// number gives the number that a tells.
func number(a api.Rat) *big.Rat {
	out, _ := new(big.Rat).SetString(ratext.Text(a))
	return out
}

// row is a cut of another teller of pools: by its sense and how often the variables stand in it.
type row struct {
	sense int
	often [3]*big.Rat
	rhs   *big.Rat
	age   int
}

// rowOf gives a constraint, scaled; it tells whether that can be a cut.
func rowOf(c api.Cons) (row, bool) {
	out := row{sense: c.Sense, rhs: number(c.Rhs)}
	for col := range out.often {
		out.often[col] = new(big.Rat)
	}
	for _, t := range c.Terms {
		if t.Col >= 0 && t.Col < 3 {
			out.often[t.Col].Add(out.often[t.Col], number(t.Val))
		}
	}
	lead := slices.IndexFunc(out.often[:], func(a *big.Rat) bool { return a.Sign() != 0 })
	if lead < 0 || c.Sense < api.AtMost || c.Sense > api.Equal {
		return row{}, false
	}
	by := new(big.Rat).Inv(out.often[lead])
	by.Abs(by)
	out.rhs.Mul(out.rhs, by)
	for _, a := range out.often {
		a.Mul(a, by)
	}
	return out, true
}

// text writes it.
func (w row) text() string {
	var words []string
	for col, a := range w.often {
		if a.Sign() != 0 {
			words = append(words, a.RatString()+"@"+strconv.Itoa(col))
		}
	}
	return strings.Join(append(words, []string{"", "<=", ">=", "="}[w.sense], w.rhs.RatString()), " ")
}

// side tells on which side of the right side numbers are.
func (w row) side(x []api.Rat) int {
	sum := new(big.Rat)
	for col, a := range x {
		sum.Add(sum, new(big.Rat).Mul(w.often[col], number(a)))
	}
	return sum.Cmp(w.rhs)
}

// breaks tells whether it is broken where numbers are on that side.
func (w row) breaks(side int) bool {
	return side != 0 && (w.sense == api.Equal || (side > 0) == (w.sense == api.AtMost))
}

// slow is another pool.
type slow struct {
	patience int
	rows     []row
}

// add is another Add.
func (s *slow) add(c api.Cons) bool {
	w, ok := rowOf(c)
	if !ok {
		return false
	}
	old := len(s.rows)
	for i, k := range s.rows {
		if !slices.EqualFunc(k.often[:], w.often[:], func(a, b *big.Rat) bool { return a.Cmp(b) == 0 }) {
			continue
		}
		if (k.sense == w.sense || k.sense == api.Equal) && !w.breaks(k.rhs.Cmp(w.rhs)) {
			return false
		}
		if k.sense == w.sense {
			old = i
		}
	}
	s.rows = append(s.rows[:old:old], append([]row{w}, s.rows[min(old+1, len(s.rows)):]...)...)
	return true
}

// age is another Age.
func (s *slow) age(x []api.Rat) int {
	var stay []row
	for _, w := range s.rows {
		w.age++
		if w.side(x) == 0 {
			w.age = 0
		}
		if w.age <= s.patience {
			stay = append(stay, w)
		}
	}
	went := len(s.rows) - len(stay)
	s.rows = stay
	return went
}

// check holds a pool against another one.
func (s *slow) check(t *testing.T, p *pool.Pool, x []api.Rat) int {
	t.Helper()
	var broken []int
	cuts := ""
	for i, w := range s.rows {
		cuts += w.text() + "; "
		if w.breaks(w.side(x)) {
			broken = append(broken, i)
		}
	}
	if got := tell.OfConsList(p.Cuts()); got != strings.TrimSpace(cuts) || p.Len() != len(s.rows) {
		t.Fatalf("%d, %s, not %s", p.Len(), got, cuts)
	}
	if got := p.Broken(x); !slices.Equal(got, broken) {
		t.Fatalf("%s, %s: %v, not %v", cuts, tell.OfRats(x), got, broken)
	}
	return len(broken)
}

// P19.1 to P19.5: games by chance, held against another pool; what was handed in and answered is written over.
func TestByChance(t *testing.T) {
	r := rand.New(rand.NewSource(191))
	met := map[string]int{}
	for range 300 {
		s := slow{patience: r.Intn(6) - 1}
		p := pool.New(s.patience)
		for range 60 {
			x := []api.Rat{tell.ChanceNumber(r.Intn), tell.ChanceNumber(r.Intn), tell.ChanceNumber(r.Intn)}
			if r.Intn(4) == 0 {
				got, want := p.Age(x), s.age(x)
				if got != want {
					t.Fatalf("%d went, not %d", got, want)
				}
				met["gone"] += got
			} else {
				c := api.Cons{Sense: 1 + r.Intn(16)/5, Rhs: tell.ChanceNumber(r.Intn)}
				for range 2 {
					c.Terms = append(c.Terms, api.Term{Col: r.Intn(3), Val: tell.ChanceNumber(r.Intn)})
				}
				c = tell.LooseCons(c, r.Intn)
				before := len(s.rows)
				got, want := p.Add(c), s.add(c)
				if got != want {
					t.Fatalf("%s: %v", tell.OfCons(c), got)
				}
				met["added "+strconv.FormatBool(got)]++
				met["more"] += len(s.rows) - before
				wipe([]api.Cons{c})
			}
			met["broken"] += s.check(t, p, x)
			wipe(p.Cuts())
		}
	}
	if met["gone"] < 1000 || met["added true"]-met["more"] < 100 || met["more"] < 2000 || met["added false"] < 1000 || met["broken"] < 2000 {
		t.Errorf("%v", met)
	}
}
