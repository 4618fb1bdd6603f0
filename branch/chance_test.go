package branch_test

import (
	"math/big"
	"math/rand"
	"testing"

	"cutwater/api"
	"cutwater/branch"
	"cutwater/rat"
	"cutwater/ratext"
	"cutwater/tell"
)

// number gives the number that a tells.
func number(a api.Rat) *big.Rat {
	out, _ := new(big.Rat).SetString(ratext.Text(a))
	return out
}

// lesson is what was told: a gain a step.
type lesson struct {
	col  int
	up   bool
	each *big.Rat
}

// slow is another brancher: all that it was told.
type slow struct {
	rule    int
	lessons []lesson
}

// mean is the mean of what was told of a variable.
func (s *slow) mean(col int, up bool) *big.Rat {
	sum, many := new(big.Rat), int64(0)
	for _, l := range s.lessons {
		if l.col == col && l.up == up {
			sum.Add(sum, l.each)
			many++
		}
	}
	if many == 0 {
		return big.NewRat(1, 1)
	}
	return sum.Quo(sum, big.NewRat(many, 1))
}

// score is another Score.
func (s *slow) score(col int, part *big.Rat) *big.Rat {
	rest := new(big.Rat).Sub(big.NewRat(1, 1), part)
	if s.rule == 1 {
		down := new(big.Rat).Mul(s.mean(col, false), part)
		return down.Mul(down, rest.Mul(rest, s.mean(col, true)))
	}
	if part.Cmp(rest) < 0 {
		return part
	}
	return rest
}

// choose is another Choose.
func (s *slow) choose(whole []bool, x []api.Rat) (int, bool) {
	best := -1
	var most *big.Rat
	for i := min(len(whole), len(x)) - 1; i >= 0; i-- {
		a := number(x[i])
		if !whole[i] || a.IsInt() {
			continue
		}
		floor := new(big.Rat).SetInt(new(big.Int).Div(a.Num(), a.Denom()))
		if score := s.score(i, a.Sub(a, floor)); best < 0 || score.Cmp(most) >= 0 {
			best, most = i, score
		}
	}
	return max(best, 0), best >= 0
}

// told tells both something, and writes it over then.
func (s *slow) told(t *testing.T, b *branch.Brancher, r *rand.Rand) bool {
	t.Helper()
	col, up, step, gain := r.Intn(6)-1, r.Intn(2) > 0, tell.ChanceNumber(r.Intn), tell.ChanceNumber(r.Intn)
	want := col >= 0 && number(step).Sign() > 0 && number(gain).Sign() >= 0
	if want {
		s.lessons = append(s.lessons, lesson{col, up, new(big.Rat).Quo(number(gain), number(step))})
	}
	step, gain = tell.LooseRat(step, r.Intn), tell.LooseRat(gain, r.Intn)
	if got := b.Learn(col, up, step, gain); got != want {
		t.Fatalf("%d, %v, %s, %s: %v", col, up, ratext.Text(step), ratext.Text(gain), got)
	}
	wipe(step)
	wipe(gain)
	return want
}

// chanceNumbers gives numbers, some of them near others.
func chanceNumbers(r *rand.Rand) []api.Rat {
	var out []api.Rat
	for range r.Intn(7) {
		a, _ := rat.Of(int64(r.Intn(25)-12), int64(1+r.Intn(5)))
		out = append(out, tell.LooseRat(a, r.Intn))
	}
	return out
}

// P21.1 to P21.4: games by chance, held against another brancher; what was handed in and answered is written over.
func TestByChance(t *testing.T) {
	r := rand.New(rand.NewSource(211))
	met := map[string]int{}
	for game := range 500 {
		s := slow{rule: game % 2}
		b, _ := branch.New(s.rule)
		for range 40 {
			if s.told(t, b, r) {
				met["learned"]++
			} else {
				met["refused"]++
			}
			col, part := r.Intn(7)-2, tell.LooseRat(tell.ChanceNumber(r.Intn), r.Intn)
			score := b.Score(col, part)
			if want := s.score(col, number(part)).RatString(); tell.OfRat(score) != want {
				t.Fatalf("%d, %d, %s: %s, not %s", s.rule, col, ratext.Text(part), tell.OfRat(score), want)
			}
			wipe(score)
			wipe(part)
			x, whole := chanceNumbers(r), make([]bool, r.Intn(7))
			for i := range whole {
				whole[i] = r.Intn(4) > 0
			}
			got, found := b.Choose(whole, x)
			if want, some := s.choose(whole, x); got != want || found != some {
				t.Fatalf("%d, %v, %v: %d, %v, not %d, %v", s.rule, whole, x, got, found, want, some)
			}
			if found {
				met["found"]++
			}
			if got > 0 {
				met["not the first"]++
			}
		}
	}
	if met["learned"] < 4000 || met["refused"] < 8000 || met["found"] < 8000 || met["not the first"] < 4000 {
		t.Errorf("%v", met)
	}
}
