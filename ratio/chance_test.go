package ratio_test

import (
	"math/big"
	"math/rand"
	"slices"
	"testing"

	"cutwater/api"
	"cutwater/ratext"
	"cutwater/ratio"
	"cutwater/shape"
	"cutwater/tell"
)

// number gives the number that a tells.
func number(a api.Rat) *big.Rat {
	out, _ := new(big.Rat).SetString(ratext.Text(a))
	return out
}

// lack tells how far a column's number is beyond its bounds: below Lo, and above Hi.
func lack(l api.LP, col int, x api.Rat) (below, above *big.Rat) {
	below, above = new(big.Rat), new(big.Rat)
	if l.HasLo[col] && number(x).Cmp(number(l.Lo[col])) < 0 {
		below.Sub(number(l.Lo[col]), number(x))
	}
	if l.HasHi[col] && number(x).Cmp(number(l.Hi[col])) > 0 {
		above.Sub(number(x), number(l.Hi[col]))
	}
	return below, above
}

// leave is another teller of which place's column leaves; -1, if none does. It goes through the columns by their rise.
func leave(l api.LP, basis []int, x []api.Rat, first bool) int {
	out, most := -1, new(big.Rat)
	for col := range l.Cols {
		place := slices.Index(basis, col)
		if place < 0 {
			continue
		}
		below, above := lack(l, col, x[col])
		if far := new(big.Rat).Add(below, above); far.Cmp(most) > 0 && (out < 0 || !first) {
			out, most = place, far
		}
	}
	return out
}

// mayEnter tells whether a column may: whether it can go, and the leaving column with it.
func mayEnter(l api.LP, status []int, row []api.Rat, col int, up bool) bool {
	goes := number(row[col]).Sign() // where the leaving column goes, when this one falls
	fixed := l.HasLo[col] && l.HasHi[col] && number(l.Lo[col]).Cmp(number(l.Hi[col])) == 0
	want := -1
	if up {
		want = 1
	}
	falls, rises := status[col] != api.AtLo, status[col] != api.AtHi
	return status[col] != api.Basic && !fixed && goes != 0 && (falls && goes == want || rises && goes == -want)
}

// enter is another teller of which column enters; -1, if none does. It seeks the next one again and again.
func enter(l api.LP, status []int, d, row []api.Rat, t ratio.Turn) (int, []int) {
	rest, gone, flips := number(t.Short), map[int]int{}, []int(nil)
	for {
		next, least := -1, new(big.Rat)
		for col := range row {
			if gone[col] > 0 || !mayEnter(l, status, row, col, t.Up) {
				continue
			}
			ratio := new(big.Rat).Quo(number(d[col]), number(row[col]))
			if ratio.Abs(ratio); next < 0 || ratio.Cmp(least) < 0 {
				next, least = col, ratio
			}
		}
		if next < 0 {
			return -1, nil
		}
		if !t.Flip || !l.HasLo[next] || !l.HasHi[next] {
			return next, flips
		}
		way := new(big.Rat).Sub(number(l.Hi[next]), number(l.Lo[next]))
		rest.Sub(rest, way.Mul(way, new(big.Rat).Abs(number(row[next]))))
		if rest.Sign() <= 0 {
			return next, flips
		}
		gone[next], flips = 1, append(flips, next)
	}
}

// reach gives how far the leaving column can go, up or down, with the others within their bounds; it tells whether there is an end.
func reach(l api.LP, status []int, row []api.Rat, up bool) (*big.Rat, bool) {
	sum := new(big.Rat)
	for col, a := range row {
		if status[col] == api.Basic || number(a).Sign() == 0 {
			continue
		}
		has, bound := l.HasHi[col], l.Hi[col] // where it must be for the leaving column's sake
		if up == (number(a).Sign() > 0) {
			has, bound = l.HasLo[col], l.Lo[col]
		}
		if !has {
			return nil, false
		}
		sum.Sub(sum, new(big.Rat).Mul(number(a), number(bound)))
	}
	return sum, true
}

// standing is a linear problem by chance, whose columns stand rightly, with their numbers and reduced costs.
type standing struct {
	api.LP
	basis, status []int
	x, d          []api.Rat
}

// chance gives such, if the columns of the basis don't depend on each other.
func chance(r *rand.Rand) (standing, bool) {
	s := standing{LP: tell.ChanceLP(r.Intn)}
	s.basis, s.status = tell.ChanceStand(s.LP, r.Intn)
	var e api.Errno
	s.x, e = shape.Primal(s.LP, s.basis, s.status)
	_, s.d, _ = shape.Duals(s.LP, s.basis, s.status)
	return s, e == api.OK
}

// P13.1, P13.2, P13.3, P13.4: the choices by chance, held against another teller; and if nothing enters, the leaving column doesn't reach its bound.
func TestChoicesByChance(t *testing.T) {
	r := rand.New(rand.NewSource(13))
	met := map[string]int{}
	for range 8000 {
		s, ok := chance(r)
		if !ok {
			continue
		}
		met["all"]++
		checkFeasible(t, s, met)
		first := r.Intn(2) == 0
		place, up, found := ratio.Leave(s.LP, s.basis, s.x, first)
		if want := leave(s.LP, s.basis, s.x, first); found != (want >= 0) || found && place != want || !found && (place != 0 || up) {
			t.Fatalf("Leave(%s, %v, %s, %v) = %d, %v, %v", tell.OfLP(s.LP), s.basis, tell.OfRats(s.x), first, place, up, found)
		}
		if !found {
			continue
		}
		met["leaves"]++
		below, above := lack(s.LP, s.basis[place], s.x[s.basis[place]])
		short := tell.Rat(below.Add(below, above).RatString())
		if up != (above.Sign() == 0) {
			t.Fatalf("Leave(%s, %v, %s) goes up: %v", tell.OfLP(s.LP), s.basis, tell.OfRats(s.x), up)
		}
		row, _ := shape.Tableau(s.LP, s.basis, s.status, place)
		checkEnter(t, s, place, row, ratio.Turn{Up: up, Short: tell.LooseRat(short, r.Intn), Flip: r.Intn(2) == 0}, met)
	}
	for what, least := range map[string]int{"all": 3000, "leaves": 1000, "enters": 500, "flips": 100, "none": 50, "none, with flips": 20, "feasible": 200} {
		if met[what] < least {
			t.Errorf("%s: %d times", what, met[what])
		}
	}
}

// checkEnter holds Enter against the other teller.
func checkEnter(t *testing.T, s standing, place int, row []api.Rat, turn ratio.Turn, met map[string]int) {
	t.Helper()
	col, flips, found := ratio.Enter(s.LP, s.status, s.d, row, turn)
	want, wantFlips := enter(s.LP, s.status, s.d, row, turn)
	if found != (want >= 0) || found && col != want || !found && col != 0 || !slices.Equal(flips, wantFlips) {
		t.Fatalf("Enter(%s, %s, %s, %s, %v) = %d, %v, %v, not %d, %v", tell.OfLP(s.LP), tell.OfStatus(s.status), tell.OfRats(s.d), tell.OfRats(row), turn, col, flips, found, want, wantFlips)
	}
	if found {
		met["enters"]++
		met["flips"] += min(1, len(flips))
		return
	}
	met["none"]++
	if turn.Flip {
		met["none, with flips"]++
	}
	out := s.basis[place]
	most, ends := reach(s.LP, s.status, row, turn.Up)
	if !ends || turn.Up && most.Cmp(number(s.Lo[out])) >= 0 || !turn.Up && most.Cmp(number(s.Hi[out])) <= 0 {
		t.Fatalf("nothing enters for %d of %s, %v, %s, but it reaches its bound: %v", place, tell.OfLP(s.LP), s.basis, tell.OfStatus(s.status), most)
	}
}

// checkFeasible holds Feasible against what the chapter says.
func checkFeasible(t *testing.T, s standing, met map[string]int) {
	t.Helper()
	want := true
	for col, stands := range s.status {
		sign := number(s.d[col]).Sign()
		fixed := s.HasLo[col] && s.HasHi[col] && number(s.Lo[col]).Cmp(number(s.Hi[col])) == 0
		wrong := map[int]bool{api.Basic: sign != 0, api.Free: sign != 0, api.AtLo: sign < 0 && !fixed, api.AtHi: sign > 0 && !fixed}[stands]
		want = want && !wrong
	}
	if got := ratio.Feasible(s.LP, s.status, s.d); got != want {
		t.Fatalf("Feasible(%s, %s, %s) = %v", tell.OfLP(s.LP), tell.OfStatus(s.status), tell.OfRats(s.d), got)
	}
	if want {
		met["feasible"]++
	}
}

// P13.4: what was given stays as it was, and an answer is new each time.
func TestOwnMemory(t *testing.T) {
	l, status, d, row, short := columns("0 1; 0 1; 0 1;"), tell.Status("lll"), tell.Rats("3 2 1"), tell.Rats("-1 -1 -1"), tell.Rat("5/2")
	turn := ratio.Turn{Up: true, Short: short, Flip: true}
	_, one, _ := ratio.Enter(l, status, d, row, turn)
	_, two, _ := ratio.Enter(l, status, d, row, turn)
	one[0], one[1] = 9, 9
	if !slices.Equal(two, []int{2, 1}) || tell.OfLP(l) != tell.OfLP(columns("0 1; 0 1; 0 1;")) || tell.OfStatus(status) != "lll" || tell.OfRats(d) != "3 2 1" || tell.OfRats(row) != "-1 -1 -1" || tell.OfRat(short) != "5/2" {
		t.Errorf("%v, %s, %s, %s, %s, %s", two, tell.OfLP(l), tell.OfStatus(status), tell.OfRats(d), tell.OfRats(row), tell.OfRat(short))
	}
}
