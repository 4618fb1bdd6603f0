package dual

import (
	"fmt"
	"math/rand"
	"testing"

	"cutwater/api"
	"cutwater/rat"
	"cutwater/ratio"
	"cutwater/shape"
	"cutwater/tell"
	"cutwater/told"
)

// start gives how the columns stand, if every variable is at its Lo, or else at its Hi, or free.
func start(l api.LP) (basis, status []int) {
	for col := range l.Cols {
		switch {
		case col >= l.N:
			basis, status = append(basis, col), append(status, api.Basic)
		case l.HasLo[col]:
			status = append(status, api.AtLo)
		case l.HasHi[col]:
			status = append(status, api.AtHi)
		default:
			status = append(status, api.Free)
		}
	}
	return basis, status
}

// plain solves by layer 13's choices alone, and tells whether that goes round.
func plain(s *solver) bool {
	seen := map[string]bool{}
	for {
		key := fmt.Sprint(s.basis, s.status)
		if seen[key] {
			return true
		}
		seen[key] = true
		s.x = told.Numbers(s.LP, s.basis, s.status, s.f)
		place, up, lacks := ratio.Leave(s.LP, s.basis, s.x, false)
		if !lacks {
			return false
		}
		row := told.Row(s.LP, s.f, place)
		col, flips, found := ratio.Enter(s.LP, s.status, s.costs[0], row, ratio.Turn{Up: up, Short: s.short(place, up), Flip: true})
		if !found {
			return false
		}
		s.flip(flips)
		s.price(col, row)
		s.exchange(place, up, col)
	}
}

// P14.4: problems on which the choices of layer 13 alone go round for ever: Chvátal's, and two of Beale's kind.
func TestRounds(t *testing.T) {
	for _, c := range []struct {
		vars, rows string
		want       int
	}{
		{"0 - 0 1/2@0 -11/2@1 -5/2@2 9@3; 0 - 0 1/2@0 -3/2@1 -1/2@2 1@3;", "10 -; -57 -; -9 -; -24 -;", api.LPNone},
		{"0 - 0 1/4@0 -60@1 -1/25@2 9@3; 0 - 0 1/2@0 -90@1 -1/50@2 3@3; 0 - 1 1@2;", "3/4 -; -150 -; 1/50 -; -6 -;", api.LPBest},
		{"0 - 0 1/4@0 -8@1 -1@2 9@3; 0 - 0 1/2@0 -12@1 -1/2@2 3@3; 0 - 1 1@2;", "3/4 -; -20 -; 1/2 -; -6 -;", api.LPBest},
		{"0 1000 0 1/2@0 -11/2@1 -5/2@2 9@3; 0 1000 0 1/2@0 -3/2@1 -1/2@2 1@3;", "10 -; -57 -; -9 -; -24 -;", api.LPNone},
		{"0 1000000 0 1/4@0 -60@1 -1/25@2 9@3; 0 1000000 0 1/2@0 -90@1 -1/50@2 3@3; 0 9 1 1@2;", "3/4 1000000; -150 1000000; 1/50 1000000; -6 1000000;", api.LPBest},
	} {
		l := tell.LP(c.vars, c.rows)
		basis, status := start(l)
		s, e := begin(l, basis, status)
		if e != api.OK || !plain(s) {
			t.Errorf("%s | %s: %v, or it doesn't go round", c.vars, c.rows, e)
		}
		for _, first := range []bool{false, true} {
			a, e := Solve(l, basis, status, api.LPOptions{First: first, Most: 100})
			if e != api.OK || a.State != c.want {
				t.Errorf("%s | %s: %v, %v", c.vars, c.rows, a, e)
			}
			if b, e := Solve(l, basis, status, api.LPOptions{First: first, Most: -1}); e != api.OK || b.State != a.State || b.Pivots != a.Pivots {
				t.Errorf("%s | %s: %v, %v", c.vars, c.rows, b, e)
			}
		}
	}
}

// gainless gives a linear problem by chance in which little costs anything.
func gainless(r *rand.Rand) api.LP {
	vars, rows := "", ""
	m := 3 + r.Intn(6)
	for range 3 + r.Intn(6) {
		vars += []string{"0 1 0", "0 1 1", "0 - 0", "- - 0", "2 2 0", "-1 3 0", "- 1 0"}[r.Intn(7)]
		for place := range m {
			if a := r.Intn(7) - 3; a != 0 {
				vars += fmt.Sprint(" ", a, "@", place)
			}
		}
		vars += ";"
	}
	for range m {
		rows += []string{"- 4;", "-1 5;", "2 2;", "3 -;", "- -1;", "- -;"}[r.Intn(6)]
	}
	return tell.LP(vars, rows)
}

// holds tells what is wrong with a solver between two steps.
func (s *solver) holds() string {
	if e := shape.Check(s.LP, s.basis, s.status); e != api.OK {
		return "stands wrongly: " + e.Error()
	}
	if _, d, _ := shape.Duals(s.LP, s.basis, s.status); tell.OfRats(d) != tell.OfRats(s.costs[0]) {
		return "the reduced costs are " + tell.OfRats(d) + ", not " + tell.OfRats(s.costs[0])
	}
	if len(s.costs) > s.N+1 {
		return "too many lists"
	}
	for col, stands := range s.status {
		sign := 0
		for _, list := range s.costs {
			if sign == 0 {
				sign = rat.Sign(list[col])
			}
		}
		fixed := s.HasLo[col] && s.HasHi[col] && rat.Cmp(s.Lo[col], s.Hi[col]) == 0
		if (stands == api.Basic || stands == api.Free) && sign != 0 || !fixed && (stands == api.AtLo && sign < 0 || stands == api.AtHi && sign > 0) {
			return fmt.Sprint("column ", col, " costs ", sign)
		}
	}
	return ""
}

// P14.4: where steps gain nothing, no basis comes again; and the lists behind the true costs say why.
func TestLists(t *testing.T) {
	r := rand.New(rand.NewSource(144))
	met := map[int]int{}
	for i := range 800 {
		l := gainless(r)
		basis, status := start(l)
		s, e := begin(l, basis, status)
		if e != api.OK {
			t.Fatalf("%s: %v", tell.OfLP(l), e)
		}
		seen := map[string]bool{}
		for ends := false; !ends; {
			key := fmt.Sprint(s.basis, s.status)
			if wrong := s.holds(); wrong != "" || seen[key] {
				t.Fatalf("%d: %s: %s; %s was there already: %v", i, tell.OfLP(s.LP), wrong, key, seen[key])
			}
			seen[key] = true
			_, ends = s.step(api.LPOptions{First: i%2 == 0, Most: -1})
			met[len(s.costs)]++
		}
	}
	if met[1] < 500 || met[2] < 500 || met[3] < 20 {
		t.Errorf("so often so many lists: %v", met)
	}
}
