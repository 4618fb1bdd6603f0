package dual_test

import (
	"math"
	"math/rand"
	"slices"
	"strconv"
	"testing"

	"cutwater/api"
	"cutwater/dual"
	"cutwater/rat"
	"cutwater/ratio"
	"cutwater/shape"
	"cutwater/tell"
)

// standing is a linear problem, and how its columns stand.
type standing struct {
	api.LP
	basis, status []int
}

// text tells it.
func (s standing) text() string {
	words := ""
	for _, col := range s.basis {
		words += " " + strconv.Itoa(col)
	}
	return tell.OfLP(s.LP) + "," + words + ", " + tell.OfStatus(s.status)
}

// boxed gives one by chance, of so many variables and rows, all of whose variables have both bounds, as it stands at first.
func boxed(r *rand.Rand, vars, rows, costs int) standing {
	p := api.Problem{Obj: "cost"}
	for range vars {
		p.Vars = append(p.Vars, api.Var{HasLo: true, HasHi: true, Lo: rat.Whole(0), Hi: rat.Whole(int64(1 + r.Intn(10))), Cost: rat.Whole(int64(r.Intn(2*costs+1) - costs))})
	}
	for i := range rows {
		w := api.Row{HasLo: i%2 == 0, HasHi: i%2 == 1, Lo: rat.Whole(int64(r.Intn(30))), Hi: rat.Whole(int64(r.Intn(100)))}
		for col := range vars {
			if r.Intn(1+vars) < 12 {
				w.Terms = append(w.Terms, api.Term{Col: col, Val: rat.Whole(int64(r.Intn(41) - 12))})
			}
		}
		p.Rows = append(p.Rows, w)
	}
	s := standing{LP: shape.Make(p)}
	s.basis, s.status, _ = shape.Start(s.LP)
	return s
}

// chance gives one by chance, most often with right reduced costs.
func chance(r *rand.Rand) standing {
	if r.Intn(3) == 0 {
		return boxed(r, 2+r.Intn(6), 2+r.Intn(6), r.Intn(3))
	}
	s := standing{LP: tell.ChanceLP(r.Intn)}
	s.basis, s.status = tell.ChanceStand(s.LP, r.Intn)
	if r.Intn(2) == 0 { // where little costs anything, many steps gain nothing
		for col := range s.Cost {
			if r.Intn(3) > 0 {
				s.Cost[col] = rat.Whole(0)
			}
		}
	}
	if _, d, e := shape.Duals(s.LP, s.basis, s.status); e == api.OK && r.Intn(8) > 0 {
		s.status = tell.Suit(s.LP, s.status, d)
	}
	if col := len(s.Cols) - 1; r.Intn(20) == 0 && col >= 0 && s.HasLo[col] && s.HasHi[col] {
		s.Lo[col], s.Hi[col] = s.Hi[col], s.Lo[col]
	}
	return s
}

// wrong gives the error that P14.1 asks for.
func (s standing) wrong() api.Errno {
	if e := shape.Check(s.LP, s.basis, s.status); e != api.OK {
		return e
	}
	for col := range s.Cols {
		if s.HasLo[col] && s.HasHi[col] && number(s.Lo[col]).Cmp(number(s.Hi[col])) > 0 {
			return api.ErrBounds
		}
	}
	if _, d, _ := shape.Duals(s.LP, s.basis, s.status); !rightCosts(s.LP, s.status, d) {
		return api.ErrRule
	}
	return api.OK
}

// P14.1, P14.2, P14.3: linear problems by chance, each answer held against its proof.
func TestAnswersByChance(t *testing.T) {
	r := rand.New(rand.NewSource(141))
	met := map[string]int{}
	for range 6000 {
		s := chance(r)
		a, e := dual.Solve(s.LP, s.basis, s.status, api.LPOptions{Most: -1, First: r.Intn(2) == 0})
		met[e.Error()]++
		if e != s.wrong() {
			t.Fatalf("%s: %v, not %v", s.text(), e, s.wrong())
		}
		if e == api.OK {
			checkAnswer(t, s, a)
			met["state "+strconv.Itoa(a.State)]++
			met["pivots"] += a.Pivots
		}
	}
	for what, least := range map[string]int{"errno 0": 2000, "errno 70": 500, "errno 96": 50, "errno 241": 200, "state 1": 1000, "state 2": 500, "pivots": 2000} {
		if met[what] < least {
			t.Errorf("%s: %d times", what, met[what])
		}
	}
}

// checkAnswer holds an answer against what the chapter says of it.
func checkAnswer(t *testing.T, s standing, a api.LPAnswer) {
	t.Helper()
	if e := shape.Check(s.LP, a.Basis, a.Status); e != api.OK {
		t.Fatalf("%s: %s stands wrongly: %v", s.text(), ofAnswer(a), e)
	}
	y, d, _ := shape.Duals(s.LP, a.Basis, a.Status)
	right := rightCosts(s.LP, a.Status, d) && onlyState(a)
	switch a.State {
	case api.LPBest:
		x, _ := shape.Primal(s.LP, a.Basis, a.Status)
		right = right && tell.OfRats(a.X) == tell.OfRats(x) && tell.OfRats(a.D) == tell.OfRats(d) && tell.OfRats(a.Y) == tell.OfRats(y) && provesBest(s.LP, a)
	case api.LPNone:
		row, e := shape.Tableau(s.LP, a.Basis, a.Status, slices.Index(a.Basis, a.Col))
		right = right && e == api.OK && tell.OfRats(a.Row) == tell.OfRats(row) && provesNone(s.LP, a)
	default:
		right = right && a.State == api.LPTired
	}
	if !right {
		t.Fatalf("%s: %s isn't right", s.text(), ofAnswer(a))
	}
}

// P14.4, P14.5: the way, pivot by pivot: it is the same whatever Most is, and goes by what leaves.
func TestWaysByChance(t *testing.T) {
	r := rand.New(rand.NewSource(142))
	steps, flips, gainless := 0, 0, 0
	for range 1500 {
		s := chance(r)
		if s.wrong() != api.OK {
			continue
		}
		first := r.Intn(2) == 0
		last, _ := dual.Solve(s.LP, s.basis, s.status, api.LPOptions{First: first, Most: -1})
		for _, most := range []int{last.Pivots, last.Pivots + 1, math.MaxInt, math.MinInt} {
			if a, e := dual.Solve(s.LP, s.basis, s.status, api.LPOptions{First: first, Most: most}); e != api.OK || ofAnswer(a) != ofAnswer(last) {
				t.Fatalf("%s: with %d pivots %s, not %s", s.text(), most, ofAnswer(a), ofAnswer(last))
			}
		}
		now := s
		for n := range last.Pivots {
			checkTired(t, s, now, n, first)
			next, _ := dual.Solve(s.LP, s.basis, s.status, api.LPOptions{First: first, Most: n + 1})
			steps, flips, gainless = steps+1, flips+changes(now, next), gainless+gains(now, next)
			now.basis, now.status = next.Basis, next.Status
		}
		x, _ := shape.Primal(s.LP, now.basis, now.status)
		if _, _, lacks := ratio.Leave(s.LP, now.basis, x, first); lacks != (last.State == api.LPNone) {
			t.Fatalf("%s: %s", s.text(), ofAnswer(last))
		}
	}
	if steps < 500 || flips < 100 || gainless < 50 {
		t.Errorf("%d steps, %d changes of bounds, %d steps that gain nothing", steps, flips, gainless)
	}
}

// checkTired holds what n pivots make of s, which is now, against one pivot more.
func checkTired(t *testing.T, s, now standing, n int, first bool) {
	t.Helper()
	a, _ := dual.Solve(s.LP, s.basis, s.status, api.LPOptions{First: first, Most: n})
	checkAnswer(t, s, a)
	if a.State != api.LPTired || a.Pivots != n || !slices.Equal(a.Basis, now.basis) || !slices.Equal(a.Status, now.status) {
		t.Fatalf("%s: with %d pivots %s", s.text(), n, ofAnswer(a))
	}
	x, _ := shape.Primal(s.LP, now.basis, now.status)
	place, up, found := ratio.Leave(s.LP, now.basis, x, first)
	next, _ := dual.Solve(s.LP, s.basis, s.status, api.LPOptions{First: first, Most: n + 1})
	if !found || !slices.Equal(slices.Delete(slices.Clone(now.basis), place, place+1), slices.Delete(slices.Clone(next.Basis), place, place+1)) {
		t.Fatalf("%s: from %v to %v", s.text(), now.basis, next.Basis)
	}
	if at := map[bool]int{true: api.AtLo, false: api.AtHi}[up]; next.Status[now.basis[place]] != at || now.status[next.Basis[place]] == api.Basic {
		t.Fatalf("%s: from %s to %s", s.text(), tell.OfStatus(now.status), tell.OfStatus(next.Status))
	}
}

// changes tells how many columns went from one bound to the other one.
func changes(s standing, a api.LPAnswer) int {
	out := 0
	for col, stands := range a.Status {
		if stands != s.status[col] && stands != api.Basic && s.status[col] != api.Basic {
			out++
		}
	}
	return out
}

// gains is 1, if the reduced costs stay as they are.
func gains(s standing, a api.LPAnswer) int {
	_, old, _ := shape.Duals(s.LP, s.basis, s.status)
	_, d, _ := shape.Duals(s.LP, a.Basis, a.Status)
	if tell.OfRats(d) == tell.OfRats(old) {
		return 1
	}
	return 0
}

// P14.2, P14.3, P14.4: linear problems as great as a problem may be; none needs many pivots.
func TestGreat(t *testing.T) {
	r := rand.New(rand.NewSource(143))
	met := [4]int{}
	for i := range 12 {
		s := boxed(r, api.MaxCols, api.MaxRows, []int{9, 1, 0}[i%3])
		a, e := dual.Solve(s.LP, s.basis, s.status, api.LPOptions{Most: 2000, First: i%4 == 3})
		if e != api.OK || a.State == api.LPBest && !provesBest(s.LP, a) || a.State == api.LPNone && !provesNone(s.LP, a) {
			t.Errorf("%d: %v, %s", i, e, ofAnswer(a))
		}
		met[a.State]++
	}
	if met[api.LPBest] < 3 || met[api.LPNone] < 3 || met[api.LPTired] > 0 {
		t.Errorf("%v", met)
	}
}
