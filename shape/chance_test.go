package shape_test

import (
	"math/big"
	"math/rand"
	"testing"

	"cutwater/api"
	"cutwater/shape"
	"cutwater/tell"
	"cutwater/vec"
)

// P12.1, P12.2: a problem by chance, and the same row by row.
func TestMakeByChance(t *testing.T) {
	r := rand.New(rand.NewSource(121))
	for range 500 {
		l := tell.ChanceLP(r.Intn)
		p := api.Problem{Obj: "o"}
		for col := range l.N {
			p.Vars = append(p.Vars, api.Var{HasLo: l.HasLo[col], HasHi: l.HasHi[col], Lo: l.Lo[col], Hi: l.Hi[col], Cost: l.Cost[col], Whole: r.Intn(2) == 0})
		}
		steps := shape.Make(p)
		for col := l.N; col < len(l.Cols); col++ {
			var terms []api.Term
			for v := range l.N {
				terms = append(terms, api.Term{Col: v, Val: vec.Get(l.Cols[v], col-l.N)})
			}
			p.Rows = append(p.Rows, api.Row{HasLo: l.HasLo[col], HasHi: l.HasHi[col], Lo: l.Lo[col], Hi: l.Hi[col], Terms: tell.LooseVec(terms, r.Intn)})
			steps, _ = shape.AddRow(steps, api.Cons{Sense: api.AtMost, Terms: tell.LooseVec(terms, r.Intn), Rhs: tell.Rat("7")})
			steps.HasHi[col], steps.Hi[col] = false, tell.Rat("0")
			if l.HasLo[col] {
				steps, _ = shape.SetBound(steps, col, false, tell.LooseRat(l.Lo[col], r.Intn))
			}
			if l.HasHi[col] {
				steps, _ = shape.SetBound(steps, col, true, tell.LooseRat(l.Hi[col], r.Intn))
			}
		}
		if got, want := tell.OfLP(shape.Make(p)), tell.OfLP(l); got != want || tell.OfLP(steps) != want {
			t.Fatalf("%s, %s, not %s", got, tell.OfLP(steps), want)
		}
	}
}

// P12.3, P12.4, P12.5: linear problems by chance, held against what the chapter says of the answers; these are the only ones then.
func TestNumbersByChance(t *testing.T) {
	r := rand.New(rand.NewSource(122))
	met := map[api.Errno]int{}
	for range 3000 {
		l := tell.ChanceLP(r.Intn)
		basis, status := tell.ChanceStand(l, r.Intn)
		e := shape.Check(l, basis, status)
		met[e]++
		if (e == api.OK) == depend(l, basis) || e != api.OK && e != api.ErrSingular {
			t.Fatalf("Check(%s, %v, %s) = %v", tell.OfLP(l), basis, tell.OfStatus(status), e)
		}
		if e != api.OK {
			continue
		}
		x, _ := shape.Primal(l, basis, status)
		y, d, _ := shape.Duals(l, basis, status)
		if len(y) != len(basis) || !areNumbers(l, status, x) || !areDuals(l, status, y, d) {
			t.Fatalf("%s, %v, %s: %v, %v, %v", tell.OfLP(l), basis, tell.OfStatus(status), tell.OfRats(x), tell.OfRats(y), tell.OfRats(d))
		}
		for place := range basis {
			if row, _ := shape.Tableau(l, basis, status, place); !isTableau(l, basis, place, row) {
				t.Fatalf("%s, %v: %d: %v", tell.OfLP(l), basis, place, tell.OfRats(row))
			}
		}
	}
	if met[api.OK] < 1000 || met[api.ErrSingular] < 300 {
		t.Errorf("%v", met)
	}
}

// areNumbers tells whether x is what P12.4 says.
func areNumbers(l api.LP, status []int, x []api.Rat) bool {
	for col, stands := range status {
		want := map[int]api.Rat{api.AtLo: l.Lo[col], api.AtHi: l.Hi[col], api.Free: tell.Rat("0"), api.Basic: x[col]}[stands]
		if tell.OfRat(x[col]) != tell.OfRat(want) {
			return false
		}
	}
	for place := range len(l.Cols) - l.N {
		if rowSum(l, place, x).Sign() != 0 {
			return false
		}
	}
	return len(x) == len(l.Cols)
}

// areDuals tells whether y and d are what P12.5 says.
func areDuals(l api.LP, status []int, y, d []api.Rat) bool {
	for col, stands := range status {
		want := new(big.Rat).Sub(number(l.Cost[col]), dot(l.Cols[col], y))
		if tell.OfRat(d[col]) != want.RatString() || stands == api.Basic && want.Sign() != 0 {
			return false
		}
	}
	return len(d) == len(l.Cols)
}

// isTableau tells whether row is what P12.5 says; the rows' columns tell by which list it came.
func isTableau(l api.LP, basis []int, place int, row []api.Rat) bool {
	var list []api.Rat
	for _, a := range row[l.N:] {
		list = append(list, tell.Rat(new(big.Rat).Neg(number(a)).RatString()))
	}
	for col, terms := range l.Cols {
		if tell.OfRat(row[col]) != dot(terms, list).RatString() {
			return false
		}
	}
	for i, col := range basis {
		if want := map[bool]string{true: "1", false: "0"}[i == place]; tell.OfRat(row[col]) != want {
			return false
		}
	}
	return len(row) == len(l.Cols)
}
