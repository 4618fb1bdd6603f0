package shape_test

import (
	"math/big"
	"slices"

	"cutwater/api"
	"cutwater/ratext"
	"cutwater/tell"
)

// number gives the number that a, in any form, tells.
func number(a api.Rat) *big.Rat {
	out, _ := new(big.Rat).SetString(ratext.Text(a))
	return out
}

// at gives what a vector has at a place.
func at(v []api.Term, place int) *big.Rat {
	sum := new(big.Rat)
	for _, t := range v {
		if t.Col == place {
			sum.Add(sum, number(t.Val))
		}
	}
	return sum
}

// dot gives what a vector and a list make.
func dot(v []api.Term, x []api.Rat) *big.Rat {
	sum := new(big.Rat)
	for _, t := range v {
		sum.Add(sum, new(big.Rat).Mul(number(t.Val), number(x[t.Col])))
	}
	return sum
}

// depend tells whether the columns of a basis depend on each other: whether they become fewer when each that is left is taken from the others until it has something at a place alone.
func depend(l api.LP, basis []int) bool {
	var rows [][]*big.Rat
	for _, col := range basis {
		var row []*big.Rat
		for place := range basis {
			row = append(row, at(l.Cols[col], place))
		}
		rows = append(rows, row)
	}
	for place := range basis {
		lead := slices.IndexFunc(rows, func(row []*big.Rat) bool { return row[place].Sign() != 0 })
		if lead < 0 {
			return true
		}
		first := rows[lead]
		rows = slices.Delete(rows, lead, lead+1)
		for _, row := range rows {
			often := new(big.Rat).Quo(row[place], first[place])
			for i := range row {
				row[i].Sub(row[i], new(big.Rat).Mul(often, first[i]))
			}
		}
	}
	return false
}

// rowSum gives a sum over all columns: of each what it has at a row's place, so often as its number says.
func rowSum(l api.LP, place int, x []api.Rat) *big.Rat {
	sum := new(big.Rat)
	for col, terms := range l.Cols {
		sum.Add(sum, new(big.Rat).Mul(at(terms, place), number(x[col])))
	}
	return sum
}

// isZero tells whether a linear problem is the zero value.
func isZero(l api.LP) bool {
	return l.N == 0 && len(l.Cols)+len(l.HasLo)+len(l.HasHi)+len(l.Lo)+len(l.Hi)+len(l.Cost) == 0
}

// good gives a right linear problem.
func good() api.LP { return tell.LP("0 4 -1 2@0 1/2@1; - - 3; 1 - 0 -1@1;", "- 3; 1 2;") }

// wrong gives linear problems that aren't right: what is wrong, and it.
func wrong() map[string]api.LP {
	half := api.Rat{Num: api.Int{Abs: []uint64{2}}, Den: []uint64{4}}
	out := map[string]api.LP{}
	change := func(what string, f func(l *api.LP)) {
		l := good()
		f(&l)
		out[what] = l
	}
	for _, n := range []int{-1, 2, 4, 5, 6, 1 << 62, -1 << 63, 1<<63 - 1} {
		change("N "+tell.OfRats([]api.Rat{tell.Rat(big.NewInt(int64(n)).String())}), func(l *api.LP) { l.N = n })
	}
	change("few Cols", func(l *api.LP) { l.Cols = l.Cols[:4] })
	change("no Cols", func(l *api.LP) { l.Cols, l.N = nil, 0 })
	change("many HasLo", func(l *api.LP) { l.HasLo = append(l.HasLo, false) })
	change("few HasLo", func(l *api.LP) { l.HasLo = l.HasLo[:4] })
	change("many HasHi", func(l *api.LP) { l.HasHi = append(l.HasHi, false) })
	change("no HasHi", func(l *api.LP) { l.HasHi = nil })
	change("many Lo", func(l *api.LP) { l.Lo = append(l.Lo, tell.Rat("0")) })
	change("few Lo", func(l *api.LP) { l.Lo = l.Lo[:4] })
	change("many Hi", func(l *api.LP) { l.Hi = append(l.Hi, tell.Rat("0")) })
	change("few Hi", func(l *api.LP) { l.Hi = l.Hi[:4] })
	change("many Cost", func(l *api.LP) { l.Cost = append(l.Cost, tell.Rat("0")) })
	change("few Cost", func(l *api.LP) { l.Cost = l.Cost[:4] })
	for _, v := range []string{"2@0 1/2@2", "1@-1", "1@1 1@0", "1@0 1@0", "0@0", "1@9223372036854775807"} {
		change("a column "+v, func(l *api.LP) { l.Cols[0] = tell.Vec(v) })
	}
	for _, v := range []string{"", "1@1", "-1@0", "-1@0 -1@1", "-1@1 -1@1", "-2@1", "-1/2@1", "-1@2"} {
		change("a row's column "+v, func(l *api.LP) { l.Cols[4] = tell.Vec(v) })
	}
	for _, v := range []string{"", "1@0", "-1@1", "-1/2@0"} {
		change("the first row's column "+v, func(l *api.LP) { l.Cols[3] = tell.Vec(v) })
	}
	change("the first row costs", func(l *api.LP) { l.Cost[3] = tell.Rat("-1") })
	change("nothing, N -1", func(l *api.LP) { *l = api.LP{N: -1} })
	change("nothing, N 1", func(l *api.LP) { *l = api.LP{N: 1} })
	change("a column's number", func(l *api.LP) { l.Cols[0][1].Val = half })
	change("a row's number", func(l *api.LP) {
		l.Cols[3][0].Val = api.Rat{Num: api.Int{Neg: true, Abs: []uint64{1}}}
	})
	change("a row costs", func(l *api.LP) { l.Cost[4] = tell.Rat("1") })
	change("Cost", func(l *api.LP) { l.Cost[0] = half })
	change("a row's Cost", func(l *api.LP) { l.Cost[3] = api.Rat{} })
	change("Lo", func(l *api.LP) { l.Lo[0] = half })
	change("Hi", func(l *api.LP) { l.Hi[3] = api.Rat{Num: api.Int{Abs: []uint64{3}}, Den: []uint64{1, 0}} })
	change("no Lo, but 1", func(l *api.LP) { l.Lo[1] = tell.Rat("1") })
	change("no Hi, but 1", func(l *api.LP) { l.Hi[2] = tell.Rat("1") })
	change("no Lo, its form", func(l *api.LP) { l.Lo[3] = api.Rat{} })
	change("no Hi, its form", func(l *api.LP) { l.Hi[1] = api.Rat{} })
	return out
}
