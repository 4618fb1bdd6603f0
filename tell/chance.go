package tell

import (
	"slices"

	"cutwater/api"
	"cutwater/rat"
)

// ChanceNumber gives a number near 0; pick chooses one of n.
func ChanceNumber(pick func(n int) int) api.Rat {
	out, _ := rat.Of(int64(pick(9)-4), []int64{1, 1, 1, 2, 3}[pick(5)])
	return out
}

// ChanceLP gives a right linear problem of few variables and rows, no Lo of which is above its Hi.
func ChanceLP(pick func(n int) int) api.LP {
	l := api.LP{N: pick(6)}
	m := pick(5)
	for col := range l.N + m {
		var terms []api.Term
		cost := rat.Whole(0)
		for place := range m {
			if col < l.N && pick(5) > 1 {
				terms = append(terms, api.Term{Col: place, Val: ChanceNumber(pick)})
			}
		}
		if col < l.N {
			cost = ChanceNumber(pick)
		} else {
			terms = []api.Term{{Col: col - l.N, Val: rat.Whole(-1)}}
		}
		l.Cols = append(l.Cols, slices.DeleteFunc(terms, func(t api.Term) bool { return rat.Sign(t.Val) == 0 }))
		l.Cost = append(l.Cost, cost)
		chanceBounds(&l, pick)
	}
	return l
}

// chanceBounds adds a column's bounds: most often both.
func chanceBounds(l *api.LP, pick func(n int) int) {
	lo, far, kind := ChanceNumber(pick), rat.Whole(int64(pick(5))), pick(12)
	hi := rat.Add(lo, far)
	hasLo, hasHi := kind > 1, kind != 1 && kind != 2
	if !hasLo {
		lo = rat.Whole(0)
	}
	if !hasHi {
		hi = rat.Whole(0)
	}
	l.HasLo, l.Lo, l.HasHi, l.Hi = append(l.HasLo, hasLo), append(l.Lo, lo), append(l.HasHi, hasHi), append(l.Hi, hi)
}

// ChanceStand gives a basis in any order, and how the other columns may stand; the columns of the basis may depend on each other.
func ChanceStand(l api.LP, pick func(n int) int) (basis, status []int) {
	order := []int(nil)
	for col := range l.Cols {
		order = slices.Insert(order, pick(col+1), col)
	}
	basis = order[:len(l.Cols)-l.N]
	for col := range l.Cols {
		stands := api.Free
		switch {
		case slices.Contains(basis, col):
			stands = api.Basic
		case l.HasLo[col] && l.HasHi[col]:
			stands = []int{api.AtLo, api.AtHi}[pick(2)]
		case l.HasLo[col]:
			stands = api.AtLo
		case l.HasHi[col]:
			stands = api.AtHi
		}
		status = append(status, stands)
	}
	return basis, status
}

// Suit gives how the columns stand, if each that isn't in the basis goes to the bound that suits its reduced cost, where it has that.
func Suit(l api.LP, status []int, d []api.Rat) []int {
	out := slices.Clone(status)
	for col, stands := range status {
		switch sign := rat.Sign(d[col]); {
		case stands == api.Basic:
		case sign > 0 && l.HasLo[col]:
			out[col] = api.AtLo
		case sign < 0 && l.HasHi[col]:
			out[col] = api.AtHi
		}
	}
	return out
}

// Rounded gives a right linear problem with all its numbers rounded down.
func Rounded(l api.LP) api.LP {
	round := func(list []api.Rat) []api.Rat {
		var out []api.Rat
		for _, a := range list {
			out = append(out, rat.OfInt(rat.Floor(a)))
		}
		return out
	}
	out := l
	out.Lo, out.Hi, out.Cost, out.Cols = round(l.Lo), round(l.Hi), round(l.Cost), nil
	for _, terms := range l.Cols {
		var col []api.Term
		for _, t := range terms {
			if a := rat.OfInt(rat.Floor(t.Val)); rat.Sign(a) != 0 {
				col = append(col, api.Term{Col: t.Col, Val: a})
			}
		}
		out.Cols = append(out.Cols, col)
	}
	return out
}
