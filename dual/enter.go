package dual

import (
	"slices"

	"cutwater/api"
	"cutwater/rat"
	"cutwater/ratio"
)

// enter gives the column that is to enter the basis, and those that change their bound.
//
// A step gains nothing, if the column that enters has the reduced cost 0, and such steps could go round for ever. So there are further lists of costs, each of which counts only where those ahead of it say 0. The column that enters costs something in the last list alone: the step changes the reduced costs of that one, and gains by them, so that no basis comes twice until a list ahead is changed, which drops those behind it. (A Free column gains nothing, but it never leaves again.) None of the lists is a sum of others: there are no more further ones than variables.
func (s *solver) enter(row []api.Rat, t ratio.Turn) (col int, flips []int, found bool) {
	for i := 0; ; i++ {
		if i == len(s.costs) {
			s.costs = append(s.costs, s.further())
		}
		col, flips, found = ratio.Enter(s.LP, s.status, s.costs[i], row, t)
		if !found || s.status[col] == api.Free || rat.Sign(s.costs[i][col]) != 0 {
			s.costs = s.costs[:i+1]
			return col, flips, found
		}
		row = costless(row, s.costs[i])
	}
}

// further gives a list of reduced costs by which each column that isn't in the basis costs something where it stands.
func (s *solver) further() []api.Rat {
	out := make([]api.Rat, len(s.status))
	for col, stands := range s.status {
		switch stands {
		case api.AtLo:
			out[col] = rat.Whole(1)
		case api.AtHi:
			out[col] = rat.Whole(-1)
		}
	}
	return out
}

// costless gives a row of the tableau with those columns alone whose reduced costs are 0.
func costless(row, costs []api.Rat) []api.Rat {
	out := slices.Clone(row)
	for col, cost := range costs {
		if rat.Sign(cost) != 0 {
			out[col] = api.Rat{}
		}
	}
	return out
}

// price makes the last list's reduced costs those of the basis into which a column enters; those of the lists ahead are so already.
func (s *solver) price(col int, row []api.Rat) {
	costs := s.costs[len(s.costs)-1]
	often, _ := rat.Div(costs[col], row[col])
	for c, a := range row {
		if rat.Sign(a) != 0 {
			costs[c] = rat.Sub(costs[c], rat.Mul(often, a))
		}
	}
}
