package lu_test

import (
	"math"
	"math/rand"
	"slices"
	"testing"

	"cutwater/api"
	"cutwater/lu"
	"cutwater/mat"
	"cutwater/rat"
	"cutwater/tell"
	"cutwater/vec"
)

// square is another reckoner's matrix: its columns, all numbers told.
type square [][]api.Rat

// chance gives a matrix of numbers of all kinds, of which about one in so many isn't 0.
func chance(r *rand.Rand, n, many int) square {
	out := make(square, n)
	for k := range out {
		out[k] = chanceColumn(r, n, many)
	}
	return out
}

// chanceColumn gives one of its columns.
func chanceColumn(r *rand.Rand, n, many int) []api.Rat {
	out := make([]api.Rat, n)
	for i := range out {
		switch r.Intn(many * 8) {
		case 0, 1, 2, 3, 4:
			out[i] = rat.Whole(r.Int63n(9) - 4)
		case 5, 6:
			out[i], _ = rat.Of(r.Int63n(9)-4, r.Int63n(6)+1)
		case 7:
			out[i] = rat.Mul(rat.Whole(r.Int63()), tell.Rat("-98765432109876543210/100000000000000003"))
		default:
			out[i] = rat.Whole(0)
		}
	}
	return out
}

// loose gives it as vectors, in forms of all kinds.
func (m square) loose(r *rand.Rand) [][]api.Term {
	return tell.LooseRows(tell.Gather(m), r.Intn)
}

// text tells it as vectors in their one form.
func (m square) text() string { return tell.OfRows(tell.Gather(m)) }

// with gives it with another column.
func (m square) with(k int, col []api.Rat) square {
	out := slices.Clone(m)
	out[k] = col
	return out
}

// det is another reckoner's determinant: column by column, each cleared by those ahead of it.
func (m square) det() api.Rat {
	out := rat.Whole(1)
	left := slices.Clone(m)
	for i := range m {
		k := slices.IndexFunc(left, func(col []api.Rat) bool { return rat.Sign(col[i]) != 0 })
		if k < 0 {
			return rat.Whole(0)
		}
		if k%2 == 1 {
			out = rat.Neg(out)
		}
		top := left[k]
		left = slices.Delete(left, k, k+1)
		out = rat.Mul(out, top[i])
		for j, col := range left {
			often, _ := rat.Div(col[i], top[i])
			left[j] = make([]api.Rat, len(col))
			for p := range col {
				left[j][p] = rat.Sub(col[p], rat.Mul(often, top[p]))
			}
		}
	}
	return out
}

// times gives the matrix times a list; timesT a list times the matrix.
func (m square) times(x []api.Rat) []api.Rat {
	out := make([]api.Rat, len(m))
	for i := range out {
		for k, col := range m {
			out[i] = rat.Add(out[i], rat.Mul(x[k], col[i]))
		}
		out[i] = rat.Form(out[i])
	}
	return out
}
func (m square) timesT(y []api.Rat) []api.Rat {
	out := make([]api.Rat, len(m))
	for k, col := range m {
		for i := range col {
			out[k] = rat.Add(out[k], rat.Mul(y[i], col[i]))
		}
		out[k] = rat.Form(out[k])
	}
	return out
}

// others gives a list of numbers in other forms.
func others(x []api.Rat, r *rand.Rand) []api.Rat {
	var out []api.Rat
	for _, a := range x {
		out = append(out, tell.LooseRat(a, r.Intn))
	}
	return out
}

// hold holds a matrix that was taken apart against another reckoner's.
func hold(t *testing.T, l *lu.LU, m square, r *rand.Rand) {
	t.Helper()
	if l.Len() != len(m) {
		t.Errorf("Len is %d, not %d", l.Len(), len(m))
	}
	if got := tell.OfRows(l.Columns()); got != m.text() {
		t.Fatalf("Columns are %s, not %s", got, m.text())
	}
	if got, want := tell.OfRat(l.Det()), tell.OfRat(m.det()); got != want {
		t.Errorf("%s: Det is %s, not %s", m.text(), got, want)
	}
	z := chanceColumn(r, len(m), 1+r.Intn(2))
	if got, e := l.Solve(others(m.times(z), r)); e != api.OK || tell.OfRats(got) != tell.OfRats(z) {
		t.Errorf("%s: Solve gives %s, %v, not %s", m.text(), tell.OfRats(got), e, tell.OfRats(z))
	}
	if got, e := l.SolveT(others(m.timesT(z), r)); e != api.OK || tell.OfRats(got) != tell.OfRats(z) {
		t.Errorf("%s: SolveT gives %s, %v, not %s", m.text(), tell.OfRats(got), e, tell.OfRats(z))
	}
}

// The chapter's example.
func TestExample(t *testing.T) {
	l, e := lu.Factor(tell.Rows("1@0 1@1; 2@1;"))
	if e != api.OK || tell.OfRat(l.Det()) != "2" {
		t.Fatalf("%v", e)
	}
	if x, e := l.Solve(tell.Rats("3 5")); e != api.OK || tell.OfRats(x) != "3 1" {
		t.Errorf("%s, %v", tell.OfRats(x), e)
	}
	if e := l.Replace(1, tell.Vec("1@0 1@1")); e != api.ErrSingular {
		t.Errorf("%v", e)
	}
}

// P7.1: which matrices are refused, ErrArg first.
func TestFactorErrors(t *testing.T) {
	for _, c := range []struct {
		cols string
		want api.Errno
	}{
		{"", api.OK}, {"1@0;", api.OK}, {"-1/7@0;", api.OK}, {"1@0 5@-3 0@9 2@4 -2@4;", api.OK}, {"1@1; 1@0;", api.OK},
		{"1@0 1@1; 1@0 2@1;", api.OK}, {"1@0 2@1; 2@1 1@2; 1@0 1@2;", api.OK},
		{"1@0; 1@1 1/9@2;", api.ErrArg}, {"1@1;", api.ErrArg}, {"1@0 1@1 -1@0;", api.ErrArg}, {"1@0; 1@9223372036854775807;", api.ErrArg},
		{"1@0; 1@0; 1@3;", api.ErrArg}, {"; 1@2;", api.ErrArg}, {"; 1@0 1@1; 1@65536;", api.ErrArg},
		{";", api.ErrSingular}, {"0@0;", api.ErrSingular}, {"1@-1;", api.ErrSingular}, {"3@0 -3@0;", api.ErrSingular}, {"1@0; ;", api.ErrSingular},
		{"1@0; 2@0;", api.ErrSingular}, {"1@0 2@1; 3@1 3/2@0;", api.ErrSingular}, {"1@0 1@1; 1@1 1@2; 1@0 -1@2;", api.ErrSingular},
		{"1@0 4@1 7@2; 2@0 5@1 8@2; 3@0 6@1 9@2;", api.ErrSingular}, {"1@0; 1@0 1@1; 1@1;", api.ErrSingular},
	} {
		l, e := lu.Factor(tell.Rows(c.cols))
		if e != c.want || (l == nil) != (e != api.OK) {
			t.Errorf("Factor(%s) = %v, %v", c.cols, l, e)
		}
	}
}

// P7.1: without columns it is right.
func TestNoColumns(t *testing.T) {
	for _, cols := range [][][]api.Term{nil, {}} {
		l, e := lu.Factor(cols)
		if e != api.OK || l.Len() != 0 || len(l.Columns()) != 0 || tell.OfRat(l.Det()) != "1" {
			t.Fatalf("%v", e)
		}
		if x, e := l.Solve(nil); e != api.OK || len(x) != 0 {
			t.Errorf("%v, %v", x, e)
		}
		if y, e := l.SolveT([]api.Rat{}); e != api.OK || len(y) != 0 {
			t.Errorf("%v, %v", y, e)
		}
		if e := l.Replace(0, nil); e != api.ErrArg {
			t.Errorf("%v", e)
		}
	}
}

// P7.1: the determinant of every order of four columns has its sign.
func TestDetOfOrders(t *testing.T) {
	const n = 4
	for code := range n * n * n * n {
		m, swaps := chance(rand.New(rand.NewSource(1)), n, 1<<20), 0
		for k := range m {
			m[k][code%n] = rat.Whole(int64(k + 1))
			code /= n
		}
		for k := range m {
			for j := range k {
				if slices.IndexFunc(m[j], isThere) > slices.IndexFunc(m[k], isThere) {
					swaps++
				}
			}
		}
		want := rat.Whole(24 - 48*int64(swaps%2))
		l, e := lu.Factor(m.loose(rand.New(rand.NewSource(2))))
		if rat.Sign(m.det()) == 0 {
			if e != api.ErrSingular {
				t.Errorf("%s: %v", m.text(), e)
			}
		} else if e != api.OK || tell.OfRat(l.Det()) != tell.OfRat(want) {
			t.Errorf("%s: %v", m.text(), e)
		}
	}
}

// isThere tells whether a number isn't 0.
func isThere(a api.Rat) bool { return rat.Sign(a) != 0 }

// P7.1, P7.2: matrices of all kinds and sizes.
func TestFactorAndSolve(t *testing.T) {
	r := rand.New(rand.NewSource(3))
	for n := range 9 {
		right, wrong := 0, 0
		for range 120 {
			m := chance(r, n, 1+r.Intn(3))
			l, e := lu.Factor(m.loose(r))
			switch {
			case rat.Sign(m.det()) == 0 && e == api.ErrSingular && l == nil:
				wrong++
			case rat.Sign(m.det()) != 0 && e == api.OK:
				right++
				hold(t, l, m, r)
			default:
				t.Fatalf("Factor(%s) = %v", m.text(), e)
			}
		}
		if n > 0 && (right < 10 || wrong < 10) {
			t.Errorf("of size %d there are %d right ones, %d wrong ones", n, right, wrong)
		}
	}
}

// P7.2: b and c have as many numbers as there are columns, no more and no fewer.
func TestSolveErrors(t *testing.T) {
	l, _ := lu.Factor(tell.Rows("1@0 1@1; 2@1;"))
	for _, list := range []string{"", "1", "1 2 0", "0 0 0 0"} {
		if x, e := l.Solve(tell.Rats(list)); e != api.ErrArg || x != nil {
			t.Errorf("Solve(%s) = %v, %v", list, x, e)
		}
		if y, e := l.SolveT(tell.Rats(list)); e != api.ErrArg || y != nil {
			t.Errorf("SolveT(%s) = %v, %v", list, y, e)
		}
	}
	if x, e := l.Solve(make([]api.Rat, 2)); e != api.OK || tell.OfRats(x) != "0 0" {
		t.Errorf("%s, %v", tell.OfRats(x), e)
	}
	if y, e := l.SolveT(make([]api.Rat, 2)); e != api.OK || tell.OfRats(y) != "0 0" {
		t.Errorf("%s, %v", tell.OfRats(y), e)
	}
}

// P7.3: ErrArg ahead of ErrSingular, and nothing has changed then.
func TestReplaceErrors(t *testing.T) {
	r := rand.New(rand.NewSource(4))
	m := square{tell.Rats("1 1 0"), tell.Rats("0 2 0"), tell.Rats("1/3 0 -5")}
	l, _ := lu.Factor(m.loose(r))
	for _, c := range []struct {
		k    int
		col  string
		want api.Errno
	}{
		{-1, "1@0", api.ErrArg}, {3, "1@2", api.ErrArg}, {math.MaxInt, "", api.ErrArg}, {math.MinInt, "", api.ErrArg}, {0, "1@0 1@3", api.ErrArg}, {2, "1/2@3", api.ErrArg}, {2, "1@9223372036854775807", api.ErrArg},
		{0, "", api.ErrSingular}, {0, "7@1", api.ErrSingular}, {1, "1/2@1 1/2@0", api.ErrSingular}, {2, "0@2 4@0 1@1", api.ErrSingular}, {1, "4/3@0 1@1 -5@2", api.ErrSingular}, {1, "1@-1 3@5 -3@5", api.ErrSingular},
	} {
		if e := l.Replace(c.k, tell.Vec(c.col)); e != c.want {
			t.Errorf("Replace(%d, %s) = %v", c.k, c.col, e)
		}
		hold(t, l, m, r)
	}
	if e := l.Replace(2, tell.Vec("4@0 1@1 1@2 0@3 2@-1 5@7 -5@7")); e != api.OK {
		t.Errorf("%v", e)
	}
	hold(t, l, m.with(2, tell.Rats("4 1 1")), r)
}

// P7.3: columns are replaced again and again.
func TestReplace(t *testing.T) {
	r := rand.New(rand.NewSource(5))
	for n := 1; n < 8; n++ {
		m := make(square, n)
		for k := range m {
			m[k] = make([]api.Rat, n)
			m[k][(k+1)%n] = rat.Whole(-1)
		}
		l, _ := lu.Factor(m.loose(r))
		refused := 0
		for range 60 {
			k, col := r.Intn(n), chanceColumn(r, n, 1+r.Intn(3))
			next := m.with(k, col)
			e := l.Replace(k, tell.LooseVec(vec.Gather(col), r.Intn))
			if (rat.Sign(next.det()) == 0) != (e == api.ErrSingular) || e != api.OK && e != api.ErrSingular {
				t.Fatalf("%s: the column %d of %s: %v", next.text(), k, m.text(), e)
			}
			if e == api.OK {
				m = next
			} else {
				refused++
			}
			hold(t, l, m, r)
		}
		if refused == 0 || refused > 50 {
			t.Errorf("of size %d: %d refused", n, refused)
		}
	}
}

// P7.2, P7.3: a matrix as great as a problem's may be, most of it slack, and its columns replaced.
func TestGreat(t *testing.T) {
	r := rand.New(rand.NewSource(6))
	const n = api.MaxRows + api.MaxCols
	cols := make([][]api.Term, n)
	for k := range cols {
		cols[k] = []api.Term{{Col: k, Val: rat.Whole(-1)}}
	}
	l, e := lu.Factor(cols)
	if e != api.OK {
		t.Fatal(e)
	}
	for range 120 {
		k, col := r.Intn(n), vec.Gather(chanceColumn(r, n, 8))
		if e := l.Replace(k, col); e == api.OK {
			cols[k] = col
		} else if e != api.ErrSingular {
			t.Fatal(e)
		}
	}
	rows, _ := mat.Transpose(cols, n)
	b := chanceColumn(r, n, 2)
	if x, e := l.Solve(b); e != api.OK || tell.OfRats(mat.Times(rows, x)) != tell.OfRats(b) {
		t.Errorf("Solve gives %v, %v", x, e)
	}
	if y, e := l.SolveT(b); e != api.OK || tell.OfRats(mat.Times(cols, y)) != tell.OfRats(b) {
		t.Errorf("SolveT gives %v, %v", y, e)
	}
	again, e := lu.Factor(cols)
	if e != api.OK || tell.OfRat(again.Det()) != tell.OfRat(l.Det()) {
		t.Errorf("%v, another Det", e)
	}
}

// P7.1: there may be more columns than the places of a list that vec gives.
func TestManyColumns(t *testing.T) {
	const n = api.MaxShift + 5
	cols := make([][]api.Term, n)
	for k := range cols {
		cols[k] = []api.Term{{Col: (k + 1) % n, Val: rat.Whole(1)}}
	}
	l, e := lu.Factor(cols)
	if e != api.OK || l.Len() != n || tell.OfRat(l.Det()) != "1" {
		t.Fatalf("%v", e)
	}
	b := make([]api.Rat, n)
	b[7] = rat.Whole(3)
	if x, e := l.Solve(b); e != api.OK || tell.OfVec(vec.Gather(x)) != "3@6" {
		t.Errorf("%v", e)
	}
	if y, e := l.SolveT(b); e != api.OK || tell.OfVec(vec.Gather(y)) != "3@8" {
		t.Errorf("%v", e)
	}
}

// Rule 6: each is by itself, and what was handed in isn't kept.
func TestByThemselves(t *testing.T) {
	r := rand.New(rand.NewSource(7))
	m := square{tell.Rats("1 1/2 100000000000000000000"), tell.Rats("0 2 0"), tell.Rats("1/3 0 -5")}
	cols := m.loose(r)
	one, _ := lu.Factor(cols)
	two, _ := lu.Factor(cols)
	wipe(cols)
	col := []api.Term{{Col: 1, Val: tell.Rat("7/3")}}
	if e := two.Replace(1, col); e != api.OK {
		t.Fatal(e)
	}
	wipe([][]api.Term{col})
	wipe(two.Columns())
	for _, l := range []*lu.LU{one, two} {
		x, _ := l.Solve(tell.Rats("1 2 3"))
		y, _ := l.SolveT(tell.Rats("1 2 3"))
		wipe([][]api.Term{vectorOf(x), vectorOf(y), vectorOf([]api.Rat{l.Det()})})
	}
	hold(t, one, m, r)
	hold(t, two, m.with(1, tell.Rats("0 7/3 0")), r)
}

// vectorOf gives numbers as terms that share their memory.
func vectorOf(x []api.Rat) []api.Term {
	var out []api.Term
	for _, a := range x {
		out = append(out, api.Term{Val: a})
	}
	return out
}

// wipe writes over all that vectors hold.
func wipe(list [][]api.Term) {
	for _, v := range list {
		for _, term := range v {
			clear(term.Val.Num.Abs)
			clear(term.Val.Den)
		}
		clear(v)
	}
}
