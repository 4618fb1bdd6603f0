package mat_test

import (
	"math"
	"math/rand"
	"slices"
	"strings"
	"testing"

	"cutwater/api"
	"cutwater/mat"
	"cutwater/rat"
	"cutwater/tell"
)

// table is another reckoner's matrix: all numbers, without noughts left out.
type table [][]api.Rat

// loose gives it as rows, in forms of all kinds.
func (m table) loose(r *rand.Rand) [][]api.Term {
	return tell.LooseRows(tell.Gather(m), r.Intn)
}

// text tells it as rows in their one form.
func (m table) text() string { return tell.OfRows(tell.Gather(m)) }

// of gives a table whose numbers are given by their row and place.
func of(n, m int, number func(i, k int) api.Rat) table {
	out := make(table, n)
	for i := range out {
		for k := range m {
			out[i] = append(out[i], number(i, k))
		}
	}
	return out
}

// chance gives a table of numbers of all kinds, those of many words among them; most are 0.
func chance(r *rand.Rand, n, m int) table {
	return of(n, m, func(i, k int) api.Rat {
		out := rat.Whole(0)
		for range r.Intn(12) - 7 {
			num, den := tell.Rat("98765432109876543210987654321098765432109876543210"), rat.Whole(1+r.Int63())
			a, _ := rat.Div(rat.Sub(num, rat.Whole(r.Int63())), den)
			out = rat.Sub(rat.Whole(r.Int63n(5)-2), rat.Mul(a, out))
		}
		return out
	})
}

// times is another reckoner's product.
func times(a, b table, m int) table {
	return of(len(a), m, func(i, k int) api.Rat {
		out := rat.Whole(0)
		for j := range min(len(a[i]), len(b)) {
			out = rat.Add(out, rat.Mul(a[i][j], b[j][k]))
		}
		return out
	})
}

// column gives a list of numbers as a table of one column, row as one of one row.
func column(x []api.Rat) table {
	return of(len(x), 1, func(i, k int) api.Rat { return x[i] })
}
func row(x []api.Rat) table { return table{x} }

// P6.1
func TestTimes(t *testing.T) {
	for _, c := range []struct{ rows, x, want string }{
		{"", "1 2", ""}, {";", "", "0"}, {"1@0 2@1; 3@1;", "1 1", "3 3"}, {"1@0 2@1; 3@1;", "1/2", "1/2 0"}, {"1@1 1@-1 1@1; ; 0@0 5@9;", "7 1/4 8", "1/2 0 0"},
	} {
		if got := tell.OfRats(mat.Times(tell.Rows(c.rows), tell.Rats(c.x))); got != c.want {
			t.Errorf("Times(%s, %s) = %s, not %s", c.rows, c.x, got, c.want)
		}
	}
	r := rand.New(rand.NewSource(1))
	for range 100 {
		m := chance(r, r.Intn(6), r.Intn(6))
		x := chance(r, 1, r.Intn(8))[0]
		want := times(m, column(x), 1)
		got := mat.Times(m.loose(r), x)
		if text := tell.OfRats(slices.Concat(want...)); tell.OfRats(got) != text {
			t.Errorf("Times of %s and %s = %s, not %s", m.text(), tell.OfRats(x), tell.OfRats(got), text)
		}
	}
}

// P6.1
func TestTimesT(t *testing.T) {
	for _, c := range []struct{ y, rows, want string }{
		{"", "", ""}, {"1", "", ""}, {"", "1@0;", ""}, {"2 1/3", "1@0 2@1; 3@1;", "2@0 5@1"}, {"2", "1@0 2@1; 3@1;", "2@0 4@1"}, {"2 0 5", "1@0 2@1; 3@1;", "2@0 4@1"},
		{"1 -1 4", "1@3 2@5; 2@5 1@3; 7@-1 0@1;", ""}, {"1/2 1", "1@9223372036854775807 1@2; 1@2 1@2;", "5/2@2 1/2@9223372036854775807"},
	} {
		if got := tell.OfVec(mat.TimesT(tell.Rats(c.y), tell.Rows(c.rows))); got != c.want {
			t.Errorf("TimesT(%s, %s) = %s, not %s", c.y, c.rows, got, c.want)
		}
	}
	r := rand.New(rand.NewSource(2))
	for range 100 {
		n := 1 + r.Intn(6)
		m := chance(r, r.Intn(6), n)
		y := chance(r, 1, r.Intn(8))[0]
		want := times(row(y), m, n).text()
		if got := tell.OfVec(mat.TimesT(y, m.loose(r))) + ";"; got != want {
			t.Errorf("TimesT of %s and %s = %s, not %s", tell.OfRats(y), m.text(), got, want)
		}
	}
}

// checkRows holds an answer against what is told of it.
func checkRows(t *testing.T, what string, got [][]api.Term, e api.Errno, want string) {
	t.Helper()
	if text := tell.OfRows(got); e != api.OK || text != want {
		t.Errorf("%s = %s, %v, not %s", what, text, e, want)
	}
}

// checkRefused holds an answer against ErrArg.
func checkRefused(t *testing.T, what string, got [][]api.Term, e api.Errno) {
	t.Helper()
	if e != api.ErrArg || len(got) != 0 {
		t.Errorf("%s: %d rows, %v", what, len(got), e)
	}
}

// P6.2
func TestTranspose(t *testing.T) {
	for _, c := range []struct {
		rows string
		n    int
		want string
	}{
		{"", 0, ""}, {"", 2, "; ;"}, {"; 0@5; 1@-1;", 0, ""}, {"1@0 2@1; 3@1;", 2, "1@0; 2@0 3@1;"}, {"1@0 2@1; 3@1;", 3, "1@0; 2@0 3@1; ;"},
		{"; 1@1 1/2@0 1@1 4@-2; ; 5@0 0@9;", 2, "1/2@1 5@3; 2@1;"}, {"1@7 -1@7;", 1, ";"},
	} {
		got, e := mat.Transpose(tell.Rows(c.rows), c.n)
		checkRows(t, c.rows, got, e, c.want)
	}
	for _, c := range []struct {
		rows string
		n    int
	}{
		{"", -1}, {"", math.MinInt}, {"", api.MaxShift + 1}, {"", math.MaxInt}, {"1@0;", 0}, {"1@0; 1@1;", 1}, {"; 1@0 1@2 1@1;", 2}, {"1@65536;", api.MaxShift}, {"1@65536;", api.MaxShift + 1}, {"1@9223372036854775807; 1@0;", 5},
	} {
		got, e := mat.Transpose(tell.Rows(c.rows), c.n)
		checkRefused(t, c.rows, got, e)
	}
	got, e := mat.Transpose(tell.Rows("3@65535; 4@0 5@65535;"), api.MaxShift)
	if e != api.OK || len(got) != api.MaxShift || tell.OfVec(got[65535]) != "3@0 5@1" || tell.OfVec(got[0]) != "4@1" {
		t.Errorf("the most columns: %d, %v", len(got), e)
	}
	r := rand.New(rand.NewSource(3))
	for range 100 {
		n, k := r.Intn(6), r.Intn(6)
		m := chance(r, n, k)
		got, e := mat.Transpose(m.loose(r), k)
		checkRows(t, m.text(), got, e, of(k, n, func(i, j int) api.Rat { return m[j][i] }).text())
	}
}

// P6.3
func TestProduct(t *testing.T) {
	for _, c := range []struct{ a, b, want string }{
		{"", "", ""}, {"", "1@0;", ""}, {"; ;", "", "; ;"}, {"1@0 2@1; 3@1;", "", "; ;"}, {"1@0 2@1; 3@1;", "1@1;", "1@1; ;"}, {"1@0 2@1; 3@1;", "1@1; 1@0 1/2@7;", "2@0 1@1 1@7; 3@0 3/2@7;"},
		{"1@1 1@1 7@-1 0@0;", "5@0; 2@4 -1@2;", "-2@2 4@4;"}, {"1@0 1@1;", "1@3 2@-1; -1@3;", ";"}, {"1@2 4@9223372036854775807;", "1@0; 1@1;", ";"}, {"1@0;", "1@9223372036854775807;", "1@9223372036854775807;"},
	} {
		checkRows(t, c.a+" "+c.b, mat.Product(tell.Rows(c.a), tell.Rows(c.b)), api.OK, c.want)
	}
	r := rand.New(rand.NewSource(4))
	for range 100 {
		n, k := r.Intn(5), 1+r.Intn(5)
		a, b := chance(r, r.Intn(5), n), chance(r, r.Intn(5), k)
		checkRows(t, a.text()+" times "+b.text(), mat.Product(a.loose(r), b.loose(r)), api.OK, times(a, b, k).text())
	}
}

// P6.4
func TestOrders(t *testing.T) {
	rows := tell.Rows("1@0 2@1 0@9; ; 3@2 1/2@2 5@-1;")
	for _, c := range []struct {
		order         []int
		rows, columns string
	}{
		{[]int{0, 1, 2}, "1@0 2@1; ; 7/2@2;", "1@0 2@1; ; 7/2@2;"}, {[]int{2, 0, 1}, "7/2@2; 1@0 2@1; ;", "1@1 2@2; ; 7/2@0;"}, {[]int{1, 2, 0}, "; 7/2@2; 1@0 2@1;", "2@0 1@2; ; 7/2@1;"},
	} {
		got, e := mat.Rows(rows, c.order)
		checkRows(t, "Rows", got, e, c.rows)
		got, e = mat.Columns(rows, c.order)
		checkRows(t, "Columns", got, e, c.columns)
	}
	got, e := mat.Columns(rows, []int{3, 2, 1, 0})
	checkRows(t, "Columns with one more", got, e, "2@2 1@3; ; 7/2@1;")
	got, e = mat.Rows(nil, []int{})
	checkRows(t, "no Rows", got, e, "")
	got, e = mat.Columns(tell.Rows("; 1@-1; 0@0;"), nil)
	checkRows(t, "no Columns", got, e, "; ; ;")
	got, e = mat.Columns(nil, []int{1, 0})
	checkRows(t, "Columns without rows", got, e, "")
	r := rand.New(rand.NewSource(5))
	for range 100 {
		n := r.Intn(7)
		m, order := chance(r, n, n), r.Perm(n)
		got, e := mat.Rows(m.loose(r), order)
		checkRows(t, m.text(), got, e, of(n, n, func(i, k int) api.Rat { return m[order[i]][k] }).text())
		got, e = mat.Columns(m.loose(r), order)
		checkRows(t, m.text(), got, e, of(n, n, func(i, k int) api.Rat { return m[i][order[k]] }).text())
	}
}

// P6.4: what isn't an order, and rows and places that an order has none for.
func TestNoOrders(t *testing.T) {
	three := tell.Rows("1@0; 2@1; 3@0;")
	for _, order := range [][]int{{0, 1, 1}, {1, 2, 3}, {-1, 0, 1}, {0, 0, 0}, {2, 2, 1}, {0, 1, math.MaxInt}, {math.MinInt, 0, 1}, {0, 1, 2, 2}, {0, 0}, {1, 2}} {
		got, e := mat.Rows(three, order)
		checkRefused(t, "Rows", got, e)
		got, e = mat.Columns(three, order)
		checkRefused(t, "Columns", got, e)
	}
	for _, order := range [][]int{nil, {0}, {0, 1}, {0, 1, 2, 3}} {
		got, e := mat.Rows(three, order)
		checkRefused(t, "Rows", got, e)
	}
	for _, rows := range []string{"1@2;", "; 1@0 1@1 1@7;", "1@9223372036854775807;", "1@3 1@3; 1@0;"} {
		got, e := mat.Columns(tell.Rows(rows), []int{1, 0})
		checkRefused(t, rows, got, e)
	}
	got, e := mat.Columns(tell.Rows("1@2 -1@2 1@0;"), []int{1, 0})
	checkRows(t, "what leaves nothing", got, e, "1@1;")
}

// P6.4: an order may be longer than what Transpose takes.
func TestLongOrder(t *testing.T) {
	const n = api.MaxShift + 5
	order := make([]int, n)
	for i := range order {
		order[i] = n - 1 - i
	}
	got, e := mat.Columns(tell.Rows("1@0 2@65540; 3@65536;"), order)
	checkRows(t, "Columns", got, e, "2@0 1@65540; 3@4;")
	got, e = mat.Rows(make([][]api.Term, n), order)
	checkRows(t, "Rows", got, e, strings.Repeat("; ", n-1)+";")
}

// P6.5: what was given stays as it was, and an answer outlives what it came of.
func TestOwnMemory(t *testing.T) {
	const one, two = "1@1 1/2@0 3@1; -1@-1;", "5@1 7@1; 1@0;"
	a, b, x, order := tell.Rows(one), tell.Rows(two), tell.Rats("1/2 1/3"), []int{1, 0}
	transposed, _ := mat.Transpose(a, 2)
	rows, _ := mat.Rows(a, order)
	columns, _ := mat.Columns(a, order)
	product, lists, sum := mat.Product(a, b), mat.Times(a, x), mat.TimesT(x, b)
	if tell.OfRows(a) != one || tell.OfRows(b) != two || tell.OfRats(x) != "1/2 1/3" || !slices.Equal(order, []int{1, 0}) {
		t.Errorf("changed: %v, %v, %v, %v", a, b, x, order)
	}
	for _, v := range slices.Concat(a, b) {
		for i := range v {
			v[i].Val.Num.Abs[0], v[i].Val.Den[0], v[i].Col = 99, 99, 99
		}
	}
	for i := range x {
		x[i].Num.Abs[0], x[i].Den[0] = 99, 99
	}
	clear(a)
	clear(b)
	clear(order)
	for i, got := range []string{tell.OfRows(transposed), tell.OfRows(rows), tell.OfRows(columns), tell.OfRows(product), tell.OfRats(lists), tell.OfVec(sum)} {
		if want := []string{"1/2@0; 4@0;", "; 1/2@0 4@1;", "4@0 1/2@1; ;", "4@0 6@1; ;", "19/12 0", "1/3@0 6@1"}[i]; got != want {
			t.Errorf("answer %d became %s, not %s", i, got, want)
		}
	}
}
