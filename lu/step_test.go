package lu

import (
	"math/rand"
	"slices"
	"testing"

	"cutwater/api"
	"cutwater/rat"
)

// P7.3: a column is replaced by one more step; it is all done again but now and then, and the steps don't become more and more.
func TestSteps(t *testing.T) {
	const n, times = 12, 200
	r := rand.New(rand.NewSource(1))
	column := func() []api.Term {
		var out []api.Term
		for i := range n {
			out = append(out, api.Term{Col: i, Val: rat.Whole(r.Int63n(19) - 9)})
		}
		return out
	}
	var cols [][]api.Term
	for range n {
		cols = append(cols, column())
	}
	l, e := Factor(cols)
	if e != api.OK {
		t.Fatal(e)
	}
	again := 0
	for range times {
		before := len(l.steps)
		if e := l.Replace(r.Intn(n), column()); e != api.OK {
			t.Fatal(e)
		}
		if len(l.steps) != before+1 {
			again++
		}
		if len(l.steps) > 4*n {
			t.Fatalf("%d steps", len(l.steps))
		}
	}
	if again == 0 || again > times/n {
		t.Errorf("of %d times it was all done again %d times", times, again)
	}
}

// A step that leaves all as it is isn't kept: a matrix of slack has none.
func TestIdleSteps(t *testing.T) {
	var cols [][]api.Term
	for i := range 5 {
		cols = append(cols, []api.Term{{Col: i, Val: rat.Whole(-3)}})
	}
	if l, e := Factor(cols); e != api.OK || len(l.steps) != 0 {
		t.Errorf("%v", e)
	}
}

// Where columns can be taken so that no number is added, they are: whatever order they stand in.
func TestNothingAdded(t *testing.T) {
	const n = 30
	r := rand.New(rand.NewSource(2))
	for range 20 {
		rows, cols, numbers := r.Perm(n), make([][]api.Term, n), 0
		for k := range cols {
			for i := range k + 1 {
				if i == k || r.Intn(6) == 0 {
					cols[k] = append(cols[k], api.Term{Col: rows[i], Val: rat.Whole(r.Int63n(5) + 1)})
					numbers++
				}
			}
		}
		r.Shuffle(n, func(i, j int) { cols[i], cols[j] = cols[j], cols[i] })
		l, e := Factor(cols)
		if e != api.OK || l.weight > numbers {
			t.Errorf("%v: the steps have %d numbers, the columns %d", e, l.weight, numbers)
		}
	}
}

// The steps are gone through backwards, and no further than is asked for.
func TestBackwards(t *testing.T) {
	steps := []step{{place: 7}, {place: 8}, {place: 9}}
	for most := range 4 {
		var got []int
		for s := range backwards(steps) {
			if len(got) == most {
				break
			}
			got = append(got, s.place)
		}
		if !slices.Equal(got, []int{9, 8, 7}[:most]) {
			t.Errorf("%v", got)
		}
	}
}
