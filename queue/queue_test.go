package queue_test

import (
	"math"
	"slices"
	"testing"

	"cutwater/api"
	"cutwater/queue"
	"cutwater/rat"
	"cutwater/tell"
)

// filled gives a queue in which these nodes wait.
func filled(t *testing.T, order int, nodes string) *queue.Queue {
	t.Helper()
	q, e := queue.New(order)
	if e != api.OK {
		t.Fatal(e)
	}
	for _, n := range tell.Nodes(nodes) {
		q.Push(n)
	}
	return q
}

// popped takes all nodes out.
func popped(q *queue.Queue) string {
	var out []api.Node
	for n, found := q.Pop(); found; n, found = q.Pop() {
		out = append(out, n)
	}
	return tell.OfNodes(out)
}

// Example 1.
func TestExample(t *testing.T) {
	q := filled(t, api.BestFirst, "1 1 3; 2 2 3; 3 0 2;")
	if got, want := popped(q), "3 0 2; 2 2 3; 1 1 3;"; got != want {
		t.Errorf("%s, not %s", got, want)
	}
}

// P20.1: there are two orders.
func TestNew(t *testing.T) {
	for _, order := range []int{-1, 2, 3, math.MaxInt, math.MinInt} {
		if q, e := queue.New(order); q != nil || e != api.ErrArg {
			t.Errorf("%d: %v, %v", order, q, e)
		}
	}
	for _, order := range []int{api.BestFirst, api.DeepFirst, 0, 1} {
		if q, e := queue.New(order); q == nil || e != api.OK || q.Len() != 0 {
			t.Errorf("%d: %v, %v", order, q, e)
		}
	}
}

// P20.1, P20.2: where nobody waits, from the beginning on and when all went.
func TestNobody(t *testing.T) {
	for order := range 2 {
		for name, q := range map[string]*queue.Queue{"new": filled(t, order, ""), "popped": filled(t, order, "4 5 6;"), "pruned": filled(t, order, "4 5 6;")} {
			switch name {
			case "popped":
				q.Pop()
			case "pruned":
				q.Prune(tell.Rat("6"))
			}
			n, some := q.Pop()
			least, found := q.Least()
			if some || n.Id != 0 || n.Depth != 0 || !none(n.Least) || found || !none(least) || q.Len() != 0 || len(q.Prune(tell.Rat("-1"))) != 0 {
				t.Errorf("%d, %s: %v, %v, %v, %v, %d", order, name, n, some, least, found, q.Len())
			}
			q.Push(tell.Nodes("7 8 9;")[0])
			if n, some := q.Pop(); !some || n.Id != 7 {
				t.Errorf("%d, %s: %v, %v", order, name, n, some)
			}
		}
	}
}

// none tells whether a fraction has no words.
func none(a api.Rat) bool { return len(a.Num.Abs) == 0 && !a.Num.Neg && len(a.Den) == 0 }

// P20.1: in which order they come.
func TestOrder(t *testing.T) {
	for _, c := range []struct{ nodes, best, deep string }{
		{"1 1 3; 2 2 3; 3 0 2;", "3 0 2; 2 2 3; 1 1 3;", "2 2 3; 1 1 3; 3 0 2;"},
		{"3 1 1; 2 1 1; 1 1 1; 4 1 1;", "1 1 1; 2 1 1; 3 1 1; 4 1 1;", "1 1 1; 2 1 1; 3 1 1; 4 1 1;"},                      // by Id
		{"1 1 5; 2 2 5; 3 3 5; 4 0 5;", "3 3 5; 2 2 5; 1 1 5; 4 0 5;", "3 3 5; 2 2 5; 1 1 5; 4 0 5;"},                      // by Depth
		{"1 1 1/2; 2 1 1/3; 3 1 -1/2; 4 1 0;", "3 1 -1/2; 4 1 0; 2 1 1/3; 1 1 1/2;", "3 1 -1/2; 4 1 0; 2 1 1/3; 1 1 1/2;"}, // by Least
		{"1 9 2; 2 0 1; 3 5 2; 4 5 1; 5 9 1;", "5 9 1; 4 5 1; 2 0 1; 1 9 2; 3 5 2;", "5 9 1; 1 9 2; 4 5 1; 3 5 2; 2 0 1;"},
		{"7 1 1; 7 1 1; 6 1 1; 7 1 1;", "6 1 1; 7 1 1; 7 1 1; 7 1 1;", "6 1 1; 7 1 1; 7 1 1; 7 1 1;"}, // alike in all three
		{"-1 -2 0; -3 -2 0; 0 -1 0; 5 -9 0;", "0 -1 0; -3 -2 0; -1 -2 0; 5 -9 0;", "0 -1 0; -3 -2 0; -1 -2 0; 5 -9 0;"},
		{"1 9223372036854775807 0; 2 -9223372036854775808 0; 3 -1 0;", "1 9223372036854775807 0; 3 -1 0; 2 -9223372036854775808 0;", "1 9223372036854775807 0; 3 -1 0; 2 -9223372036854775808 0;"},
		{"9223372036854775807 0 0; -9223372036854775808 0 0; 1 0 0;", "-9223372036854775808 0 0; 1 0 0; 9223372036854775807 0 0;", "-9223372036854775808 0 0; 1 0 0; 9223372036854775807 0 0;"},
		{"1 0 100000000000000000001/100000000000000000000; 2 0 1; 3 0 100000000000000000000;", "2 0 1; 1 0 100000000000000000001/100000000000000000000; 3 0 100000000000000000000;", "2 0 1; 1 0 100000000000000000001/100000000000000000000; 3 0 100000000000000000000;"},
	} {
		for order, want := range []string{c.best, c.deep} {
			if got := popped(filled(t, order, c.nodes)); got != want {
				t.Errorf("%d, %s: %s, not %s", order, c.nodes, got, want)
			}
		}
	}
}

// P20.1: what waits has its Least in its one form, whatever form it was handed in.
func TestForm(t *testing.T) {
	for order := range 2 {
		q := filled(t, order, "")
		q.Push(api.Node{Id: 1, Least: api.Rat{Num: api.Int{Neg: true, Abs: []uint64{6, 0}}, Den: []uint64{4, 0}}})
		q.Push(api.Node{Id: 2, Least: api.Rat{Num: api.Int{Neg: true}}})
		q.Push(api.Node{Id: 3, Least: api.Rat{Num: api.Int{Abs: []uint64{5}}, Den: []uint64{0}}})
		q.Push(api.Node{Id: 0, Least: api.Rat{Num: api.Int{Neg: true, Abs: []uint64{3}}, Den: []uint64{2}}})
		if least, _ := q.Least(); tell.OfRat(least) != "-3/2" {
			t.Errorf("%s", tell.OfRat(least))
		}
		if got, want := popped(q), "0 0 -3/2; 1 0 -3/2; 2 0 0; 3 0 5;"; got != want {
			t.Errorf("%s, not %s", got, want)
		}
	}
}

// P20.1, P20.2: Len, Least and what comes, as nodes go and come.
func TestTurns(t *testing.T) {
	for order, c := range [][2]string{{"2 0 1; 1 3 2; 3 4 7/2; 4 1 4;", "1 2 7/2 4"}, {"3 4 7/2; 1 3 2; 4 1 4; 2 0 1;", "1 1 1 1"}} {
		q := filled(t, order, "1 3 2; 2 0 1; 3 4 7/2; 4 1 4;")
		for i, n := range tell.Nodes(c[0]) {
			least, found := q.Least()
			if again, _ := q.Least(); !found || q.Len() != 4-i || rat.Cmp(least, tell.Rats(c[1])[i]) != 0 || rat.Cmp(again, least) != 0 {
				t.Errorf("%d, %d: %s, %v, %d", order, i, tell.OfRat(least), found, q.Len())
			}
			if got, found := q.Pop(); !found || tell.OfNodes([]api.Node{got}) != tell.OfNodes([]api.Node{n}) {
				t.Errorf("%d, %d: %v, %v", order, i, got, found)
			}
		}
	}
	q := filled(t, api.DeepFirst, "1 1 5; 2 2 5;")
	q.Pop()
	q.Push(tell.Nodes("3 7 9;")[0])
	q.Push(tell.Nodes("4 0 1;")[0])
	if least, _ := q.Least(); tell.OfRat(least) != "1" || q.Len() != 3 || popped(q) != "3 7 9; 1 1 5; 4 0 1;" {
		t.Errorf("%s", tell.OfRat(least))
	}
}

// P20.2: those go that can't cost less, the others stay in their order.
func TestPrune(t *testing.T) {
	all := "8 0 1; 3 1 2; 5 2 3; 3 3 2; -4 4 5/2; 1 5 1;"
	for _, c := range []struct {
		limit      string
		ids        []int
		best, deep string
	}{
		{"4", nil, "1 5 1; 8 0 1; 3 3 2; 3 1 2; -4 4 5/2; 5 2 3;", "1 5 1; -4 4 5/2; 3 3 2; 5 2 3; 3 1 2; 8 0 1;"},
		{"3", []int{5}, "1 5 1; 8 0 1; 3 3 2; 3 1 2; -4 4 5/2;", "1 5 1; -4 4 5/2; 3 3 2; 3 1 2; 8 0 1;"}, // one that costs as much goes
		{"5/2", []int{-4, 5}, "1 5 1; 8 0 1; 3 3 2; 3 1 2;", "1 5 1; 3 3 2; 3 1 2; 8 0 1;"},
		{"2", []int{-4, 3, 3, 5}, "1 5 1; 8 0 1;", "1 5 1; 8 0 1;"}, // each as often as there were such
		{"4/3", []int{-4, 3, 3, 5}, "1 5 1; 8 0 1;", "1 5 1; 8 0 1;"},
		{"1", []int{-4, 1, 3, 3, 5, 8}, "", ""}, {"-100000000000000000000", []int{-4, 1, 3, 3, 5, 8}, "", ""},
	} {
		for order, want := range []string{c.best, c.deep} {
			q := filled(t, order, all)
			if ids := q.Prune(tell.Rat(c.limit)); !slices.Equal(ids, c.ids) || q.Len() != 6-len(ids) {
				t.Errorf("%d, %s: %v, not %v; %d", order, c.limit, ids, c.ids, q.Len())
			}
			if ids := q.Prune(tell.Rat(c.limit)); len(ids) != 0 {
				t.Errorf("%d, %s: once more %v", order, c.limit, ids)
			}
			if got := popped(q); got != want {
				t.Errorf("%d, %s: %s, not %s", order, c.limit, got, want)
			}
		}
	}
	q := filled(t, api.BestFirst, "2 0 -1; 1 0 1/2; 3 0 0; -9223372036854775808 0 7; 9223372036854775807 0 7;")
	if ids := q.Prune(api.Rat{}); !slices.Equal(ids, []int{math.MinInt, 1, 3, math.MaxInt}) || popped(q) != "2 0 -1;" { // no words are 0
		t.Errorf("%v", ids)
	}
}

// P20.3: what is handed in stays as it was, and is not kept; answers are new memory.
func TestOwnMemory(t *testing.T) {
	for order := range 2 {
		q, other := filled(t, order, ""), filled(t, order, "")
		handed, limit := tell.Nodes("1 0 5/3; 2 0 7/3; 3 0 10/3;"), tell.Rat("3")
		for _, n := range handed {
			q.Push(n)
			other.Push(n)
		}
		if ids := q.Prune(limit); !slices.Equal(ids, []int{3}) || tell.OfRat(limit) != "3" || tell.OfNodes(handed) != "1 0 5/3; 2 0 7/3; 3 0 10/3;" {
			t.Errorf("%v, %s, %s", ids, tell.OfRat(limit), tell.OfNodes(handed))
		}
		for _, n := range handed {
			wipe(n.Least)
		}
		wipe(limit)
		least, _ := q.Least()
		wipe(least)
		first, _ := q.Pop()
		if tell.OfNodes([]api.Node{first}) != "1 0 5/3;" {
			t.Errorf("%d: %v", order, first)
		}
		wipe(first.Least)
		if got := popped(q) + popped(other); got != "2 0 7/3;1 0 5/3; 2 0 7/3; 3 0 10/3;" {
			t.Errorf("%d: became %s", order, got)
		}
	}
}

// wipe writes over a number, its spare room too.
func wipe(a api.Rat) {
	for _, words := range [][]uint64{a.Num.Abs, a.Den} {
		words = words[:cap(words)]
		for i := range words {
			words[i] = 99
		}
	}
}

// P20.1, P20.2: many nodes.
func TestMany(t *testing.T) {
	const many = 40000
	for order := range 2 {
		q := filled(t, order, "")
		for i := range many {
			q.Push(api.Node{Id: i, Depth: i * 7919 % 101, Least: rat.Whole(int64(i * 104729 % many))})
		}
		if ids := q.Prune(rat.Whole(many / 2)); len(ids) != many/2 || !slices.IsSorted(ids) || q.Len() != many/2 {
			t.Fatalf("%d: %d went, %d stay", order, len(ids), q.Len())
		}
		last, _ := q.Pop()
		for n, found := q.Pop(); found; n, found = q.Pop() {
			by := rat.Cmp(last.Least, n.Least)
			if order == api.BestFirst && by >= 0 || order == api.DeepFirst && (last.Depth < n.Depth || last.Depth == n.Depth && by >= 0) {
				t.Fatalf("%d: %v behind %v", order, n, last)
			}
			last = n
		}
		if q.Len() != 0 {
			t.Errorf("%d: %d", order, q.Len())
		}
	}
}
