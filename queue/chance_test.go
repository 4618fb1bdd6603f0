package queue_test

import (
	"math/big"
	"math/rand"
	"slices"
	"testing"

	"cutwater/api"
	"cutwater/queue"
	"cutwater/ratext"
	"cutwater/tell"
)

// number gives the number that a tells.
func number(a api.Rat) *big.Rat {
	out, _ := new(big.Rat).SetString(ratext.Text(a))
	return out
}

// slow is another queue: nodes in no order.
type slow struct {
	order int
	nodes []api.Node
}

// sooner tells whether a node comes ahead of another.
func (s *slow) sooner(n, m api.Node) bool {
	by := number(n.Least).Cmp(number(m.Least))
	if s.order == 1 && n.Depth != m.Depth || by == 0 && n.Depth != m.Depth {
		return n.Depth > m.Depth
	}
	if by != 0 {
		return by < 0
	}
	return n.Id < m.Id
}

// pop is another Pop.
func (s *slow) pop() []api.Node {
	if len(s.nodes) == 0 {
		return nil
	}
	first := 0
	for i, n := range s.nodes {
		if s.sooner(n, s.nodes[first]) {
			first = i
		}
	}
	out := s.nodes[first]
	s.nodes = slices.Concat(s.nodes[:first], s.nodes[first+1:])
	return []api.Node{out}
}

// least is another Least; empty, if nobody waits.
func (s *slow) least() string {
	var out *big.Rat
	for _, n := range s.nodes {
		if a := number(n.Least); out == nil || a.Cmp(out) < 0 {
			out = a
		}
	}
	if out == nil {
		return ""
	}
	return out.RatString()
}

// prune is another Prune.
func (s *slow) prune(limit api.Rat) []int {
	var ids []int
	var stay []api.Node
	for _, n := range s.nodes {
		if number(n.Least).Cmp(number(limit)) < 0 {
			stay = append(stay, n)
			continue
		}
		place, _ := slices.BinarySearch(ids, n.Id)
		ids = slices.Insert(ids, place, n.Id)
	}
	s.nodes = stay
	return ids
}

// chanceNode gives a node; many are alike in some of what they have.
func chanceNode(r *rand.Rand) api.Node {
	return api.Node{Id: r.Intn(12) - 3, Depth: r.Intn(5) - 1, Least: tell.ChanceNumber(r.Intn)}
}

// pushed puts a node into both, and writes it over then.
func (s *slow) pushed(q *queue.Queue, r *rand.Rand) {
	n := chanceNode(r)
	s.nodes = append(s.nodes, n)
	n.Least = tell.LooseRat(n.Least, r.Intn)
	q.Push(n)
	wipe(n.Least)
}

// compared takes the first nodes of both out.
func (s *slow) compared(t *testing.T, q *queue.Queue) bool {
	t.Helper()
	n, found := q.Pop()
	want := s.pop()
	if found != (len(want) == 1) || found && tell.OfNodes([]api.Node{n}) != tell.OfNodes(want) {
		t.Fatalf("%d: %v, %v, not %s", s.order, n, found, tell.OfNodes(want))
	}
	wipe(n.Least)
	return found
}

// P20.1 to P20.3: games by chance, held against another queue; what was handed in and answered is written over.
func TestByChance(t *testing.T) {
	r := rand.New(rand.NewSource(201))
	met := map[string]int{}
	for game := range 600 {
		s := slow{order: game % 2}
		q, _ := queue.New(s.order)
		for range 80 {
			switch k := r.Intn(40); {
			case k < 24:
				s.pushed(q, r)
			case k < 38:
				if s.compared(t, q) {
					met["popped"]++
				} else {
					met["nobody"]++
				}
			default:
				limit := tell.LooseRat(tell.ChanceNumber(r.Intn), r.Intn)
				want := s.prune(limit)
				if got := q.Prune(limit); !slices.Equal(got, want) {
					t.Fatalf("%d, %s: %v, not %v", s.order, ratext.Text(limit), got, want)
				}
				met["pruned"] += len(want)
				met["stayed"] += len(s.nodes)
			}
			least, found := q.Least()
			if want := s.least(); q.Len() != len(s.nodes) || found != (want != "") || found && tell.OfRat(least) != want {
				t.Fatalf("%d: %d, not %d; %v, not %s", s.order, q.Len(), len(s.nodes), least, want)
			}
			wipe(least)
		}
		for s.compared(t, q) {
		}
	}
	if met["popped"] < 5000 || met["nobody"] < 300 || met["pruned"] < 5000 || met["stayed"] < 3000 {
		t.Errorf("%v", met)
	}
}
