package lu

import "cutwater/api"

// waiting holds the columns that wait for their step, and the places that are free for one. Its choices are such that few numbers are added that weren't there: columns and places that make no work come first.
type waiting struct {
	cols   [][]api.Term
	gone   []bool // the columns that don't wait
	first  int    // none of those ahead waits
	having [][]int
	wants  []int   // of each place: how many columns that have something there wait; -1, if it isn't free
	by     [][]int // the free places by that number; one for which it is less now is found where it stood, too
	least  int     // none is less, but for 0
}

// newWaiting lets all columns wait.
func newWaiting(cols [][]api.Term) *waiting {
	n := len(cols)
	w := &waiting{cols: cols, gone: make([]bool, n), having: make([][]int, n), wants: make([]int, n), by: make([][]int, n+1), least: n + 1}
	for k, col := range cols {
		for _, t := range col {
			w.having[t.Col] = append(w.having[t.Col], k)
		}
	}
	for place, list := range w.having {
		w.stand(place, len(list))
	}
	return w
}

// stand notes how many columns want a place.
func (w *waiting) stand(place, wants int) {
	w.wants[place] = wants
	if wants > 0 {
		w.by[wants] = append(w.by[wants], place)
		w.least = min(w.least, wants)
	}
}

// next gives the next column, which waits no more; one must wait.
func (w *waiting) next() int {
	for w.least < len(w.by) {
		list := w.by[w.least]
		if len(list) == 0 {
			w.least++
			continue
		}
		place := list[len(list)-1]
		w.by[w.least] = list[:len(list)-1]
		if w.wants[place] == w.least {
			return w.leave(w.shortest(place))
		}
	}
	for w.gone[w.first] {
		w.first++
	}
	return w.leave(w.first)
}

// shortest gives of the waiting columns that have something at a place the one with the fewest terms.
func (w *waiting) shortest(place int) int {
	out := -1
	for _, k := range w.having[place] {
		if !w.gone[k] && (out < 0 || len(w.cols[k]) < len(w.cols[out])) {
			out = k
		}
	}
	return out
}

// leave lets a column wait no more, and gives it.
func (w *waiting) leave(k int) int {
	w.gone[k] = true
	for _, t := range w.cols[k] {
		if w.wants[t.Col] > 0 {
			w.stand(t.Col, w.wants[t.Col]-1)
		}
	}
	return k
}

// best gives of the places that are free that of col which the fewest columns want; it tells whether there is one.
func (w *waiting) best(col []part) (int, bool) {
	out := -1
	for _, t := range col {
		if w.wants[t.place] >= 0 && (out < 0 || w.wants[t.place] < w.wants[out]) {
			out = t.place
		}
	}
	return out, out >= 0
}

// give makes a place free no more.
func (w *waiting) give(place int) { w.wants[place] = -1 }
