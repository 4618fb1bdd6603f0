package tell

import (
	"slices"
	"strconv"
	"strings"

	"cutwater/api"
)

// senses gives the words of the senses, each at its number's place.
func senses() []string { return []string{api.AtMost: "<=", api.AtLeast: ">=", api.Equal: "="} }

// sense reads a sense; one that is none is told by its number.
func sense(word string) int {
	if i := slices.Index(senses(), word); i >= 0 {
		return i
	}
	n, err := strconv.Atoi(word)
	if err != nil {
		panic("not a sense: " + word)
	}
	return n
}

// ofSense writes a sense.
func ofSense(n int) string {
	if n >= api.AtMost && n <= api.Equal {
		return senses()[n]
	}
	return strconv.Itoa(n)
}

// Cons reads a constraint.
func Cons(s string) api.Cons {
	words := strings.Fields(s)
	last := len(words) - 1
	if last < 1 {
		panic("not a constraint: " + s)
	}
	return api.Cons{Sense: sense(words[last-1]), Terms: Vec(strings.Join(words[:last-1], " ")), Rhs: Rat(words[last])}
}

// ConsList reads a list of constraints.
func ConsList(s string) []api.Cons {
	var out []api.Cons
	for _, c := range parts(s) {
		out = append(out, Cons(c))
	}
	return out
}

// OfCons writes a constraint, its terms in their order.
func OfCons(c api.Cons) string {
	return strings.TrimSpace(OfVec(c.Terms) + " " + ofSense(c.Sense) + " " + OfRat(c.Rhs))
}

// OfConsList writes a list of constraints.
func OfConsList(list []api.Cons) string {
	var words []string
	for _, c := range list {
		words = append(words, OfCons(c)+";")
	}
	return strings.Join(words, " ")
}
