package tell

import (
	"slices"
	"strconv"
	"strings"

	"cutwater/api"
)

// senses gives the words of the senses, each at its number's place.
func senses() []string { return []string{api.AtMost: "<=", api.AtLeast: ">=", api.Equal: "="} }

// kind reads the number at whose place a word stands; one that has no word is told by itself.
func kind(list []string, word string) int {
	if i := slices.Index(list, word); i >= 0 {
		return i
	}
	return Whole(word)
}

// ofKind writes such a number.
func ofKind(list []string, n int) string {
	if n > 0 && n < len(list) {
		return list[n]
	}
	return strconv.Itoa(n)
}

// Whole reads a whole number.
func Whole(word string) int {
	n, err := strconv.Atoi(word)
	if err != nil {
		panic("not a whole number: " + word)
	}
	return n
}

// Cons reads a constraint.
func Cons(s string) api.Cons {
	words := strings.Fields(s)
	last := len(words) - 1
	if last < 1 {
		panic("not a constraint: " + s)
	}
	return api.Cons{Sense: kind(senses(), words[last-1]), Terms: Vec(strings.Join(words[:last-1], " ")), Rhs: Rat(words[last])}
}

// ConsList reads a list of constraints.
func ConsList(s string) []api.Cons {
	var out []api.Cons
	for _, c := range parts(s) {
		out = append(out, Cons(c))
	}
	return out
}

// OfCons writes a constraint, its terms in their order.
func OfCons(c api.Cons) string {
	return strings.TrimSpace(OfVec(c.Terms) + " " + ofKind(senses(), c.Sense) + " " + OfRat(c.Rhs))
}

// OfConsList writes a list of constraints.
func OfConsList(list []api.Cons) string {
	var words []string
	for _, c := range list {
		words = append(words, OfCons(c)+";")
	}
	return strings.Join(words, " ")
}
