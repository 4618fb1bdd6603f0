// Package tell reads and writes numbers, vectors, matrices, constraints, problems, linear problems, nodes and certificates as short texts, gives them in other forms, and some by chance: the tests of the layers say by it what they mean. No layer calls it.
//
// A vector is told as 1/2@0 -3@5, each number with its place; a matrix as 1@0; -3@5 7@6; with a semicolon behind each row; a constraint as 1/2@0 -3@5 <= 7, and a list of them likewise with semicolons.
package tell

import (
	"strconv"
	"strings"

	"cutwater/api"
	"cutwater/oneform"
	"cutwater/ratext"
	"cutwater/vec"
)

// Rat reads a number.
func Rat(s string) api.Rat {
	a, e := ratext.Parse(s)
	if e != api.OK {
		panic("not a number: " + s)
	}
	return a
}

// Rats reads a list of numbers.
func Rats(s string) []api.Rat {
	var out []api.Rat
	for _, word := range strings.Fields(s) {
		out = append(out, Rat(word))
	}
	return out
}

// Vec reads a vector's terms, in their order.
func Vec(s string) []api.Term {
	var out []api.Term
	for _, word := range strings.Fields(s) {
		number, place, _ := strings.Cut(word, "@")
		col, err := strconv.Atoi(place)
		if err != nil {
			panic("not a term: " + word)
		}
		out = append(out, api.Term{Col: col, Val: Rat(number)})
	}
	return out
}

// Rows reads a matrix.
func Rows(s string) [][]api.Term {
	var out [][]api.Term
	for _, row := range parts(s) {
		out = append(out, Vec(row))
	}
	return out
}

// parts gives what stands ahead of each semicolon.
func parts(s string) []string {
	list := strings.Split(s, ";")
	return list[:len(list)-1]
}

// Gather gives lists of numbers as vectors in their one form.
func Gather(lists [][]api.Rat) [][]api.Term {
	var out [][]api.Term
	for _, list := range lists {
		out = append(out, vec.Gather(list))
	}
	return out
}

// OfRat writes a number; behind one that isn't in its one form stands a question mark.
func OfRat(a api.Rat) string {
	if oneform.Number(a) {
		return ratext.Text(a)
	}
	return ratext.Text(a) + "?"
}

// OfRats writes a list of numbers.
func OfRats(x []api.Rat) string {
	var words []string
	for _, a := range x {
		words = append(words, OfRat(a))
	}
	return strings.Join(words, " ")
}

// OfVec writes a vector's terms, in their order.
func OfVec(v []api.Term) string {
	var words []string
	for _, t := range v {
		words = append(words, OfRat(t.Val)+"@"+strconv.Itoa(t.Col))
	}
	return strings.Join(words, " ")
}

// OfRows writes a matrix.
func OfRows(rows [][]api.Term) string {
	var words []string
	for _, row := range rows {
		words = append(words, OfVec(row)+";")
	}
	return strings.Join(words, " ")
}
