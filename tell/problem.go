package tell

import (
	"slices"
	"strconv"
	"strings"

	"cutwater/api"
	"cutwater/rat"
)

// Problem reads a problem: its rows, as 1 7 2@0 3@1; - 4 1@0; with Lo and Hi (a dash, where there is none) ahead of the terms, and its variables, as 0 4 -1 whole; - - 1/2; with Lo, Hi, what each costs, and which ones are whole.
func Problem(rows, vars string) api.Problem {
	p := api.Problem{Obj: "cost"}
	for i, row := range parts(rows) {
		p.Rows = append(p.Rows, readRow("r"+strconv.Itoa(i), strings.Fields(row)))
	}
	for i, v := range parts(vars) {
		p.Vars = append(p.Vars, readVar("x"+strconv.Itoa(i), strings.Fields(v)))
	}
	return p
}

// readRow reads a row.
func readRow(name string, words []string) api.Row {
	w := api.Row{Name: name, Terms: Vec(strings.Join(words[2:], " "))}
	w.HasLo, w.Lo = bound(words[0])
	w.HasHi, w.Hi = bound(words[1])
	return w
}

// readVar reads a variable.
func readVar(name string, words []string) api.Var {
	v := api.Var{Name: name, Cost: Rat(words[2]), Whole: slices.Contains(words[3:], "whole")}
	v.HasLo, v.Lo = bound(words[0])
	v.HasHi, v.Hi = bound(words[1])
	return v
}

// bound reads a bound.
func bound(word string) (bool, api.Rat) {
	if word == "-" {
		return false, rat.Whole(0)
	}
	return true, Rat(word)
}
