package tell

import (
	"strings"

	"cutwater/api"
	"cutwater/oneform"
	"cutwater/rat"
)

// LP reads a linear problem: its variables, as 0 4 -1 2@0 3@1; - - 1/2; with Lo and Hi (a dash, where there is none), what each costs, and its column; and its rows, as - 3; with their bounds alone.
func LP(vars, rows string) api.LP {
	var l api.LP
	add := func(words []string, col []api.Term, cost api.Rat) {
		hasLo, lo := bound(words[0])
		hasHi, hi := bound(words[1])
		l.HasLo, l.Lo, l.HasHi, l.Hi = append(l.HasLo, hasLo), append(l.Lo, lo), append(l.HasHi, hasHi), append(l.Hi, hi)
		l.Cols, l.Cost = append(l.Cols, col), append(l.Cost, cost)
	}
	for _, v := range parts(vars) {
		words := strings.Fields(v)
		l.N++
		add(words, Vec(strings.Join(words[3:], " ")), Rat(words[2]))
	}
	for place, row := range parts(rows) {
		add(strings.Fields(row), []api.Term{{Col: place, Val: rat.Whole(-1)}}, rat.Whole(0))
	}
	return l
}

// OfLP writes a linear problem: its variables, a bar, and its rows, behind whose bounds stands what their columns have or cost that they shouldn't.
func OfLP(l api.LP) string {
	words := []string(nil)
	for col, terms := range l.Cols {
		if col == l.N {
			words = append(words, "|")
		}
		more := " " + OfRat(l.Cost[col]) + " " + OfVec(terms)
		if col >= l.N && more == " 0 "+OfVec([]api.Term{{Col: col - l.N, Val: rat.Whole(-1)}}) {
			more = ""
		}
		words = append(words, ofBound(l.HasLo[col], l.Lo[col])+" "+strings.TrimSpace(ofBound(l.HasHi[col], l.Hi[col])+more)+";")
	}
	if l.N == len(l.Cols) {
		words = append(words, "|")
	}
	return strings.Join(words, " ")
}

// ofBound writes a bound; of one that isn't there and isn't 0 also the number.
func ofBound(has bool, a api.Rat) string {
	switch {
	case has:
		return OfRat(a)
	case oneform.Number(a) && rat.Sign(a) == 0:
		return "-"
	}
	return "-" + OfRat(a)
}

// letters are those of the ways in which a column stands, each at its number's place.
const letters = "?lhbf"

// Status reads how columns stand: a letter each, l at Lo, h at Hi, b in the basis, f free.
func Status(s string) []int {
	var out []int
	for _, letter := range s {
		out = append(out, strings.IndexRune(letters, letter))
	}
	return out
}

// OfStatus writes how columns stand.
func OfStatus(list []int) string {
	out := ""
	for _, stands := range list {
		if stands < 0 || stands >= len(letters) {
			stands = 0
		}
		out += letters[stands : stands+1]
	}
	return out
}

// Uses reads uses of bounds: 1/2@3l -1@0h are half of the Lo of the column 3, and the Hi of the column 0, -1 times.
func Uses(s string) []api.Use {
	var out []api.Use
	for _, word := range strings.Fields(s) {
		last := len(word) - 1
		term := Vec(word[:last])[0]
		out = append(out, api.Use{Col: term.Col, Upper: word[last:] == "h", Often: term.Val})
	}
	return out
}

// OfUses writes uses of bounds.
func OfUses(list []api.Use) string {
	var words []string
	for _, u := range list {
		side := "l"
		if u.Upper {
			side = "h"
		}
		words = append(words, OfVec([]api.Term{{Col: u.Col, Val: u.Often}})+side)
	}
	return strings.Join(words, " ")
}
