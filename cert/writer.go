package cert

import (
	"slices"
	"strconv"
	"strings"

	"cutwater/api"
	"cutwater/ratext"
)

// writer writes lines of words.
type writer struct{ strings.Builder }

// line writes a line.
func (w *writer) line(words ...string) {
	w.WriteString(strings.Join(words, " "))
	w.WriteByte('\n')
}

// certificate writes a right certificate.
func (w *writer) certificate(c api.Cert) {
	w.line("VER", "1.0")
	w.line("VAR", strconv.Itoa(len(c.Names)))
	for _, name := range c.Names {
		w.line(name)
	}
	w.whole(c.Whole)
	w.line("OBJ", "min")
	w.line(vector(c.Obj)...)
	w.line("CON", strconv.Itoa(len(c.Cons)), "0")
	for i, a := range c.Cons {
		w.line(slices.Concat(numbered("c", i), constraint(a))...)
	}
	w.line(slices.Concat([]string{"RTP"}, claim(c))...)
	w.line("SOL", strconv.Itoa(len(c.Sols)))
	for i, v := range c.Sols {
		w.line(slices.Concat(numbered("s", i), vector(v))...)
	}
	w.line("DER", strconv.Itoa(len(c.Ders)))
	for i, d := range c.Ders {
		w.line(slices.Concat(numbered("d", i), constraint(d.Cons), []string{"{"}, reason(d), []string{"}", "-1"})...)
	}
}

// whole writes which variables are whole.
func (w *writer) whole(flags []bool) {
	var list []string
	for place, is := range flags {
		if is {
			list = append(list, strconv.Itoa(place))
		}
	}
	w.line("INT", strconv.Itoa(len(list)))
	for _, place := range list {
		w.line(place)
	}
}

// numbered gives the word that names the line of that number.
func numbered(letter string, i int) []string { return []string{letter + strconv.Itoa(i)} }

// vector gives a vector's words.
func vector(v []api.Term) []string {
	out := []string{strconv.Itoa(len(v))}
	for _, t := range v {
		out = append(out, strconv.Itoa(t.Col), ratext.Text(t.Val))
	}
	return out
}

// constraint gives a constraint's words.
func constraint(a api.Cons) []string {
	letter := []string{"L", "G", "E"}[a.Sense-api.AtMost]
	return append([]string{letter, ratext.Text(a.Rhs)}, vector(a.Terms)...)
}

// claim gives the claim's words.
func claim(c api.Cert) []string {
	if c.Claim == api.ClaimNone {
		return []string{"infeas"}
	}
	out := []string{"range", "-inf", "inf"}
	if c.HasLo {
		out[1] = ratext.Text(c.Lo)
	}
	if c.HasHi {
		out[2] = ratext.Text(c.Hi)
	}
	return out
}

// reason gives the words of a derivation's reason.
func reason(d api.Der) []string {
	switch d.Reason {
	case api.BySum:
		return append([]string{"lin"}, vector(d.Uses)...)
	case api.ByRound:
		return append([]string{"rnd"}, vector(d.Uses)...)
	case api.BySplit:
		return []string{"uns", strconv.Itoa(d.Left), strconv.Itoa(d.LeftIf), strconv.Itoa(d.Right), strconv.Itoa(d.RightIf)}
	}
	return []string{"asm"}
}
