package mps

import (
	"strings"

	"cutwater/api"
	"cutwater/rat"
	"cutwater/ratext"
	"cutwater/vec"
)

// writer has the lines written so far.
type writer struct {
	text strings.Builder
	long bool // a number has too many digits
}

// write gives a problem's text, if there is nothing wrong with it; the text may be too long.
func write(p api.Problem) (string, api.Errno) {
	if !right(p) {
		return "", api.ErrArg
	}
	var w writer
	if p.Name == "" {
		w.head("NAME")
	} else {
		w.head("NAME", p.Name)
	}
	w.rows(p)
	w.columns(p)
	w.sides(p.Rows)
	w.bounds(p.Vars)
	w.head("ENDATA")
	if w.long {
		return "", api.ErrLong
	}
	return w.text.String(), api.OK
}

// head writes a section's first line.
func (w *writer) head(words ...string) {
	w.text.WriteString(strings.Join(words, " ") + "\n")
}

// line writes another line.
func (w *writer) line(words ...string) {
	w.text.WriteString(" " + strings.Join(words, " ") + "\n")
}

// number gives a number's word.
func (w *writer) number(a api.Rat) string {
	s := ratext.Text(a)
	_, e := ratext.Parse(s)
	w.long = w.long || e == api.ErrLong
	return s
}

// rows writes ROWS.
func (w *writer) rows(p api.Problem) {
	w.head("ROWS")
	w.line("N", p.Obj)
	for _, r := range p.Rows {
		switch {
		case !r.HasLo:
			w.line("L", r.Name)
		case r.HasHi && rat.Cmp(r.Lo, r.Hi) == 0:
			w.line("E", r.Name)
		default:
			w.line("G", r.Name)
		}
	}
}

// columns writes COLUMNS.
func (w *writer) columns(p api.Problem) {
	w.head("COLUMNS")
	whole := false
	for place, v := range p.Vars {
		w.mark(whole, v.Whole)
		whole = v.Whole
		w.column(p, place)
	}
	w.mark(whole, false)
}

// mark writes where whole variables begin, or end.
func (w *writer) mark(was, is bool) {
	if is && !was {
		w.line("M", marker, begins)
	}
	if was && !is {
		w.line("M", marker, ends)
	}
}

// column writes a variable's numbers; at least one, for else its name would stand nowhere.
func (w *writer) column(p api.Problem, place int) {
	v := p.Vars[place]
	var list []api.Rat
	for _, r := range p.Rows {
		list = append(list, vec.Get(r.Terms, place))
	}
	terms := vec.Gather(list)
	if rat.Sign(v.Cost) != 0 || len(terms) == 0 {
		w.line(v.Name, p.Obj, w.number(v.Cost))
	}
	for _, t := range terms {
		w.line(v.Name, p.Rows[t.Col].Name, w.number(t.Val))
	}
}

// sides writes RHS and, if a row has two bounds that are unlike, RANGES.
func (w *writer) sides(rows []api.Row) {
	w.head("RHS")
	var ranged []api.Row
	for _, r := range rows {
		rhs := r.Lo
		if !r.HasLo {
			rhs = r.Hi
		}
		if rat.Sign(rhs) != 0 {
			w.line("RHS", r.Name, w.number(rhs))
		}
		if r.HasLo && r.HasHi && rat.Cmp(r.Lo, r.Hi) != 0 {
			ranged = append(ranged, r)
		}
	}
	if len(ranged) > 0 {
		w.head("RANGES")
	}
	for _, r := range ranged {
		w.line("RHS", r.Name, w.number(rat.Sub(r.Hi, r.Lo)))
	}
}

// bounds writes BOUNDS.
func (w *writer) bounds(vars []api.Var) {
	w.head("BOUNDS")
	for _, v := range vars {
		switch {
		case !v.HasLo && !v.HasHi:
			w.line("FR", "B", v.Name)
		case !v.HasLo:
			w.line("MI", "B", v.Name)
		case rat.Sign(v.Lo) != 0:
			w.line("LO", "B", v.Name, w.number(v.Lo))
		}
		if v.HasHi {
			w.line("UP", "B", v.Name, w.number(v.Hi))
		}
	}
}
