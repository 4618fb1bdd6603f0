package mps_test

import (
	"slices"
	"strings"

	"cutwater/api"
	"cutwater/fields"
	"cutwater/rat"
	"cutwater/ratext"
)

// other is another reader of problems. What stood already it keeps as words with blanks between, and it finds by these what is wrong with a line.
type other struct {
	stood   []string // sections, "name", "obj", "row", "col", "whole" and the like, with what they have behind them
	section string
	line    []string
}

// first gives the first error that holds; there is an error behind each bool.
func first(list ...any) api.Errno {
	for i := 0; i < len(list); i += 2 {
		if list[i].(bool) {
			return list[i+1].(api.Errno)
		}
	}
	return api.OK
}

// all gives what stands behind such words.
func (o *other) all(words ...string) []string {
	var out []string
	for _, s := range o.stood {
		if rest, found := strings.CutPrefix(s, strings.Join(words, " ")+" "); found {
			out = append(out, rest)
		}
	}
	return out
}

// has tells whether these words stood.
func (o *other) has(words ...string) bool {
	return slices.Contains(o.stood, strings.Join(words, " "))
}

// put keeps words.
func (o *other) put(words ...string) { o.stood = append(o.stood, strings.Join(words, " ")) }

// word gives a word of the line; an empty one, if it has none there.
func (o *other) word(i int) string {
	if i < len(o.line) {
		return o.line[i]
	}
	return ""
}

// open tells whether whole variables weren't ended.
func (o *other) open() bool { return len(o.all("org")) > len(o.all("end")) }

// head reads a line with Head.
func (o *other) head() api.Errno {
	first3 := map[string]string{"NAME": "", "ROWS": "NAME", "COLUMNS": "ROWS"}
	next := o.word(0)
	must, early := first3[next]
	behind, late := map[string]string{"RHS": "RHS RANGES BOUNDS", "RANGES": "RANGES BOUNDS", "BOUNDS": "BOUNDS", "ENDATA": ""}[next]
	e := first(!early && !late, api.ErrSection, early && o.section != must, api.ErrSection, late && !o.has("COLUMNS"), api.ErrSection, o.has("ENDATA"), api.ErrSection,
		late && slices.ContainsFunc(strings.Fields(behind), func(s string) bool { return o.has(s) }), api.ErrSection,
		len(o.line) > 2 || len(o.line) == 2 && next != "NAME", api.ErrField, len(o.word(1)) > 32, api.ErrName,
		next == "COLUMNS" && len(o.all("obj")) == 0, api.ErrUnknown, o.open(), api.ErrMark)
	if next == "NAME" {
		o.put("name", o.word(1))
	}
	o.section = next
	o.put(next)
	return e
}

// row reads a line of ROWS.
func (o *other) row() api.Errno {
	kind, name := o.word(0), o.word(1)
	e := first(len(o.line) != 2, api.ErrField, len(kind) != 1 || !strings.Contains("NLGE", kind), api.ErrKind, len(name) > 32 || name == "'MARKER'", api.ErrName,
		o.has("named", name) || kind == "N" && len(o.all("obj")) > 0, api.ErrTwice, kind != "N" && len(o.all("row")) == 60, api.ErrMany)
	o.put("named", name)
	if kind == "N" {
		o.put("obj", name)
	} else {
		o.put("row", kind, name)
	}
	return e
}

// column reads a line of COLUMNS.
func (o *other) column() api.Errno {
	name := o.word(0)
	if len(o.line) == 3 && o.word(1) == "'MARKER'" {
		kinds := map[string]string{"'INTORG'": "org", "'INTEND'": "end"}
		kind := kinds[o.word(2)]
		e := first(kind == "", api.ErrMark, kind == "org" && o.open(), api.ErrMark, kind == "end" && !o.open(), api.ErrMark)
		o.put(kind, "here")
		return e
	}
	cols := o.all("col")
	again := len(cols) > 0 && cols[len(cols)-1] == name
	e := first(len(o.line) != 3 && len(o.line) != 5, api.ErrField, len(name) > 32, api.ErrName, slices.Contains(cols, name) && !again, api.ErrTwice, len(cols) == 40 && !again, api.ErrMany)
	if !again {
		o.put("col", name)
	}
	if !again && o.open() {
		o.put("whole", name)
	}
	return first(e != api.OK, e, true, o.pairs("in", name))
}

// pairs reads a line's pairs of names and numbers.
func (o *other) pairs(key ...string) api.Errno {
	for i := 1; i < len(o.line); i += 2 {
		name, number := o.line[i], o.word(i+1)
		_, wrong := ratext.Parse(number)
		known := o.has("named", name) && (o.section == "COLUMNS" || !o.has("obj", name))
		words := append(slices.Clone(key), name)
		e := first(!known, api.ErrUnknown, len(o.all(words...)) > 0, api.ErrTwice, wrong != api.OK, api.ErrNumber)
		if e != api.OK {
			return e
		}
		o.put(append(words, number)...)
	}
	return api.OK
}

// bound reads a line of BOUNDS.
func (o *other) bound() api.Errno {
	kind, name := o.word(0), o.word(2)
	four := strings.Contains(" UP LO FX ", " "+kind+" ")
	_, wrong := ratext.Parse(o.word(3))
	does := func(kind, what string) bool {
		return strings.Contains(map[string]string{"lo": " LO FX FR MI BV ", "hi": " UP FX FR PL BV "}[what], " "+kind+" ")
	}
	twice := func(what string) bool {
		return does(kind, what) && slices.ContainsFunc(o.all("bound", name), func(s string) bool { return does(strings.Fields(s)[0], what) })
	}
	e := first(!does(kind, "lo") && !does(kind, "hi"), api.ErrKind, four && len(o.line) != 4 || !four && len(o.line) != 3, api.ErrField,
		!slices.Contains(o.all("col"), name), api.ErrUnknown, four && wrong != api.OK, api.ErrNumber, twice("lo") || twice("hi"), api.ErrTwice)
	o.put("bound", name, kind, o.word(3))
	if kind == "BV" {
		o.put("whole", name)
	}
	return e
}

// number gives the number behind words; 0, if there is none.
func (o *other) number(words ...string) api.Rat {
	for _, s := range o.all(words...) {
		a, _ := ratext.Parse(s)
		return a
	}
	return rat.Whole(0)
}

// problem tells the problem, as of does.
func (o *other) problem() string {
	p := api.Problem{Name: strings.Join(o.all("name"), ""), Obj: o.all("obj")[0]}
	for _, s := range o.all("row") {
		kind, name := s[:1], s[2:]
		r, t := o.number("rhs", name), o.number("range", name)
		has := len(o.all("range", name)) > 0
		low, high := rat.Sub(r, t), rat.Add(r, t)
		if rat.Cmp(low, high) > 0 {
			low, high = high, low
		}
		down := kind == "L" || kind == "E" && rat.Cmp(t, rat.Whole(0)) < 0
		row := api.Row{Name: name, HasLo: true, HasHi: true, Lo: r, Hi: r}
		switch {
		case kind == "L" && !has:
			row.HasLo, row.Lo = false, rat.Whole(0)
		case kind == "G" && !has:
			row.HasHi, row.Hi = false, rat.Whole(0)
		case down:
			row.Lo = low
		default:
			row.Hi = high
		}
		for i, col := range o.all("col") {
			if a := o.number("in", col, name); rat.Sign(a) != 0 {
				row.Terms = append(row.Terms, api.Term{Col: i, Val: a})
			}
		}
		p.Rows = append(p.Rows, row)
	}
	for _, col := range o.all("col") {
		v := api.Var{Name: col, Whole: o.has("whole", col), HasLo: true, Lo: rat.Whole(0), Hi: rat.Whole(0), Cost: o.number("in", col, p.Obj)}
		for _, s := range o.all("bound", col) {
			kind := s[:2]
			a, _ := ratext.Parse(strings.TrimSpace(s[2:]))
			switch kind {
			case "UP":
				v.HasHi, v.Hi = true, a
			case "LO":
				v.Lo = a
			case "FX":
				v.HasHi, v.Lo, v.Hi = true, a, a
			case "MI", "FR":
				v.HasLo = false
			case "BV":
				v.HasHi, v.Hi = true, rat.Whole(1)
			}
		}
		p.Vars = append(p.Vars, v)
	}
	return of(p)
}

// readOther reads a text's lines, and tells the problem.
func readOther(text string) (string, api.Errno, int) {
	list, e, no := fields.Lines(text)
	if e != api.OK {
		return "", e, no
	}
	o := &other{}
	for _, line := range list {
		o.line = line.Words
		switch {
		case line.Head:
			e = o.head()
		case o.section == "ROWS":
			e = o.row()
		case o.section == "COLUMNS":
			e = o.column()
		case o.section == "RHS":
			e = first(len(line.Words) != 3 && len(line.Words) != 5, api.ErrField, true, o.pairs("rhs"))
		case o.section == "RANGES":
			e = first(len(line.Words) != 3 && len(line.Words) != 5, api.ErrField, true, o.pairs("range"))
		case o.section == "BOUNDS":
			e = o.bound()
		default:
			e = api.ErrSection
		}
		if e != api.OK {
			return "", e, line.No
		}
	}
	if !o.has("ENDATA") {
		return "", api.ErrSection, no + 1
	}
	return o.problem(), api.OK, 0
}
