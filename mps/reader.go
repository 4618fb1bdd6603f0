package mps

import (
	"slices"

	"cutwater/api"
	"cutwater/fields"
	"cutwater/ratext"
)

// Where a reader is.
const (
	ahead = iota // of all sections
	inName
	inRows
	inColumns
	inRHS
	inRanges
	inBounds
	ended
)

// section gives where the word leads that begins a section; another word nowhere, which is ahead.
func section(word string) int {
	return 1 + slices.Index([]string{"NAME", "ROWS", "COLUMNS", "RHS", "RANGES", "BOUNDS", "ENDATA"}, word)
}

// row is a line of ROWS.
type row struct{ kind, name string }

// column is a variable.
type column struct {
	name   string
	whole  bool
	lo, hi side
}

// pair is what has a number: a row, in COLUMNS with a column, in RHS and RANGES without (col is 0 there).
type pair struct{ section, col, row int }

// reader has what the lines told so far.
type reader struct {
	now     int // the section
	whole   bool
	name    string
	rows    []row // the objective among them
	cols    []column
	places  map[string]int // of columns, by their names
	numbers map[pair]api.Rat
}

// read goes through a text's lines.
func read(text string) (*reader, error) {
	lines, e, no := fields.Lines(text)
	if e != api.OK {
		return nil, fault{no, e}
	}
	r := &reader{places: map[string]int{}, numbers: map[pair]api.Rat{}}
	for _, line := range lines {
		if e := r.line(line); e != api.OK {
			return nil, fault{line.No, e}
		}
	}
	if r.now != ended {
		return nil, fault{no + 1, api.ErrSection}
	}
	return r, nil
}

// line reads a line.
func (r *reader) line(line api.Line) api.Errno {
	if line.Head {
		return r.begin(line.Words)
	}
	switch r.now {
	case inRows:
		return r.row(line.Words)
	case inColumns:
		return r.column(line.Words)
	case inRHS, inRanges:
		return r.side(line.Words)
	case inBounds:
		return r.bound(line.Words)
	}
	return api.ErrSection
}

// begin reads a section's first line.
func (r *reader) begin(words []string) api.Errno {
	last, next, most := r.now, section(words[0]), 1
	if next == inName {
		most = 2
	}
	switch {
	case next != last+1 && (next <= last || last < inColumns): // all sections up to COLUMNS must stand there
		return api.ErrSection
	case len(words) > most:
		return api.ErrField
	case len(words) == 2 && len(words[1]) > api.MaxName:
		return api.ErrName
	case next == inColumns && r.objective() < 0:
		return api.ErrUnknown
	case r.whole:
		return api.ErrMark
	}
	if len(words) == 2 {
		r.name = words[1]
	}
	r.now = next
	return api.OK
}

// seek gives the place of the first row of which is holds; -1, if there is none.
func (r *reader) seek(is func(row) bool) int { return slices.IndexFunc(r.rows, is) }

// objective gives its place among the rows; -1, if it isn't there.
func (r *reader) objective() int {
	return r.seek(func(w row) bool { return w.kind == "N" })
}

// named gives the place of the row of that name; -1, if there is none.
func (r *reader) named(name string) int {
	return r.seek(func(w row) bool { return w.name == name })
}

// row reads a line of ROWS.
func (r *reader) row(words []string) api.Errno {
	if len(words) != 2 {
		return api.ErrField
	}
	kind, name := words[0], words[1]
	objective, others := r.objective(), len(r.rows)
	if objective >= 0 {
		others--
	}
	switch {
	case !slices.Contains([]string{"N", "L", "G", "E"}, kind):
		return api.ErrKind
	case len(name) > api.MaxName || name == marker:
		return api.ErrName
	case r.named(name) >= 0 || kind == "N" && objective >= 0:
		return api.ErrTwice
	case kind != "N" && others == api.MaxRows:
		return api.ErrMany
	}
	r.rows = append(r.rows, row{kind, name})
	return api.OK
}

// column reads a line of COLUMNS.
func (r *reader) column(words []string) api.Errno {
	if len(words) == 3 && words[1] == marker {
		return r.mark(words[2])
	}
	if len(words) != 3 && len(words) != 5 {
		return api.ErrField
	}
	if e := r.open(words[0]); e != api.OK {
		return e
	}
	return r.pairs(len(r.cols)-1, words[1:])
}

// mark begins whole variables, or ends them.
func (r *reader) mark(word string) api.Errno {
	if word != begins && word != ends || r.whole != (word == ends) {
		return api.ErrMark
	}
	r.whole = word == begins
	return api.OK
}

// open makes the column of that name the last one, if it isn't that already.
func (r *reader) open(name string) api.Errno {
	place, known := r.places[name]
	switch {
	case len(name) > api.MaxName:
		return api.ErrName
	case known && place != len(r.cols)-1:
		return api.ErrTwice
	case known:
		return api.OK
	case len(r.cols) == api.MaxCols:
		return api.ErrMany
	}
	r.places[name] = len(r.cols)
	r.cols = append(r.cols, column{name: name, whole: r.whole, lo: side{has: true}})
	return api.OK
}

// side reads a line of RHS or RANGES.
func (r *reader) side(words []string) api.Errno {
	if len(words) != 3 && len(words) != 5 {
		return api.ErrField
	}
	return r.pairs(0, words[1:])
}

// pairs reads pairs of a row's name and a number.
func (r *reader) pairs(col int, words []string) api.Errno {
	for two := range slices.Chunk(words, 2) {
		place := r.named(two[0])
		if place < 0 || place == r.objective() && r.now != inColumns {
			return api.ErrUnknown
		}
		key := pair{r.now, col, place}
		if _, twice := r.numbers[key]; twice {
			return api.ErrTwice
		}
		a, e := ratext.Parse(two[1])
		if e != api.OK {
			return api.ErrNumber
		}
		r.numbers[key] = a
	}
	return api.OK
}

// bound reads a line of BOUNDS.
func (r *reader) bound(words []string) api.Errno {
	kind := words[0]
	n := wordsOf(kind)
	if n == 0 {
		return api.ErrKind
	}
	if len(words) != n {
		return api.ErrField
	}
	place, known := r.places[words[2]]
	if !known {
		return api.ErrUnknown
	}
	var a api.Rat
	if n == 4 {
		var e api.Errno
		if a, e = ratext.Parse(words[3]); e != api.OK {
			return api.ErrNumber
		}
	}
	lo, hi := sides(kind, a)
	col := &r.cols[place]
	if lo.told && col.lo.told || hi.told && col.hi.told {
		return api.ErrTwice
	}
	col.lo, col.hi = col.lo.unless(lo), col.hi.unless(hi)
	col.whole = col.whole || kind == "BV"
	return api.OK
}
