package mps_test

import (
	"fmt"
	"math/rand"
	"slices"
	"strings"
	"testing"

	"cutwater/api"
	"cutwater/mps"
)

// The parts of texts in which the rest is right.
const (
	rows  = "NAME;ROWS; N cost; L a; G b; E c;"
	some  = rows + "COLUMNS; x a 1; y cost 2;"
	whole = " M 'MARKER' 'INTORG';"
	wend  = " M 'MARKER' 'INTEND';"
)

// The chapter's example, and the least problem.
func TestExamples(t *testing.T) {
	checkParse(t, "NAME;ROWS; N cost; L r1;COLUMNS; x cost -1 r1 2;RHS; RHS r1 3;BOUNDS; UP B x 4;ENDATA", "cost; r1: - 3 2@0; x= 0 4 -1")
	checkParse(t, "NAME;ROWS; N cost;COLUMNS;ENDATA", "cost")
	checkParse(t, "* a problem;;NAME p\r;* more;ROWS; ; N\tcost  ;COLUMNS\t;RHS;RANGES;BOUNDS;ENDATA  ;;* end", "p cost")
}

// What the sections tell: coefficients of rows and of the objective, in pairs and one by one.
func TestParseColumns(t *testing.T) {
	checkParse(t, rows+"COLUMNS; x b 1 a -2; x cost 3/6; y c 2.5e-1 cost 0; z a 7; z b 0;ENDATA", "cost; a: - 0 -2@0 7@2; b: 0 - 1@0; c: 0 0 1/4@1; x= 0 - 1/2; y= 0 - 0; z= 0 - 0")
	checkParse(t, "NAME;ROWS; L a; N cost; L b;COLUMNS; cost cost 1 b 2; a cost 0;ENDATA", "cost; a: - 0; b: - 0 2@0; cost= 0 - 1; a= 0 - 0")
	checkParse(t, rows+"COLUMNS; x a 0; 'MARKER' a 1; 'INTORG' a 3;ENDATA", "cost; a: - 0 1@1 3@2; b: 0 -; c: 0 0; x= 0 - 0; 'MARKER'= 0 - 0; 'INTORG'= 0 - 0")
	checkParse(t, "NAME NAME;ROWS; N N; L ROWS; G L; E *;COLUMNS; N N 1; ROWS ROWS 2 * 3;ENDATA", "NAME N; ROWS: - 0 2@1; L: 0 -; *: 0 0 3@1; N= 0 - 1; ROWS= 0 - 0")
}

// Whole variables: those whose first line stands behind the one marker and ahead of the other one.
func TestParseMarkers(t *testing.T) {
	checkParse(t, rows+"COLUMNS; x a 1;"+whole+" y a 1; y b 1; z a 1;"+wend+" w a 1;"+whole+" v a 1;"+wend+"ENDATA",
		"cost; a: - 0 1@0 1@1 1@2 1@3 1@4; b: 0 - 1@1; c: 0 0; x= 0 - 0; y=whole 0 - 0; z=whole 0 - 0; w= 0 - 0; v=whole 0 - 0")
	checkParse(t, rows+"COLUMNS; x a 1;"+whole+" x b 1; y a 1;"+wend+" y b 1;"+whole+wend+"ENDATA", "cost; a: - 0 1@0 1@1; b: 0 - 1@0 1@1; c: 0 0; x= 0 - 0; y=whole 0 - 0")
	checkParse(t, rows+"COLUMNS;"+strings.ReplaceAll(whole, " M", " anyNameThatIsLongerThanThirtyTwoBytes")+" x a 1; * 'MARKER' 'INTEND';ENDATA", "cost; a: - 0 1@0; b: 0 -; c: 0 0; x=whole 0 - 0")
}

// The rows' bounds, by their kinds and what stands in RHS and RANGES.
func TestParseSides(t *testing.T) {
	for _, c := range []struct{ sides, l, g, e string }{
		{"", "- 0", "0 -", "0 0"},
		{"RHS;", "- 0", "0 -", "0 0"},
		{"RHS; R l 7/2 g 7/2; R e 7/2;", "- 7/2", "7/2 -", "7/2 7/2"},
		{"RHS; R l -3; R g -3 e -3;", "- -3", "-3 -", "-3 -3"},
		{"RHS; R l 0; R g 0 e 0;RANGES; R l 0; R g 0 e 0;", "0 0", "0 0", "0 0"},
		{"RHS; R l 5; R g 5 e 5;RANGES; S l 2; S g 2 e 2;", "3 5", "5 7", "5 7"},
		{"RHS; R l 5; R g 5 e 5;RANGES; S l -2; S g -2 e -2;", "3 5", "5 7", "3 5"},
		{"RHS; R l 5; R g 5 e 5;RANGES; S l 0; S g -0 e -0.0;", "5 5", "5 5", "5 5"},
		{"RANGES; aWordThatIsLongerThanThirtyTwoBytes l 1/2; S g 1/2 e 1/2;", "-1/2 0", "0 1/2", "0 1/2"},
		{"RHS;RANGES; S l -1; S g -1 e -1;", "-1 0", "0 1", "-1 0"},
	} {
		checkParse(t, "NAME;ROWS; L l; N cost; G g; E e;COLUMNS;"+c.sides+"ENDATA", "cost; l: "+c.l+"; g: "+c.g+"; e: "+c.e)
	}
}

// The variables' bounds, by the lines that tell them; none of them changes with the others.
func TestParseBounds(t *testing.T) {
	for bounds, want := range map[string]string{
		"": "= 0 - 0", "BOUNDS;": "= 0 - 0",
		" UP B x 4;": "= 0 4 0", " UP B x -4;": "= 0 -4 0", " UP B x 0;": "= 0 0 0", " LO B x 3/2;": "= 3/2 - 0", " LO B x -1;": "= -1 - 0", " FX B x -7;": "= -7 -7 0",
		" MI B x;": "= - - 0", " PL B x;": "= 0 - 0", " FR B x;": "= - - 0", " BV B x;": "=whole 0 1 0",
		" UP B x 4; LO C x 1;": "= 1 4 0", " LO B x 5; UP B x 4;": "= 5 4 0", " MI B x; UP B x 4;": "= - 4 0", " UP B x -4; MI B x;": "= - -4 0", " PL B x; LO B x 2;": "= 2 - 0", " MI B x; PL B x;": "= - - 0",
		" BV B y; UP aWordThatIsLongerThanThirtyTwoBytes x 9;": "= 0 9 0", " LO x x 1e2;": "= 100 - 0",
	} {
		if bounds != "" && bounds != "BOUNDS;" {
			bounds = "BOUNDS;" + bounds
		}
		p, e, no := mps.Parse(lines(rows + "COLUMNS; x a 1;" + whole + " y a 1; z a 1;" + wend + bounds + "ENDATA"))
		if e != api.OK || no != 0 || len(p.Vars) != 3 {
			t.Fatalf("%s: %v, %d", bounds, e, no)
		}
		y := strings.Contains(bounds, "BV B y")
		if got := of(api.Problem{Vars: p.Vars[:1]}); got != "; x"+want || !y && p.Vars[1].HasHi || y && !p.Vars[1].HasHi || p.Vars[2].HasHi || !p.Vars[2].Whole {
			t.Errorf("%s: %s", bounds, of(p))
		}
	}
}

// P9.1: sections where they may stand, and where they may not.
func TestParseSections(t *testing.T) {
	names := strings.Fields("NAME ROWS COLUMNS RHS RANGES BOUNDS ENDATA")
	for set := range 1 << 7 { // those that are left out
		var list []string
		line := 0 // where it is seen that one is missing
		for i, name := range names {
			if set>>i&1 == 1 {
				if line == 0 && (i < 3 || i == 6) {
					line = len(list) + 1
				}
				continue
			}
			list = append(list, name)
			if name == "ROWS" {
				list = append(list, " N c")
			}
		}
		if line > 0 {
			checkWrong(t, strings.Join(list, ";"), api.ErrSection, line)
		} else {
			checkParse(t, strings.Join(list, ";"), "c")
		}
	}
	for s, line := range map[string]int{
		"NAME;NAME": 2, "NAME;ROWS;ROWS": 3, "NAME;ROWS;NAME": 3, rows + "COLUMNS;COLUMNS": 8, rows + "COLUMNS;RHS;COLUMNS": 9, rows + "COLUMNS;RHS;RHS": 9, rows + "COLUMNS;RANGES;RHS": 9, rows + "COLUMNS;BOUNDS;RANGES": 9,
		rows + "COLUMNS;BOUNDS;RHS": 9, rows + "COLUMNS;BOUNDS;BOUNDS": 9, rows + "COLUMNS;ENDATA;ENDATA": 9, rows + "COLUMNS;ENDATA;NAME": 9, rows + "COLUMNS;ENDATA;BOUNDS": 9, rows + "RHS": 7, rows + "ENDATA": 7, "NAME;COLUMNS": 2, "ROWS": 1, "ENDATA": 1,
		"name": 1, "NAMES": 1, "x": 1, "NAME;rows": 2, "NAME;'ROWS'": 2, "NAME;OBJSENSE": 2, rows + "COLUMNS;SOS": 8, "NAME;ROWS;N cost": 3, rows + "x a 1": 7, rows + "COLUMNS;x a 1 b": 8,
		" N cost": 1, "NAME; N cost": 2, "NAME; NAME": 2, " NAME": 1, ";* x; NAME;NAME": 3, rows + "COLUMNS;ENDATA; x": 9, rows + "COLUMNS;ENDATA;;*;; UP B x 4": 12,
		"FOO a b c": 1, "NAME;FOO aNameOfMoreThanThirtyTwoBytesInAll": 2, "ROWS x": 1, "NAME;COLUMNS x y": 2,
	} {
		checkWrong(t, s, api.ErrSection, line)
	}
}

// P9.1: what is wrong with a line with Head, in its order.
func TestParseHeads(t *testing.T) {
	long := strings.Repeat("n", 33)
	for s, line := range map[string]int{
		"NAME a b": 1, "NAME " + long + " b": 1, "NAME a;ROWS a": 2, rows + "COLUMNS a": 7, "NAME;ROWS;COLUMNS a": 3, some + "RHS a": 10, some + "RANGES R a 1": 10, some + "BOUNDS a": 10, some + "ENDATA a": 10, some + whole + "RHS a": 11, some + "ENDATA " + long: 10,
	} {
		checkWrong(t, s, api.ErrField, line)
	}
	checkWrong(t, "NAME "+long, api.ErrName, 1)
	checkParse(t, "NAME "+long[1:]+";ROWS; N c;COLUMNS;ENDATA", long[1:]+" c")
	checkWrong(t, "NAME;ROWS;COLUMNS", api.ErrUnknown, 3)
	checkWrong(t, "NAME;ROWS; L N; G cost;COLUMNS;ENDATA", api.ErrUnknown, 5)
	for _, section := range []string{"RHS", "RANGES", "BOUNDS", "ENDATA"} {
		checkWrong(t, some+whole+section, api.ErrMark, 11)
		checkWrong(t, some+whole+wend+whole+" z a 1;"+section, api.ErrMark, 14)
		checkWrong(t, some+whole+"* "+wend+section+" ;* x", api.ErrMark, 12)
	}
	checkWrong(t, some+whole+"COLUMNS", api.ErrSection, 11)
}

// P9.1: a text without ENDATA.
func TestParseEnd(t *testing.T) {
	for text, want := range map[string]int{
		"": 1, "\n": 2, "*": 2, "\n\n\r": 4, "NAME": 2, "NAME\n": 2, lines(some): 10, lines(some) + "* x": 11, lines(some) + "\n\n": 12, lines(some + whole): 11, lines("NAME;ROWS"): 3,
	} {
		if p, e, no := mps.Parse(text); e != api.ErrSection || no != want || !zero(p) {
			t.Errorf("Parse(%q): %v, %d, not %d", text, e, no, want)
		}
	}
}

// P9.1: layer 8's errors come ahead of all others.
func TestParseFields(t *testing.T) {
	for text, want := range map[string]int{"\x00": 1, "FOO\n\n* \x7f": 3, lines(some) + "é": 10, lines(some+"ENDATA") + "\n\r\r\n": 12} {
		if p, e, no := mps.Parse(text); e != api.ErrField || no != want || !zero(p) {
			t.Errorf("Parse(%q): %v, %d, not %d", text, e, no, want)
		}
	}
	text := lines(some + "ENDATA")
	fill := strings.Repeat("*", api.MaxText-len(text))
	if p, e, no := mps.Parse(text + fill); e != api.OK || no != 0 || zero(p) {
		t.Errorf("a text of %d bytes: %v, %d", api.MaxText, e, no)
	}
	if p, e, no := mps.Parse(text + fill + "*"); e != api.ErrLong || no != 0 || !zero(p) {
		t.Errorf("a text of %d bytes: %v, %d", api.MaxText+1, e, no)
	}
	if _, e, no := mps.Parse(strings.Repeat("\x00", api.MaxText+1)); e != api.ErrLong || no != 0 {
		t.Errorf("a text of noughts: %v, %d", e, no)
	}
}

// P9.1: what is wrong with a line of ROWS, in its order.
func TestParseRowsWrong(t *testing.T) {
	long := strings.Repeat("n", 33)
	var many string
	for i := range api.MaxRows {
		many += fmt.Sprintf(" L r%d;", i)
	}
	for _, c := range []struct {
		line string
		want api.Errno
	}{
		{" N", api.ErrField}, {" X", api.ErrField}, {" L d e", api.ErrField}, {" X d e", api.ErrField}, {" L " + long + " e", api.ErrField}, {" 'MARKER'", api.ErrField},
		{" X d", api.ErrKind}, {" n d", api.ErrKind}, {" LE d", api.ErrKind}, {" * d", api.ErrKind}, {" X " + long, api.ErrKind}, {" X a", api.ErrKind}, {" NL d", api.ErrKind}, {" NAME d", api.ErrKind},
		{" L " + long, api.ErrName}, {" N " + long, api.ErrName}, {" L 'MARKER'", api.ErrName}, {" N 'MARKER'", api.ErrName},
		{" L a", api.ErrTwice}, {" E b", api.ErrTwice}, {" G cost", api.ErrTwice}, {" N a", api.ErrTwice}, {" N cost", api.ErrTwice}, {" N d", api.ErrTwice},
	} {
		checkWrong(t, rows+c.line+"; Y", c.want, 7)
	}
	checkParse(t, "NAME;ROWS; E "+long[1:]+"; N MARKER; L 'INTORG';COLUMNS;ENDATA", "MARKER; "+long[1:]+": 0 0; 'INTORG': - 0")
	full := "NAME;ROWS;" + many
	checkWrong(t, full+" G more", api.ErrMany, 63)
	checkWrong(t, full+" N cost; L more", api.ErrMany, 64)
	checkWrong(t, "NAME;ROWS; N cost;"+many+" L more", api.ErrMany, 64)
	checkWrong(t, full+" G r7", api.ErrTwice, 63)
	checkWrong(t, full+" X more", api.ErrKind, 63)
	checkWrong(t, full+" N cost; N more", api.ErrTwice, 64)
	if p, e, no := mps.Parse(lines(full + " N cost;COLUMNS;ENDATA")); e != api.OK || no != 0 || len(p.Rows) != 60 || p.Obj != "cost" {
		t.Errorf("60 rows: %v, %d", e, no)
	}
}

// P9.1: what is wrong with a line of COLUMNS, in its order.
func TestParseColumnsWrong(t *testing.T) {
	long := strings.Repeat("n", 33)
	for _, c := range []struct {
		line string
		want api.Errno
	}{
		{" M 'MARKER' INTORG", api.ErrMark}, {" M 'MARKER' 'INT'", api.ErrMark}, {" M 'MARKER' 'INTEND'", api.ErrMark}, {" M 'MARKER' 'intorg'", api.ErrMark}, {" M 'MARKER' 1", api.ErrMark}, {" " + long + " 'MARKER' 'INTEND'", api.ErrMark},
		{" M 'MARKER'", api.ErrField}, {" M 'MARKER' 'INTORG' x", api.ErrField}, {" z", api.ErrField}, {" z a", api.ErrField}, {" z a 1 b", api.ErrField}, {" z a 1 b 2 c", api.ErrField}, {" z a 1 b 2 c 3", api.ErrField}, {" " + long + " a", api.ErrField}, {" x a", api.ErrField},
		{" " + long + " a 1", api.ErrName}, {" " + long + " no 1x", api.ErrName},
		{" x b 1", api.ErrTwice}, {" x no 1", api.ErrTwice}, {" x a 1 b 1x", api.ErrTwice},
		{" z no 1", api.ErrUnknown}, {" z no 1x", api.ErrUnknown}, {" z a 1 no 1", api.ErrUnknown}, {" M MARKER 'INTORG'", api.ErrUnknown}, {" M 'MARKER' 1 a 1", api.ErrUnknown}, {" z A 1", api.ErrUnknown}, {" z x 1", api.ErrUnknown}, {" z a 1 'MARKER' 'INTORG'", api.ErrUnknown},
		{" y cost 2", api.ErrTwice}, {" y cost x", api.ErrTwice}, {" z a 1 a 2", api.ErrTwice}, {" z a 0 a 0", api.ErrTwice}, {" z cost 0 cost 1", api.ErrTwice}, {" y a 1 cost 1", api.ErrTwice}, {" z a 1 a x", api.ErrTwice},
		{" z a x", api.ErrNumber}, {" z a 1/0", api.ErrNumber}, {" z a 1e100", api.ErrNumber}, {" z a .5", api.ErrNumber}, {" z a " + strings.Repeat("1", 201), api.ErrNumber}, {" z a inf", api.ErrNumber}, {" z a 1 b -", api.ErrNumber}, {" z a x b 1", api.ErrNumber}, {" z a x no 1", api.ErrNumber}, {" z a x a 1", api.ErrNumber}, {" z cost 1,5", api.ErrNumber},
	} {
		checkWrong(t, some+c.line+"; Y", c.want, 10)
	}
	checkWrong(t, some+whole+" M 'MARKER' 'INTORG'", api.ErrMark, 11)
	checkWrong(t, some+whole+wend+" M 'MARKER' 'INTEND'", api.ErrMark, 12)
	checkWrong(t, rows+"COLUMNS; x a 0; x a 1", api.ErrTwice, 9)
	checkWrong(t, rows+"COLUMNS; x a 0;"+whole+" y a 1; x b 1", api.ErrTwice, 11)
	checkParse(t, "NAME;ROWS; N c;COLUMNS; "+long[1:]+" c "+strings.Repeat("1", 200)+";ENDATA", "c; "+long[1:]+"= 0 - "+strings.Repeat("1", 200))
}

// P9.1: no more columns than there may be.
func TestParseManyColumns(t *testing.T) {
	full := rows + "COLUMNS;"
	for i := range api.MaxCols {
		full += fmt.Sprintf(" x%d a %d;", i, i)
	}
	checkWrong(t, full+" more a 1", api.ErrMany, 48)
	checkWrong(t, full+" more no x", api.ErrMany, 48)
	checkWrong(t, full+" x38 a 1", api.ErrTwice, 48)
	checkWrong(t, full+" "+strings.Repeat("n", 33)+" a 1", api.ErrName, 48)
	checkWrong(t, full+" more a", api.ErrField, 48)
	if p, e, no := mps.Parse(lines(full + " x39 b 1;" + whole + wend + "ENDATA")); e != api.OK || no != 0 || len(p.Vars) != 40 || len(p.Rows[0].Terms) != 39 {
		t.Errorf("40 columns: %v, %d", e, no)
	}
}

// P9.1: what is wrong with a line of RHS or RANGES, in its order.
func TestParseSidesWrong(t *testing.T) {
	for _, c := range []struct {
		line string
		want api.Errno
	}{
		{" R", api.ErrField}, {" a 1", api.ErrField}, {" R a", api.ErrField}, {" R a 1 b", api.ErrField}, {" R a 1 b 2 c", api.ErrField}, {" R no 1 b 2 c 3", api.ErrField},
		{" R no 1", api.ErrUnknown}, {" R cost 1", api.ErrUnknown}, {" R cost x", api.ErrUnknown}, {" R x 1", api.ErrUnknown}, {" R a 1 no 2", api.ErrUnknown}, {" R a 1 cost 2", api.ErrUnknown}, {" M 'MARKER' 'INTORG'", api.ErrUnknown},
		{" R b 1", api.ErrTwice}, {" R b x", api.ErrTwice}, {" R a 1 a 2", api.ErrTwice}, {" R a 0 a 0", api.ErrTwice}, {" R a 1 b 1", api.ErrTwice}, {" S b 1", api.ErrTwice},
		{" R a x", api.ErrNumber}, {" R a 1/0", api.ErrNumber}, {" R a 1e-100", api.ErrNumber}, {" R a 1 c 1.", api.ErrNumber}, {" R a x no 1", api.ErrNumber}, {" R a x a 1", api.ErrNumber},
	} {
		checkWrong(t, some+"RHS; R b 0;"+c.line+"; Y", c.want, 12)
		checkWrong(t, some+"RANGES; R b 0;"+c.line+"; Y", c.want, 12)
		checkWrong(t, some+"RHS; R a 0 b 1;RANGES; R b 0;"+c.line+"; Y", c.want, 14)
	}
}

// P9.1: what is wrong with a line of BOUNDS, in its order.
func TestParseBoundsWrong(t *testing.T) {
	for _, c := range []struct {
		line string
		want api.Errno
	}{
		{" XX B x 1", api.ErrKind}, {" up B x 1", api.ErrKind}, {" B", api.ErrKind}, {" x", api.ErrKind}, {" UI B x 1", api.ErrKind}, {" LI B x 1", api.ErrKind}, {" SC B x 1", api.ErrKind}, {" 'MARKER' B x", api.ErrKind},
		{" UP B x", api.ErrField}, {" UP x 1", api.ErrField}, {" LO B x 1 2", api.ErrField}, {" FX B no", api.ErrField}, {" FX", api.ErrField}, {" MI B x 1", api.ErrField}, {" PL x", api.ErrField}, {" FR B no 1", api.ErrField}, {" BV B x 1", api.ErrField}, {" BV", api.ErrField}, {" MI B", api.ErrField},
		{" UP B no 1", api.ErrUnknown}, {" UP B no x", api.ErrUnknown}, {" BV B a", api.ErrUnknown}, {" FR B X", api.ErrUnknown}, {" UP x B 1", api.ErrUnknown},
		{" UP B x x", api.ErrNumber}, {" LO B x 1/0", api.ErrNumber}, {" FX B x 1e100", api.ErrNumber}, {" FX B y -inf", api.ErrNumber},
	} {
		checkWrong(t, some+"BOUNDS; FX B y 1;"+c.line+"; Y", c.want, 12)
	}
	tells := map[string]string{"UP": "hi", "LO": "lo", "FX": "lo hi", "MI": "lo", "PL": "hi", "FR": "lo hi", "BV": "lo hi"}
	lineOf := func(kind string) string {
		if strings.Contains("UP LO FX", kind) {
			return " " + kind + " B x 0;"
		}
		return " " + kind + " B x;"
	}
	for one := range tells {
		for two := range tells {
			clash := strings.Contains(tells[one], tells[two]) || strings.Contains(tells[two], tells[one])
			text := some + "BOUNDS;" + lineOf(one) + " UP B y 1; MI B y;" + lineOf(two) + "ENDATA"
			if clash {
				checkWrong(t, text, api.ErrTwice, 14)
			} else if _, e, no := mps.Parse(lines(text)); e != api.OK || no != 0 {
				t.Errorf("%s and %s: %v, %d", one, two, e, no)
			}
		}
	}
	checkWrong(t, some+"BOUNDS; MI B x; LO B x -; UP B x 1", api.ErrNumber, 12)
	checkWrong(t, some+"BOUNDS; LO B x 1; UP B x 3; LO B x 1", api.ErrTwice, 13)
}

// change gives a text with one thing changed.
func change(r *rand.Rand, text string) string {
	list := strings.Split(strings.TrimSuffix(text, "\n"), "\n")
	at, other := r.Intn(len(list)), r.Intn(len(list))
	words := strings.Split(list[at], " ")
	word := r.Intn(len(words))
	pool := strings.Fields("N L G E X x y z free w v cost a b c d e f empty 'MARKER' 'INTORG' 'INTEND' UP LO FX MI PL FR BV XX 0 1 -2 3/4 1e2 1/0 RHS RANGES BOUNDS NAME ENDATA aNameOfMoreThanThirtyTwoBytesInAll * \x7f")
	chosen := pool[r.Intn(len(pool))]
	switch r.Intn(8) {
	case 0:
		list = slices.Delete(list, at, at+1)
	case 1:
		list = slices.Insert(list, at, list[other])
	case 2:
		list[at], list[other] = list[other], list[at]
	case 3:
		words = slices.Delete(words, word, word+1)
		list[at] = strings.Join(words, " ")
	case 4:
		words = slices.Insert(words, word, chosen)
		list[at] = strings.Join(words, " ")
	case 5:
		list = slices.Insert(list, at, []string{"", "* x", " ", "\r"}[r.Intn(4)])
	default:
		words[word] = chosen
		list[at] = strings.Join(words, " ")
	}
	return strings.Join(list, "\n")
}

// P9.1, P9.4: texts that were changed are read as the other reader does; what is read Check takes, and Print writes it.
func TestParseChanged(t *testing.T) {
	r := rand.New(rand.NewSource(1))
	begin, e := mps.Print(good())
	if e != api.OK {
		t.Fatal(e)
	}
	met := map[api.Errno]int{}
	for range 15000 {
		text := begin
		for range 1 + r.Intn(4) {
			text = change(r, text)
		}
		want, wantE, wantNo := readOther(text)
		p, e, no := mps.Parse(text)
		met[e]++
		if e != wantE || no != wantNo || e == api.OK && of(p) != want || e != api.OK && !zero(p) {
			t.Fatalf("Parse(%s) = %s, %v, %d, not %s, %v, %d", text, of(p), e, no, want, wantE, wantNo)
		}
		if e == api.OK {
			if e := mps.Check(p); e != api.OK {
				t.Fatalf("Check(%s) = %v", of(p), e)
			}
			checkBack(t, p)
		}
	}
	for _, e := range []api.Errno{api.OK, api.ErrField, api.ErrMark, api.ErrSection, api.ErrName, api.ErrTwice, api.ErrUnknown, api.ErrNumber, api.ErrKind} {
		if met[e] < 20 {
			t.Errorf("how often there was each error: %v", met)
		}
	}
}
