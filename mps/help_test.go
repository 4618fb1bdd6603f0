package mps_test

import (
	"math/rand"
	"strconv"
	"strings"
	"testing"

	"cutwater/api"
	"cutwater/mps"
	"cutwater/rat"
	"cutwater/tell"
)

// lines gives a text of lines that are told with semicolons between, or behind them.
func lines(s string) string {
	if s == "" {
		return ""
	}
	return strings.ReplaceAll(strings.TrimSuffix(s, ";"), ";", "\n") + "\n"
}

// side tells a bound: a dash, if it isn't there, and its number, if that isn't 0 then.
func side(has bool, a api.Rat) string {
	s := tell.OfRat(a)
	if has {
		return s
	}
	return "-" + strings.TrimPrefix(s, "0")
}

// of tells a problem: its name, its objective's name, its rows and its variables; a number that isn't in its one form has a question mark.
func of(p api.Problem) string {
	out := []string{strings.TrimSpace(p.Name + " " + p.Obj)}
	for _, r := range p.Rows {
		out = append(out, strings.TrimSpace(r.Name+": "+side(r.HasLo, r.Lo)+" "+side(r.HasHi, r.Hi)+" "+tell.OfVec(r.Terms)))
	}
	for _, v := range p.Vars {
		kind := "= "
		if v.Whole {
			kind = "=whole "
		}
		out = append(out, v.Name+kind+side(v.HasLo, v.Lo)+" "+side(v.HasHi, v.Hi)+" "+tell.OfRat(v.Cost))
	}
	return strings.Join(out, "; ")
}

// checkParse holds what is read of lines against what is told of it.
func checkParse(t *testing.T, s, want string) {
	t.Helper()
	p, e, no := mps.Parse(lines(s))
	if got := of(p); e != api.OK || no != 0 || got != want {
		t.Errorf("Parse(%s) = %s, %v, %d, not %s", s, got, e, no, want)
	}
}

// checkWrong holds what is read of lines against an error and its line.
func checkWrong(t *testing.T, s string, want api.Errno, line int) {
	t.Helper()
	p, e, no := mps.Parse(lines(s))
	if e != want || no != line || !zero(p) {
		t.Errorf("Parse(%.300s) = %s, %v, %d, not %v, %d", s, of(p), e, no, want, line)
	}
}

// zero tells whether a problem is the zero value.
func zero(p api.Problem) bool {
	return p.Name == "" && p.Obj == "" && len(p.Rows) == 0 && len(p.Vars) == 0
}

// good is a problem in which nothing is wrong, in whose text all stands that may.
func good() api.Problem {
	p, _, _ := mps.Parse(lines("NAME all;ROWS; N cost; L a; G b; E c; L d; G e; E f; L empty;COLUMNS; x cost -1 a 2; x b 1/2;" +
		" M 'MARKER' 'INTORG'; y a 1 c 1; y d -1 e 3; z f 7; M 'MARKER' 'INTEND'; free cost 0; M 'MARKER' 'INTORG'; w f 1;" +
		" M 'MARKER' 'INTEND';RHS; R a 3 b 4; R c -5 d 6;RANGES; R d 1/3 e 2; R f -4;BOUNDS; UP B x 4; FX B y 2; MI B z; UP B z -1/2; FR B free; LO B w -9;ENDATA"))
	return p
}

// numbers gives numbers of all kinds.
func numbers() []api.Rat {
	return tell.Rats("0 0 0 1 -1 2 7 -7/2 1/3 100000000000000000000 -12345678901234567890/98765432109876543211")
}

// chance gives a problem in which nothing is wrong.
func chance(r *rand.Rand) api.Problem {
	list := numbers()
	number := func() api.Rat { return rat.Form(list[r.Intn(len(list))]) }
	none := func() api.Rat { return rat.Whole(0) }
	names := 0
	name := func() string {
		names++
		out := []byte(strconv.Itoa(names) + ".")
		for range r.Intn(api.MaxName - len(out) + 1) {
			out = append(out, byte(33+r.Intn(94)))
		}
		return string(out)
	}
	p := api.Problem{Name: []string{"", name()}[r.Intn(2)], Obj: name()}
	for range r.Intn(6) {
		v := api.Var{Name: name(), Whole: r.Intn(2) == 0, HasLo: r.Intn(3) > 0, HasHi: r.Intn(3) > 0, Lo: none(), Hi: none(), Cost: number()}
		if v.HasLo {
			v.Lo = number()
		}
		if v.HasHi {
			v.Hi = number()
		}
		p.Vars = append(p.Vars, v)
	}
	for range r.Intn(6) {
		w := api.Row{Name: name(), Lo: none(), Hi: none()}
		kind := r.Intn(4)
		w.HasLo, w.HasHi = kind != 0, kind != 1
		if w.HasLo {
			w.Lo = number()
		}
		if w.HasHi {
			w.Hi = number()
		}
		if w.HasLo && w.HasHi && (kind == 3 || rat.Cmp(w.Lo, w.Hi) > 0) {
			w.Hi = rat.Form(w.Lo)
		}
		for col := range p.Vars {
			if a := number(); rat.Sign(a) != 0 {
				w.Terms = append(w.Terms, api.Term{Col: col, Val: a})
			}
		}
		p.Rows = append(p.Rows, w)
	}
	return p
}
