package mps_test

import (
	"fmt"
	"math/rand"
	"strings"
	"testing"

	"cutwater/api"
	"cutwater/mps"
	"cutwater/rat"
	"cutwater/tell"
)

// checkBack holds what is read of what is printed against what was printed.
func checkBack(t *testing.T, p api.Problem) string {
	t.Helper()
	text, e := mps.Print(p)
	q, f, no := mps.Parse(text)
	if e != api.OK || f != api.OK || no != 0 || of(q) != of(p) {
		t.Fatalf("Print(%s) = %s, %v: %s, %v, %d", of(p), text, e, of(q), f, no)
	}
	return text
}

// P9.3: all that a text may have, line by line.
func TestPrint(t *testing.T) {
	want := lines("NAME all;ROWS; N cost; L a; G b; E c; G d; G e; G f; L empty;COLUMNS; x cost -1; x a 2; x b 1/2;" +
		" M 'MARKER' 'INTORG'; y a 1; y c 1; y d -1; y e 3; z f 7; M 'MARKER' 'INTEND'; free cost 0; M 'MARKER' 'INTORG'; w f 1;" +
		" M 'MARKER' 'INTEND';RHS; RHS a 3; RHS b 4; RHS c -5; RHS d 17/3; RHS f -4;RANGES; RHS d 1/3; RHS e 2; RHS f 4;" +
		"BOUNDS; UP B x 4; LO B y 2; UP B y 2; MI B z; UP B z -1/2; FR B free; LO B w -9;ENDATA")
	if got := checkBack(t, good()); got != want {
		t.Errorf("Print = %s, not %s", got, want)
	}
	for s, want := range map[string]string{
		"NAME;ROWS; N cost;COLUMNS;ENDATA": "NAME;ROWS; N cost;COLUMNS;RHS;BOUNDS;ENDATA",
		"NAME n;ROWS; N cost; L r1;COLUMNS; x r1 2 cost -1;RHS; RHS r1 3;BOUNDS; UP B x 4;ENDATA":                                               "NAME n;ROWS; N cost; L r1;COLUMNS; x cost -1; x r1 2;RHS; RHS r1 3;BOUNDS; UP B x 4;ENDATA",
		"NAME;ROWS; E e; N c; L l;COLUMNS; M 'MARKER' 'INTORG'; x l 0 c 1; y l 2.50 e 1; y c 0; M 'MARKER' 'INTEND';ENDATA":                     "NAME;ROWS; N c; E e; L l;COLUMNS; M 'MARKER' 'INTORG'; x c 1; y e 1; y l 5/2; M 'MARKER' 'INTEND';RHS;BOUNDS;ENDATA",
		"NAME;ROWS; N c; L l; G g; E e; E k;COLUMNS;RANGES; R l 0 g 0; R e -1 k 1;ENDATA":                                                       "NAME;ROWS; N c; E l; E g; G e; G k;COLUMNS;RHS; RHS e -1;RANGES; RHS e 1; RHS k 1;BOUNDS;ENDATA",
		"NAME;ROWS; N c;COLUMNS; x c 1; y c 1; z c 1; w c 1;BOUNDS; BV B x; MI B y; UP B y 0; FR B z; FX B w 0;ENDATA":                          "NAME;ROWS; N c;COLUMNS; M 'MARKER' 'INTORG'; x c 1; M 'MARKER' 'INTEND'; y c 1; z c 1; w c 1;RHS;BOUNDS; UP B x 1; MI B y; UP B y 0; FR B z; UP B w 0;ENDATA",
		"NAME;ROWS; N c;COLUMNS; x c 1; y c 1; z c 1;BOUNDS; MI B x; PL B x; LO B y 1e2; PL B y; PL B z;ENDATA":                                 "NAME;ROWS; N c;COLUMNS; x c 1; y c 1; z c 1;RHS;BOUNDS; FR B x; LO B y 100;ENDATA",
		"NAME;ROWS; N c; L l;COLUMNS; x l 1;" + whole + " y l 1;" + wend + whole + " z l 1;" + wend + " w l 1;RHS; R l 0;RANGES; R l -2;ENDATA": "NAME;ROWS; N c; G l;COLUMNS; x l 1;" + whole + " y l 1; z l 1;" + wend + " w l 1;RHS; RHS l -2;RANGES; RHS l 2;BOUNDS;ENDATA",
	} {
		p, e, _ := mps.Parse(lines(s))
		if got := checkBack(t, p); e != api.OK || got != lines(want) {
			t.Errorf("Print of %s = %s", s, got)
		}
	}
}

// P9.3: what Print writes, Parse reads as the same.
func TestPrintParse(t *testing.T) {
	r := rand.New(rand.NewSource(2))
	for range 3000 {
		p := chance(r)
		if e := mps.Check(p); e != api.OK {
			t.Fatalf("Check(%s) = %v", of(p), e)
		}
		checkBack(t, p)
	}
}

// P9.2: what is wrong with a problem, thing by thing.
func TestCheckWrong(t *testing.T) {
	loose := api.Rat{Num: api.Int{Abs: []uint64{4}}, Den: []uint64{2}}
	bare := api.Rat{}
	var wrong []func(p *api.Problem)
	add := func(f func(p *api.Problem)) { wrong = append(wrong, f) }
	for _, name := range []string{strings.Repeat("n", 33), "a b", "a\t", "\n", "é", "a\x7f", " ", "\x00", "\xff", "\u00a0"} {
		add(func(p *api.Problem) { p.Name = name })
		add(func(p *api.Problem) { p.Obj = name })
		add(func(p *api.Problem) { p.Rows[0].Name = name })
		add(func(p *api.Problem) { p.Rows[6].Name = name })
		add(func(p *api.Problem) { p.Vars[0].Name = name })
		add(func(p *api.Problem) { p.Vars[4].Name = name })
	}
	for _, name := range []string{"", "'MARKER'", "b"} {
		add(func(p *api.Problem) { p.Obj = name })
		add(func(p *api.Problem) { p.Rows[0].Name = name })
		add(func(p *api.Problem) { p.Rows[6].Name = name })
	}
	add(func(p *api.Problem) { p.Rows[3].Name = "cost" })
	add(func(p *api.Problem) { p.Vars[3].Name = "" })
	add(func(p *api.Problem) { p.Vars[3].Name = "x" })
	add(func(p *api.Problem) {
		p.Rows[2].HasLo, p.Rows[2].HasHi = false, false
		p.Rows[2].Lo, p.Rows[2].Hi = tell.Rat("0"), tell.Rat("0")
	})
	add(func(p *api.Problem) { p.Rows[2].Lo = tell.Rat("-49/10") })
	add(func(p *api.Problem) { p.Rows[3].Hi = tell.Rat("5") })
	for _, terms := range []string{"1@0 1@0", "1@1 1@0", "0@0", "1@0 0@1", "1@5", "1@0 1@5", "1@-1", "1@0 1@1 1@2 1@3 1@4 1@5", "1@9223372036854775807", "1@0 -1@0"} {
		add(func(p *api.Problem) { p.Rows[0].Terms = tell.Vec(terms) })
		add(func(p *api.Problem) { p.Rows[6].Terms = tell.Vec(terms) })
	}
	for _, a := range []api.Rat{loose, bare, {Num: api.Int{Neg: true}, Den: []uint64{1}}, {Num: api.Int{Abs: []uint64{1, 0}}, Den: []uint64{1}}, {Num: api.Int{Abs: []uint64{1}}, Den: []uint64{0}}} {
		add(func(p *api.Problem) { p.Rows[0].Terms[1].Val = a })
		add(func(p *api.Problem) { p.Rows[4].Lo = a })
		add(func(p *api.Problem) { p.Rows[0].Hi = a })
		add(func(p *api.Problem) { p.Vars[0].Lo = a })
		add(func(p *api.Problem) { p.Vars[0].Hi = a })
		add(func(p *api.Problem) { p.Vars[4].Cost = a })
	}
	for _, a := range []api.Rat{bare, tell.Rat("1"), tell.Rat("-1"), loose} { // bounds that aren't there
		add(func(p *api.Problem) { p.Rows[0].Lo = a })
		add(func(p *api.Problem) { p.Rows[1].Hi = a })
		add(func(p *api.Problem) { p.Vars[2].Lo = a })
		add(func(p *api.Problem) { p.Vars[3].Hi = a })
	}
	for i, spoil := range wrong {
		p := good()
		spoil(&p)
		p.Vars[1].Cost = tell.Rat(strings.Repeat("9", 200))
		if text, e := mps.Print(p); mps.Check(p) != api.ErrArg || e != api.ErrArg || text != "" {
			t.Errorf("%d: %s: %v, %v", i, of(p), mps.Check(p), e)
		}
		p.Vars[1].Cost = rat.Mul(p.Vars[1].Cost, tell.Rat("10")) // ErrArg comes ahead of ErrLong
		if e := mps.Check(p); e != api.ErrArg {
			t.Errorf("%d: %s with a number that is too long: %v", i, of(p), e)
		}
	}
	if e := mps.Check(api.Problem{}); e != api.ErrArg {
		t.Errorf("the zero value: %v", e)
	}
}

// P9.2: what is right, though it may seem not to be.
func TestCheckRight(t *testing.T) {
	long := strings.Repeat("~", 32)
	for i, f := range []func(p *api.Problem){
		func(p *api.Problem) {},
		func(p *api.Problem) { p.Name = "" },
		func(p *api.Problem) { p.Name = "'MARKER'" },
		func(p *api.Problem) { p.Name, p.Obj, p.Vars[0].Name = long, long, long },
		func(p *api.Problem) { p.Rows[0].Name, p.Vars[1].Name = long, "!" },
		func(p *api.Problem) { p.Vars[0].Name, p.Vars[1].Name, p.Vars[2].Name = "'MARKER'", "cost", "a" },
		func(p *api.Problem) { p.Obj, p.Rows[0].Name, p.Rows[1].Name = "MARKER", "ENDATA", "*" },
		func(p *api.Problem) { p.Vars[1].Lo = tell.Rat("3") }, // a variable's Lo may be above its Hi
		func(p *api.Problem) { p.Rows[0].Terms = nil },
		func(p *api.Problem) { p.Rows[0].Terms = []api.Term{} },
		func(p *api.Problem) { p.Rows[0].Terms = tell.Vec("1@0 1@1 1@2 1@3 1@4") },
		func(p *api.Problem) { p.Vars[3].Cost = api.Rat{Num: api.Int{Abs: []uint64{}}, Den: []uint64{1}} },
		func(p *api.Problem) { p.Rows = nil },
		func(p *api.Problem) { *p = api.Problem{Obj: "o"} },
	} {
		p := good()
		f(&p)
		if e := mps.Check(p); e != api.OK {
			t.Errorf("%d: %s: %v", i, of(p), e)
		}
		checkBack(t, p)
	}
}

// P9.2: as many rows and variables as there may be, and more.
func TestCheckMany(t *testing.T) {
	zero := tell.Rat("0")
	p := api.Problem{Obj: "o"}
	for i := range 61 {
		p.Rows = append(p.Rows, api.Row{Name: fmt.Sprint(i), HasLo: true, Lo: zero, Hi: zero})
		p.Vars = append(p.Vars, api.Var{Name: fmt.Sprint(i), Lo: zero, Hi: zero, Cost: zero})
	}
	for _, c := range []struct {
		rows, vars int
		want       api.Errno
	}{{0, 0, api.OK}, {60, 40, api.OK}, {61, 0, api.ErrArg}, {0, 41, api.ErrArg}, {60, 41, api.ErrArg}, {61, 40, api.ErrArg}} {
		q := p
		q.Rows, q.Vars = p.Rows[:c.rows], p.Vars[:c.vars]
		text, e := mps.Print(q)
		if mps.Check(q) != c.want || e != c.want || (text == "") != (e != api.OK) {
			t.Errorf("%d rows, %d variables: %v, %v", c.rows, c.vars, mps.Check(q), e)
		}
	}
}

// P9.2: numbers that are too long, where they are written, and nowhere else.
func TestCheckLong(t *testing.T) {
	nines := strings.Repeat("9", 200)
	most, over := tell.Rat(nines), rat.Add(tell.Rat(nines), tell.Rat("1"))
	part, overPart := tell.Rat(nines[:100]+"/"+strings.Repeat("7", 99)+"0"), rat.Add(tell.Rat(nines[1:]), tell.Rat("1/10"))
	for i, put := range []func(p *api.Problem, a api.Rat){
		func(p *api.Problem, a api.Rat) { p.Vars[0].Cost = a },
		func(p *api.Problem, a api.Rat) { p.Vars[3].Lo, p.Vars[3].HasLo = a, true },
		func(p *api.Problem, a api.Rat) { p.Vars[0].Hi = a },
		func(p *api.Problem, a api.Rat) { p.Rows[0].Terms[1].Val = a },
		func(p *api.Problem, a api.Rat) { p.Rows[0].Hi = a },
		func(p *api.Problem, a api.Rat) { p.Rows[1].Lo = a },
		func(p *api.Problem, a api.Rat) { p.Rows[2].Lo, p.Rows[2].Hi = a, a },
		func(p *api.Problem, a api.Rat) { p.Rows[4].Hi = a }, // its Lo is 0
	} {
		for _, a := range []api.Rat{most, rat.Neg(most), part, over, rat.Neg(over), overPart} {
			if i == 7 && rat.Sign(a) < 0 {
				continue
			}
			p := good()
			put(&p, a)
			want := api.OK
			if len(strings.Trim(strings.Replace(tell.OfRat(a), "/", "", 1), "-")) > 200 {
				want = api.ErrLong
			}
			text, e := mps.Print(p)
			if mps.Check(p) != want || e != want || (text == "") != (e != api.OK) {
				t.Errorf("%d, %v: %v, %v", i, a, mps.Check(p), e)
			}
			if want == api.OK {
				checkBack(t, p)
			}
		}
	}
	p := good() // Hi isn't written, but its distance from Lo
	p.Rows[3].Lo, p.Rows[3].Hi = most, over
	if e := mps.Check(p); e != api.OK {
		t.Errorf("a Hi that isn't written: %v", e)
	}
	checkBack(t, p)
	p.Rows[3].Lo = rat.Neg(most)
	p.Rows[3].Hi = most
	if e := mps.Check(p); e != api.ErrLong {
		t.Errorf("a distance that is too long: %v", e)
	}
}

// P9.4: what Parse reads, Check takes, but for a number that is too long.
func TestSumsTooLong(t *testing.T) {
	nines := strings.Repeat("9", 200)
	for s, want := range map[string]api.Errno{
		"NAME;ROWS; N c; G g;COLUMNS;RHS; R g " + nines + ";ENDATA":                           api.OK,
		"NAME;ROWS; N c; G g;COLUMNS;RHS; R g " + nines + ";RANGES; R g " + nines + ";ENDATA": api.OK,
		"NAME;ROWS; N c; L l;COLUMNS;RHS; R l -" + nines + ";RANGES; R l 1;ENDATA":            api.ErrLong,
		"NAME;ROWS; N c; E e;COLUMNS;RHS; R e -" + nines + ";RANGES; R e -1;ENDATA":           api.ErrLong,
		"NAME;ROWS; N c;COLUMNS; x c " + nines[1:101] + "e99;ENDATA":                          api.OK,
		"NAME;ROWS; N c;COLUMNS; x c " + nines[:102] + "e99;ENDATA":                           api.ErrLong,
	} {
		p, e, _ := mps.Parse(lines(s))
		if got := mps.Check(p); e != api.OK || got != want {
			t.Errorf("%s: %v, %v", s, e, got)
		}
	}
}

// P9.3: the longest text, and one that is longer by a byte.
func TestPrintLong(t *testing.T) {
	zero := tell.Rat("0")
	p := api.Problem{Obj: "o"}
	for i := range 60 {
		p.Rows = append(p.Rows, api.Row{Name: fmt.Sprintf("%032d", i), HasLo: true, Lo: zero, Hi: zero})
	}
	for i := range 40 {
		p.Vars = append(p.Vars, api.Var{Name: fmt.Sprintf("%032d", i), HasLo: true, Lo: zero, Hi: zero, Cost: tell.Rat("1")})
	}
	left := api.MaxText - len(checkBack(t, p))
	line := len(" " + p.Vars[0].Name + " " + p.Rows[0].Name + " 1\n")
	for i := range left / line {
		p.Rows[i%60].Terms = append(p.Rows[i%60].Terms, api.Term{Col: i / 60, Val: tell.Rat("1")})
	}
	p.Vars[39].Cost = tell.Rat(strings.Repeat("1", left%line+1))
	if text := checkBack(t, p); len(text) != api.MaxText {
		t.Errorf("a text of %d bytes", len(text))
	}
	p.Vars[39].Cost = rat.Neg(p.Vars[39].Cost)
	if text, e := mps.Print(p); e != api.ErrLong || text != "" || mps.Check(p) != api.OK {
		t.Errorf("a byte more: %d bytes, %v, %v", len(text), e, mps.Check(p))
	}
}
