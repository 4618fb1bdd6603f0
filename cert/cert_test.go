package cert_test

import (
	"math"
	"slices"
	"strings"
	"testing"

	"cutwater/api"
	"cutwater/cert"
	"cutwater/rat"
	"cutwater/tell"
)

// good is a right certificate in which all stands that may.
const good = "x y z | w-w | -3@0 1/2@2 | 2@0 1@1 <= 7; -1/3@2 >= -5/2; = 0; | range -11 -21/2 | 3@0 1@1; ; 1/7@2; |" +
	" 1@0 <= 2 by sum 1/2@0; 1@2 >= 0 by round 1@1 -1/2@3; 1@0 <= 3 by assume; 1@0 >= 4 by assume; >= 1 by split at 3 5 0 6; = 1 by sum;"

// lines gives a text of lines that are told with semicolons between.
func lines(s string) string { return strings.ReplaceAll(s, "; ", "\n") + "\n" }

// checkPrint holds what is written of a certificate against lines.
func checkPrint(t *testing.T, c api.Cert, want string) {
	t.Helper()
	if got, e := cert.Print(c); e != api.OK || got != lines(want) || cert.Check(c) != api.OK {
		t.Errorf("%s: %q, %v, not %q", tell.OfCert(c), got, e, lines(want))
	}
}

// Example 1.
func TestExample(t *testing.T) {
	text, e := cert.Print(tell.Cert("x y | -- | | 2@0 <= 4; | none - - | | 1@0 <= 2 by sum 1/2@0;"))
	if e != api.OK || !strings.HasSuffix(text, "\nd0 L 2 1 0 1 { lin 1 0 1/2 } -1\n") {
		t.Errorf("%q, %v", text, e)
	}
}

// P22.2: all lines, each ended by a line feed, words parted by one blank.
func TestPrint(t *testing.T) {
	checkPrint(t, tell.Cert("| | | | none - - | |"), "VER 1.0; VAR 0; INT 0; OBJ min; 0; CON 0 0; RTP infeas; SOL 0; DER 0")
	checkPrint(t, tell.Cert(good), "VER 1.0; VAR 3; x; y; z; INT 2; 0; 2; OBJ min; 2 0 -3 2 1/2; CON 3 0; c0 L 7 2 0 2 1 1; c1 G -5/2 1 2 -1/3; c2 E 0 0; RTP range -11 -21/2; "+
		"SOL 3; s0 2 0 3 1 1; s1 0; s2 1 2 1/7; DER 6; d0 L 2 1 0 1 { lin 1 0 1/2 } -1; d1 G 0 1 2 1 { rnd 2 1 1 3 -1/2 } -1; d2 L 3 1 0 1 { asm } -1; "+
		"d3 G 4 1 0 1 { asm } -1; d4 G 1 0 { uns 3 5 0 6 } -1; d5 E 1 0 { lin 0 } -1")
	checkPrint(t, tell.Cert("x | w | 1@0 | | range - - | | "), "VER 1.0; VAR 1; x; INT 1; 0; OBJ min; 1 0 1; CON 0 0; RTP range -inf inf; SOL 0; DER 0")
	checkPrint(t, tell.Cert("x | - | | | range 0 - | ; | "), "VER 1.0; VAR 1; x; INT 0; OBJ min; 0; CON 0 0; RTP range 0 inf; SOL 1; s0 0; DER 0")
	checkPrint(t, tell.Cert("DER x x | -ww | | | range - -1/3 | | <= 0 by round;"), "VER 1.0; VAR 3; DER; x; x; INT 2; 1; 2; OBJ min; 0; CON 0 0; RTP range -inf -1/3; SOL 0; DER 1; d0 L 0 0 { rnd 0 } -1")
	checkPrint(t, tell.Cert("x | - | | | none - - | | <= 0 by assume; = 1 by split;"), "VER 1.0; VAR 1; x; INT 0; OBJ min; 0; CON 0 0; RTP infeas; SOL 0; DER 2; d0 L 0 0 { asm } -1; d1 E 1 0 { uns 0 0 0 0 } -1")
}

// P22.2: numbers of many digits, and line numbers of more than one.
func TestPrintLong(t *testing.T) {
	c := tell.Cert("x | - | | | range -7 - | | ")
	want := "VER 1.0; VAR 1; x; INT 0; OBJ min; 1 0 1" + strings.Repeat("0", 350) + "; CON 0 0; RTP range -1/1" + strings.Repeat("0", 350) + " inf; SOL 0; DER 12"
	c.Obj = tell.Vec("1e50@0")
	for range 6 {
		c.Obj[0].Val = rat.Mul(c.Obj[0].Val, tell.Rat("1e50"))
	}
	c.Lo, _ = rat.Div(tell.Rat("-1"), c.Obj[0].Val)
	for i, no := range strings.Fields("0 1 2 3 4 5 6 7 8 9 10 11") {
		d := tell.Ders(">= -1 by sum;")[0]
		want += "; d" + no + " G -1 0 { lin "
		if i == 11 {
			d.Uses = tell.Vec("1@9 2@10")
			want += "2 9 1 10 2 } -1"
		} else {
			want += "0 } -1"
		}
		c.Ders = append(c.Ders, d)
	}
	checkPrint(t, c, want)
}

// checkRight holds Check, and Print's error, against what is told of a certificate.
func checkRight(t *testing.T, what string, c api.Cert, right bool) {
	t.Helper()
	want := api.ErrArg
	if right {
		want = api.OK
	}
	text, e := cert.Print(c)
	if got := cert.Check(c); got != want || e != want || (text != "") != right {
		t.Errorf("%s: %v, %v, %.300q", what, got, e, text)
	}
}

// P22.1: the edges of what is right.
func TestCheckRight(t *testing.T) {
	for _, s := range []string{
		good, "| | | | none - - | |", "| | | | range - - | ; ; |", "| | | | range 5 -5 | |", "x x | ww | | | none - - | |", "! ~ | -- | | | none - - | |",
		strings.Repeat("x", api.MaxName) + " | w | | | none - - | |", "x | w | 1@0 | 1@0 = 0; | range 0 0 | 1@0; | 1@0 <= 0 by sum 1@0;",
		"| | | <= 0; | none - - | | <= 0 by sum 1@0; <= 0 by round 1@0 1@1; = 0 by split at 2 2 2 2; <= 0 by split at 3 0 1 2;",
		"| | | | none - - | | <= 0 by sum; <= 0 by round; <= 0 by assume; <= 0 by split; <= 0 by split at 3 3 3 3;",
	} {
		checkRight(t, s, tell.Cert(s), true)
	}
	checkRight(t, "lists without elements", api.Cert{Names: []string{}, Whole: []bool{}, Obj: []api.Term{}, Cons: []api.Cons{}, Claim: api.ClaimNone, Lo: rat.Whole(0), Hi: rat.Whole(0), Sols: [][]api.Term{}, Ders: []api.Der{}}, true)
	many := tell.Cert("| | | | none - - | |") // of more than a problem may have
	many.Names, many.Whole, many.Cons = slices.Repeat([]string{"x"}, 100), slices.Repeat([]bool{true}, 100), slices.Repeat(tell.ConsList("1@99 <= 0;"), 100)
	checkRight(t, "many", many, true)
}

// P22.1: what isn't right.
func TestCheckWrong(t *testing.T) {
	long := strings.Repeat("x", api.MaxName+1)
	for _, s := range []string{
		long + " | w | | | none - - | |", "x y | w | | | none - - | |", "x | | | | none - - | |", "x | ww | | | none - - | |", "| - | | | none - - | |", // names, and which ones are whole
		"x | w | 1@1 | | none - - | |", "x | w | 1@-1 | | none - - | |", "x | w | 0@0 | | none - - | |", "x y | ww | 1@1 1@0 | | none - - | |", "x | w | 1@0 1@0 | | none - - | |", "x | w | 1@9223372036854775807 | | none - - | |", // Obj
		"x | w | | 1@1 <= 0; | none - - | |", "x | w | | 1@-1 = 0; | none - - | |", "x | w | | 0@0 >= 0; | none - - | |", "x y | ww | | <= 0; 1@1 1@0 = 0; | none - - | |", "| | | 0 5; | none - - | |", "| | | 4 5; | none - - | |", "| | | -1 5; | none - - | |", "| | | 9223372036854775807 5; | none - - | |", // Cons
		"| | | | 0 - - | |", "| | | | 3 - - | |", "| | | | -1 - - | |", "| | | | 9223372036854775807 - - | |", "| | | | none 0 - | |", "| | | | none - 0 | |", "| | | | none 1 2 | |", "| | | | none - - | ; |", // the claim
		"x | w | | | range - - | 1@1; |", "x | w | | | range - - | 1@0; 1@-1; |", "x | w | | | range - - | 0@0; |", "x y | ww | | | range - - | 1@1 1@0; |", // Sols
		"x | w | | | none - - | | 1@1 <= 0 by assume;", "x | w | | | none - - | | 1@-1 <= 0 by sum;", "x | w | | | none - - | | 0@0 <= 0 by round;", "x | w | | | none - - | | 1@0 1@0 <= 0 by assume;", // the Ders' constraints
		"| | | | none - - | | 0 0 by assume;", "| | | | none - - | | 4 0 by sum;", "| | | | none - - | | <= 0 by assume; -1 0 by split;",
		"| | | | none - - | | <= 0 by 0;", "| | | | none - - | | <= 0 by 5;", "| | | | none - - | | <= 0 by -1;", "| | | | none - - | | <= 0 by 9223372036854775807;", // reasons
		"| | | <= 0; | none - - | | <= 0 by assume 1@0;", "| | | <= 0; | none - - | | <= 0 by split 1@0;", "| | | <= 0; | none - - | | <= 0 by assume 0@0;", // what a reason has no use for
	} {
		checkRight(t, s, tell.Cert(s), false)
	}
	for _, at := range []string{"1 0 0 0", "0 1 0 0", "0 0 1 0", "0 0 0 1", "-1 0 0 0", "0 0 0 -1"} {
		for _, reason := range []string{"assume", "sum", "round", "sum 1@0"} {
			s := "| | | <= 0; <= 0; | none - - | | <= 0 by " + reason + " at " + at + ";"
			checkRight(t, s, tell.Cert(s), false)
		}
	}
	for _, reason := range []string{
		"sum 1@3", "sum 1@2 1@3", "round 1@3", "sum 1@-1", "round 1@-1", "sum 0@0", "round 0@1", "sum 1@1 1@0", "round 1@1 1@1", "sum 1@4", "sum 1@5", "sum 1@9223372036854775807", // of lines ahead
		"split at 3 0 0 0", "split at 0 3 0 0", "split at 0 0 3 0", "split at 0 0 0 3", "split at -1 0 0 0", "split at 0 -1 0 0", "split at 0 0 -1 0", "split at 0 0 0 -1", "split at 4 0 0 0", "split at 0 0 0 9223372036854775807", "split at -9223372036854775808 0 0 0",
	} {
		s := "| | | <= 0; <= 0; | none - - | | <= 0 by assume; <= 0 by " + reason + "; <= 0 by assume;"
		checkRight(t, s, tell.Cert(s), false)
	}
	checkRight(t, "nothing ahead", tell.Cert("| | | | none - - | | <= 0 by split;"), false)
	checkRight(t, "nothing told", api.Cert{}, false)
}

// P22.1: names are words.
func TestCheckNames(t *testing.T) {
	for b := range 256 {
		c := tell.Cert("x y | ww | | | none - - | |")
		c.Names[1] = "a" + string([]byte{byte(b)}) + "z"
		checkRight(t, c.Names[1], c, b >= 33 && b <= 126)
	}
	for _, name := range []string{"", "\u00e9", "\xff", "x\n", " x"} {
		c := tell.Cert("x y | ww | | | none - - | |")
		c.Names[0] = name
		checkRight(t, name, c, false)
	}
}

// P22.1: each number is in its one form, wherever it stands, and one that isn't there is 0.
func TestCheckNumbers(t *testing.T) {
	for place, at := range []func(c *api.Cert) *api.Rat{
		func(c *api.Cert) *api.Rat { return &c.Obj[1].Val },
		func(c *api.Cert) *api.Rat { return &c.Cons[0].Terms[0].Val },
		func(c *api.Cert) *api.Rat { return &c.Cons[1].Rhs },
		func(c *api.Cert) *api.Rat { return &c.Lo },
		func(c *api.Cert) *api.Rat { return &c.Hi },
		func(c *api.Cert) *api.Rat { return &c.Sols[2][0].Val },
		func(c *api.Cert) *api.Rat { return &c.Ders[3].Cons.Terms[0].Val },
		func(c *api.Cert) *api.Rat { return &c.Ders[5].Cons.Rhs },
		func(c *api.Cert) *api.Rat { return &c.Ders[0].Uses[0].Val },
		func(c *api.Cert) *api.Rat { return &c.Ders[1].Uses[1].Val },
	} {
		for _, a := range []api.Rat{
			{}, {Num: api.Int{Neg: true}, Den: []uint64{1}}, {Num: api.Int{Abs: []uint64{2}}}, {Num: api.Int{Abs: []uint64{2}}, Den: []uint64{2}}, {Num: api.Int{Abs: []uint64{2, 0}}, Den: []uint64{1}}, {Num: api.Int{Abs: []uint64{2}}, Den: []uint64{1, 0}}, {Den: []uint64{2}},
		} {
			c := tell.Cert(good)
			*at(&c) = a
			checkRight(t, tell.OfCert(c), c, false)
		}
		c := tell.Cert(good)
		*at(&c) = tell.Rat("-100000000000000000000/3")
		checkRight(t, tell.OfCert(c), c, true)
		*at(&c) = tell.Rat("0")
		checkRight(t, tell.OfCert(c), c, slices.Contains([]int{2, 3, 4, 7}, place)) // a 0 among terms isn't their one form
	}
	for _, s := range []string{"| | | | range - 2 | |", "| | | | range 2 - | |", "| | | | none - - | |"} {
		for _, a := range append(tell.Rats("1 -1/2"), api.Rat{}, api.Rat{Den: []uint64{2}}) {
			c := tell.Cert(s)
			if !c.HasLo {
				c.Lo = a
				checkRight(t, tell.OfCert(c), c, false)
				c = tell.Cert(s)
			}
			if !c.HasHi {
				c.Hi = a
				checkRight(t, tell.OfCert(c), c, false)
			}
		}
	}
}

// Rule 7: numbers out of all bounds.
func TestCheckGreat(t *testing.T) {
	for _, n := range []int{math.MinInt, math.MaxInt} {
		for _, spoil := range []func(c *api.Cert){
			func(c *api.Cert) { c.Obj[1].Col = n },
			func(c *api.Cert) { c.Cons[0].Sense = n },
			func(c *api.Cert) { c.Claim = n },
			func(c *api.Cert) { c.Ders[4].Left = n },
			func(c *api.Cert) { c.Ders[4].Reason = n },
			func(c *api.Cert) { c.Ders[5].RightIf = n },
			func(c *api.Cert) { c.Ders[1].Uses[1].Col = n },
		} {
			c := tell.Cert(good)
			spoil(&c)
			checkRight(t, tell.OfCert(c), c, false)
		}
	}
}

// P22.3: what is handed in stays as it was.
func TestOwnMemory(t *testing.T) {
	c := tell.Cert(good)
	first, _ := cert.Print(c)
	second, _ := cert.Print(c)
	if got, want := tell.OfCert(c), tell.OfCert(tell.Cert(good)); got != want || first != second {
		t.Errorf("%s, not %s", got, want)
	}
	clear(c.Names)
	clear(c.Cons)
	if other, _ := cert.Print(tell.Cert(good)); first != other {
		t.Errorf("%q, not %q", first, other)
	}
}
