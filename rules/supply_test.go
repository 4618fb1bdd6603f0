package rules

import (
	"math"
	"math/rand"
	"reflect"
	"slices"
	"strconv"
	"strings"
	"sync"

	"cutwater/api"
	"cutwater/gmi"
	"cutwater/mps"
	"cutwater/ratio"
	"cutwater/shape"
	"cutwater/tell"
)

// words gives natural numbers in forms of all kinds.
func words() [][]uint64 {
	long := make([]uint64, 70)
	for i := range long {
		long[i] = uint64(i) * 0x9e3779b97f4a7c15
	}
	return [][]uint64{
		nil, {}, {0}, {0, 0, 0}, {1}, {1, 0}, {6, 0, 0}, {math.MaxInt64}, {1 << 63}, {1<<63 + 1}, {math.MaxUint64},
		{0, 1}, {0, 1, 0}, {math.MaxUint64, math.MaxUint64}, {1, 0, 1 << 63}, long, long[:40], append(long[1:34:34], 0, 0),
	}
}

// ints gives whole numbers likewise.
func ints() []api.Int {
	var out []api.Int
	for _, a := range words() {
		out = append(out, api.Int{Abs: a}, api.Int{Neg: true, Abs: a})
	}
	return out
}

// numbers gives fractions likewise.
func numbers() []api.Rat {
	long := words()[15]
	dens := [][]uint64{nil, {1}, {0}, {2, 0}, {6}, {0, 1}, {0, 0}, {1, 0}, long[1:30], {0, 3, 0}, {math.MaxUint64}, {}}
	var out []api.Rat
	for i, num := range ints() {
		out = append(out, api.Rat{Num: num, Den: dens[i/2%len(dens)]})
	}
	return out
}

// numberLists gives lists of numbers.
func numberLists() [][]api.Rat {
	return [][]api.Rat{nil, {}, {{}}, tell.Rats("1"), tell.Rats("1/2 0 -7/3"), tell.Rats("0 0"), tell.Rats("1 1 1 1 1 1 1 1"), numbers()[12:17], numbers()}
}

// vectors gives vectors in forms of all kinds.
func vectors() [][]api.Term {
	out := [][]api.Term{nil, {}, {{}}, {{Col: -1}}, {{Col: math.MinInt, Val: tell.Rat("1")}, {Col: math.MaxInt, Val: tell.Rat("1/2")}}, {{Col: 5, Val: numbers()[33]}, {Col: 0, Val: numbers()[32]}}}
	for _, s := range []string{"1@0", "-1/2@0 3@2", "2@1 1@0 -2@1", "1@5 -1@5", "1@65535 2@3", "1@65536 1@0", "7@2 7@1 7@0 1/7@2 1/7@0", "1@-3 -1@1"} {
		out = append(out, tell.Vec(s))
	}
	return out
}

// matrices gives matrices likewise.
func matrices() [][][]api.Term {
	out := [][][]api.Term{nil, {}, {nil}, {{}, nil, {{}}}, vectors()[6:8], vectors()[6:9], vectors()[2:4], vectors()}
	for _, s := range []string{"1@0 2@1; 3@1;", "1@0; 1@1; 1@2;", "; -1/2@1; 5@0 5@0 0@2;", "1@3; 2@1 -1/3@2;", "1@65536;", "1@0; 1@9223372036854775807 3@-1;", "1@0 1@1; 2@1;", "1/2@0 3@1 -1@2; 1@1; 3@2 100000000000000000000@0;"} {
		out = append(out, tell.Rows(s))
	}
	return out
}

// manyTexts gives texts of all kinds.
func manyTexts() []string {
	return slices.Concat(numberTexts(), problemTexts(), certificateTexts())
}

// problemTexts gives texts that are a problem's, and such as have something wrong; one of each kind.
func problemTexts() []string {
	many, head := "", "NAME p;ROWS; N cost; L r; E s;COLUMNS; x r 1 cost 2;"
	for i := range api.MaxRows + 1 {
		many += " L r" + strconv.Itoa(i) + ";"
	}
	out := []string{
		"NAME;ROWS; N cost;COLUMNS;ENDATA", head + "ENDATA", head + "RHS; R r 7/2 s -1;RANGES; R s -3;BOUNDS; FX B x 1/3;ENDATA",
		head + " M 'MARKER' 'INTORG'; y s 1; z r 100000000000000000000000; M 'MARKER' 'INTEND';RHS; R r 1/3;BOUNDS; UP B x 5; MI B y; UP B y 4; FR B z;ENDATA",
		head + "RHS; R s -" + strings.Repeat("9", api.MaxDigits) + ";RANGES; R s -1;ENDATA",
		"ROWS", head + "x", head + "RHS x", head + " x s", head + " M 'MARKER' 'INTEND'", head + " aNameOfMoreThanThirtyTwoBytesInAll r 1", head + " x r 1", head + " x no 1", head + " x s 1/0", head + "BOUNDS; XX B x", "NAME;ROWS;" + many,
		strings.Repeat("*", api.MaxText+1),
	}
	for i, s := range out {
		out[i] = strings.ReplaceAll(s, ";", "\n")
	}
	return out
}

// problems gives problems, and such as have something wrong.
func problems() []api.Problem {
	out := []api.Problem{{}, {Obj: "o"}, {Obj: "o", Rows: []api.Row{{Name: "r"}}, Vars: []api.Var{{Name: "x"}}}}
	for _, text := range problemTexts() {
		if p, e, _ := mps.Parse(text); e == api.OK {
			out = append(out, p)
		}
	}
	return out
}

// anyProblems gives problems of any kind: such as a text may tell, and others.
func anyProblems() []anyProblem {
	var out []anyProblem
	for _, p := range problems() {
		out = append(out, anyProblem(p))
	}
	odd := api.Problem{Name: "odd"}
	for i, v := range vectors() {
		a, b := numbers()[i], numbers()[2*i+1]
		odd.Rows = append(odd.Rows, api.Row{HasLo: i%3 > 0, HasHi: i%4 > 0, Lo: a, Hi: b, Terms: v}, api.Row{HasLo: true, HasHi: true, Lo: b, Hi: b, Terms: v})
		odd.Vars = append(odd.Vars, api.Var{Whole: i%2 > 0, HasLo: i%4 > 0, HasHi: i%3 > 0, Lo: a, Hi: b, Cost: b})
	}
	out = append(out, anyProblem(odd))
	for _, rows := range []string{"", "1 2 1@0 -1/2@1 7@2;", "- 4 1@0 2@2 1@9 -1@0; 3 - 1@1 1@1; 5 5 2@1; 3 1 ;"} {
		for _, vars := range []string{"", "0 1 3;", "0 1 -1/2 whole; 0 5 7; - 4 0 whole;", "3 1 0; 0 - 1; 2 2 5;"} {
			out = append(out, anyProblem(tell.Problem(rows, vars)))
		}
	}
	return out
}

// constraints gives constraints in forms of all kinds, of all senses and of none.
func constraints() []api.Cons {
	out := tell.ConsList("2@0 <= 7; 1@0 >= 1; 1@0 = 5/2; 1@0 1@1 <= 3; 1@1 1@0 >= 4; <= 0; >= 1; = -1/2; 1/2@0 3@-1 = 1; 2@1 1@0 -2@1 <= -3/2; 1@0 0 1; 4 0; 1@5 -1 2;")
	for i, v := range vectors() {
		out = append(out, api.Cons{Sense: i % 5, Terms: v, Rhs: numbers()[2*i]})
	}
	return append(out, api.Cons{Sense: math.MaxInt}, api.Cons{Sense: math.MinInt, Rhs: numbers()[31]})
}

// constraintLists gives lists of constraints.
func constraintLists() [][]api.Cons {
	all := constraints()
	out := [][]api.Cons{nil, {}, all[:1], all[1:2], all[2:3], all[10:11], all[:3], all[3:5], all[3:11], all}
	return append(out, tell.ConsList("1@0 <= 1; 1@1 <= 1/2; -1@0 >= 2;"), tell.ConsList("2@3 <= 1; 1@1 -1@1 = 0;"), slices.Repeat(all[3:4], 8))
}

// linears gives linear problems, and such as have something wrong.
func linears() []api.LP {
	out := []api.LP{{}, {N: -1}, {N: math.MaxInt}, tell.LP("0 4 -1 2@0;", "- 3;"), tell.LP("0 1 1; 0 - -1;", ""), tell.LP("", "1 2; - -;"), tell.LP("0 4 -1 2@0 1/2@1; - - 3; 1 - 0 -1@1;", "- 3; 1 2;")}
	out = append(out, tell.LP("1 1 1/2 1@0; 3 1 -1 100000000000000000000@0 -1/3@1; -1 1 0 1@1;", "5 5; - 7;"), tell.LP("0 4 -1 2@0 1@2;", "- 3;"), tell.LP("0 4 -1 2@0;", "- 3;"))
	out[len(out)-1].Cost[1] = tell.Rat("1")
	r := rand.New(rand.NewSource(3))
	for range 6 {
		out = append(out, tell.ChanceLP(r.Intn))
	}
	return out
}

// standings gives linear problems whose columns stand rightly, some of them with right reduced costs, and others.
func standings() []standing {
	var out []standing
	r := rand.New(rand.NewSource(4))
	for i, l := range linears() {
		out = append(out, standing{l, []int{i % 3}, tell.Status("lbhf"[:i%5])})
		if l.N < 0 || l.N > len(l.Cols) {
			continue
		}
		for range 8 {
			basis, status := tell.ChanceStand(l, r.Intn)
			out = append(out, standing{l, basis, status})
			if _, d, e := shape.Duals(l, basis, status); e == api.OK {
				out = append(out, standing{l, basis, tell.Suit(l, status, d)})
			}
		}
	}
	twice := tell.LP("0 4 -1 2@0; 0 1 0 1@0;", "- 3; 1 2;")
	return append(out, standing{twice, []int{0, 1}, tell.Status("bblh")}, standing{twice, []int{0, 3}, tell.Status("blhb")}, standing{twice, []int{0, 0}, tell.Status("blhb")})
}

// manyWholes gives linear problems of which cuts can be made, and others.
func manyWholes() []wholes {
	var out, cut []wholes
	for i, s := range standings() {
		out = append(out, wholes{s.LP, s.Basis, s.Status, make([]bool, i%8)})
	}
	r := rand.New(rand.NewSource(5))
	for len(cut) < 80 {
		l := tell.Rounded(tell.ChanceLP(r.Intn))
		basis, status := tell.ChanceStand(l, r.Intn)
		w := wholes{l, basis, status, make([]bool, l.N)}
		for col := range w.Whole {
			w.Whole[col] = r.Intn(5) > 0
		}
		if _, found := gmi.Cut(w.LP, w.Whole, w.Basis, w.Status, len(cut)%3); found {
			cut = append(cut, w)
		}
	}
	return append(out, cut...)
}

// turns gives what a column that leaves is to reach.
func turns() []ratio.Turn {
	var out []ratio.Turn
	for i, a := range numbers()[:20] {
		out = append(out, ratio.Turn{Up: i%2 > 0, Short: a, Flip: i%4 > 1})
	}
	return out
}

// options gives ways to solve linear problems.
func options() []api.LPOptions {
	return []api.LPOptions{{Most: -1}, {First: true, Most: -1}, {}, {Most: 1}, {First: true, Most: 2}, {Most: math.MaxInt}, {Most: math.MinInt}}
}

// useLists gives uses of bounds, such as are there and others.
func useLists() [][]api.Use {
	out := [][]api.Use{nil, {}, {{}}, {{Col: -1}, {Col: math.MaxInt, Upper: true}, {Col: math.MinInt}}}
	for _, s := range []string{"-2@0h", "1@0l", "1/2@1h -1@0l", "-1/2@1h 1@0l", "1@0l -1@0h -1/3@1h", "1@2l 0@0l -100000000000000000000@3h", "1@0l 1@9l"} {
		out = append(out, tell.Uses(s))
	}
	return append(out, []api.Use{{Col: 0, Often: numbers()[33]}, {Col: 1, Upper: true, Often: numbers()[31]}})
}

// answers gives answers to linear problems, and such as are none.
func answers() []api.LPAnswer {
	out := []api.LPAnswer{{}, {State: api.LPNone, Col: math.MaxInt}, {State: api.LPNone, Col: -1, Row: tell.Rats("1 2"), Status: []int{1, 2}}}
	for i := range 12 {
		a := api.LPAnswer{State: api.LPNone, Basis: []int{i}, Col: i % 3, Up: i%2 > 0, Status: tell.Status("lbhfblh"[:1+i%6])}
		for k := range a.Status {
			a.Row = append(a.Row, numbers()[(7*i+5*k)%36])
		}
		out = append(out, a)
	}
	return out
}

// splitCuts gives what proves a cut on each side of a split, and such as proves none.
func splitCuts() []api.SplitCut {
	out := []api.SplitCut{{}, {Low: tell.Cons("1@0 <= 2"), LowOften: tell.Rat("-1"), HighOften: tell.Rat("1/2")}}
	for i, c := range constraints()[:12] {
		out = append(out, api.SplitCut{Low: c, LowOften: numbers()[3*i], HighOften: numbers()[2*i+1], LowUses: useLists()[i%12], HighUses: useLists()[(i+5)%12]})
	}
	for i, uses := range useLists() {
		out = append(out, api.SplitCut{Low: tell.Cons("-1@1 1@0 <= 3"), LowOften: tell.Rat("-2/3"), HighOften: tell.Rat("2"), LowUses: uses, HighUses: useLists()[(5*i+2)%12]})
	}
	return out
}

// nodeLists gives nodes that are to wait.
func nodeLists() [][]api.Node {
	out := [][]api.Node{nil, {}, {{}}, {{Id: math.MaxInt, Depth: math.MinInt}, {Id: math.MinInt, Depth: math.MaxInt}}}
	for _, s := range []string{"1 0 1/2;", "1 1 3; 2 2 3; 3 0 2;", "1 1 1; 1 1 1; 1 1 1;", "3 0 -1/2; 2 5 7/3; 7 2 -1/2; 2 2 100000000000000000000; 4 5 0; 6 0 0;"} {
		out = append(out, tell.Nodes(s))
	}
	var many []api.Node
	for i, a := range numbers() {
		many = append(many, api.Node{Id: i * 5 % 7, Depth: i % 4, Least: a})
	}
	return append(out, many[12:17], many)
}

// lessons gives what a brancher is told, and such as it refuses.
func lessons() []lesson {
	out := []lesson{{}, {Col: -1, Step: tell.Rat("1"), Gain: tell.Rat("1")}, {Col: math.MaxInt, Up: true, Step: tell.Rat("1"), Gain: tell.Rat("5")}, {Col: math.MinInt, Step: tell.Rat("1")}}
	for i, a := range numbers() {
		out = append(out, lesson{Col: i % 3, Up: i%4 > 1, Step: a, Gain: numbers()[(5*i+2)%36]})
	}
	for i, s := range []string{"1/3 2", "1/2 0", "2/3 -1", "0 1", "-1/4 1"} {
		out = append(out, lesson{Col: i % 2, Up: i%3 > 0, Step: tell.Rats(s)[0], Gain: tell.Rats(s)[1]})
	}
	return out
}

// lessonLists gives lists of these.
func lessonLists() [][]lesson {
	all := lessons()
	return [][]lesson{nil, {}, all[:4], all[4:10], all[10:20], all[40:], slices.Repeat(all[40:41], 3), all}
}

// certificates gives certificates, and such as have something wrong.
func certificates() []api.Cert {
	out := []api.Cert{{}, {Claim: api.ClaimNone}, {Names: []string{"x"}, Whole: []bool{true, false}, Claim: api.ClaimRange}}
	for _, s := range []string{
		"| | | | none - - | |", "x y | w- | -1@0 1/2@1 | 2@0 <= 7; = -1/3; | range - 5 | 1@0; ; | 1@0 <= 7/2 by sum 1/2@0; 1@0 <= 3 by round 1@2; <= 0 by assume; 1@1 >= 1 by split at 2 4 3 4;",
		"x | w | 1@1 | | none - - | |", "x | w | | | none - - | | <= 1 by assume at 1 0 0 0;", "x | w | | | range 2 - | 0@0; | <= 1 by sum 1@0;", "| | | 7 5; | -1 - - | |",
	} {
		out = append(out, tell.Cert(s))
	}
	r := rand.New(rand.NewSource(6))
	for range 60 {
		out = append(out, tell.ChanceCert(r.Intn))
	}
	for i, a := range numbers() {
		c := tell.Cert("x | w | 1@0 | 2@0 <= 7; | range 1 2 | 1@0; | 1@0 <= 7/2 by sum 1/2@0;")
		*[]*api.Rat{&c.Obj[0].Val, &c.Cons[0].Rhs, &c.Lo, &c.Sols[0][0].Val, &c.Ders[0].Uses[0].Val}[i%5] = a
		out = append(out, c)
	}
	return out
}

// certificateTexts gives texts that are a certificate's, and such as have something wrong; one of each kind.
func certificateTexts() []string {
	const head, tail = "VER 1.0 VAR 2 x y INT 1 0 OBJ min 1 1 -1/2 CON 1 0 c L 7 2 0 1 1 2 RTP ", " { lin 1 0 1/3 } -1"
	return []string{
		"VER 1.0 VAR 0 INT 0 OBJ min 0 CON 0 0 RTP infeas SOL 0 DER 0", head + "range -7/2 inf SOL 1 s 1 0 3 DER 3 d L 7/3 2 0 1/3 1 2/3" + tail + " d G 1 0 { asm } -1 d E 0 0 { uns 0 1 2 1 } 5", head + "range -inf -" + strings.Repeat("9", 300) + "/7 SOL 0 DER 0",
		head + "infeas SOL 0 DER 1 d L 7 0" + tail + " x", head + "infeas SOL 0 DER 1 d L 7 0 { sum 1 0 1 } -1", head + "infeas SOL 0 DER 1 d L 7 1 2 1" + tail, head + "infeas SOL 1 s 0 DER 0", head + "range 1/0 inf SOL 0 DER 0", head + "none SOL 0 DER 0",
	}
}

// numberTexts gives texts that are a number's, and such as aren't.
func numberTexts() []string {
	return []string{
		"", "-", "+", "0", "-0", "17", "-17", "+-1", "1x", "\xff\x00", strings.Repeat("8", 200), "-" + strings.Repeat("8", 200), strings.Repeat("8", 201), "-" + strings.Repeat("8", 201),
		"-6/4", "6/-4", "1/0", "12.50", ".5", "-2.5e-1", "1e99", "1e-100", "0.0E+00",
	}
}

// anyOf gives a list as one of values of any type.
func anyOf[T any](list []T) []any {
	var out []any
	for _, a := range list {
		out = append(out, a)
	}
	return out
}

// supplies are lists of values, one for each type that a call takes; they are made but once.
var supplies = sync.OnceValue(func() [][]any {
	return [][]any{
		anyOf([]bool{false, true}),
		anyOf([]int{0, 1, -1, 2, 3, 6, 63, 64, 65, api.MaxShift, api.MaxShift + 1, math.MaxInt, math.MinInt}),
		anyOf([]int64{0, 1, -1, 12, -18, 1 << 40, math.MaxInt64, math.MinInt64}),
		anyOf(manyTexts()),
		anyOf(words()),
		anyOf(ints()),
		anyOf(numbers()),
		anyOf([][]int{nil, {}, {0}, {1, 0}, {0, 1}, {2, 0, 1}, {1, 2}, {0, 0}, {0, 1, 1}, {-1, 0}, {3, 2, 1, 0}, {math.MaxInt, math.MinInt}}),
		anyOf(numberLists()),
		anyOf(vectors()),
		anyOf(matrices()),
		anyOf(problems()),
		anyOf(anyProblems()),
		anyOf([][]bool{nil, {}, {true}, {false}, {true, true}, {false, true, true}, {true, false, true, true, true, true}}),
		anyOf(constraints()),
		anyOf(constraintLists()),
		anyOf(linears()),
		anyOf(standings()),
		anyOf(manyWholes()),
		anyOf(turns()),
		anyOf(options()),
		anyOf(useLists()),
		anyOf(answers()),
		anyOf(splitCuts()),
		anyOf(nodeLists()),
		anyOf(lessons()),
		anyOf(lessonLists()),
		anyOf(certificates()),
	}
})

// supply gives what is handed in where a call takes a value of that type.
func supply(of reflect.Type) []any {
	i := slices.IndexFunc(supplies(), func(list []any) bool { return reflect.TypeOf(list[0]) == of })
	return supplies()[i]
}
