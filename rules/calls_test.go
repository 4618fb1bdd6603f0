// Package rules holds all calls of the program against the rules that hold everywhere.
package rules

import (
	"math/rand"
	"reflect"

	"cutwater/api"
	"cutwater/branch"
	"cutwater/cert"
	"cutwater/cgcut"
	"cutwater/cons"
	"cutwater/derive"
	"cutwater/dual"
	"cutwater/fields"
	"cutwater/gmi"
	"cutwater/lu"
	"cutwater/mat"
	"cutwater/model"
	"cutwater/mps"
	"cutwater/nat"
	"cutwater/pool"
	"cutwater/propag"
	"cutwater/queue"
	"cutwater/rat"
	"cutwater/ratext"
	"cutwater/ratio"
	"cutwater/shape"
	"cutwater/vec"
	"cutwater/vipr"
	"cutwater/zint"
)

// call is a call of the program by its name, and the errors that it has.
type call struct {
	name   string
	f      any
	errors []api.Errno
}

// errors writes a list of errors.
func errors(list ...api.Errno) []api.Errno { return list }

// callsOfWholes are those of nat and zint.
func callsOfWholes() []call {
	return []call{
		{"nat.Trim", nat.Trim, nil},
		{"nat.Cmp", nat.Cmp, nil},
		{"nat.Add", nat.Add, nil},
		{"nat.Sub", nat.Sub, errors(api.ErrBelow)},
		{"nat.Mul", nat.Mul, nil},
		{"nat.DivMod", nat.DivMod, errors(api.ErrZero)},
		{"nat.Gcd", nat.Gcd, nil},
		{"nat.Shl", nat.Shl, errors(api.ErrArg)},
		{"nat.Shr", nat.Shr, errors(api.ErrArg)},
		{"nat.Bits", nat.Bits, nil},
		{"nat.Parse", nat.Parse, errors(api.ErrDigit, api.ErrLong)},
		{"nat.Text", nat.Text, nil},
		{"zint.Make", zint.Make, nil},
		{"zint.Of", zint.Of, nil},
		{"zint.To", zint.To, errors(api.ErrLong)},
		{"zint.Sign", zint.Sign, nil},
		{"zint.Cmp", zint.Cmp, nil},
		{"zint.Neg", zint.Neg, nil},
		{"zint.Add", zint.Add, nil},
		{"zint.Sub", zint.Sub, nil},
		{"zint.Mul", zint.Mul, nil},
		{"zint.DivFloor", zint.DivFloor, errors(api.ErrZero)},
		{"zint.Parse", zint.Parse, errors(api.ErrDigit, api.ErrLong)},
		{"zint.Text", zint.Text, nil},
	}
}

// callsOfFractions are those of rat and ratext.
func callsOfFractions() []call {
	return []call{
		{"rat.Make", rat.Make, errors(api.ErrZero)},
		{"rat.Form", rat.Form, nil},
		{"rat.Of", rat.Of, errors(api.ErrZero)},
		{"rat.Whole", rat.Whole, nil},
		{"rat.OfInt", rat.OfInt, nil},
		{"rat.Sign", rat.Sign, nil},
		{"rat.Cmp", rat.Cmp, nil},
		{"rat.Neg", rat.Neg, nil},
		{"rat.Add", rat.Add, nil},
		{"rat.Sub", rat.Sub, nil},
		{"rat.Mul", rat.Mul, nil},
		{"rat.Div", rat.Div, errors(api.ErrZero)},
		{"rat.Floor", rat.Floor, nil},
		{"rat.Ceil", rat.Ceil, nil},
		{"rat.Frac", rat.Frac, nil},
		{"rat.IsWhole", rat.IsWhole, nil},
		{"ratext.Parse", ratext.Parse, errors(api.ErrDigit, api.ErrLong, api.ErrZero)},
		{"ratext.Text", ratext.Text, nil},
	}
}

// callsOfVectors are those of vec and mat.
func callsOfVectors() []call {
	return []call{
		{"vec.Make", vec.Make, nil},
		{"vec.Get", vec.Get, nil},
		{"vec.Dot", vec.Dot, nil},
		{"vec.Scale", vec.Scale, nil},
		{"vec.Axpy", vec.Axpy, nil},
		{"vec.Gather", vec.Gather, nil},
		{"vec.Scatter", vec.Scatter, errors(api.ErrArg)},
		{"mat.Times", mat.Times, nil},
		{"mat.TimesT", mat.TimesT, nil},
		{"mat.Transpose", mat.Transpose, errors(api.ErrArg)},
		{"mat.Product", mat.Product, nil},
		{"mat.Rows", mat.Rows, errors(api.ErrArg)},
		{"mat.Columns", mat.Columns, errors(api.ErrArg)},
	}
}

// callsOfSquares are those of lu; what a matrix that was taken apart answers is answered twice.
func callsOfSquares() []call {
	twice := func(cols [][]api.Term, solve func(l *lu.LU) ([]api.Rat, api.Errno)) ([]api.Rat, []api.Rat, api.Errno) {
		l, e := lu.Factor(cols)
		if e != api.OK {
			return nil, nil, e
		}
		first, e := solve(l)
		second, _ := solve(l)
		return first, second, e
	}
	return []call{
		{"lu.Factor", func(cols [][]api.Term) (int, [][][]api.Term, []api.Rat, api.Errno) {
			l, e := lu.Factor(cols)
			if e != api.OK {
				return 0, nil, nil, e
			}
			return l.Len(), [][][]api.Term{l.Columns(), l.Columns()}, []api.Rat{l.Det(), l.Det()}, e
		}, errors(api.ErrArg, api.ErrSingular)},
		{"lu.Solve", func(cols [][]api.Term, b []api.Rat) ([]api.Rat, []api.Rat, api.Errno) {
			return twice(cols, func(l *lu.LU) ([]api.Rat, api.Errno) { return l.Solve(b) })
		}, errors(api.ErrArg, api.ErrSingular)},
		{"lu.SolveT", func(cols [][]api.Term, c []api.Rat) ([]api.Rat, []api.Rat, api.Errno) {
			return twice(cols, func(l *lu.LU) ([]api.Rat, api.Errno) { return l.SolveT(c) })
		}, errors(api.ErrArg, api.ErrSingular)},
		{"lu.Replace", func(cols [][]api.Term, k int, col []api.Term) ([][]api.Term, api.Rat, api.Errno) {
			l, e := lu.Factor(cols)
			if e == api.OK {
				e = l.Replace(k, col)
			}
			if e != api.OK {
				return nil, api.Rat{}, e
			}
			return l.Columns(), l.Det(), e
		}, errors(api.ErrArg, api.ErrSingular)},
	}
}

// place tells where an error is: it stands beside it, and needn't be 0.
type place int

// callsOfTexts are those of fields and mps.
func callsOfTexts() []call {
	return []call{
		{"fields.Lines", func(text string) ([]api.Line, api.Errno, place) {
			lines, e, n := fields.Lines(text)
			return lines, e, place(n)
		}, errors(api.ErrLong, api.ErrField)},
		{"mps.Parse", func(text string) (api.Problem, api.Errno, place) {
			p, e, n := mps.Parse(text)
			return p, e, place(n)
		}, errors(api.ErrLong, api.ErrField, api.ErrMark, api.ErrSection, api.ErrName, api.ErrTwice, api.ErrUnknown, api.ErrNumber, api.ErrKind, api.ErrMany)},
		{"mps.Check", mps.Check, errors(api.ErrArg, api.ErrLong)},
		{"mps.Print", mps.Print, errors(api.ErrArg, api.ErrLong)},
	}
}

// anyProblem is a problem where it may be in any form.
type anyProblem api.Problem

// callsOfMeaning are those of model and cons.
func callsOfMeaning() []call {
	return []call{
		{"model.Holds", func(p anyProblem, x []api.Rat) bool { return model.Holds(api.Problem(p), x) }, nil},
		{"model.Cost", func(p anyProblem, x []api.Rat) api.Rat { return model.Cost(api.Problem(p), x) }, nil},
		{"model.Finite", func(p anyProblem) bool { return model.Finite(api.Problem(p)) }, nil},
		{"model.Whole", func(p anyProblem) []bool { return model.Whole(api.Problem(p)) }, nil},
		{"model.Objective", func(p anyProblem) []api.Term { return model.Objective(api.Problem(p)) }, nil},
		{"model.Constraints", func(p anyProblem) []api.Cons { return model.Constraints(api.Problem(p)) }, nil},
		{"cons.Form", cons.Form, nil},
		{"cons.Holds", cons.Holds, nil},
		{"cons.Combine", cons.Combine, errors(api.ErrArg, api.ErrRule)},
		{"cons.Round", cons.Round, errors(api.ErrArg, api.ErrRule)},
		{"cons.False", cons.False, nil},
		{"cons.Dominates", cons.Dominates, nil},
		{"cons.Split", cons.Split, nil},
	}
}

// standing is a linear problem, and how its columns stand.
type standing struct {
	LP            api.LP
	Basis, Status []int
}

// callsOfShapes are those of shape, ratio and dual.
func callsOfShapes() []call {
	return []call{
		{"shape.Make", func(p anyProblem) api.LP { return shape.Make(api.Problem(p)) }, nil},
		{"shape.AddRow", shape.AddRow, errors(api.ErrArg)},
		{"shape.SetBound", shape.SetBound, errors(api.ErrArg)},
		{"shape.Check", func(s standing) api.Errno { return shape.Check(s.LP, s.Basis, s.Status) }, errors(api.ErrArg, api.ErrSingular)},
		{"shape.Primal", func(s standing) ([]api.Rat, api.Errno) { return shape.Primal(s.LP, s.Basis, s.Status) }, errors(api.ErrArg, api.ErrSingular)},
		{"shape.Duals", func(s standing) ([]api.Rat, []api.Rat, api.Errno) { return shape.Duals(s.LP, s.Basis, s.Status) }, errors(api.ErrArg, api.ErrSingular)},
		{"shape.Tableau", func(s standing, place int) ([]api.Rat, api.Errno) {
			return shape.Tableau(s.LP, s.Basis, s.Status, place)
		}, errors(api.ErrArg, api.ErrSingular)},
		{"shape.Start", shape.Start, errors(api.ErrArg, api.ErrFree)},
		{"ratio.Leave", func(s standing, x []api.Rat, first bool) (int, bool, bool) {
			return ratio.Leave(s.LP, s.Basis, x, first)
		}, nil},
		{"ratio.Enter", func(s standing, d, row []api.Rat, t ratio.Turn) (int, []int, bool) {
			return ratio.Enter(s.LP, s.Status, d, row, t)
		}, nil},
		{"ratio.Feasible", func(s standing, d []api.Rat) bool { return ratio.Feasible(s.LP, s.Status, d) }, nil},
		{"dual.Solve", func(s standing, o api.LPOptions) (api.LPAnswer, api.Errno) {
			return dual.Solve(s.LP, s.Basis, s.Status, o)
		}, errors(api.ErrArg, api.ErrSingular, api.ErrBounds, api.ErrRule)},
	}
}

// callsOfProofs are those of derive and propag.
func callsOfProofs() []call {
	return []call{
		{"derive.Bound", derive.Bound, errors(api.ErrArg)},
		{"derive.Sum", derive.Sum, errors(api.ErrArg, api.ErrRule)},
		{"derive.Best", derive.Best, nil},
		{"derive.None", derive.None, nil},
		{"propag.Tighten", propag.Tighten, nil},
		{"propag.All", propag.All, errors(api.ErrArg)},
	}
}

// wholes is a linear problem, how its columns stand, and which of its variables are whole.
type wholes struct {
	LP            api.LP
	Basis, Status []int
	Whole         []bool
}

// callsOfCuts are those of cgcut, gmi and pool.
func callsOfCuts() []call {
	filled := func(patience int, list []api.Cons) *pool.Pool {
		p := pool.New(patience)
		for _, c := range list {
			p.Add(c)
		}
		return p
	}
	return []call{
		{"cgcut.Even", func(s standing, whole []bool, col int) bool { return cgcut.Even(s.LP, whole, s.Status, col) }, nil},
		{"cgcut.Cut", func(w wholes, place int) (api.Cons, []api.Use, bool) {
			return cgcut.Cut(w.LP, w.Whole, w.Basis, w.Status, place)
		}, nil},
		{"gmi.Cut", func(w wholes, place int) (api.SplitCut, bool) {
			return gmi.Cut(w.LP, w.Whole, w.Basis, w.Status, place)
		}, nil},
		{"gmi.Sides", gmi.Sides, errors(api.ErrArg, api.ErrRule)},
		{"gmi.High", gmi.High, nil},
		{"pool.Scale", pool.Scale, nil},
		{"pool.Add", func(patience int, list []api.Cons, c api.Cons) (bool, bool, int, []api.Cons, []api.Cons) {
			p := filled(patience, list)
			return p.Add(c), p.Add(c), p.Len(), p.Cuts(), p.Cuts()
		}, nil},
		{"pool.Broken", func(list []api.Cons, x []api.Rat) ([]int, []int) {
			p := filled(0, list)
			return p.Broken(x), p.Broken(x)
		}, nil},
		{"pool.Age", func(patience int, list []api.Cons, x []api.Rat) (int, []api.Cons, int, []api.Cons) {
			p := filled(patience, list)
			first, cuts := p.Age(x), p.Cuts()
			return first, cuts, p.Age(x), p.Cuts()
		}, nil},
	}
}

// lesson is what a brancher is told.
type lesson struct {
	Col        int
	Up         bool
	Step, Gain api.Rat
}

// callsOfTrees are those of queue and branch.
func callsOfTrees() []call {
	return []call{
		{"queue.Pop", func(order int, list []api.Node) ([]api.Node, api.Errno) {
			q, e := waiting(order, list)
			return drained(q), e
		}, errors(api.ErrArg)},
		{"queue.Least", func(order int, list []api.Node) (api.Rat, api.Rat, bool, int, []api.Node, api.Errno) {
			q, e := waiting(order, list)
			if e != api.OK {
				return api.Rat{}, api.Rat{}, false, 0, nil, e
			}
			first, _ := q.Least()
			second, found := q.Least()
			return first, second, found, q.Len(), drained(q), e
		}, errors(api.ErrArg)},
		{"queue.Prune", func(order int, list []api.Node, limit api.Rat) ([]int, []int, int, []api.Node, api.Errno) {
			q, e := waiting(order, list)
			if e != api.OK {
				return nil, nil, 0, nil, e
			}
			return q.Prune(limit), q.Prune(limit), q.Len(), drained(q), e
		}, errors(api.ErrArg)},
		{"branch.Learn", func(rule int, list []lesson, l lesson) (bool, bool, []api.Rat, api.Errno) {
			b, _, e := taught(rule, list)
			if e != api.OK {
				return false, false, nil, e
			}
			half := api.Rat{Num: api.Int{Abs: []uint64{1}}, Den: []uint64{2}}
			return b.Learn(l.Col, l.Up, l.Step, l.Gain), b.Learn(l.Col, l.Up, l.Step, l.Gain), []api.Rat{b.Score(l.Col, half), b.Score(0, half)}, e
		}, errors(api.ErrArg)},
		{"branch.Score", func(rule int, list []lesson, col int, part api.Rat) ([]bool, []api.Rat, api.Errno) {
			b, took, e := taught(rule, list)
			if e != api.OK {
				return nil, nil, e
			}
			return took, []api.Rat{b.Score(col, part), b.Score(col, part)}, e
		}, errors(api.ErrArg)},
		{"branch.Choose", func(rule int, list []lesson, whole []bool, x []api.Rat) (int, bool, api.Errno) {
			b, _, e := taught(rule, list)
			if e != api.OK {
				return 0, false, e
			}
			col, found := b.Choose(whole, x)
			return col, found, e
		}, errors(api.ErrArg)},
	}
}

// waiting gives a queue in which these nodes wait.
func waiting(order int, list []api.Node) (*queue.Queue, api.Errno) {
	q, e := queue.New(order)
	if e != api.OK {
		return q, e
	}
	for _, n := range list {
		q.Push(n)
	}
	return q, e
}

// drained takes all nodes out, and what comes when nobody waits; of no queue nothing.
func drained(q *queue.Queue) []api.Node {
	if q == nil {
		return nil
	}
	var out []api.Node
	for {
		n, found := q.Pop()
		out = append(out, n)
		if !found {
			return out
		}
	}
}

// taught gives a brancher that was told these, and which ones it learned.
func taught(rule int, list []lesson) (*branch.Brancher, []bool, api.Errno) {
	b, e := branch.New(rule)
	if e != api.OK {
		return b, nil, e
	}
	var took []bool
	for _, l := range list {
		took = append(took, b.Learn(l.Col, l.Up, l.Step, l.Gain))
	}
	return b, took, e
}

// callsOfCertificates are those of cert and vipr.
func callsOfCertificates() []call {
	return []call{
		{"cert.Check", cert.Check, errors(api.ErrArg)},
		{"cert.Print", cert.Print, errors(api.ErrArg)},
		{"vipr.Parse", func(text string) (api.Cert, api.Errno, place) {
			c, e, n := vipr.Parse(text)
			return c, e, place(n)
		}, errors(api.ErrWord, api.ErrNumber, api.ErrIndex, api.ErrReason, api.ErrSol, api.ErrTail)},
	}
}

// calls are all that stand now.
func calls() []call {
	var out []call
	for _, list := range [][]call{callsOfWholes(), callsOfFractions(), callsOfVectors(), callsOfSquares(), callsOfTexts(), callsOfMeaning(), callsOfShapes(), callsOfProofs(), callsOfCuts(), callsOfTrees(), callsOfCertificates()} {
		out = append(out, list...)
	}
	return out
}

// run calls it.
func (c call) run(given []reflect.Value) answer {
	return answer{reflect.ValueOf(c.f).Call(given)}
}

// games gives what it is given in these tests, one list of arguments a game: all that can be made of its supply, or so many of these by chance.
func (c call) games() [][]reflect.Value {
	const most = 1200
	form := reflect.TypeOf(c.f)
	all, supplies := 1, [][]any{}
	for i := range form.NumIn() {
		supplies = append(supplies, supply(form.In(i)))
		all *= len(supplies[i])
	}
	r := rand.New(rand.NewSource(int64(all)))
	var out [][]reflect.Value
	for n := range min(all, most) {
		if all > most {
			n = r.Intn(all)
		}
		var given []reflect.Value
		for _, list := range supplies {
			given = append(given, reflect.ValueOf(list[n%len(list)]))
			n /= len(list)
		}
		out = append(out, given)
	}
	return out
}

// answer is what a call answered.
type answer struct{ results []reflect.Value }

// err gives its error.
func (a answer) err() api.Errno {
	for _, v := range a.results {
		if e, ok := v.Interface().(api.Errno); ok {
			return e
		}
	}
	return api.OK
}

// empty tells whether all but its error, and the place of that, is a zero value.
func (a answer) empty() bool {
	for _, v := range a.results {
		switch v.Interface().(type) {
		case api.Errno, place:
			continue
		}
		if !empty(v) {
			return false
		}
	}
	return true
}
