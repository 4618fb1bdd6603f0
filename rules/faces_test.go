package rules

import (
	"cutwater/api"
	"cutwater/branch"
	"cutwater/cert"
	"cutwater/cgcut"
	"cutwater/check"
	"cutwater/cons"
	"cutwater/derive"
	"cutwater/dual"
	"cutwater/fields"
	"cutwater/gmi"
	"cutwater/lu"
	"cutwater/mat"
	"cutwater/model"
	"cutwater/mps"
	"cutwater/nat"
	"cutwater/pool"
	"cutwater/propag"
	"cutwater/prove"
	"cutwater/queue"
	"cutwater/rat"
	"cutwater/ratext"
	"cutwater/ratio"
	"cutwater/shape"
	"cutwater/solve"
	"cutwater/vec"
	"cutwater/vipr"
	"cutwater/zint"
)

// Each call stands in its package with the signature that its chapter lists: else this file can't be compiled.
var (
	_ func(a []uint64) []uint64                                                                       = nat.Trim
	_ func(a, b []uint64) int                                                                         = nat.Cmp
	_ func(a, b []uint64) []uint64                                                                    = nat.Add
	_ func(a, b []uint64) ([]uint64, api.Errno)                                                       = nat.Sub
	_ func(a, b []uint64) []uint64                                                                    = nat.Mul
	_ func(a, b []uint64) ([]uint64, []uint64, api.Errno)                                             = nat.DivMod
	_ func(a, b []uint64) []uint64                                                                    = nat.Gcd
	_ func(a []uint64, n int) ([]uint64, api.Errno)                                                   = nat.Shl
	_ func(a []uint64, n int) ([]uint64, api.Errno)                                                   = nat.Shr
	_ func(a []uint64) int                                                                            = nat.Bits
	_ func(s string) ([]uint64, api.Errno)                                                            = nat.Parse
	_ func(a []uint64) string                                                                         = nat.Text
	_ func(below bool, abs []uint64) api.Int                                                          = zint.Make
	_ func(n int64) api.Int                                                                           = zint.Of
	_ func(a api.Int) (int64, api.Errno)                                                              = zint.To
	_ func(a api.Int) int                                                                             = zint.Sign
	_ func(a, b api.Int) int                                                                          = zint.Cmp
	_ func(a api.Int) api.Int                                                                         = zint.Neg
	_ func(a, b api.Int) api.Int                                                                      = zint.Add
	_ func(a, b api.Int) api.Int                                                                      = zint.Sub
	_ func(a, b api.Int) api.Int                                                                      = zint.Mul
	_ func(a, b api.Int) (api.Int, api.Int, api.Errno)                                                = zint.DivFloor
	_ func(s string) (api.Int, api.Errno)                                                             = zint.Parse
	_ func(a api.Int) string                                                                          = zint.Text
	_ func(num api.Int, den api.Int) (api.Rat, api.Errno)                                             = rat.Make
	_ func(a api.Rat) api.Rat                                                                         = rat.Form
	_ func(num, den int64) (api.Rat, api.Errno)                                                       = rat.Of
	_ func(n int64) api.Rat                                                                           = rat.Whole
	_ func(a api.Int) api.Rat                                                                         = rat.OfInt
	_ func(a api.Rat) int                                                                             = rat.Sign
	_ func(a, b api.Rat) int                                                                          = rat.Cmp
	_ func(a api.Rat) api.Rat                                                                         = rat.Neg
	_ func(a, b api.Rat) api.Rat                                                                      = rat.Add
	_ func(a, b api.Rat) api.Rat                                                                      = rat.Sub
	_ func(a, b api.Rat) api.Rat                                                                      = rat.Mul
	_ func(a, b api.Rat) (api.Rat, api.Errno)                                                         = rat.Div
	_ func(a api.Rat) api.Int                                                                         = rat.Floor
	_ func(a api.Rat) api.Int                                                                         = rat.Ceil
	_ func(a api.Rat) api.Rat                                                                         = rat.Frac
	_ func(a api.Rat) bool                                                                            = rat.IsWhole
	_ func(s string) (api.Rat, api.Errno)                                                             = ratext.Parse
	_ func(a api.Rat) string                                                                          = ratext.Text
	_ func(v []api.Term) []api.Term                                                                   = vec.Make
	_ func(v []api.Term, col int) api.Rat                                                             = vec.Get
	_ func(v []api.Term, x []api.Rat) api.Rat                                                         = vec.Dot
	_ func(a api.Rat, v []api.Term) []api.Term                                                        = vec.Scale
	_ func(a api.Rat, v, w []api.Term) []api.Term                                                     = vec.Axpy
	_ func(x []api.Rat) []api.Term                                                                    = vec.Gather
	_ func(v []api.Term, n int) ([]api.Rat, api.Errno)                                                = vec.Scatter
	_ func(rows [][]api.Term, x []api.Rat) []api.Rat                                                  = mat.Times
	_ func(y []api.Rat, rows [][]api.Term) []api.Term                                                 = mat.TimesT
	_ func(rows [][]api.Term, n int) ([][]api.Term, api.Errno)                                        = mat.Transpose
	_ func(a, b [][]api.Term) [][]api.Term                                                            = mat.Product
	_ func(rows [][]api.Term, order []int) ([][]api.Term, api.Errno)                                  = mat.Rows
	_ func(rows [][]api.Term, order []int) ([][]api.Term, api.Errno)                                  = mat.Columns
	_ func(cols [][]api.Term) (*lu.LU, api.Errno)                                                     = lu.Factor
	_ func(l *lu.LU) int                                                                              = (*lu.LU).Len
	_ func(l *lu.LU, b []api.Rat) ([]api.Rat, api.Errno)                                              = (*lu.LU).Solve
	_ func(l *lu.LU, c []api.Rat) ([]api.Rat, api.Errno)                                              = (*lu.LU).SolveT
	_ func(l *lu.LU, k int, col []api.Term) api.Errno                                                 = (*lu.LU).Replace
	_ func(l *lu.LU) [][]api.Term                                                                     = (*lu.LU).Columns
	_ func(l *lu.LU) api.Rat                                                                          = (*lu.LU).Det
	_ func(text string) ([]api.Line, api.Errno, int)                                                  = fields.Lines
	_ func(text string) (api.Problem, api.Errno, int)                                                 = mps.Parse
	_ func(p api.Problem) api.Errno                                                                   = mps.Check
	_ func(p api.Problem) (string, api.Errno)                                                         = mps.Print
	_ func(p api.Problem, x []api.Rat) bool                                                           = model.Holds
	_ func(p api.Problem, x []api.Rat) api.Rat                                                        = model.Cost
	_ func(p api.Problem) bool                                                                        = model.Finite
	_ func(p api.Problem) []bool                                                                      = model.Whole
	_ func(p api.Problem) []api.Term                                                                  = model.Objective
	_ func(p api.Problem) []api.Cons                                                                  = model.Constraints
	_ func(c api.Cons) api.Cons                                                                       = cons.Form
	_ func(c api.Cons, x []api.Rat) bool                                                              = cons.Holds
	_ func(list []api.Cons, often []api.Rat, sense int) (api.Cons, api.Errno)                         = cons.Combine
	_ func(c api.Cons, whole []bool) (api.Cons, api.Errno)                                            = cons.Round
	_ func(c api.Cons) bool                                                                           = cons.False
	_ func(a, b api.Cons) bool                                                                        = cons.Dominates
	_ func(a, b api.Cons, whole []bool) bool                                                          = cons.Split
	_ func(p api.Problem) api.LP                                                                      = shape.Make
	_ func(l api.LP, c api.Cons) (api.LP, api.Errno)                                                  = shape.AddRow
	_ func(l api.LP, col int, upper bool, v api.Rat) (api.LP, api.Errno)                              = shape.SetBound
	_ func(l api.LP, basis, status []int) api.Errno                                                   = shape.Check
	_ func(l api.LP, basis, status []int) ([]api.Rat, api.Errno)                                      = shape.Primal
	_ func(l api.LP, basis, status []int) ([]api.Rat, []api.Rat, api.Errno)                           = shape.Duals
	_ func(l api.LP, basis, status []int, place int) ([]api.Rat, api.Errno)                           = shape.Tableau
	_ func(l api.LP) ([]int, []int, api.Errno)                                                        = shape.Start
	_ func(l api.LP, basis []int, x []api.Rat, first bool) (place int, up, found bool)                = ratio.Leave
	_ func(l api.LP, status []int, d, row []api.Rat, t ratio.Turn) (col int, flips []int, found bool) = ratio.Enter
	_                                                                                                 = ratio.Turn{Up: true, Short: api.Rat{}, Flip: true}
	_ func(l api.LP, status []int, d []api.Rat) bool                                                  = ratio.Feasible
	_ func(l api.LP, basis, status []int, o api.LPOptions) (api.LPAnswer, api.Errno)                  = dual.Solve
	_ func(l api.LP, col int, upper bool) (api.Cons, api.Errno)                                       = derive.Bound
	_ func(l api.LP, uses []api.Use, sense int) (api.Cons, api.Errno)                                 = derive.Sum
	_ func(l api.LP, d []api.Rat) []api.Use                                                           = derive.Best
	_ func(l api.LP, a api.LPAnswer) []api.Use                                                        = derive.None
	_ func(l api.LP, whole []bool, row, col int, upper bool) (api.Tight, bool)                        = propag.Tighten
	_ func(l api.LP, whole []bool, passes int) (api.LP, []api.Tight, api.Errno)                       = propag.All
	_ func(l api.LP, whole []bool, status []int, col int) bool                                        = cgcut.Even
	_ func(l api.LP, whole []bool, basis, status []int, place int) (api.Cons, []api.Use, bool)        = cgcut.Cut
	_ func(l api.LP, whole []bool, basis, status []int, place int) (api.SplitCut, bool)               = gmi.Cut
	_ func(l api.LP, s api.SplitCut) (low, high api.Cons, e api.Errno)                                = gmi.Sides
	_ func(low api.Cons) api.Cons                                                                     = gmi.High
	_ func(patience int) *pool.Pool                                                                   = pool.New
	_ func(c api.Cons) api.Cons                                                                       = pool.Scale
	_ func(l *pool.Pool, c api.Cons) bool                                                             = (*pool.Pool).Add
	_ func(l *pool.Pool) int                                                                          = (*pool.Pool).Len
	_ func(l *pool.Pool) []api.Cons                                                                   = (*pool.Pool).Cuts
	_ func(l *pool.Pool, x []api.Rat) []int                                                           = (*pool.Pool).Broken
	_ func(l *pool.Pool, x []api.Rat) int                                                             = (*pool.Pool).Age
	_ func(order int) (*queue.Queue, api.Errno)                                                       = queue.New
	_ func(l *queue.Queue, n api.Node)                                                                = (*queue.Queue).Push
	_ func(l *queue.Queue) (api.Node, bool)                                                           = (*queue.Queue).Pop
	_ func(l *queue.Queue) int                                                                        = (*queue.Queue).Len
	_ func(l *queue.Queue) (api.Rat, bool)                                                            = (*queue.Queue).Least
	_ func(l *queue.Queue, limit api.Rat) []int                                                       = (*queue.Queue).Prune
	_ func(rule int) (*branch.Brancher, api.Errno)                                                    = branch.New
	_ func(l *branch.Brancher, whole []bool, x []api.Rat) (int, bool)                                 = (*branch.Brancher).Choose
	_ func(l *branch.Brancher, col int, up bool, step, gain api.Rat) bool                             = (*branch.Brancher).Learn
	_ func(l *branch.Brancher, col int, part api.Rat) api.Rat                                         = (*branch.Brancher).Score
	_ func(c api.Cert) api.Errno                                                                      = cert.Check
	_ func(c api.Cert) (string, api.Errno)                                                            = cert.Print
	_ func(text string) (api.Cert, api.Errno, int)                                                    = vipr.Parse
	_ func(p api.Problem, c api.Cert) (api.Errno, int)                                                = check.Verify
	_ func(problem, certificate string) (api.Errno, int)                                              = check.Check
	_ func(p api.Problem) *prove.Log                                                                  = prove.New
	_ func(l *prove.Log) int                                                                          = (*prove.Log).Len
	_ func(l *prove.Log, i int) (api.Cons, bool)                                                      = (*prove.Log).Line
	_ func(l *prove.Log, i int) []int                                                                 = (*prove.Log).Needs
	_ func(l *prove.Log, c api.Cons) (int, api.Errno)                                                 = (*prove.Log).Assume
	_ func(l *prove.Log, uses []api.Term, sense int) (int, api.Errno)                                 = (*prove.Log).Sum
	_ func(l *prove.Log, uses []api.Term, sense int) (int, api.Errno)                                 = (*prove.Log).Round
	_ func(l *prove.Log, c api.Cons, left, leftIf, right, rightIf int) (int, api.Errno)               = (*prove.Log).Split
	_ func(l *prove.Log) (api.Cert, api.Errno)                                                        = (*prove.Log).None
	_ func(l *prove.Log, x []api.Rat) (api.Cert, api.Errno)                                           = (*prove.Log).Best
	_ func(text string, o api.Options) (api.Outcome, api.Errno)                                       = solve.Solve
)
