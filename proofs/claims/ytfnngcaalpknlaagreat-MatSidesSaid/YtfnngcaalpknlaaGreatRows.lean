/-
  No cell of these rows narrows 'for every input' (looked for: loops, veiled, ifaces, maps, wideKeys, modest, calm, conditions, laid).
  DERIVED. THE GIVEN ROWS OF THIS SEAT. 5 by the template 'for every input the law returns true; each argument reads behind the call as it read before'; 0 by the template 'total and deterministic' (their statements: YtfnngcaalpknlaaGreatTotals.lean).
  GIVEN WITH THE SEED: the statements are not yours to turn. If you find one false, say at which input.
  Laid BY PROGRAM, IN A SANDBOX (cutbox-rows.mjs): the forced cells as the released guide's own fill.sh prints them over the translation 3904428de718f07b… (all of the seat's roots in one cut). By AI agents, Wed Nov 11 2026. No macro, syntax, notation, axiom, sorry.
-/
import Derived.Test.YtfnngcaalpknlaaGreatChecked
import GoSem.Claim
import GoSem.ClaimJoined
import GoSem.ClaimMapViews
import Derived.JoinedTies
import Derived.KernelRfl
namespace Go.Proofs.YtfnngcaalpknlaaGreat
/- THE CELL 'sum', in the pinned program and in every row, IS THE sha256 OF THE DUMP (.gsa) THAT YtfnngcaalpknlaaGreatProg.lean LOADS. Nothing in Lean hashes anything: it is a label: what it is worth is what the hold of that sum in a sandbox is worth. -/
noncomputable def Tryz.pinned : Pinned := { name := "ytfnngcaalpknlaagreat", sum := "3904428de718f07b8f377585c45053c6b337227a9817d9e939941a007d7c1145", checked := Tryz.checked }
namespace Rows
def none {H : Type} : Left H := { results := [], args := [] }

/-- 'cutwaterlaw06.MatSides': WHATEVER THE INPUT: true; the input reads as it did. -/
def matSidesSpec : ChangeSpec := { name := "matSides", fn := fun _ => fun
  | [d1, d2, d3] => { results := [.lit (.bool true)], args := [d1, d2, d3] }
  | _ => none }
def matSidesRow : OpenClaim := { program := "ytfnngcaalpknlaagreat", sum := "3904428de718f07b8f377585c45053c6b337227a9817d9e939941a007d7c1145", func := "cutwater/cutwaterlaw06.MatSides", spec := "matSides", inPlace := ["math/bits.Add64", "math/bits.Sub64"], unfollowed := true, recurses := true, named := ["math/bits.divideError", "math/bits.overflowError"], apart := false }
def MatSidesSaid : Prop := matSidesRow.holds Tryz.pinned (OpenSpec.ofChange matSidesSpec)

/-- ITS FALSE NEIGHBOUR: 'it returns false'. Refute it at one input. -/
def matSidesWrong : ChangeSpec := { name := "matSides", fn := fun _ => fun
  | [d1, d2, d3] => { results := [.lit (.bool false)], args := [d1, d2, d3] }
  | _ => none }
def MatSidesWrongFalsely : Prop := matSidesRow.holds Tryz.pinned (OpenSpec.ofChange matSidesWrong)

/-- 'cutwaterlaw11.ConsCombines': WHATEVER THE INPUT: true; the input reads as it did. -/
def consCombinesSpec : ChangeSpec := { name := "consCombines", fn := fun _ => fun
  | [d1, d2, d3] => { results := [.lit (.bool true)], args := [d1, d2, d3] }
  | _ => none }
def consCombinesRow : OpenClaim := { program := "ytfnngcaalpknlaagreat", sum := "3904428de718f07b8f377585c45053c6b337227a9817d9e939941a007d7c1145", func := "cutwater/cutwaterlaw11.ConsCombines", spec := "consCombines", inPlace := ["math/bits.Add64", "math/bits.Sub64"], unfollowed := true, recurses := true, named := ["math/bits.divideError", "math/bits.overflowError"], apart := false }
def ConsCombinesSaid : Prop := consCombinesRow.holds Tryz.pinned (OpenSpec.ofChange consCombinesSpec)

/-- ITS FALSE NEIGHBOUR: 'it returns false'. Refute it at one input. -/
def consCombinesWrong : ChangeSpec := { name := "consCombines", fn := fun _ => fun
  | [d1, d2, d3] => { results := [.lit (.bool false)], args := [d1, d2, d3] }
  | _ => none }
def ConsCombinesWrongFalsely : Prop := consCombinesRow.holds Tryz.pinned (OpenSpec.ofChange consCombinesWrong)

/-- 'cutwaterlaw11.ConsRounds': WHATEVER THE INPUT: true; the input reads as it did. -/
def consRoundsSpec : ChangeSpec := { name := "consRounds", fn := fun _ => fun
  | [d1, d2, d3] => { results := [.lit (.bool true)], args := [d1, d2, d3] }
  | _ => none }
def consRoundsRow : OpenClaim := { program := "ytfnngcaalpknlaagreat", sum := "3904428de718f07b8f377585c45053c6b337227a9817d9e939941a007d7c1145", func := "cutwater/cutwaterlaw11.ConsRounds", spec := "consRounds", inPlace := ["math/bits.Add64", "math/bits.Sub64"], unfollowed := true, recurses := true, named := ["math/bits.divideError", "math/bits.overflowError"], apart := false }
def ConsRoundsSaid : Prop := consRoundsRow.holds Tryz.pinned (OpenSpec.ofChange consRoundsSpec)

/-- ITS FALSE NEIGHBOUR: 'it returns false'. Refute it at one input. -/
def consRoundsWrong : ChangeSpec := { name := "consRounds", fn := fun _ => fun
  | [d1, d2, d3] => { results := [.lit (.bool false)], args := [d1, d2, d3] }
  | _ => none }
def ConsRoundsWrongFalsely : Prop := consRoundsRow.holds Tryz.pinned (OpenSpec.ofChange consRoundsWrong)

/-- 'cutwaterlaw11.ConsCompares': WHATEVER THE INPUT: true; the input reads as it did. -/
def consComparesSpec : ChangeSpec := { name := "consCompares", fn := fun _ => fun
  | [d1, d2, d3] => { results := [.lit (.bool true)], args := [d1, d2, d3] }
  | _ => none }
def consComparesRow : OpenClaim := { program := "ytfnngcaalpknlaagreat", sum := "3904428de718f07b8f377585c45053c6b337227a9817d9e939941a007d7c1145", func := "cutwater/cutwaterlaw11.ConsCompares", spec := "consCompares", inPlace := ["math/bits.Add64", "math/bits.Sub64"], unfollowed := true, recurses := true, named := ["math/bits.divideError", "math/bits.overflowError"], apart := false }
def ConsComparesSaid : Prop := consComparesRow.holds Tryz.pinned (OpenSpec.ofChange consComparesSpec)

/-- ITS FALSE NEIGHBOUR: 'it returns false'. Refute it at one input. -/
def consComparesWrong : ChangeSpec := { name := "consCompares", fn := fun _ => fun
  | [d1, d2, d3] => { results := [.lit (.bool false)], args := [d1, d2, d3] }
  | _ => none }
def ConsComparesWrongFalsely : Prop := consComparesRow.holds Tryz.pinned (OpenSpec.ofChange consComparesWrong)

/-- 'cutwaterlaw11.ConsOnce': WHATEVER THE INPUT: true; the input reads as it did. -/
def consOnceSpec : ChangeSpec := { name := "consOnce", fn := fun _ => fun
  | [d1, d2] => { results := [.lit (.bool true)], args := [d1, d2] }
  | _ => none }
def consOnceRow : OpenClaim := { program := "ytfnngcaalpknlaagreat", sum := "3904428de718f07b8f377585c45053c6b337227a9817d9e939941a007d7c1145", func := "cutwater/cutwaterlaw11.ConsOnce", spec := "consOnce", inPlace := ["math/bits.Add64", "math/bits.Sub64"], unfollowed := true, recurses := true, named := ["math/bits.divideError", "math/bits.overflowError"], apart := false }
def ConsOnceSaid : Prop := consOnceRow.holds Tryz.pinned (OpenSpec.ofChange consOnceSpec)

/-- ITS FALSE NEIGHBOUR: 'it returns false'. Refute it at one input. -/
def consOnceWrong : ChangeSpec := { name := "consOnce", fn := fun _ => fun
  | [d1, d2] => { results := [.lit (.bool false)], args := [d1, d2] }
  | _ => none }
def ConsOnceWrongFalsely : Prop := consOnceRow.holds Tryz.pinned (OpenSpec.ofChange consOnceWrong)

/- THE SECOND FORM. 'bulk': how many values and letters a reading holds, each counted each time it is reached (what is shared counts as often as it is met; a slice's spare places count too). A statement '..UptoSaid' is the law's where the arguments, and the package variables that the reading takes, are together of bulk at most 1048576: NARROWER than '..Said'. Prove '..Said' where nothing that the law and all that it calls make is longer than what came in: it says more and counts as full. Else prove '..UptoSaid'. A law counts once. -/
mutual
def uptoBulk {H : Type} : DataW H → Nat
  | .lit (.string bytes) => bytes.length + 1
  | .lit _ => 1
  | .nil => 1
  | .ptr d => uptoBulk d + 1
  | .slice elems spare => uptoBulkAll elems + uptoBulkAll spare + 1
  | .agg parts => uptoBulkAll parts + 1
  | .iface _ d => uptoBulk d + 1
  | .map entries => uptoBulkEntries entries + 1
  | .held _ => 1
def uptoBulkAll {H : Type} : List (DataW H) → Nat
  | [] => 0
  | d :: r => uptoBulk d + uptoBulkAll r
def uptoBulkEntries {H : Type} : List (Lit × DataW H) → Nat
  | [] => 0
  | x :: r => uptoBulkEntry x + uptoBulkEntries r
def uptoBulkEntry {H : Type} : Lit × DataW H → Nat
  | (.string bytes, d) => bytes.length + uptoBulk d + 1
  | (_, d) => uptoBulk d + 1
 end
def uptoSmall : (H : Type) → List (DataW H) → Bool := fun _ ds => decide (uptoBulkAll ds ≤ 1048576)
def OpenSpec.upto (s : _root_.Go.ChangeSpec) : _root_.Go.OpenSpec := { _root_.Go.OpenSpec.ofChange s with cond := some uptoSmall }

/-- 'cutwaterlaw06.MatSides', WHERE WHAT IT READS IS OF BULK AT MOST 1048576: true; the input reads as it did. -/
def matSidesUptoRow : OpenClaim := { program := "ytfnngcaalpknlaagreat", sum := "3904428de718f07b8f377585c45053c6b337227a9817d9e939941a007d7c1145", func := "cutwater/cutwaterlaw06.MatSides", spec := "matSides", inPlace := ["math/bits.Add64", "math/bits.Sub64"], unfollowed := true, recurses := true, named := ["math/bits.divideError", "math/bits.overflowError"], apart := false, narrowed := true }
def MatSidesUptoSaid : Prop := matSidesUptoRow.holds Tryz.pinned (OpenSpec.upto matSidesSpec)

/-- 'cutwaterlaw11.ConsCombines', WHERE WHAT IT READS IS OF BULK AT MOST 1048576: true; the input reads as it did. -/
def consCombinesUptoRow : OpenClaim := { program := "ytfnngcaalpknlaagreat", sum := "3904428de718f07b8f377585c45053c6b337227a9817d9e939941a007d7c1145", func := "cutwater/cutwaterlaw11.ConsCombines", spec := "consCombines", inPlace := ["math/bits.Add64", "math/bits.Sub64"], unfollowed := true, recurses := true, named := ["math/bits.divideError", "math/bits.overflowError"], apart := false, narrowed := true }
def ConsCombinesUptoSaid : Prop := consCombinesUptoRow.holds Tryz.pinned (OpenSpec.upto consCombinesSpec)

/-- 'cutwaterlaw11.ConsRounds', WHERE WHAT IT READS IS OF BULK AT MOST 1048576: true; the input reads as it did. -/
def consRoundsUptoRow : OpenClaim := { program := "ytfnngcaalpknlaagreat", sum := "3904428de718f07b8f377585c45053c6b337227a9817d9e939941a007d7c1145", func := "cutwater/cutwaterlaw11.ConsRounds", spec := "consRounds", inPlace := ["math/bits.Add64", "math/bits.Sub64"], unfollowed := true, recurses := true, named := ["math/bits.divideError", "math/bits.overflowError"], apart := false, narrowed := true }
def ConsRoundsUptoSaid : Prop := consRoundsUptoRow.holds Tryz.pinned (OpenSpec.upto consRoundsSpec)

/-- 'cutwaterlaw11.ConsCompares', WHERE WHAT IT READS IS OF BULK AT MOST 1048576: true; the input reads as it did. -/
def consComparesUptoRow : OpenClaim := { program := "ytfnngcaalpknlaagreat", sum := "3904428de718f07b8f377585c45053c6b337227a9817d9e939941a007d7c1145", func := "cutwater/cutwaterlaw11.ConsCompares", spec := "consCompares", inPlace := ["math/bits.Add64", "math/bits.Sub64"], unfollowed := true, recurses := true, named := ["math/bits.divideError", "math/bits.overflowError"], apart := false, narrowed := true }
def ConsComparesUptoSaid : Prop := consComparesUptoRow.holds Tryz.pinned (OpenSpec.upto consComparesSpec)

/-- 'cutwaterlaw11.ConsOnce', WHERE WHAT IT READS IS OF BULK AT MOST 1048576: true; the input reads as it did. -/
def consOnceUptoRow : OpenClaim := { program := "ytfnngcaalpknlaagreat", sum := "3904428de718f07b8f377585c45053c6b337227a9817d9e939941a007d7c1145", func := "cutwater/cutwaterlaw11.ConsOnce", spec := "consOnce", inPlace := ["math/bits.Add64", "math/bits.Sub64"], unfollowed := true, recurses := true, named := ["math/bits.divideError", "math/bits.overflowError"], apart := false, narrowed := true }
def ConsOnceUptoSaid : Prop := consOnceUptoRow.holds Tryz.pinned (OpenSpec.upto consOnceSpec)

end Rows
end Go.Proofs.YtfnngcaalpknlaaGreat
