/-
  No cell of these rows narrows 'for every input' (looked for: loops, veiled, ifaces, maps, wideKeys, modest, calm, conditions, laid).
  DERIVED. THE GIVEN ROWS OF THIS SEAT. 14 by the template 'for every input the law returns true; each argument reads behind the call as it read before'; 0 by the template 'total and deterministic' (their statements: YtieicmcbdhaipaaGreatTotals.lean).
  GIVEN WITH THE SEED: the statements are not yours to turn. If you find one false, say at which input.
  Laid BY PROGRAM, IN A SANDBOX (cutbox-rows.mjs): the forced cells as the released guide's own fill.sh prints them over the translation 75d631fbc4e8a34a… (all of the seat's roots in one cut). By AI agents, Wed Nov 11 2026. No macro, syntax, notation, axiom, sorry.
-/
import Derived.Test.YtieicmcbdhaipaaGreatChecked
import GoSem.Claim
import GoSem.ClaimJoined
import GoSem.ClaimMapViews
import Derived.JoinedTies
import Derived.KernelRfl
namespace Go.Proofs.YtieicmcbdhaipaaGreat
/- THE CELL 'sum', in the pinned program and in every row, IS THE sha256 OF THE DUMP (.gsa) THAT YtieicmcbdhaipaaGreatProg.lean LOADS. Nothing in Lean hashes anything: it is a label: what it is worth is what the hold of that sum in a sandbox is worth. -/
noncomputable def Tryz.pinned : Pinned := { name := "ytieicmcbdhaipaagreat", sum := "75d631fbc4e8a34ac84d39b4efeb4c499c1e39d877611c52b5ae41330b3ae4db", checked := Tryz.checked }
namespace Rows
def none {H : Type} : Left H := { results := [], args := [] }

/-- 'cutwaterlaw03.RatSums': WHATEVER THE INPUT: true; the input reads as it did. -/
def ratSumsSpec : ChangeSpec := { name := "ratSums", fn := fun _ => fun
  | [d1, d2] => { results := [.lit (.bool true)], args := [d1, d2] }
  | _ => none }
def ratSumsRow : OpenClaim := { program := "ytieicmcbdhaipaagreat", sum := "75d631fbc4e8a34ac84d39b4efeb4c499c1e39d877611c52b5ae41330b3ae4db", func := "cutwater/cutwaterlaw03.RatSums", spec := "ratSums", inPlace := ["math/bits.Add64", "math/bits.Sub64"], named := ["math/bits.divideError", "math/bits.overflowError"], apart := false }
def RatSumsSaid : Prop := ratSumsRow.holds Tryz.pinned (OpenSpec.ofChange ratSumsSpec)

/-- ITS FALSE NEIGHBOUR: 'it returns false'. Refute it at one input. -/
def ratSumsWrong : ChangeSpec := { name := "ratSums", fn := fun _ => fun
  | [d1, d2] => { results := [.lit (.bool false)], args := [d1, d2] }
  | _ => none }
def RatSumsWrongFalsely : Prop := ratSumsRow.holds Tryz.pinned (OpenSpec.ofChange ratSumsWrong)

/-- 'cutwaterlaw05.VecForms': WHATEVER THE INPUT: true; the input reads as it did. -/
def vecFormsSpec : ChangeSpec := { name := "vecForms", fn := fun _ => fun
  | [d1, d2] => { results := [.lit (.bool true)], args := [d1, d2] }
  | _ => none }
def vecFormsRow : OpenClaim := { program := "ytieicmcbdhaipaagreat", sum := "75d631fbc4e8a34ac84d39b4efeb4c499c1e39d877611c52b5ae41330b3ae4db", func := "cutwater/cutwaterlaw05.VecForms", spec := "vecForms", inPlace := ["math/bits.Add64", "math/bits.Sub64"], unfollowed := true, recurses := true, named := ["math/bits.divideError", "math/bits.overflowError"], apart := false }
def VecFormsSaid : Prop := vecFormsRow.holds Tryz.pinned (OpenSpec.ofChange vecFormsSpec)

/-- ITS FALSE NEIGHBOUR: 'it returns false'. Refute it at one input. -/
def vecFormsWrong : ChangeSpec := { name := "vecForms", fn := fun _ => fun
  | [d1, d2] => { results := [.lit (.bool false)], args := [d1, d2] }
  | _ => none }
def VecFormsWrongFalsely : Prop := vecFormsRow.holds Tryz.pinned (OpenSpec.ofChange vecFormsWrong)

/-- 'cutwaterlaw05.VecSums': WHATEVER THE INPUT: true; the input reads as it did. -/
def vecSumsSpec : ChangeSpec := { name := "vecSums", fn := fun _ => fun
  | [d1, d2, d3] => { results := [.lit (.bool true)], args := [d1, d2, d3] }
  | _ => none }
def vecSumsRow : OpenClaim := { program := "ytieicmcbdhaipaagreat", sum := "75d631fbc4e8a34ac84d39b4efeb4c499c1e39d877611c52b5ae41330b3ae4db", func := "cutwater/cutwaterlaw05.VecSums", spec := "vecSums", inPlace := ["math/bits.Add64", "math/bits.Sub64"], unfollowed := true, recurses := true, named := ["math/bits.divideError", "math/bits.overflowError"], apart := false }
def VecSumsSaid : Prop := vecSumsRow.holds Tryz.pinned (OpenSpec.ofChange vecSumsSpec)

/-- ITS FALSE NEIGHBOUR: 'it returns false'. Refute it at one input. -/
def vecSumsWrong : ChangeSpec := { name := "vecSums", fn := fun _ => fun
  | [d1, d2, d3] => { results := [.lit (.bool false)], args := [d1, d2, d3] }
  | _ => none }
def VecSumsWrongFalsely : Prop := vecSumsRow.holds Tryz.pinned (OpenSpec.ofChange vecSumsWrong)

/-- 'cutwaterlaw05.VecDots': WHATEVER THE INPUT: true; the input reads as it did. -/
def vecDotsSpec : ChangeSpec := { name := "vecDots", fn := fun _ => fun
  | [d1, d2] => { results := [.lit (.bool true)], args := [d1, d2] }
  | _ => none }
def vecDotsRow : OpenClaim := { program := "ytieicmcbdhaipaagreat", sum := "75d631fbc4e8a34ac84d39b4efeb4c499c1e39d877611c52b5ae41330b3ae4db", func := "cutwater/cutwaterlaw05.VecDots", spec := "vecDots", inPlace := ["math/bits.Add64", "math/bits.Sub64"], unfollowed := true, recurses := true, named := ["math/bits.divideError", "math/bits.overflowError"], apart := false }
def VecDotsSaid : Prop := vecDotsRow.holds Tryz.pinned (OpenSpec.ofChange vecDotsSpec)

/-- ITS FALSE NEIGHBOUR: 'it returns false'. Refute it at one input. -/
def vecDotsWrong : ChangeSpec := { name := "vecDots", fn := fun _ => fun
  | [d1, d2] => { results := [.lit (.bool false)], args := [d1, d2] }
  | _ => none }
def VecDotsWrongFalsely : Prop := vecDotsRow.holds Tryz.pinned (OpenSpec.ofChange vecDotsWrong)

/-- 'cutwaterlaw05.VecScatters': WHATEVER THE INPUT: true; the input reads as it did. -/
def vecScattersSpec : ChangeSpec := { name := "vecScatters", fn := fun _ => fun
  | [d1, d2] => { results := [.lit (.bool true)], args := [d1, d2] }
  | _ => none }
def vecScattersRow : OpenClaim := { program := "ytieicmcbdhaipaagreat", sum := "75d631fbc4e8a34ac84d39b4efeb4c499c1e39d877611c52b5ae41330b3ae4db", func := "cutwater/cutwaterlaw05.VecScatters", spec := "vecScatters", inPlace := ["math/bits.Add64", "math/bits.Sub64"], unfollowed := true, recurses := true, named := ["math/bits.divideError", "math/bits.overflowError"], apart := false }
def VecScattersSaid : Prop := vecScattersRow.holds Tryz.pinned (OpenSpec.ofChange vecScattersSpec)

/-- ITS FALSE NEIGHBOUR: 'it returns false'. Refute it at one input. -/
def vecScattersWrong : ChangeSpec := { name := "vecScatters", fn := fun _ => fun
  | [d1, d2] => { results := [.lit (.bool false)], args := [d1, d2] }
  | _ => none }
def VecScattersWrongFalsely : Prop := vecScattersRow.holds Tryz.pinned (OpenSpec.ofChange vecScattersWrong)

/-- 'cutwaterlaw05.VecLinear': WHATEVER THE INPUT: true; the input reads as it did. -/
def vecLinearSpec : ChangeSpec := { name := "vecLinear", fn := fun _ => fun
  | [d1, d2, d3] => { results := [.lit (.bool true)], args := [d1, d2, d3] }
  | _ => none }
def vecLinearRow : OpenClaim := { program := "ytieicmcbdhaipaagreat", sum := "75d631fbc4e8a34ac84d39b4efeb4c499c1e39d877611c52b5ae41330b3ae4db", func := "cutwater/cutwaterlaw05.VecLinear", spec := "vecLinear", inPlace := ["math/bits.Add64", "math/bits.Sub64"], unfollowed := true, recurses := true, named := ["math/bits.divideError", "math/bits.overflowError"], apart := false }
def VecLinearSaid : Prop := vecLinearRow.holds Tryz.pinned (OpenSpec.ofChange vecLinearSpec)

/-- ITS FALSE NEIGHBOUR: 'it returns false'. Refute it at one input. -/
def vecLinearWrong : ChangeSpec := { name := "vecLinear", fn := fun _ => fun
  | [d1, d2, d3] => { results := [.lit (.bool false)], args := [d1, d2, d3] }
  | _ => none }
def VecLinearWrongFalsely : Prop := vecLinearRow.holds Tryz.pinned (OpenSpec.ofChange vecLinearWrong)

/-- 'cutwaterlaw05.VecGets': WHATEVER THE INPUT: true; the input reads as it did. -/
def vecGetsSpec : ChangeSpec := { name := "vecGets", fn := fun _ => fun
  | [d1, d2, d3] => { results := [.lit (.bool true)], args := [d1, d2, d3] }
  | _ => none }
def vecGetsRow : OpenClaim := { program := "ytieicmcbdhaipaagreat", sum := "75d631fbc4e8a34ac84d39b4efeb4c499c1e39d877611c52b5ae41330b3ae4db", func := "cutwater/cutwaterlaw05.VecGets", spec := "vecGets", inPlace := ["math/bits.Add64", "math/bits.Sub64"], unfollowed := true, recurses := true, named := ["math/bits.divideError", "math/bits.overflowError"], apart := false }
def VecGetsSaid : Prop := vecGetsRow.holds Tryz.pinned (OpenSpec.ofChange vecGetsSpec)

/-- ITS FALSE NEIGHBOUR: 'it returns false'. Refute it at one input. -/
def vecGetsWrong : ChangeSpec := { name := "vecGets", fn := fun _ => fun
  | [d1, d2, d3] => { results := [.lit (.bool false)], args := [d1, d2, d3] }
  | _ => none }
def VecGetsWrongFalsely : Prop := vecGetsRow.holds Tryz.pinned (OpenSpec.ofChange vecGetsWrong)

/-- 'cutwaterlaw06.MatTimes': WHATEVER THE INPUT: true; the input reads as it did. -/
def matTimesSpec : ChangeSpec := { name := "matTimes", fn := fun _ => fun
  | [d1, d2, d3] => { results := [.lit (.bool true)], args := [d1, d2, d3] }
  | _ => none }
def matTimesRow : OpenClaim := { program := "ytieicmcbdhaipaagreat", sum := "75d631fbc4e8a34ac84d39b4efeb4c499c1e39d877611c52b5ae41330b3ae4db", func := "cutwater/cutwaterlaw06.MatTimes", spec := "matTimes", inPlace := ["math/bits.Add64", "math/bits.Sub64"], unfollowed := true, recurses := true, named := ["math/bits.divideError", "math/bits.overflowError"], apart := false }
def MatTimesSaid : Prop := matTimesRow.holds Tryz.pinned (OpenSpec.ofChange matTimesSpec)

/-- ITS FALSE NEIGHBOUR: 'it returns false'. Refute it at one input. -/
def matTimesWrong : ChangeSpec := { name := "matTimes", fn := fun _ => fun
  | [d1, d2, d3] => { results := [.lit (.bool false)], args := [d1, d2, d3] }
  | _ => none }
def MatTimesWrongFalsely : Prop := matTimesRow.holds Tryz.pinned (OpenSpec.ofChange matTimesWrong)

/-- 'cutwaterlaw06.MatTurns': WHATEVER THE INPUT: true; the input reads as it did. -/
def matTurnsSpec : ChangeSpec := { name := "matTurns", fn := fun _ => fun
  | [d1, d2] => { results := [.lit (.bool true)], args := [d1, d2] }
  | _ => none }
def matTurnsRow : OpenClaim := { program := "ytieicmcbdhaipaagreat", sum := "75d631fbc4e8a34ac84d39b4efeb4c499c1e39d877611c52b5ae41330b3ae4db", func := "cutwater/cutwaterlaw06.MatTurns", spec := "matTurns", inPlace := ["math/bits.Add64", "math/bits.Sub64"], unfollowed := true, recurses := true, named := ["math/bits.divideError", "math/bits.overflowError"], apart := false }
def MatTurnsSaid : Prop := matTurnsRow.holds Tryz.pinned (OpenSpec.ofChange matTurnsSpec)

/-- ITS FALSE NEIGHBOUR: 'it returns false'. Refute it at one input. -/
def matTurnsWrong : ChangeSpec := { name := "matTurns", fn := fun _ => fun
  | [d1, d2] => { results := [.lit (.bool false)], args := [d1, d2] }
  | _ => none }
def MatTurnsWrongFalsely : Prop := matTurnsRow.holds Tryz.pinned (OpenSpec.ofChange matTurnsWrong)

/-- 'cutwaterlaw06.MatProducts': WHATEVER THE INPUT: true; the input reads as it did. -/
def matProductsSpec : ChangeSpec := { name := "matProducts", fn := fun _ => fun
  | [d1, d2] => { results := [.lit (.bool true)], args := [d1, d2] }
  | _ => none }
def matProductsRow : OpenClaim := { program := "ytieicmcbdhaipaagreat", sum := "75d631fbc4e8a34ac84d39b4efeb4c499c1e39d877611c52b5ae41330b3ae4db", func := "cutwater/cutwaterlaw06.MatProducts", spec := "matProducts", inPlace := ["math/bits.Add64", "math/bits.Sub64"], unfollowed := true, recurses := true, named := ["math/bits.divideError", "math/bits.overflowError"], apart := false }
def MatProductsSaid : Prop := matProductsRow.holds Tryz.pinned (OpenSpec.ofChange matProductsSpec)

/-- ITS FALSE NEIGHBOUR: 'it returns false'. Refute it at one input. -/
def matProductsWrong : ChangeSpec := { name := "matProducts", fn := fun _ => fun
  | [d1, d2] => { results := [.lit (.bool false)], args := [d1, d2] }
  | _ => none }
def MatProductsWrongFalsely : Prop := matProductsRow.holds Tryz.pinned (OpenSpec.ofChange matProductsWrong)

/-- 'cutwaterlaw06.MatOrders': WHATEVER THE INPUT: true; the input reads as it did. -/
def matOrdersSpec : ChangeSpec := { name := "matOrders", fn := fun _ => fun
  | [d1, d2] => { results := [.lit (.bool true)], args := [d1, d2] }
  | _ => none }
def matOrdersRow : OpenClaim := { program := "ytieicmcbdhaipaagreat", sum := "75d631fbc4e8a34ac84d39b4efeb4c499c1e39d877611c52b5ae41330b3ae4db", func := "cutwater/cutwaterlaw06.MatOrders", spec := "matOrders", inPlace := ["math/bits.Add64", "math/bits.Sub64"], unfollowed := true, recurses := true, named := ["math/bits.divideError", "math/bits.overflowError"], apart := false }
def MatOrdersSaid : Prop := matOrdersRow.holds Tryz.pinned (OpenSpec.ofChange matOrdersSpec)

/-- ITS FALSE NEIGHBOUR: 'it returns false'. Refute it at one input. -/
def matOrdersWrong : ChangeSpec := { name := "matOrders", fn := fun _ => fun
  | [d1, d2] => { results := [.lit (.bool false)], args := [d1, d2] }
  | _ => none }
def MatOrdersWrongFalsely : Prop := matOrdersRow.holds Tryz.pinned (OpenSpec.ofChange matOrdersWrong)

/-- 'cutwaterlaw06.MatGroups': WHATEVER THE INPUT: true; the input reads as it did. -/
def matGroupsSpec : ChangeSpec := { name := "matGroups", fn := fun _ => fun
  | [d1, d2, d3] => { results := [.lit (.bool true)], args := [d1, d2, d3] }
  | _ => none }
def matGroupsRow : OpenClaim := { program := "ytieicmcbdhaipaagreat", sum := "75d631fbc4e8a34ac84d39b4efeb4c499c1e39d877611c52b5ae41330b3ae4db", func := "cutwater/cutwaterlaw06.MatGroups", spec := "matGroups", inPlace := ["math/bits.Add64", "math/bits.Sub64"], unfollowed := true, recurses := true, named := ["math/bits.divideError", "math/bits.overflowError"], apart := false }
def MatGroupsSaid : Prop := matGroupsRow.holds Tryz.pinned (OpenSpec.ofChange matGroupsSpec)

/-- ITS FALSE NEIGHBOUR: 'it returns false'. Refute it at one input. -/
def matGroupsWrong : ChangeSpec := { name := "matGroups", fn := fun _ => fun
  | [d1, d2, d3] => { results := [.lit (.bool false)], args := [d1, d2, d3] }
  | _ => none }
def MatGroupsWrongFalsely : Prop := matGroupsRow.holds Tryz.pinned (OpenSpec.ofChange matGroupsWrong)

/-- 'cutwaterlaw06.MatSides': WHATEVER THE INPUT: true; the input reads as it did. -/
def matSidesSpec : ChangeSpec := { name := "matSides", fn := fun _ => fun
  | [d1, d2, d3] => { results := [.lit (.bool true)], args := [d1, d2, d3] }
  | _ => none }
def matSidesRow : OpenClaim := { program := "ytieicmcbdhaipaagreat", sum := "75d631fbc4e8a34ac84d39b4efeb4c499c1e39d877611c52b5ae41330b3ae4db", func := "cutwater/cutwaterlaw06.MatSides", spec := "matSides", inPlace := ["math/bits.Add64", "math/bits.Sub64"], unfollowed := true, recurses := true, named := ["math/bits.divideError", "math/bits.overflowError"], apart := false }
def MatSidesSaid : Prop := matSidesRow.holds Tryz.pinned (OpenSpec.ofChange matSidesSpec)

/-- ITS FALSE NEIGHBOUR: 'it returns false'. Refute it at one input. -/
def matSidesWrong : ChangeSpec := { name := "matSides", fn := fun _ => fun
  | [d1, d2, d3] => { results := [.lit (.bool false)], args := [d1, d2, d3] }
  | _ => none }
def MatSidesWrongFalsely : Prop := matSidesRow.holds Tryz.pinned (OpenSpec.ofChange matSidesWrong)

/-- 'cutwaterlaw07.LuScales': WHATEVER THE INPUT: true; the input reads as it did. -/
def luScalesSpec : ChangeSpec := { name := "luScales", fn := fun _ => fun
  | [d1, d2, d3] => { results := [.lit (.bool true)], args := [d1, d2, d3] }
  | _ => none }
def luScalesRow : OpenClaim := { program := "ytieicmcbdhaipaagreat", sum := "75d631fbc4e8a34ac84d39b4efeb4c499c1e39d877611c52b5ae41330b3ae4db", func := "cutwater/cutwaterlaw07.LuScales", spec := "luScales", inPlace := ["math/bits.Add64", "math/bits.Sub64"], unfollowed := true, recurses := true, named := ["math/bits.divideError", "math/bits.overflowError"], apart := false }
def LuScalesSaid : Prop := luScalesRow.holds Tryz.pinned (OpenSpec.ofChange luScalesSpec)

/-- ITS FALSE NEIGHBOUR: 'it returns false'. Refute it at one input. -/
def luScalesWrong : ChangeSpec := { name := "luScales", fn := fun _ => fun
  | [d1, d2, d3] => { results := [.lit (.bool false)], args := [d1, d2, d3] }
  | _ => none }
def LuScalesWrongFalsely : Prop := luScalesRow.holds Tryz.pinned (OpenSpec.ofChange luScalesWrong)

/- THE SECOND FORM. 'bulk': how many values and letters a reading holds, each counted each time it is reached (what is shared counts as often as it is met; a slice's spare places count too). A statement '..UptoSaid' is the law's where the arguments, and the package variables that the reading takes, are together of bulk at most 1048576: NARROWER than '..Said'. Prove '..Said' where nothing that the law and all that it calls make is longer than what came in: it says more and counts as full. Else prove '..UptoSaid'. A law counts once. -/
mutual
def uptoBulk {H : Type} : DataW H → Nat
  | .lit (.string bytes) => bytes.length + 1
  | .lit _ => 1
  | .nil => 1
  | .ptr d => uptoBulk d + 1
  | .slice elems spare => uptoBulkAll elems + uptoBulkAll spare + 1
  | .agg parts => uptoBulkAll parts + 1
  | .iface _ d => uptoBulk d + 1
  | .map entries => uptoBulkEntries entries + 1
  | .held _ => 1
def uptoBulkAll {H : Type} : List (DataW H) → Nat
  | [] => 0
  | d :: r => uptoBulk d + uptoBulkAll r
def uptoBulkEntries {H : Type} : List (Lit × DataW H) → Nat
  | [] => 0
  | x :: r => uptoBulkEntry x + uptoBulkEntries r
def uptoBulkEntry {H : Type} : Lit × DataW H → Nat
  | (.string bytes, d) => bytes.length + uptoBulk d + 1
  | (_, d) => uptoBulk d + 1
 end
def uptoSmall : (H : Type) → List (DataW H) → Bool := fun _ ds => decide (uptoBulkAll ds ≤ 1048576)
def OpenSpec.upto (s : _root_.Go.ChangeSpec) : _root_.Go.OpenSpec := { _root_.Go.OpenSpec.ofChange s with cond := some uptoSmall }

/-- 'cutwaterlaw03.RatSums', WHERE WHAT IT READS IS OF BULK AT MOST 1048576: true; the input reads as it did. -/
def ratSumsUptoRow : OpenClaim := { program := "ytieicmcbdhaipaagreat", sum := "75d631fbc4e8a34ac84d39b4efeb4c499c1e39d877611c52b5ae41330b3ae4db", func := "cutwater/cutwaterlaw03.RatSums", spec := "ratSums", inPlace := ["math/bits.Add64", "math/bits.Sub64"], named := ["math/bits.divideError", "math/bits.overflowError"], apart := false, narrowed := true }
def RatSumsUptoSaid : Prop := ratSumsUptoRow.holds Tryz.pinned (OpenSpec.upto ratSumsSpec)

/-- 'cutwaterlaw05.VecForms', WHERE WHAT IT READS IS OF BULK AT MOST 1048576: true; the input reads as it did. -/
def vecFormsUptoRow : OpenClaim := { program := "ytieicmcbdhaipaagreat", sum := "75d631fbc4e8a34ac84d39b4efeb4c499c1e39d877611c52b5ae41330b3ae4db", func := "cutwater/cutwaterlaw05.VecForms", spec := "vecForms", inPlace := ["math/bits.Add64", "math/bits.Sub64"], unfollowed := true, recurses := true, named := ["math/bits.divideError", "math/bits.overflowError"], apart := false, narrowed := true }
def VecFormsUptoSaid : Prop := vecFormsUptoRow.holds Tryz.pinned (OpenSpec.upto vecFormsSpec)

/-- 'cutwaterlaw05.VecSums', WHERE WHAT IT READS IS OF BULK AT MOST 1048576: true; the input reads as it did. -/
def vecSumsUptoRow : OpenClaim := { program := "ytieicmcbdhaipaagreat", sum := "75d631fbc4e8a34ac84d39b4efeb4c499c1e39d877611c52b5ae41330b3ae4db", func := "cutwater/cutwaterlaw05.VecSums", spec := "vecSums", inPlace := ["math/bits.Add64", "math/bits.Sub64"], unfollowed := true, recurses := true, named := ["math/bits.divideError", "math/bits.overflowError"], apart := false, narrowed := true }
def VecSumsUptoSaid : Prop := vecSumsUptoRow.holds Tryz.pinned (OpenSpec.upto vecSumsSpec)

/-- 'cutwaterlaw05.VecDots', WHERE WHAT IT READS IS OF BULK AT MOST 1048576: true; the input reads as it did. -/
def vecDotsUptoRow : OpenClaim := { program := "ytieicmcbdhaipaagreat", sum := "75d631fbc4e8a34ac84d39b4efeb4c499c1e39d877611c52b5ae41330b3ae4db", func := "cutwater/cutwaterlaw05.VecDots", spec := "vecDots", inPlace := ["math/bits.Add64", "math/bits.Sub64"], unfollowed := true, recurses := true, named := ["math/bits.divideError", "math/bits.overflowError"], apart := false, narrowed := true }
def VecDotsUptoSaid : Prop := vecDotsUptoRow.holds Tryz.pinned (OpenSpec.upto vecDotsSpec)

/-- 'cutwaterlaw05.VecScatters', WHERE WHAT IT READS IS OF BULK AT MOST 1048576: true; the input reads as it did. -/
def vecScattersUptoRow : OpenClaim := { program := "ytieicmcbdhaipaagreat", sum := "75d631fbc4e8a34ac84d39b4efeb4c499c1e39d877611c52b5ae41330b3ae4db", func := "cutwater/cutwaterlaw05.VecScatters", spec := "vecScatters", inPlace := ["math/bits.Add64", "math/bits.Sub64"], unfollowed := true, recurses := true, named := ["math/bits.divideError", "math/bits.overflowError"], apart := false, narrowed := true }
def VecScattersUptoSaid : Prop := vecScattersUptoRow.holds Tryz.pinned (OpenSpec.upto vecScattersSpec)

/-- 'cutwaterlaw05.VecLinear', WHERE WHAT IT READS IS OF BULK AT MOST 1048576: true; the input reads as it did. -/
def vecLinearUptoRow : OpenClaim := { program := "ytieicmcbdhaipaagreat", sum := "75d631fbc4e8a34ac84d39b4efeb4c499c1e39d877611c52b5ae41330b3ae4db", func := "cutwater/cutwaterlaw05.VecLinear", spec := "vecLinear", inPlace := ["math/bits.Add64", "math/bits.Sub64"], unfollowed := true, recurses := true, named := ["math/bits.divideError", "math/bits.overflowError"], apart := false, narrowed := true }
def VecLinearUptoSaid : Prop := vecLinearUptoRow.holds Tryz.pinned (OpenSpec.upto vecLinearSpec)

/-- 'cutwaterlaw05.VecGets', WHERE WHAT IT READS IS OF BULK AT MOST 1048576: true; the input reads as it did. -/
def vecGetsUptoRow : OpenClaim := { program := "ytieicmcbdhaipaagreat", sum := "75d631fbc4e8a34ac84d39b4efeb4c499c1e39d877611c52b5ae41330b3ae4db", func := "cutwater/cutwaterlaw05.VecGets", spec := "vecGets", inPlace := ["math/bits.Add64", "math/bits.Sub64"], unfollowed := true, recurses := true, named := ["math/bits.divideError", "math/bits.overflowError"], apart := false, narrowed := true }
def VecGetsUptoSaid : Prop := vecGetsUptoRow.holds Tryz.pinned (OpenSpec.upto vecGetsSpec)

/-- 'cutwaterlaw06.MatTimes', WHERE WHAT IT READS IS OF BULK AT MOST 1048576: true; the input reads as it did. -/
def matTimesUptoRow : OpenClaim := { program := "ytieicmcbdhaipaagreat", sum := "75d631fbc4e8a34ac84d39b4efeb4c499c1e39d877611c52b5ae41330b3ae4db", func := "cutwater/cutwaterlaw06.MatTimes", spec := "matTimes", inPlace := ["math/bits.Add64", "math/bits.Sub64"], unfollowed := true, recurses := true, named := ["math/bits.divideError", "math/bits.overflowError"], apart := false, narrowed := true }
def MatTimesUptoSaid : Prop := matTimesUptoRow.holds Tryz.pinned (OpenSpec.upto matTimesSpec)

/-- 'cutwaterlaw06.MatTurns', WHERE WHAT IT READS IS OF BULK AT MOST 1048576: true; the input reads as it did. -/
def matTurnsUptoRow : OpenClaim := { program := "ytieicmcbdhaipaagreat", sum := "75d631fbc4e8a34ac84d39b4efeb4c499c1e39d877611c52b5ae41330b3ae4db", func := "cutwater/cutwaterlaw06.MatTurns", spec := "matTurns", inPlace := ["math/bits.Add64", "math/bits.Sub64"], unfollowed := true, recurses := true, named := ["math/bits.divideError", "math/bits.overflowError"], apart := false, narrowed := true }
def MatTurnsUptoSaid : Prop := matTurnsUptoRow.holds Tryz.pinned (OpenSpec.upto matTurnsSpec)

/-- 'cutwaterlaw06.MatProducts', WHERE WHAT IT READS IS OF BULK AT MOST 1048576: true; the input reads as it did. -/
def matProductsUptoRow : OpenClaim := { program := "ytieicmcbdhaipaagreat", sum := "75d631fbc4e8a34ac84d39b4efeb4c499c1e39d877611c52b5ae41330b3ae4db", func := "cutwater/cutwaterlaw06.MatProducts", spec := "matProducts", inPlace := ["math/bits.Add64", "math/bits.Sub64"], unfollowed := true, recurses := true, named := ["math/bits.divideError", "math/bits.overflowError"], apart := false, narrowed := true }
def MatProductsUptoSaid : Prop := matProductsUptoRow.holds Tryz.pinned (OpenSpec.upto matProductsSpec)

/-- 'cutwaterlaw06.MatOrders', WHERE WHAT IT READS IS OF BULK AT MOST 1048576: true; the input reads as it did. -/
def matOrdersUptoRow : OpenClaim := { program := "ytieicmcbdhaipaagreat", sum := "75d631fbc4e8a34ac84d39b4efeb4c499c1e39d877611c52b5ae41330b3ae4db", func := "cutwater/cutwaterlaw06.MatOrders", spec := "matOrders", inPlace := ["math/bits.Add64", "math/bits.Sub64"], unfollowed := true, recurses := true, named := ["math/bits.divideError", "math/bits.overflowError"], apart := false, narrowed := true }
def MatOrdersUptoSaid : Prop := matOrdersUptoRow.holds Tryz.pinned (OpenSpec.upto matOrdersSpec)

/-- 'cutwaterlaw06.MatGroups', WHERE WHAT IT READS IS OF BULK AT MOST 1048576: true; the input reads as it did. -/
def matGroupsUptoRow : OpenClaim := { program := "ytieicmcbdhaipaagreat", sum := "75d631fbc4e8a34ac84d39b4efeb4c499c1e39d877611c52b5ae41330b3ae4db", func := "cutwater/cutwaterlaw06.MatGroups", spec := "matGroups", inPlace := ["math/bits.Add64", "math/bits.Sub64"], unfollowed := true, recurses := true, named := ["math/bits.divideError", "math/bits.overflowError"], apart := false, narrowed := true }
def MatGroupsUptoSaid : Prop := matGroupsUptoRow.holds Tryz.pinned (OpenSpec.upto matGroupsSpec)

/-- 'cutwaterlaw06.MatSides', WHERE WHAT IT READS IS OF BULK AT MOST 1048576: true; the input reads as it did. -/
def matSidesUptoRow : OpenClaim := { program := "ytieicmcbdhaipaagreat", sum := "75d631fbc4e8a34ac84d39b4efeb4c499c1e39d877611c52b5ae41330b3ae4db", func := "cutwater/cutwaterlaw06.MatSides", spec := "matSides", inPlace := ["math/bits.Add64", "math/bits.Sub64"], unfollowed := true, recurses := true, named := ["math/bits.divideError", "math/bits.overflowError"], apart := false, narrowed := true }
def MatSidesUptoSaid : Prop := matSidesUptoRow.holds Tryz.pinned (OpenSpec.upto matSidesSpec)

/-- 'cutwaterlaw07.LuScales', WHERE WHAT IT READS IS OF BULK AT MOST 1048576: true; the input reads as it did. -/
def luScalesUptoRow : OpenClaim := { program := "ytieicmcbdhaipaagreat", sum := "75d631fbc4e8a34ac84d39b4efeb4c499c1e39d877611c52b5ae41330b3ae4db", func := "cutwater/cutwaterlaw07.LuScales", spec := "luScales", inPlace := ["math/bits.Add64", "math/bits.Sub64"], unfollowed := true, recurses := true, named := ["math/bits.divideError", "math/bits.overflowError"], apart := false, narrowed := true }
def LuScalesUptoSaid : Prop := luScalesUptoRow.holds Tryz.pinned (OpenSpec.upto luScalesSpec)

end Rows
end Go.Proofs.YtieicmcbdhaipaaGreat
