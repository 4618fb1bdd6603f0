
/-
 Where no table is laid.
-/
import Derived.Test.YtepaamclfdadnaaFrameK

namespace Go.Proofs.Ytepaamclfdadnaa
open Go.ChangeShapes Go.WideShapes Go.ChangeAt Go.RowKit
set_option maxRecDepth 100000
theorem none_laid (W : World) : laidMetH Try.prog [] W := by
 first | trivial | exact ⟨[], rfl, List.nodup_nil, fun _ _ h => by cases h⟩
end Go.Proofs.Ytepaamclfdadnaa
