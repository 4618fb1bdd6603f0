
/-
  Where no table is laid.
-/
import Derived.Test.YtpfeacdhplbblaaGreatFrameK

namespace Go.Proofs.YtpfeacdhplbblaaGreat
open Go.ChangeShapes Go.WideShapes Go.ChangeAt Go.RowKit
set_option maxRecDepth 100000
theorem none_laid (W : World) : laidMetH Tryz.prog [] W := by
  first | trivial | exact ⟨[], rfl, List.nodup_nil, fun _ _ h => by cases h⟩
end Go.Proofs.YtpfeacdhplbblaaGreat
