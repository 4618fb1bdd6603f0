
/-
 Lists of constraints by their words: copied, compared.
-/
import Derived.Test.YtofmhfbbedalbaaGreatBundleQ
import Derived.Test.YtofmhfbbedalbaaGreatBundleN


namespace Go.Proofs.YtofmhfbbedalbaaGreat
open Go.RowKit Go.Proofs.YtofmhfbbedalbaaGreat.Num
set_option linter.unusedVariables false
set_option linter.unusedSimpArgs false
set_option maxRecDepth 100000
theorem info_kc : (Tryz.prog.info? 29).map (fun i => (i.zero, i.size, i.bytes)) = some (some (.agg #[.int .i64 0, .slice none 0 0, .bool false, .slice none 0 0, .slice none 0 0]), 5, 88) := by kernel_rfl
end Go.Proofs.YtofmhfbbedalbaaGreat
