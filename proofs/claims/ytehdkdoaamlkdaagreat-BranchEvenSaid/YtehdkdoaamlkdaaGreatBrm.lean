
/-
 Maps of at most one entry whose keys are a variable's side: what is found there.
-/
import Derived.Test.YtehdkdoaamlkdaaGreatBundleA
import Derived.Maps.Keyed
import Derived.DeepKeys4


namespace Go.Proofs.YtehdkdoaamlkdaaGreat
open Go.RowKit Go.Proofs.YtehdkdoaamlkdaaGreat.Num Go.Maps
set_option linter.unusedVariables false
set_option linter.unusedSimpArgs false
set_option maxRecDepth 100000
abbrev sdv (c : Int) (u : Bool) : Value := .agg #[.int .i64 c, .bool u]
theorem sd_check (w : World) (em : Bool) (c : Int) (u : Bool) : (Instr.checkKey em 10000 77 (sdv c u)).run Tryz.prog w = .ok () w := by
 kernel_rfl
theorem sd_find0 (w : World) (c : Int) (u : Bool) : (Instr.findKey 77 (sdv c u) []).run Tryz.prog w = .ok none w := by
 kernel_rfl
theorem sd_hit (w : World) (v : Value) (b : Nat) : (Instr.findKey 77 (sdv 0 true) [⟨sdv 0 true, v, b⟩]).run Tryz.prog w = .ok (some (0, v)) w := by
 kernel_rfl
theorem sd_miss (w : World) (v : Value) (b : Nat) : (Instr.findKey 77 (sdv 0 false) [⟨sdv 0 true, v, b⟩]).run Tryz.prog w = .ok none w := by
 kernel_rfl
theorem sd_zero (w : World) : (zeroValue 75).run Tryz.prog w = .ok (.agg #[.bool false, .slice none 0 0, .slice none 0 0, .int .i64 0]) w := by
 kernel_rfl
theorem look_nil {W : World} {m cl : Nat} (c : Int) (u : Bool) (h : W.heap[m]? = some (.map #[] cl)) : (Instr.lookup 55 (.map (some m)) (sdv c u) false).run Tryz.prog W = .ok (.agg #[.bool false, .slice none 0 0, .slice none 0 0, .int .i64 0]) W := by
 simp [Instr.lookup, run_underlying Tryz.underlying55, MapKept.run_getObj_map h, sd_check, sd_find0, sd_zero, Result.andThen]
theorem look_hit {W : World} {m cl b : Nat} {v : Value} (h : W.heap[m]? = some (.map #[⟨sdv 0 true, v, b⟩] cl)) : (Instr.lookup 55 (.map (some m)) (sdv 0 true) false).run Tryz.prog W = .ok v W := by
 simp [Instr.lookup, run_underlying Tryz.underlying55, MapKept.run_getObj_map h, sd_check, sd_hit, Result.andThen]
theorem look_miss {W : World} {m cl b : Nat} {v : Value} (h : W.heap[m]? = some (.map #[⟨sdv 0 true, v, b⟩] cl)) : (Instr.lookup 55 (.map (some m)) (sdv 0 false) false).run Tryz.prog W = .ok (.agg #[.bool false, .slice none 0 0, .slice none 0 0, .int .i64 0]) W := by
 simp [Instr.lookup, run_underlying Tryz.underlying55, MapKept.run_getObj_map h, sd_check, sd_miss, sd_zero, Result.andThen]
theorem map_put {W : World} {m : Nat} {v : Value} (h : W.heap[m]? = some (.map #[] 0)) :
  (Instr.mapUpdate 55 (.map (some m)) (sdv 0 true) v).run Tryz.prog W = .ok () (Go.ChangeMaps.setBlock W m (.map #[⟨sdv 0 true, v, 0⟩] 1)) := by
 simp [Instr.mapUpdate, run_underlying Tryz.underlying55, MapKept.run_getObj_map h, sd_check, sd_find0, MapKept.run_setObj_map _ h, Result.andThen, Go.ChangeMaps.setBlock]
end Go.Proofs.YtehdkdoaamlkdaaGreat
