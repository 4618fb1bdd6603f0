/-
  Lines as they lie in memory; the small functions of layer 8.
-/
import Derived.Test.YtinbeodihhjfmaaFld2
import Derived.Test.YtinbeodihhjfmaaRreg
import Derived.RangeFuncBox
namespace Go.Proofs.Ytinbeodihhjfmaa
open Go Go.RowKit Go.Shelf
set_option linter.unusedVariables false
set_option linter.unusedSimpArgs false
set_option maxRecDepth 100000

abbrev Sl := Option Addr × Nat × Nat
abbrev sv (x : Sl) : Value := .slice x.1 x.2.1 x.2.2
/-- A line in memory. -/
structure Lx where
  no : Nat
  hd : Bool
  wv : Sl
  ws : List ByteArray
instance : Inhabited Lx := ⟨⟨0, false, (none, 0, 0), []⟩⟩
def el (x : Lx) : List Value := [.int .i64 (x.no : Int), .bool x.hd, sv x.wv]
def es (s : ByteArray) : List Value := [.string s]
theorem el_len (x : Lx) : (el x).length = 3 := rfl
theorem es_len (x : ByteArray) : (es x).length = 1 := rfl
theorem el_one (x : Lx) : ∀ u ∈ el x, u.oneCell' = true := by
  intro u hu
  simp [el] at hu
  rcases hu with rfl | rfl | rfl <;> rfl
theorem flat_es : ∀ d : List ByteArray, flat es d = d.map Value.string
  | [] => rfl
  | x :: d => by rw [flat, flat_es d]; rfl
def Lx.ln (x : Lx) : Ln := ⟨x.no, x.hd, x.ws⟩
/-- The call's own lines, words and all. -/
def Lg (W : World) (B : Nat) (v : Value) (d : List Lx) : Prop := Ow 31 el 3 W B v d ∧ ∀ x ∈ d, Ow 9 es 1 W B (sv x.wv) x.ws
theorem Lg.step {W W' : World} {B : Nat} {v : Value} {d : List Lx} (h : Lg W B v d) (hb : Below W.heap.size W W') : Lg W' B v d := ⟨h.1.step hb, fun x hx => (h.2 x hx).step hb⟩
theorem Lg.mono {W : World} {B B' : Nat} {v : Value} {d : List Lx} (h : Lg W B v d) (hB : B' ≤ B) : Lg W B' v d := ⟨h.1.mono hB, fun x hx => (h.2 x hx).mono hB⟩
theorem line_string : 31 ≠ 9 := by decide
theorem ow_other {α β : Type} {enc : α → List Value} {enc' : β → List Value} {k k' : Nat} {T T' : TypeId} {W : World} {B B' : Nat} {v v' : Value} {d : List α} {f : List β} (h1 : Ow T enc k W B v d) (h2 : Ow T' enc' k' W B' v' f) (hne : T ≠ T') : v.ownBlock = none ∨ v.ownBlock ≠ v'.ownBlock := by
  rcases h1.form with ⟨rfl, _⟩ | ⟨g, cap, cur, rfl, hB, hlt, hh, _⟩
  · exact .inl rfl
  · refine .inr (fun hq => ?_)
    rcases h2.form with ⟨rfl, _⟩ | ⟨g', cap', cur', rfl, _, _, hh', _⟩
    · cases hq
    · simp [Value.ownBlock] at hq
      subst hq
      rw [hh] at hh'
      injection hh' with hh'
      injection hh' with _ ht
      exact hne ht
theorem Lg.push {W W' : World} {B : Nat} {v v' : Value} {d : List Lx} {x : Lx} (h : Lg W B v d) (ho : Ow 31 el 3 W' B v' (d ++ [x])) (hg : W.grownBy W' v.ownBlock) (hx : Ow 9 es 1 W B (sv x.wv) x.ws) : Lg W' B v' (d ++ [x]) := by
  have hk : ∀ y, Ow 9 es 1 W B (sv (Lx.wv y)) (Lx.ws y) → Ow 9 es 1 W' B (sv (Lx.wv y)) (Lx.ws y) := fun y hy => hy.kept hg (ow_other hy h.1 line_string.symm)
  refine ⟨ho, fun y hy => ?_⟩
  rcases List.mem_append.1 hy with hy | hy
  · exact hk y (h.2 y hy)
  · simp at hy
    subst hy
    exact hk _ hx
theorem info_line : (Try.prog.info? 31).map (fun i => (i.zero, i.size, i.bytes)) = some (some (.agg #[.int .i64 0, .bool false, .slice none 0 0]), 3, 40) := by kernel_rfl

theorem blank_f (x : Nat) (w : World) : Calls Try.prog 14 #[.int .i32 (x : Int)] w fun e w' => e = .returned (.bool (blk x)) ∧ w' = w := by
  go_enter Try.func14, Try.ntmps14
  by_cases h1 : x = 32
  · subst h1
    go_wp2_with fail
    go_ret
    exact ⟨rfl, rfl⟩
  · have q1 : ((x : Int) == 32) = false := by rw [beq_eq_false_iff_ne]; omega
    have q2 : (x == 32) = false := by rw [beq_eq_false_iff_ne]; omega
    have q3 : blk x = ((x : Int) == 9) := by
      unfold blk
      rw [decide_eq_false h1, Bool.false_or, Bool.eq_iff_iff, decide_eq_true_eq, beq_iff_eq]
      omega
    go_wp2_with fail
    go_ret
    exact ⟨by rw [q3]; rfl, rfl⟩
theorem pred_blank (w : World) : PredAtRunes Try.prog 14 #[] blk w := fun W x hx hb => (blank_f x W).mono fun e w' ⟨h1, h2⟩ => ⟨h1, 0, h2⟩
theorem foreign_f (x : Nat) (w : World) : Calls Try.prog 12 #[.int .i32 (x : Int)] w fun e w' => e = .returned (.bool (fgn x)) ∧ Below w.heap.size w w' := by
  go_enter Try.func12, Try.ntmps12
  have BF := hide (blank_f x w)
  go_wp2_with (go_at_call 14; refine BF.out.mono ?_; rintro e w9 ⟨rfl, rfl⟩)
  all_goals go_ret
  · rename_i h
    exact ⟨by rw [show fgn x = false by unfold fgn; rw [h]; rfl]; rfl, Below.refl _ _⟩
  · rename_i h1 h2
    have hb : blk x = false := by simpa using h1
    refine ⟨?_, Below.refl _ _⟩
    rw [show fgn x = (decide ((x : Int) < 33) || decide (126 < (x : Int))) by
      unfold fgn
      rw [hb, Bool.not_false, Bool.true_and]
      congr 1 <;> (rw [Bool.eq_iff_iff, decide_eq_true_eq, decide_eq_true_eq]; omega)]
    rfl
  · rename_i h1 h2
    have hb : blk x = false := by simpa using h1
    refine ⟨?_, Below.refl _ _⟩
    rw [show fgn x = true by
      unfold fgn
      rw [hb, decide_eq_true (show x < 33 by omega)]
      rfl]
    rfl
theorem pred_foreign (w : World) : PredGrows Try.prog 12 #[] fgn w := fun W x hx hb => foreign_f x W
theorem lines_f (s : ByteArray) (w : World) : Calls Try.prog 8 #[.string s] w fun e w' => e = .returned (.func (.func 15) #[] #[.pointer (some ⟨w.heap.size, 0, none⟩)]) ∧ w' = w.alloc (.cells #[.string s] 9) := by
  go_enter Try.func8, Try.ntmps8
  go_wp2_with fail
  go_ret
  exact ⟨rfl, rfl⟩
theorem clone_f (s : ByteArray) (w : World) (hs : s.size ≤ 281474976710656) : Calls Try.prog 9 #[.string s] w fun e w' => e = .returned (.string s) ∧ Below w.heap.size w w' := by
  have C := hide (Try.stringslite_Clone s w hs)
  go_enter Try.func9, Try.ntmps9
  go_wp2_with (go_at_call 17; refine C.out.mono ?_; rintro e w9 ⟨rfl, hb⟩)
  go_ret
  exact ⟨rfl, hb⟩
end Go.Proofs.Ytinbeodihhjfmaa
