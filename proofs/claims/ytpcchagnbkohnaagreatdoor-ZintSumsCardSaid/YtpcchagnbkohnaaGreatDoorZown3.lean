/-
  Whole numbers: results of the call's own in a drawn region, and written over.
-/
import Derived.Test.YtpcchagnbkohnaaGreatDoorZown2
import Derived.Test.YtpcchagnbkohnaaGreatDoorLatC


namespace Go.Proofs.YtpcchagnbkohnaaGreatDoor
open Go.RowKit Go.Proofs.YtpcchagnbkohnaaGreatDoor.Num
set_option linter.unusedVariables false
set_option linter.unusedSimpArgs false
set_option maxRecDepth 100000

theorem own_nec {u v : Value} (h : ∀ g, u.ownBlock = some g → v.ownBlock ≠ some g) : v.ownBlock = none ∨ v.ownBlock ≠ u.ownBlock := by
  cases hv : v.ownBlock with
  | none => exact .inl rfl
  | some g => exact .inr (fun e => h g e.symm hv)
theorem Own.bsetn {w : World} {B g : Nat} {v : Value} {xs : List Nat} (h : Own .u64 77 w B v xs) (hx : xs ≠ []) (hz : Bn w g) (j : Nat) (u : Value) : Own .u64 77 (w.setCell ⟨g, j, none⟩ u) B v xs := by
  rcases h with h | ⟨k, cap, C, rfl, hB, hr, r⟩
  · exact absurd h.2 hx
  · have hne : k ≠ g := by
      rintro rfl
      obtain ⟨cs, T, hh, hno⟩ := hz
      obtain ⟨cs2, hh2, hs, hl, hc, ho⟩ := hr
      rw [hh] at hh2
      injection hh2 with hh2
      injection hh2 with e1 e2
      subst e1
      have h0 := hc 0 (List.length_pos_iff.2 hx)
      have h2 := hno _ _ h0
      simp [noInt] at h2
    exact .inr ⟨k, cap, C, rfl, hB, hr.far (by exact hne) u, r⟩
/-- A list of the call's own, or nothing. -/
def Ows (w : World) (B : Nat) (v : Value) (xs : List Nat) : Prop := (xs = [] ∧ ∃ A c, v = .slice A 0 c) ∨ (xs ≠ [] ∧ Own .u64 77 w B v xs)
theorem Own.ows {w : World} {B : Nat} {v : Value} {xs : List Nat} (h : Own .u64 77 w B v xs) : Ows w B v xs := by
  by_cases hx : xs = []
  · obtain ⟨A, c, e, -⟩ := h.form
    subst hx
    exact .inl ⟨rfl, A, c, e⟩
  · exact .inr ⟨hx, h⟩
theorem Ows.step {w w' : World} {B : Nat} {v : Value} {xs : List Nat} (h : Ows w B v xs) (hb : Below w.heap.size w w') : Ows w' B v xs := h.imp id (fun h => ⟨h.1, h.2.step hb⟩)
theorem Firm2.ows (B : Nat) (v : Value) (xs : List Nat) : Firm2 (fun W => Ows W B v xs) := ⟨fun _ _ h hb => h.step hb, fun _ _ j u h hn => h.imp id (fun h => ⟨h.1, h.2.bsetn h.1 hn j u⟩)⟩
theorem Firm2.any (p : Prop) : Firm2 (fun _ => p) := ⟨fun _ _ h _ => h, fun _ _ _ _ h _ => h⟩
def Dj (xs : List Nat) (v v2 : Value) : Prop := xs ≠ [] → ∀ g, v.ownBlock = some g → v2.ownBlock ≠ some g
theorem Ows.fresh {w w' : World} {B : Nat} {v v2 : Value} {xs xs2 : List Nat} (h : Ows w B v xs) (o : Own .u64 77 w' w.heap.size v2 xs2) : Dj xs v v2 := fun hx => by
  rcases h with h | h
  · exact absurd h.1 hx
  · exact own_fresh (own_lt h.2) o
theorem zspoil_zero (s : Bool) (A : Option Addr) (c : Nat) (w : World) : Calls Tryz.prog 26 #[zv s (.slice A 0 c)] w fun e w' => e = .returned (.tuple #[]) ∧ Below w.heap.size w w' := by
  obtain ⟨b1, y0, y1⟩ := box1 w s A 0 c
  have B := hide b1
  clear b1
  go_enter Tryz.func26, Tryz.ntmps26
  go_wp2_with fail
  go_loop [6] (fun iv => iv = .int .i64 0) (fun _ => 0)
  case atStart => rfl
  case round =>
    subst hrel
    go_wp2_with fail
    go_end0
    exact ⟨rfl, B.out⟩
theorem cell_ltB {W : World} {g j : Nat} {v : Value} (h : W.cell? ⟨g, j, none⟩ = some v) : g < W.heap.size := by
  unfold World.cell? at h
  split at h
  · rename_i hb
    exact (Array.getElem?_eq_some_iff.1 hb).1
  · cases h
theorem Bx.grownB {w w' : World} {g : Nat} {s : Bool} {A : Option Addr} {n c : Nat} {row : Option Nat} (h : Bx w g s A n c) (hg : w.grownBy w' row) (hlt : g < w.heap.size) (hne : row ≠ some g) : Bx w' g s A n c := by
  have e := hg.block g hlt (fun e => hne e.symm)
  exact ⟨(World.cell?_of_block (w := w) (w' := w') e).trans h.1, (World.cell?_of_block (w := w) (w' := w') e).trans h.2⟩
/-- What a list that is written over leaves: all that was below B, the other lists, and every box. -/
def Spd (w : World) (B : Nat) (v : Value) (xs : List Nat) (w' : World) : Prop :=
  Below B w w' ∧ (∀ v2 xs2, Ows w B v2 xs2 → Dj xs v v2 → Ows w' B v2 xs2) ∧ ∀ g s A n c, Bx w g s A n c → Bx w' g s A n c
theorem zspoil_ows {w : World} {B : Nat} {s : Bool} {v : Value} {xs : List Nat} (h : Ows w B v xs) (hB : B ≤ w.heap.size) :
    Calls Tryz.prog 26 #[zv s v] w fun e w' => e = .returned (.tuple #[]) ∧ Spd w B v xs w' := by
  rcases h with ⟨rfl, A, c, rfl⟩ | ⟨hx, ho⟩
  · exact (zspoil_zero s A c w).mono fun e w' ⟨he, hb⟩ => ⟨he, hb.mono hB, fun v2 xs2 h2 _ => h2.step hb, fun g s A n c hx => hx.step hb⟩
  · refine (zspoil_own ho).mono fun e w' ⟨he, hg⟩ => ⟨he, push_below (Below.refl _ _) ho hg hB, fun v2 xs2 h2 hd => ?_, fun g s' A n c hb => ?_⟩
    · rcases h2 with h2 | h2
      · exact .inl h2
      · exact .inr ⟨h2.1, h2.2.grown hg (own_nec (hd hx))⟩
    · refine hb.grownB hg (cell_ltB hb.1) (fun e => ?_)
      rcases ho with ⟨rfl, h0⟩ | ⟨k, cap, C, rfl, hB2, hr, r⟩
      · exact absurd h0 hx
      · have ek : k = g := by simpa [Value.ownBlock] using e
        subst ek
        have h0 := hr.cell (j := 0) (List.length_pos_iff.2 hx)
        have h1 := hb.1
        rw [Nat.add_zero] at h0
        rw [h1] at h0
        cases h0
theorem zneg_oa {w : World} {u : Value} {a : Int} {L : Nat} (hu : Za w u a L) (hL : L ≤ 17592186044000) : Calls Tryz.prog 14 #[u] w (ZoRet w (-a) L) := by
  obtain ⟨s, u, x, rfl, hu, rfl⟩ := hu
  have h := zneg_o (s := s) hu hL
  rwa [show zi (!s) x = - zi s x by unfold zi; cases s <;> simp] at h
theorem zmul_oa {w : World} {u v : Value} {a b : Int} {L M K : Nat} (hu : Za w u a L) (hv : Za w v b M) (hL : L ≤ 17592186044416) (hM : M ≤ 17592186044416) (hK : (a * b).natAbs < Q ^ K) :
    Calls Tryz.prog 22 #[u, v] w (ZoRet w (a * b) K) := by
  obtain ⟨s, u, x, rfl, hu, rfl⟩ := hu
  obtain ⟨t, v, y, rfl, hv, rfl⟩ := hv
  rw [Int.natAbs_mul, zi_abs, zi_abs] at hK
  have h := zmul_o (s := s) (t := t) hu hv hL hM hK
  rwa [show zi (s != t) (x * y) = zi s x * zi t y by unfold zi; cases s <;> cases t <;> simp [Int.mul_neg, Int.neg_mul]] at h
end Go.Proofs.YtpcchagnbkohnaaGreatDoor
