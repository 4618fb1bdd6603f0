/-
  Shared texts, one behind the other: Vscl, Vgat, Mat1, Mat2, Mat3, Mat4, Mat5, Mat6, Mat7, Mat8, Mat9, Mat10.
-/
import Derived.Test.YtfnngcaalpknlaaGreatKxMatSides
import Derived.Test.YtfnngcaalpknlaaGreatVecLinW
import Derived.Test.YtfnngcaalpknlaaGreatFl
import Derived.Test.YtfnngcaalpknlaaGreatVref5
import Derived.Test.YtfnngcaalpknlaaGreatVdot
import Derived.Test.YtfnngcaalpknlaaGreatBundleI
import Derived.Deep.RegionLaw

namespace Go.Proofs.YtfnngcaalpknlaaGreat
open Go.RowKit Go.Proofs.YtfnngcaalpknlaaGreat.Num
set_option linter.unusedVariables false
set_option linter.unusedSimpArgs false
set_option maxRecDepth 100000
def zrx : Rx := ⟨false, (none, 0, 0), (none, 0, 0), 0⟩
theorem made3 (w : World) (B n : Nat) (hB : B ≤ w.heap.size) (hn : n ≤ 100000000) :
  Ow 42 er 3 (w.alloc (.cells (madeCells #[.bool false, .slice none 0 0, .slice none 0 0] (n * 3)) 42)) B (.slice (some ⟨w.heap.size, 0, none⟩) n n) (List.replicate n zrx) := by
 have h := Ow.lit (B := B) er_len w 42 (List.replicate n zrx) (madeCells #[.bool false, .slice none 0 0, .slice none 0 0] (n * 3)) (made_flat (enc := er) er_len (by omega) zrx n) hB (by simp [maxLen]; omega)
 simpa using h
theorem make_rt (n : Nat) (hn : n ≤ 100000000) (W : World) : (Instr.makeSlice 23 (.int .i64 (n : Int)) (.int .i64 (n : Int))).run Tryz.prog W = .ok (.slice (some ⟨W.heap.size, 0, none⟩) n n) (W.alloc (.cells (madeCells #[.bool false, .slice none 0 0, .slice none 0 0] (n * 3)) 42)) := by
 obtain ⟨i, hi, hz0, hz1, hz2⟩ := info_parts info_rt
 have h := run_make (P := Tryz.prog) W 23 42 i _ Tryz.underlying23 hi hz0 .i64 .i64 (n : Int) (n : Int) (by omega) (Int.le_refl _) (by rw [hz2]; omega) (by omega)
 rw [hz1, Int.toNat_natCast] at h
 exact h
theorem flat_setR : ∀ (d : List Rx) (i : Nat) (x : Rx), i < d.length → (((flat er d).set (i * 3) (.bool x.s)).set (i * 3 + 1) (sv x.u)).set (i * 3 + 2) (sv x.t) = flat er (d.set i x)
 | [], i, x, h => by simp at h
 | y :: d, 0, x, _ => by simp [flat, er]
 | y :: d, i + 1, x, h => by
  have ih := flat_setR d i x (by simpa using h)
  rw [List.set_cons_succ, flat, flat, ← ih]
  simp only [er, List.cons_append, List.nil_append, show (i + 1) * 3 = i * 3 + 1 + 1 + 1 by omega, List.set_cons_succ, show i * 3 + 1 + 1 + 1 + 1 = i * 3 + 1 + 1 + 1 + 1 from rfl, show i * 3 + 1 + 1 + 1 + 2 = i * 3 + 2 + 1 + 1 + 1 by omega]
theorem own_lenR {W : World} {B g n c : Nat} {d : List Rx} (h : Ow 42 er 3 W B (.slice (some ⟨g, 0, none⟩) n c) d) : n = d.length := by
 rcases h.form with ⟨e, _⟩ | ⟨g', cap, cur, e, _⟩
 ·cases e
 ·injection e
theorem Ow.putR {W : World} {B g n c i : Nat} {d : List Rx} (h : Ow 42 er 3 W B (.slice (some ⟨g, 0, none⟩) n c) d) (hi : i < d.length) (x : Rx) :
  Ow 42 er 3 (((W.setCell ⟨g, i * 3, none⟩ (.bool x.s)).setCell ⟨g, i * 3 + 1, none⟩ (sv x.u)).setCell ⟨g, i * 3 + 2, none⟩ (sv x.t)) B (.slice (some ⟨g, 0, none⟩) n c) (d.set i x) := by
 have hn := own_lenR h
 subst hn
 have h1 := World.ownsRow.stored (World.ownsRow.stored (World.ownsRow.stored (show W.ownsRow B _ 3 _ d.length _ from h) (i * 3) (.bool x.s)).1 (i * 3 + 1) (sv x.u)).1 (i * 3 + 2) (sv x.t)
 have h2 := h1.1
 rw [flat_setR d i x hi] at h2
 unfold Ow
 rw [List.length_set]
 exact h2
theorem Ow.cellsR {W : World} {B g n c i : Nat} {d : List Rx} {x : Rx} (h : Ow 42 er 3 W B (.slice (some ⟨g, 0, none⟩) n c) d) (hi : d[i]? = some x) :
  (W.cell? ⟨g, i * 3, none⟩ = some (.bool x.s) ∧ W.cell? ⟨g, i * 3 + 1, none⟩ = some (sv x.u) ∧ W.cell? ⟨g, i * 3 + 2, none⟩ = some (sv x.t)) ∧ W.frozen? ⟨g, i * 3, none⟩ = false ∧ W.frozen? ⟨g, i * 3 + 1, none⟩ = false ∧ W.frozen? ⟨g, i * 3 + 2, none⟩ = false := by
 obtain ⟨b, off, e, hb, hc⟩ := (h.rl er_len).get hi
 injection e with e
 injection e with e1 e2
 subst e1 e2
 have c0 := hc 0 _ rfl
 have c1 := hc 1 _ rfl
 have c2 := hc 2 _ rfl
 rw [Nat.zero_add] at c0 c1 c2
 exact ⟨⟨c0, c1, c2⟩, h.frozen rfl _, h.frozen rfl _, h.frozen rfl _⟩
theorem only_putR (W : World) (g i j k : Nat) (a b c : Value) : W.grownBy (((W.setCell ⟨g, i, none⟩ a).setCell ⟨g, j, none⟩ b).setCell ⟨g, k, none⟩ c) (some g) :=
 only_set (p := ⟨g, k, none⟩) (only_set (p := ⟨g, j, none⟩) (only_set (p := ⟨g, i, none⟩) (only_refl W (some g)) rfl a) rfl b) rfl c
theorem ow_ow_ne {α β : Type} {enc : α → List Value} {enc' : β → List Value} {k k' : Nat} {T T' : TypeId} {W : World} {B B' : Nat} {v v' : Value} {d : List α} {d' : List β} (h1 : Ow T enc k W B v d) (h2 : Ow T' enc' k' W B' v' d') (hne : T ≠ T') : v.ownBlock = none ∨ v.ownBlock ≠ v'.ownBlock := by
 rcases h1.form with ⟨rfl, _⟩ | ⟨g, cap, cur, rfl, _, _, hh, _⟩
 ·exact .inl rfl
 ·refine .inr (fun hq => ?_)
  rcases h2.form with ⟨rfl, _⟩ | ⟨g', cap', cur', rfl, _, _, hh', _⟩
  ·cases hq
  ·have e : g = g' := by simpa [Value.ownBlock] using hq
   subst e
   rw [hh] at hh'
   injection hh' with hh'
   injection hh' with _ ht
   exact hne ht
def Sc (W : World) (B : Nat) (val : Nat → Rat) (lim n M : Nat) (cur : List Rx) : Prop := cur.length = n ∧ ∀ (j : Nat) x, j < lim → cur[j]? = some x → x.r = val j ∧ Rg W B x M
theorem Sc.step {W W' : World} {B lim n M : Nat} {val : Nat → Rat} {cur : List Rx} (h : Sc W B val lim n M cur) (hb : Below W.heap.size W W') : Sc W' B val lim n M cur := ⟨h.1, fun j x hj hx => ⟨(h.2 j x hj hx).1, (h.2 j x hj hx).2.step hb⟩⟩
theorem Sc.put {W W' : World} {B lim lim' n M c : Nat} {val val' : Nat → Rat} {cur : List Rx} {z : Rx} {row : Option Nat} (h : Sc W B val lim n M cur) (hc : c < n) (hz : z.r = val' c) (rz : Rg W B z M) (hv : ∀ j, j < lim' → j ≠ c → j < lim ∧ val' j = val j) (hg : W.grownBy W' row) (hn : ∀ g, row = some g → Ot W g) : Sc W' B val' lim' n M (cur.set c z) := by
 refine ⟨by rw [List.length_set]; exact h.1, fun j x hj hx => ?_⟩
 by_cases e : j = c
 ·subst e
  rw [List.getElem?_set_self (by rw [h.1]; exact hc)] at hx
  injection hx with hx
  subst hx
  exact ⟨hz, rz.grownT hg hn⟩
 ·rw [List.getElem?_set_ne (fun h => e h.symm)] at hx
  obtain ⟨h1, h2⟩ := hv j hj e
  exact ⟨(h.2 j x h1 hx).1.trans h2.symm, (h.2 j x h1 hx).2.grownT hg hn⟩
theorem fm_last {xs : List Tm} {l : Tm} (h : Fm (xs ++ [l])) : gsum (xs ++ [l]) l.1 = l.2 ∧ ∀ t ∈ xs ++ [l], t.1 ≤ l.1 := by
 have hp := List.pairwise_append.1 h.1
 have hx : ∀ t ∈ xs, t.1 < l.1 := fun t ht => hp.2.2 t ht l (by simp)
 refine ⟨?_, fun t ht => ?_⟩
 ·rw [gsum_append, gsum_none (fun t ht => by have := hx t ht; omega), Rat.zero_add]
  simp [gsum, Rat.add_zero]
 ·rcases List.mem_append.1 ht with ht | ht
  ·have := hx t ht; omega
  ·simp at ht; subst ht; exact Int.le_refl _
theorem fm_take {ts : List Tm} {k : Nat} {t : Tm} (h : Fm ts) (ht : ts[k]? = some t) : gsum (ts.take k) t.1 = 0 := by
 refine gsum_none (fun x hx => ?_)
 obtain ⟨i, hi, rfl⟩ := List.mem_iff_getElem.1 hx
 have hik : i < k := by simp at hi; omega
 have hil : i < ts.length := by simp at hi; omega
 have hkl := (List.getElem?_eq_some_iff.1 ht).1
 have e : ts[k] = t := (List.getElem?_eq_some_iff.1 ht).2
 have := (List.pairwise_iff_getElem.1 h.1) i k hil hkl hik
 rw [List.getElem_take]
 rw [e] at this
 omega
theorem fl_mem' {α : Type} {d : List α} {k : Nat} {x : α} (h : d[k]? = some x) : x ∈ d := List.mem_of_getElem? h
/-! ### Gather -/
def gth (f : Int → Rat) : Nat → List Tm
 | 0 => []
 | k + 1 => gth f k ++ (if f (k : Int) = 0 then [] else [((k : Int), f (k : Int))])
theorem gth_mem {f : Int → Rat} {k : Nat} : ∀ t ∈ gth f k, 0 ≤ t.1 ∧ t.1 < (k : Int) ∧ t.2 ≠ 0 := by
 induction k with
 | zero => intro t h; simp [gth] at h
 | succ k ih =>
  intro t h
  rw [gth] at h
  rcases List.mem_append.1 h with h | h
  ·obtain ⟨a, b, c⟩ := ih t h
   exact ⟨a, by omega, c⟩
  ·by_cases h0 : f (k : Int) = 0
   ·rw [if_pos h0] at h; simp at h
   ·rw [if_neg h0] at h
    simp at h
    subst h
    exact ⟨by simp, by simp; omega, h0⟩
theorem gth_fm (f : Int → Rat) (k : Nat) : Fm (gth f k) := by
 refine ⟨?_, fun t h => ⟨(gth_mem t h).1, (gth_mem t h).2.2⟩⟩
 induction k with
 | zero => exact List.Pairwise.nil
 | succ k ih =>
  rw [gth]
  refine List.pairwise_append.2 ⟨ih, ?_, fun x hx y hy => ?_⟩
  ·by_cases h0 : f (k : Int) = 0
   ·rw [if_pos h0]; exact List.Pairwise.nil
   ·rw [if_neg h0]; simp
  ·by_cases h0 : f (k : Int) = 0
   ·rw [if_pos h0] at hy; simp at hy
   ·rw [if_neg h0] at hy
    simp at hy
    subst hy
    exact (gth_mem x hx).2.1
theorem gth_sum (f : Int → Rat) (k : Nat) (c : Int) : gsum (gth f k) c = if 0 ≤ c ∧ c < (k : Int) then f c else 0 := by
 induction k with
 | zero =>
  rw [if_neg (by omega)]
  rfl
 | succ k ih =>
  rw [gth, gsum_append, ih]
  by_cases hc : c = (k : Int)
  ·subst hc
   have ha : (if 0 ≤ (k : Int) ∧ (k : Int) < (k : Int) then f (k : Int) else 0) = 0 := if_neg (by omega)
   have hb : (if 0 ≤ (k : Int) ∧ (k : Int) < ((k + 1 : Nat) : Int) then f (k : Int) else 0) = f (k : Int) := if_pos (by omega)
   rw [ha, hb, Rat.zero_add]
   by_cases h0 : f (k : Int) = 0
   ·rw [if_pos h0, h0]; rfl
   ·rw [if_neg h0]; simp [gsum, Rat.add_zero]
  ·have h1 : gsum (if f (k : Int) = 0 then [] else [((k : Int), f (k : Int))]) c = 0 := by
    by_cases h0 : f (k : Int) = 0
    ·rw [if_pos h0]; rfl
    ·rw [if_neg h0]
     simp only [gsum]
     rw [if_neg (fun e => hc e.symm), Rat.add_zero]
   rw [h1, Rat.add_zero]
   by_cases h : 0 ≤ c ∧ c < (k : Int)
   ·rw [if_pos h, if_pos (by omega)]
   ·rw [if_neg h, if_neg (by omega)]
set_option maxHeartbeats 8000000 in
theorem gather_g {w : World} {v : Value} {d : List Rx} {L : Nat} (hv : Fv w v d L) (hn : d.length ≤ 100000) (h1 : 1 ≤ L) (hL : L ≤ 1000000) :
  Calls Tryz.prog 56 #[v] w (VRet w (xf d) d.length L) := by
 obtain ⟨i0, hi, hz0, hz1, hz2⟩ := info_parts info_tm
 obtain ⟨A, c, e1, hc1, hc2, hc3⟩ := id hv.1
 obtain ⟨n, hlen⟩ : ∃ n, n = d.length := ⟨_, rfl⟩
 rw [← hlen] at e1 hc1 hn ⊢
 subst e1
 have HV := hide hv
 have HN := hide hlen
 have T0 := hide (show Tg w w.heap.size (.slice none 0 0) [] L from ⟨Ow.nil _ _ _ _ _, fun x hx => by cases hx⟩)
 unfold maxLen at hc2
 clear hv hc3 hlen
 go_enter Tryz.func56, Tryz.ntmps56
 go_wp2_with fail
 go_loopw [3, 8] (fun ov iv wr => ∃ (k : Nat) (os : List Tx), k ≤ n ∧ iv = .int .i64 (k : Int) ∧ Hid (tms os = gth (xf d) k) ∧ Hid (os.length ≤ k) ∧ Hid (Below w.heap.size w wr) ∧ Hid (Tg wr w.heap.size ov os L)) (fun _ iv _ => n - (intOf iv).toNat)
 case atStart => exact ⟨0, [], Nat.zero_le _, rfl, hide rfl, hide (Nat.le_refl _), hide (Below.refl _ _), T0⟩
 case round =>
  obtain ⟨k, os, hk, rfl, E, GL, B, T⟩ := hrel
  by_cases hlt : k < n
  ·obtain ⟨x, hx⟩ := len_of (d := d) (k := k) (by rw [← HN.out]; exact hlt)
   have HC := hide (show ∀ W, Below w.heap.size w W → E3 W A (k * 3) x from fun W h => E3.of (HV.out.1.step h) hx)
   have XF := hide (xf_in hx)
   have b8 := alloc_below wr (rbox x.s (sv x.u) (sv x.t))
   have B5 := hide (Below.step B.out B.out.size b8)
   have X5 := hide ((HV.out.2 x (fl_mem' hx)).step B5.out)
   have T5 := hide (T.out.step b8)
   have Q5 := hide (Bq.new wr x.s (sv x.u) (sv x.t))
   have HLEN := hide (show os.length + 1 ≤ 1000000000000 by have := GL.out; omega)
   have l0 : (0 : Int) ≤ (k : Int) := by omega
   have l1 : (k : Int) < (n : Int) := by omega
   obtain ⟨b, off, rfl, -⟩ := HC.out w (Below.refl _ _)
   obtain ⟨c0, c1, c2⟩ := (HC.out _ B.out).cells
   obtain ⟨p0, p1, p2⟩ := bq3 Q5.out
   clear hx b8 T B
   go_wp2_with fail
   generalize (wr.alloc (rbox x.s (sv x.u) (sv x.t))) = w3 at *
   generalize wr.heap.size = g5 at *
   refine (sign_r X5.out (by omega)).mono ?_
   rintro e w4 ⟨rfl, bx⟩
   replace B5 := hide (Below.step B5.out B5.out.size bx)
   replace X5 := hide (X5.out.step bx)
   replace T5 := hide (T5.out.step bx)
   replace Q5 := hide (Q5.out.step bx)
   clear bx c0 c1 c2 p0 p1 p2
   by_cases h0 : x.r = 0
   ·have t2 : (cmpR x.r 0 != 0) = false := by rw [h0, cmpR_same]; rfl
    have E2 := hide (show tms os = gth (xf d) (k + 1) by rw [gth, XF.out, if_pos h0, List.append_nil]; exact E.out)
    clear h0 Q5 X5
    go_wp2_with fail
    exact ⟨⟨k + 1, os, by omega, by go_num, E2, hide (Nat.le_succ_of_le GL.out), B5, T5⟩, by simp [intOf]; omega⟩
   ·have t2 : (cmpR x.r 0 != 0) = true := cmpR_ne h0
    obtain ⟨p0, p1, p2⟩ := bq3 Q5.out
    have XN := hide h0
    clear h0
    go_wp2_with fail
    refine (form_g X5.out h1 (by omega)).mono ?_
    rintro e w6 ⟨y, rfl, hy, ry, bx⟩
    have T7 := hide (T5.out.step bx)
    have B7 := hide (Below.step B5.out B5.out.size bx)
    have Y7 := hide (ry.mono (B' := w.heap.size) B5.out.size)
    have HY := hide hy
    clear hy ry bx p0 p1 p2 Q5 T5 X5
    go_wp2_with (at_builtin; go_must (refine wpList_pushE rfl (.tmp 16) (.tmp 21) 28 rfl Tryz.underlying28 hi hz0 hz1 hz2 rfl (by omega) et_len et_one w6 w.heap.size _ os ⟨(k : Int), y⟩ _ rfl T7.out.1 rfl rfl HLEN.out (by decide) B7.out.size ?_); intro v' w' ho hg; have TF := hide (T7.out.push ho hg.1 Y7.out (Nat.le_refl _)); have CF := hide (below_own B7.out T7.out.1 hg.1 B7.out.size); clear ho hg)
    have E2 := hide (show tms (os ++ [⟨(k : Int), y⟩]) = gth (xf d) (k + 1) by rw [gth, XF.out, if_neg XN.out, tms_append, E.out, ← HY.out]; rfl)
    have K2 := hide (show (os ++ [(⟨(k : Int), y⟩ : Tx)]).length ≤ k + 1 by have := GL.out; simp; omega)
    exact ⟨⟨k + 1, os ++ [⟨(k : Int), y⟩], by omega, by go_num, E2, K2, CF, TF⟩, by simp [intOf]; omega⟩
  ·obtain rfl : k = n := by omega
   have SU := hide (show ∀ c, 0 ≤ c → gsum (tms os) c = xf d c from fun c hc => by
    rw [E.out, gth_sum]
    by_cases h : c < (k : Int)
    ·rw [if_pos ⟨hc, h⟩]
    ·rw [if_neg (fun e => h e.2), xf_out d c (.inr (by rw [← HN.out]; omega))])
   have FF := hide (show Fm (tms os) by rw [E.out]; exact gth_fm _ _)
   clear E
   go_wp2_with fail
   go_ret
   exact ⟨_, os, rfl, T.out, FF.out, SU.out, GL.out, B.out⟩
structure Vx where
 a : Sl
 d : List Tx
instance : Inhabited Vx := ⟨⟨(none, 0, 0), []⟩⟩
def em (x : Vx) : List Value := [sv x.a]
theorem em_len (x : Vx) : (em x).length = 1 := rfl
theorem em_one (x : Vx) : ∀ u ∈ em x, u.oneCell' = true := by
 intro u hu
 simp [em] at hu
 subst hu
 rfl
def Mv (W : World) (v : Value) (m : List Vx) (L : Nat) : Prop := Lr em 1 W v m ∧ ∀ x ∈ m, Tv W (sv x.a) x.d L
theorem Mv.step {W W' : World} {v : Value} {m : List Vx} {L : Nat} (h : Mv W v m L) (hb : Below W.heap.size W W') : Mv W' v m L := ⟨h.1.step hb, fun x hx => (h.2 x hx).step hb⟩
def rwA (m : List Vx) (i : Int) : List Tm := if 0 ≤ i then (match m[i.toNat]? with | some x => tms x.d | none => []) else []
theorem rwA_out (m : List Vx) (i : Int) (h : i < 0 ∨ (m.length : Int) ≤ i) : rwA m i = [] := by
 unfold rwA
 by_cases h0 : 0 ≤ i
 ·rw [if_pos h0, List.getElem?_eq_none (by omega)]
 ·rw [if_neg h0]
theorem rwA_in {m : List Vx} {k : Nat} {x : Vx} (h : m[k]? = some x) : rwA m (k : Int) = tms x.d := by
 unfold rwA
 rw [if_pos (by omega), Int.toNat_natCast, h]
set_option maxHeartbeats 4000000 in
theorem at_m {w : World} {v : Value} {m : List Vx} {L : Nat} (i : Int) (hv : Mv w v m L) :
  Calls Tryz.prog 109 #[v, .int .i64 i] w fun e w' => ∃ a d, e = .returned a ∧ tms d = rwA m i ∧ (∀ x ∈ m, d.length ≤ x.d.length ∨ True) ∧ Tv w' a d L ∧ (d = [] ∨ ∃ x ∈ m, x.d = d) ∧ Below w.heap.size w w' := by
 obtain ⟨A, c, e1, hc1, hc2, hc3⟩ := id hv.1
 obtain ⟨n, hlen⟩ : ∃ n, n = m.length := ⟨_, rfl⟩
 rw [← hlen] at e1 hc1
 subst e1
 have HV := hide hv
 have HN := hide hlen
 have NIL := hide (show ∀ W, Tv W (.slice none 0 0) [] L from fun W => ⟨Lr.nil et 4 _, fun x hx => by cases hx⟩)
 unfold maxLen at hc2
 clear hv hc3 hlen
 go_enter Tryz.func109, Tryz.ntmps109
 by_cases h0 : i < 0
 ·have t0 : decide (i < 0) = true := decide_eq_true h0
  have hx := hide (rwA_out m i (.inl h0))
  clear h0
  go_wp2_with fail
  go_ret
  exact ⟨_, [], rfl, hx.out.symm, fun _ _ => .inr trivial, NIL.out _, .inl rfl, Below.refl _ _⟩
 ·by_cases h2 : (n : Int) ≤ i
  ·have t0 : decide (i < 0) = false := decide_eq_false h0
   have t1 : decide ((n : Int) ≤ i) = true := decide_eq_true h2
   have hx := hide (rwA_out m i (.inr (by rw [← HN.out]; exact h2)))
   clear h0 h2
   go_wp2_with fail
   go_ret
   exact ⟨_, [], rfl, hx.out.symm, fun _ _ => .inr trivial, NIL.out _, .inl rfl, Below.refl _ _⟩
  ·obtain ⟨k, rfl⟩ : ∃ k : Nat, i = (k : Int) := ⟨i.toNat, by omega⟩
   have t0 : decide ((k : Int) < 0) = false := decide_eq_false h0
   have t1 : decide ((n : Int) ≤ (k : Int)) = false := decide_eq_false h2
   have t2 : decide (n ≤ k) = false := decide_eq_false (by omega)
   obtain ⟨x, hk⟩ := len_of (d := m) (k := k) (by rw [← HN.out]; omega)
   have hx := hide (rwA_in hk)
   obtain ⟨b, off, rfl, hb, hc⟩ := HV.out.1.get hk
   have c0 := hc 0 _ rfl
   rw [Nat.add_zero, Nat.mul_one] at c0
   have l0 : (0 : Int) ≤ (k : Int) := by omega
   have l1 : (k : Int) < (n : Int) := by omega
   have hm := hide (List.mem_of_getElem? hk)
   have RX := hide (HV.out.2 x hm.out)
   clear hc hb hk h0 h2
   go_wp2_with fail
   go_ret
   exact ⟨_, x.d, rfl, hx.out.symm, fun _ _ => .inr trivial, RX.out, .inr ⟨x, hm.out, rfl⟩, Below.refl _ _⟩
set_option maxHeartbeats 8000000 in
theorem times_m {w : World} {v u : Value} {m : List Vx} {f : List Rx} {L K N : Nat} (hv : Mv w v m L) (hu : Fv w u f K) (hm : m.length ≤ 100000) (hN : ∀ x ∈ m, x.d.length ≤ N) (hNN : N ≤ 1000) (h1 : 1 ≤ L) (hL : L ≤ 10000000) (h2 : 1 ≤ K) (hK : K ≤ 10000000) :
  Calls Tryz.prog 11 #[v, u] w fun e w' => ∃ v' l, e = .returned v' ∧ Fg w' w.heap.size v' l (N * (L + K + 1) + 1) ∧ l.length = m.length ∧ (∀ (j : Nat) x, l[j]? = some x → x.r = dt (rwA m (j : Int)) (xf f)) ∧ Below w.heap.size w w' := by
 obtain ⟨A, c, e1, hc1, hc2, hc3⟩ := id hv.1
 obtain ⟨n, hlen⟩ : ∃ n, n = m.length := ⟨_, rfl⟩
 rw [← hlen] at e1 hc1 hm ⊢
 subst e1
 obtain ⟨A2, n2, c2, rfl⟩ := rv_sl hu.1
 obtain ⟨M, hM⟩ : ∃ M, M = N * (L + K + 1) + 1 := ⟨_, rfl⟩
 rw [← hM]
 have HV := hide hv
 have HU := hide hu
 have HN := hide hlen
 have NN := hide hN
 have KL := hide (show ∀ q, q ≤ N → q * (L + K + 1) + 1 ≤ M from fun q hq => by rw [hM]; exact Nat.succ_le_succ (Nat.mul_le_mul_right _ hq))
 have PB := hide (And.intro h1 (And.intro hL (And.intro h2 hK)))
 unfold maxLen at hc2
 have hmk := make_rt n (by omega) w
 have O1 := hide (made3 w w.heap.size n (Nat.le_refl _) (by omega))
 have BA := hide (alloc_below w (.cells (madeCells #[.bool false, .slice none 0 0, .slice none 0 0] (n * 3)) 42))
 generalize madeCells #[.bool false, .slice none 0 0, .slice none 0 0] (n * 3) = Z at *
 have hpx : n ≤ 9223372036854775807 := by omega
 have hpz : (0 : Int) ≤ (n : Int) := by omega
 clear hv hu hc3 hlen hN hM h1 hL h2 hK
 go_enter Tryz.func11, Tryz.ntmps11
 go_wp2_with fail
 clear hmk
 generalize (w.alloc (.cells Z 42)) = w2 at *
 have S2 := hide (show Sc w2 w.heap.size (fun j => dt (rwA m (j : Int)) (xf f)) 0 n M (List.replicate n zrx) from ⟨by simp, fun j x h => by omega⟩)
 go_loopw [13] (fun iv wr => ∃ (k : Nat) (cur : List Rx), k ≤ n ∧ iv = .int .i64 (k : Int) ∧ Hid (Below w.heap.size w wr) ∧ Hid (Ow 42 er 3 wr w.heap.size (.slice (some ⟨w.heap.size, 0, none⟩) n n) cur) ∧ Hid (Sc wr w.heap.size (fun j => dt (rwA m (j : Int)) (xf f)) k n M cur)) (fun iv _ => n - (intOf iv).toNat)
 case atStart => exact ⟨0, _, Nat.zero_le _, rfl, BA, O1, S2⟩
 case round =>
  obtain ⟨k, cur, hk, rfl, B, O, S⟩ := hrel
  by_cases hlt : k < n
  ·obtain ⟨x, hx⟩ := len_of (d := m) (k := k) (by rw [← HN.out]; exact hlt)
   have XR := hide (rwA_in hx)
   have hm9 := List.mem_of_getElem? hx
   have RX := hide ((HV.out.2 x hm9).step B.out)
   have NX := hide (NN.out x hm9)
   obtain ⟨b, off, rfl, hb, hc⟩ := (HV.out.1.step B.out).get hx
   have c0 := hc 0 _ rfl
   rw [Nat.add_zero, Nat.mul_one] at c0
   have l0 : (0 : Int) ≤ (k : Int) := by omega
   have l1 : (k : Int) < (n : Int) := by omega
   clear hc hb hx hm9
   go_wp2_with fail
   refine (dot_g RX.out (HU.out.step B.out) (by have := NX.out; omega) PB.out.1 PB.out.2.1 PB.out.2.2.1 PB.out.2.2.2).mono ?_
   rintro e w5 ⟨z, rfl, hz, rz, bx⟩
   have B5 := hide (Below.step B.out B.out.size bx)
   have O5 := hide (O.out.step bx)
   have S5 := hide (S.out.step bx)
   have Z5 := hide ((rz.mono (B' := w.heap.size) B.out.size).more (M := M) (KL.out _ NX.out))
   have HZ := hide (show z.r = dt (rwA m (k : Int)) (xf f) by rw [hz, XR.out])
   clear hz rz bx B O S RX c0
   obtain ⟨y, hy⟩ := len_of (d := cur) (k := k) (by rw [S5.out.1]; exact hlt)
   obtain ⟨⟨e0, e1, e2⟩, f0, f1, f2⟩ := O5.out.cellsR hy
   have hg := only_putR w5 w.heap.size (k * 3) (k * 3 + 1) (k * 3 + 2) (.bool z.s) (sv z.u) (sv z.t)
   have O6 := hide (O5.out.putR (i := k) (by rw [S5.out.1]; exact hlt) z)
   have S6 := hide (S5.out.put (lim' := k + 1) (val' := fun j => dt (rwA m (j : Int)) (xf f)) hlt HZ.out Z5.out (fun j h1 h2 => ⟨by omega, rfl⟩) hg (fun g e => O5.out.ot3 g (by rw [← e]; rfl)))
   have B6 := hide (show Below w.heap.size w _ from (B5.out.grown hg B5.out.size (fun g e => by injection e with e; subst e; exact (O5.out.lt rfl).1)))
   clear hy hg O5 S5 Z5 B5
   go_wp2_with fail
   exact ⟨⟨k + 1, _, by omega, by go_num, B6, O6, S6⟩, by simp [intOf]; omega⟩
  ·obtain rfl : k = n := by omega
   have FIN := hide (show Fg wr w.heap.size (.slice (some ⟨w.heap.size, 0, none⟩) k k) cur M from ⟨O.out, fun x hx => by
    obtain ⟨j, hj, rfl⟩ := List.mem_iff_getElem.1 hx
    exact (S.out.2 j _ (by rw [← S.out.1]; exact hj) (List.getElem?_eq_getElem hj)).2⟩)
   have VAL := hide (show ∀ (j : Nat) x, cur[j]? = some x → x.r = dt (rwA m (j : Int)) (xf f) from fun j x hx => (S.out.2 j x (by rw [← S.out.1]; exact (List.getElem?_eq_some_iff.1 hx).1) hx).1)
   have LEN := hide S.out.1
   clear O S O1 S2
   go_wp2_with fail
   go_ret
   exact ⟨_, cur, rfl, FIN.out, LEN.out, VAL.out, B.out⟩
theorem step_joinA {α : Type} {enc : α → List Value} {k : Nat} {P : Program} {ops : Array Oper} {o : Oper} {a : Act} {K : Act → World → Prop} {Q : Exit → Act → World → Prop} {E : Prop} (hgd : o.guard = none) (s y : Operand) (t : TypeId)
  (ho : o.op = .call { callee := .builtin .append, args := #[s, y], argTypes := #[t, t] })
  {e : TypeId} {i : TypeInfo} {z : Value} {by_ : Nat} (ht : P.underlying t = some (.slice e)) (hi : P.info? e = some i) (hz : i.zero = some z)
  (hsize : i.size = k) (hby : i.bytes = by_) (hzs : z.cells.size = k) (h0 : 0 < k) (hk : ∀ x, (enc x).length = k) (h1 : ∀ x, ∀ u ∈ enc x, u.oneCell' = true) (wr : World) (B : Nat) (v u : Value) (d d2 : List α)
  (hx : Lr enc k wr u d2) (hown : Ow e enc k wr B v d) (hs : a.eval s = v) (hy : a.eval y = u)
  (hlen : d.length + d2.length ≤ 1000000000000) (hb8 : by_ ≤ 128) (hB : B ≤ wr.heap.size)
  (h : ∀ v' w', Ow e enc k w' B v' (d ++ d2) → wr.grownBy w' v.ownBlock → K (a.put o.dst v') w') :
  if Region.wanted o (yielded ops a.tmps) = true then Oper.wp P o a wr K Q else E := by
 rw [if_pos (by simp [Region.wanted, hgd])]
 obtain ⟨A, c, rfl, hc1, hc2, hc3⟩ := id hx
 cases A with
 | none =>
  have h0 : d2 = [] := by
   rcases Nat.eq_zero_or_pos d2.length with h | h
   ·exact List.length_eq_zero_iff.1 h
   ·obtain ⟨b, off, e, _⟩ := hc3 h
    cases e
  subst h0
  have hv : ∃ A n c, v = .slice A n c ∧ n ≤ c := by
   rcases hown.form with ⟨rfl, _⟩ | ⟨g, cap, cur, rfl, _, _, _, h, _⟩
   ·exact ⟨none, 0, 0, rfl, Nat.le_refl _⟩
   ·exact ⟨_, _, _, rfl, h⟩
  obtain ⟨A, n, c0, rfl, hnc⟩ := hv
  have hr := run_join0 (P := P) (ty := o.type) ht hi wr A n c0 c hnc
  have h2 : Ow e enc k wr B (.slice A n c0) (d ++ []) := by rw [List.append_nil]; exact hown
  unfold Oper.wp execOp
  simp only [ho, resolve, invoke, builtin, Sem.run_bind, Sem.run_pure, Result.andThen_ok, List.map_toArray, List.map_cons, List.map_nil, hs, hy]
  erw [hr]
  exact h _ _ h2 (only_refl _ _)
 | some ad =>
  obtain ⟨v', w', hr, h2, h3⟩ := run_joinE (P := P) ht hi hz hsize hby hzs h0 hk h1 o.type wr B v d ad c d2 hx hown hlen hb8 hB
  unfold Oper.wp execOp
  simp only [ho, resolve, invoke, builtin, Sem.run_bind, Sem.run_pure, Result.andThen_ok, List.map_toArray, List.map_cons, List.map_nil, hs, hy, hr]
  exact h v' w' h2 h3.1
theorem Tg.join {W W' : World} {B K : Nat} {v v1 v' : Value} {os ds : List Tx} (T : Tg W B v os K) (D : Tg W B v1 ds K) (ho : Ow 77 et 4 W' B v' (os ++ ds)) (hg : W.grownBy W' v.ownBlock) : Tg W' B v' (os ++ ds) K := by
 refine ⟨ho, fun x hx => ?_⟩
 rcases List.mem_append.1 hx with h | h
 ·exact (T.2 x h).grownT hg (fun g e => T.1.ot g e)
 ·exact (D.2 x h).grownT hg (fun g e => T.1.ot g e)
def Bt (W : World) (g : Nat) (x : Tx) : Prop := W.heap[g]? = some (.cells #[.int .i64 x.c, .bool x.x.s, sv x.x.u, sv x.x.t] 77 (0, 0))
theorem Bt.step {W W' : World} {g : Nat} {x : Tx} (h : Bt W g x) (hb : Below W.heap.size W W') : Bt W' g x := (hb.block g (Array.getElem?_eq_some_iff.1 h).1).trans h
theorem Bt.cells {W : World} {g : Nat} {x : Tx} (h : Bt W g x) : W.cell? ⟨g, 0, none⟩ = some (.int .i64 x.c) ∧ W.cell? ⟨g, 1, none⟩ = some (.bool x.x.s) ∧ W.cell? ⟨g, 2, none⟩ = some (sv x.x.u) ∧ W.cell? ⟨g, 3, none⟩ = some (sv x.x.t) := box_cells h
theorem Bt.lt {W : World} {g : Nat} {x : Tx} (h : Bt W g x) : g < W.heap.size := (Array.getElem?_eq_some_iff.1 h).1
set_option maxHeartbeats 8000000 in
theorem sum_m {w : World} {v u : Value} {o : List Tx} {m : List Vx} {L K N P : Nat} (hv : Tv w v o L) (hu : Mv w u m K) (hN : ∀ x ∈ m, x.d.length ≤ N) (hP : ∀ q, q ≤ N → q * (L + K + 1) + 1 ≤ P) (hPP : P ≤ 1000000) (ho : o.length * N ≤ 100000) (hNN : N ≤ 100000) (h1 : 1 ≤ L) (hL : L ≤ 500000) (h2 : 1 ≤ K) (hK : K ≤ 500000) (hoo : o.length ≤ 100000) :
  Calls Tryz.prog 55 #[v, u] w (VRet w (fun c => dt (tms o) (fun i => gsum (rwA m i) c)) (o.length * N) (o.length * N * (P + 1) + 1)) := by
 obtain ⟨i0, hi, hz0, hz1, hz2⟩ := info_parts info_tm
 obtain ⟨A, c, e1, hc1, hc2, hc3⟩ := id hv.1
 obtain ⟨n, hlen⟩ : ∃ n, n = o.length := ⟨_, rfl⟩
 rw [← hlen] at e1 hc1 ho hoo ⊢
 subst e1
 obtain ⟨A2, n2, c2, rfl⟩ := rv_sl hu.1
 have HV := hide hv
 have HU := hide hu
 have HN := hide hlen
 have NN := hide hN
 have PP := hide hP
 have PL := hide hPP
 have PB := hide (And.intro h1 (And.intro hL (And.intro h2 hK)))
 have ON := hide ho
 have NB := hide hNN
 have T0 := hide (show Tg w w.heap.size (.slice none 0 0) [] P from ⟨Ow.nil _ _ _ _ _, fun x hx => by cases hx⟩)
 unfold maxLen at hc2
 clear hv hu hc3 hlen hN hP hPP ho hNN h1 hL h2 hK
 go_enter Tryz.func55, Tryz.ntmps55
 go_wp2_with fail
 go_loopw [5, 10] (fun ov iv wr => ∃ (k : Nat) (os : List Tx), k ≤ n ∧ iv = .int .i64 (k : Int) ∧ Hid (∀ c, 0 ≤ c → gsum (tms os) c = dt (tms (o.take k)) (fun i => gsum (rwA m i) c)) ∧ Hid (os.length ≤ k * N) ∧ Hid (Below w.heap.size w wr) ∧ Hid (Tg wr w.heap.size ov os P)) (fun _ iv _ => n - (intOf iv).toNat)
 case atStart => exact ⟨0, [], Nat.zero_le _, rfl, hide (fun c _ => rfl), hide (Nat.zero_le _), hide (Below.refl _ _), T0⟩
 case round =>
  obtain ⟨k, os, hk, rfl, E, GL, B, T⟩ := hrel
  by_cases hlt : k < n
  ·obtain ⟨x, hx⟩ := len_of (d := o) (k := k) (by rw [← HN.out]; exact hlt)
   have HX := hide hx
   have HC := hide (show E4 wr A (k * 4) x from E4.of (HV.out.1.step B.out) hx)
   obtain ⟨b, off, rfl, -⟩ := HC.out
   obtain ⟨c0, c1, c2', c3⟩ := HC.out.cells
   have b8 := (alloc_below wr (.cells #[.int .i64 x.c, .bool x.x.s, sv x.x.u, sv x.x.t] 77)).drew
   have B5 := hide (Below.step B.out B.out.size b8)
   have X5 := hide ((HV.out.2 x (List.mem_of_getElem? hx)).step B5.out)
   have U5 := hide (HU.out.step B5.out)
   have T5 := hide (T.out.step b8)
   have Q5 := hide (show Bt (wr.alloc (.cells #[.int .i64 x.c, .bool x.x.s, sv x.x.u, sv x.x.t] 77)).drew wr.heap.size x from heap_alloc_new wr (.cells #[.int .i64 x.c, .bool x.x.s, sv x.x.u, sv x.x.t] 77))
   have GB := hide (show os.length + N ≤ 1000000000 by
    have h1 := GL.out
    have h2 := ON.out
    have h3 : k * N ≤ n * N := Nat.mul_le_mul_right _ (by omega)
    have h4 := NB.out
    omega)
   have NE := hide (fun g (h : _ = some g) => (T.out.1.lt h).2)
   have l0 : (0 : Int) ≤ (k : Int) := by omega
   have l1 : (k : Int) < (n : Int) := by omega
   clear hx b8 T B
   go_wp2_with fail
   generalize (wr.alloc (.cells #[.int .i64 x.c, .bool x.x.s, sv x.x.u, sv x.x.t] 77)) = w3 at *
   generalize wr.heap.size = gb at *
   go_region_held3 (fun W => W.cell? ⟨gb, 0, none⟩ = some (.int .i64 x.c) ∧ W.cell? ⟨gb, 1, none⟩ = some (.bool x.x.s) ∧ W.cell? ⟨gb, 2, none⟩ = some (sv x.x.u) ∧ W.cell? ⟨gb, 3, none⟩ = some (sv x.x.t))
    (first | exact Q5.out.cells | exact QF.out.cells)
    (first
     | (go_at_call 109; refine Calls.mono (at_m x.c U5.out) ?_; rintro e wx ⟨av, d9, rfl, hd, -, t9, hd9, bx⟩; have D9 := hide hd; have R9 := hide t9; have N9 := hide (show d9.length ≤ N by rcases hd9 with h | ⟨y, hy, h⟩; (· rw [h]; exact Nat.zero_le _); (· rw [← h]; exact NN.out y hy)); replace X5 := hide (X5.out.step bx); replace T5 := hide (T5.out.step bx); replace Q5 := hide (Q5.out.step bx); replace B5 := hide (Below.step B5.out B5.out.size bx); clear hd t9 hd9 bx U5)
     | (go_at_call 74; refine Calls.mono (scale_t X5.out R9.out (by have := N9.out; have := NB.out; omega) PB.out.2.2.1 PB.out.2.2.2 PB.out.1 PB.out.2.1) ?_; rintro e wx ⟨v2, d2, rfl, t2, f2, g2, n2', bx⟩; have S2 := hide ((t2.mono (B' := w.heap.size) B5.out.size).more (M := P) (PP.out _ N9.out)); have G2 := hide (show ∀ c, 0 ≤ c → gsum (tms d2) c = x.x.r * gsum (rwA m x.c) c from fun c hc => by rw [g2 c hc, D9.out]); have N2 := hide (show d2.length ≤ N from Nat.le_trans n2' N9.out); replace T5 := hide (T5.out.step bx); replace Q5 := hide (Q5.out.step bx); replace B5 := hide (Below.step B5.out B5.out.size bx); clear t2 f2 g2 n2' bx X5)
     | (refine step_joinA rfl (.tmp 14) (.tmp 21) 28 rfl Tryz.underlying28 hi hz0 hz1 hz2 rfl (by omega) et_len et_one wx w.heap.size _ _ os d2 S2.out.tv.1 T5.out.1 rfl rfl (by have := GB.out; have := N2.out; omega) (by decide) B5.out.size ?_; intro v' w' ho hg; have TF := hide (T5.out.join S2.out ho hg); have QF := hide (show Bt w' gb x from (hg.block gb Q5.out.lt (fun e => by have := NE.out gb e.symm; omega)).trans Q5.out); have CF := hide (below_own B5.out T5.out.1 hg B5.out.size); clear ho hg))
   all_goals
    have E2 := hide (show ∀ c, 0 ≤ c → gsum (tms (os ++ d2)) c = dt (tms (o.take (k + 1))) (fun i => gsum (rwA m i) c) from fun c hc => by rw [dt_take HX.out, tms_append, gsum_append, E.out c hc, G2.out c hc])
    have K2 := hide (show (os ++ d2).length ≤ (k + 1) * N by rw [List.length_append, Nat.add_mul]; have := GL.out; have := N2.out; omega)
    clear T5 Q5 B5 c0 c1 c2' c3
    go_wp2_with fail
    exact ⟨⟨k + 1, os ++ d2, by omega, by go_num, E2, K2, CF, TF⟩, by simp [intOf]; omega⟩
  ·obtain rfl : k = n := by omega
   have E2 := hide (show ∀ c, 0 ≤ c → gsum (tms os) c = dt (tms o) (fun i => gsum (rwA m i) c) from fun c hc => by have h := E.out c hc; rwa [List.take_of_length_le (by rw [← HN.out]; exact Nat.le_refl _)] at h)
   have MC := hide (make_v T.out.tv (by have := GL.out; have := ON.out; omega) (by have := PP.out 0 (Nat.zero_le _); omega) PL.out)
   obtain ⟨A9, n9, c9, rfl⟩ := rv_sl T.out.tv.1
   clear E T
   go_wp2_with fail
   refine MC.out.mono ?_
   rintro e w9 h
   have F := hide (h.later B.out E2.out GL.out (Nat.succ_le_succ (Nat.mul_le_mul_right _ GL.out)))
   obtain ⟨v', d', rfl, -⟩ := h
   clear MC
   go_wp2_with fail
   go_ret
   exact F.out
theorem sm_ext {n k : Nat} {f : Nat → Rat} (hk : n ≤ k) (h : ∀ i, n ≤ i → f i = 0) : sm k f = sm n f := by
 induction k with
 | zero => rw [show n = 0 by omega]
 | succ k ih =>
  by_cases e : n = k + 1
  ·rw [e]
  ·rw [sm, ih (by omega), h k (by omega), Rat.add_zero]
theorem dt_rows {o : List Tm} {m : List Vx} {y : Int → Rat} (h : ∀ c, 0 ≤ c → gsum o c = y c) (c : Int) : dt o (fun i => gsum (rwA m i) c) = sm m.length (fun i => y (i : Int) * gsum (rwA m (i : Int)) c) := by
 rw [dt_sum o m.length _ (fun i hi => by show gsum (rwA m i) c = 0; rw [rwA_out m i hi]; rfl)]
 refine sm_congr (fun i _ => ?_)
 show gt o (i : Int) * gsum (rwA m (i : Int)) c = _
 rw [gt, if_pos (by omega), h _ (by omega)]
set_option maxHeartbeats 4000000 in
theorem timest_m {w : World} {u v : Value} {f : List Rx} {m : List Vx} {L K N P : Nat} (hu : Fv w u f L) (hv : Mv w v m K) (hN : ∀ x ∈ m, x.d.length ≤ N) (hP : ∀ q, q ≤ N → q * (L + K + 1) + 1 ≤ P) (hPP : P ≤ 1000000) (hf : f.length * N ≤ 100000) (hNN : N ≤ 100000) (h1 : 1 ≤ L) (hL : L ≤ 500000) (h2 : 1 ≤ K) (hK : K ≤ 500000) (hff : f.length ≤ 100000) :
  Calls Tryz.prog 12 #[u, v] w (VRet w (fun c => sm m.length (fun i => xf f (i : Int) * gsum (rwA m (i : Int)) c)) (f.length * N) (f.length * N * (P + 1) + 1)) := by
 obtain ⟨A, n, c, rfl⟩ := rv_sl hu.1
 obtain ⟨A2, n2, c2, rfl⟩ := rv_sl hv.1
 have HV := hide hv
 have HC := hide (fun W (v1 : Value) (o : List Tx) (h : Tv W v1 o L) (hl : o.length ≤ f.length) (hb : Below w.heap.size w W) => sum_m h (hv.step hb) hN hP hPP (Nat.le_trans (Nat.mul_le_mul_right _ hl) hf) hNN h1 hL h2 hK (by omega))
 have GC := hide (gather_g hu hff h1 (by omega))
 clear hu hv hN hP hPP hf hNN h1 hL h2 hK hff
 go_enter Tryz.func12, Tryz.ntmps12
 go_wp2_with fail
 refine GC.out.mono ?_
 rintro e w1 ⟨v1, d1, rfl, t1, f1, g1, n1, b1⟩
 have SC := hide (HC.out w1 v1 d1 t1.tv n1 b1)
 have B1 := hide b1
 have G1 := hide g1
 have N1 := hide n1
 obtain ⟨A1, n1', c1, rfl⟩ := rv_sl t1.tv.1
 clear t1 f1 g1 n1 b1 GC HC
 go_wp2_with fail
 refine SC.out.mono ?_
 rintro e w2 h
 have F := hide (h.later (g := fun c => sm m.length (fun i => xf f (i : Int) * gsum (rwA m (i : Int)) c)) B1.out (fun c _ => dt_rows G1.out c) (Nat.mul_le_mul_right _ N1.out) (Nat.succ_le_succ (Nat.mul_le_mul_right _ (Nat.mul_le_mul_right _ N1.out))))
 obtain ⟨v', d', rfl, -⟩ := h
 clear SC
 go_wp2_with fail
 go_ret
 exact F.out
set_option maxHeartbeats 4000000 in
theorem great_m {w : World} {v : Value} {m : List Vx} {L : Nat} (hv : Mv w v m L) (hL : L ≤ 17592186044000) :
  Calls Tryz.prog 9 #[v] w fun e w' => Below w.heap.size w w' ∧ ∃ b : Bool, e = .returned (.bool b) ∧ (b = false → m.length ≤ 12 ∧ ∀ x ∈ m, x.d.length ≤ 30 ∧ ∀ t ∈ x.d, t.x.u.2.1 + t.x.t.2.1 ≤ 6) := by
 obtain ⟨A, c, e1, hc1, hc2, hc3⟩ := id hv.1
 obtain ⟨n, hlen⟩ : ∃ n, n = m.length := ⟨_, rfl⟩
 rw [← hlen] at e1 hc1 ⊢
 subst e1
 have HV := hide hv
 have HN := hide hlen
 unfold maxLen at hc2
 clear hv hc3 hlen
 go_enter Tryz.func9, Tryz.ntmps9
 go_wp2_with fail
 go_loopw [3, 4] (fun sv0 iv wr => ∃ (k : Nat) (z : Int), k ≤ n ∧ sv0 = .int .i64 z ∧ iv = .int .i64 (k : Int) ∧ Hid (Below w.heap.size w wr) ∧ Hid (∀ (j : Nat) x, j < k → m[j]? = some x → x.d.length ≤ 30 ∧ ∀ t ∈ x.d, t.x.u.2.1 + t.x.t.2.1 ≤ 6)) (fun _ iv _ => n - (intOf iv).toNat)
 case atStart => exact ⟨0, 0, Nat.zero_le _, rfl, rfl, hide (Below.refl _ _), hide (fun j x h => by omega)⟩
 case round =>
  obtain ⟨k, z, hk, rfl, rfl, B, P⟩ := hrel
  by_cases hlt : k < n
  ·obtain ⟨x, hx⟩ := len_of (d := m) (k := k) (by rw [← HN.out]; exact hlt)
   have hm := List.mem_of_getElem? hx
   have RX := hide ((HV.out.2 x hm).step B.out)
   obtain ⟨b, off, rfl, hb, hc⟩ := (HV.out.1.step B.out).get hx
   have c0 := hc 0 _ rfl
   rw [Nat.add_zero, Nat.mul_one] at c0
   have HX := hide hx
   have l0 : (0 : Int) ≤ (k : Int) := by omega
   have l1 : (k : Int) < (n : Int) := by omega
   clear hc hb hx hm
   go_wp2_with fail
   refine (great_c RX.out hL).mono ?_
   rintro e w2 ⟨bx, p, rfl, hp⟩
   have B2 := hide (Below.step B.out B.out.size bx)
   have R2 := hide (RX.out.step bx)
   have HP := hide hp
   have c1 := cell_keep c0 bx
   clear bx hp c0 RX
   cases p with
   | true =>
    go_wp2_with fail
    go_ret
    exact ⟨B2.out, true, rfl, fun h => by cases h⟩
   | false =>
    have Q := hide (HP.out rfl)
    go_wp2_with fail
    refine (weights_c R2.out hL (by have := Q.out.1; omega)).mono ?_
    rintro e w3 ⟨z2, rfl, bx⟩
    have B3 := hide (Below.step B2.out B2.out.size bx)
    have P3 := hide (show ∀ (j : Nat) y, j < k + 1 → m[j]? = some y → y.d.length ≤ 30 ∧ ∀ t ∈ y.d, t.x.u.2.1 + t.x.t.2.1 ≤ 6 from fun j y hj hy => by
     by_cases h : j = k
     ·subst h
      rw [HX.out] at hy
      injection hy with hy
      subst hy
      exact Q.out
     ·exact P.out j y (by omega) hy)
    clear bx c1 P
    go_wp2_with fail
    exact ⟨⟨k + 1, _, by omega, rfl, by go_num, B3, P3⟩, by simp [intOf]; omega⟩
  ·obtain rfl : k = n := by omega
   have HP := hide (show ∀ x ∈ m, x.d.length ≤ 30 ∧ ∀ t ∈ x.d, t.x.u.2.1 + t.x.t.2.1 ≤ 6 from fun x hx => by
    obtain ⟨j, hj, e⟩ := List.getElem_of_mem hx
    exact P.out j x (by rw [HN.out]; exact hj) (by rw [List.getElem?_eq_getElem hj, e]))
   by_cases h12 : 12 < k
   ·have t1 : decide ((12 : Int) < (k : Int)) = true := decide_eq_true (by omega)
    go_wp2_with fail
    go_ret
    exact ⟨B.out, true, rfl, fun h => by cases h⟩
   ·have t1 : decide ((12 : Int) < (k : Int)) = false := decide_eq_false (by omega)
    go_wp2_with fail
    go_ret
    exact ⟨B.out, _, rfl, fun _ => ⟨by omega, HP.out⟩⟩
theorem Mv.tight {W : World} {v : Value} {m : List Vx} {L : Nat} (h : Mv W v m L) (hs : ∀ x ∈ m, ∀ t ∈ x.d, t.x.u.2.1 + t.x.t.2.1 ≤ 6) : Mv W v m 6 := ⟨h.1, fun x hx => (h.2 x hx).tight (hs x hx)⟩
theorem Ow.otm {W : World} {B : Nat} {v : Value} {d : List Vx} (h : Ow 28 em 1 W B v d) : ∀ g, v.ownBlock = some g → Ot W g := by
 intro g hg
 rcases h.form with ⟨rfl, _⟩ | ⟨g', cap, cur, rfl, hB, hlt, hh, r⟩
 ·cases hg
 ·have e : g' = g := by simpa [Value.ownBlock] using hg
  subst e
  exact ⟨_, _, _, hh, by decide⟩
theorem info_row : (Tryz.prog.info? 28).map (fun i => (i.zero, i.size, i.bytes)) = some (some (.slice none 0 0), 1, 24) := by kernel_rfl
def Mc (W : World) (v : Value) (m : List Vx) (L : Nat) : Prop := Lr em 1 W v m ∧ ∀ x ∈ m, Tc W (sv x.a) x.d L
theorem Mc.step {W W' : World} {v : Value} {m : List Vx} {L : Nat} (h : Mc W v m L) (hb : Below W.heap.size W W') : Mc W' v m L := ⟨h.1.step hb, fun x hx => (h.2 x hx).step hb⟩
set_option maxHeartbeats 8000000 in
theorem same_mg {w : World} {u v : Value} {m f : List Vx} (hu : Lr em 1 w u m) (hv : Lr em 1 w v f) (hl : f.length = m.length)
  (hs : ∀ W (i : Nat) x y, Below w.heap.size w W → m[i]? = some x → f[i]? = some y → Calls Tryz.prog 66 #[sv x.a, sv y.a] W fun e w' => e = .returned (.bool true) ∧ Below W.heap.size W w') :
  Calls Tryz.prog 18 #[u, v] w fun e w' => e = .returned (.bool true) ∧ Below w.heap.size w w' := by
 obtain ⟨A, c, e1, hc1, hc2, hc3⟩ := id hu
 obtain ⟨D, q, e2, hd1, hd2, hd3⟩ := id hv
 obtain ⟨n, hlen⟩ : ∃ n, n = m.length := ⟨_, rfl⟩
 rw [hl] at e2 hd1
 rw [← hlen] at e1 e2 hc1 hd1
 subst e1 e2
 have HU := hide hu
 have HV := hide hv
 have HS := hide hs
 have HN := hide hlen
 have HL := hide hl
 unfold maxLen at hc2
 have t0 : ((n : Int) != (n : Int)) = false := by simp
 clear hu hv hc3 hd3 hl hlen hs
 go_enter Tryz.func18, Tryz.ntmps18
 go_wp2_with fail
 go_loopw [5] (fun iv wr => ∃ k : Nat, k ≤ n ∧ iv = .int .i64 (k : Int) ∧ Hid (Below w.heap.size w wr)) (fun iv _ => n - (intOf iv).toNat)
 case atStart => exact ⟨0, Nat.zero_le _, rfl, hide (Below.refl _ _)⟩
 case round =>
  obtain ⟨k, hk, rfl, B⟩ := hrel
  by_cases hlt : k < n
  ·obtain ⟨x, hx⟩ := len_of (d := m) (k := k) (by rw [← HN.out]; exact hlt)
   obtain ⟨y, hy⟩ := len_of (d := f) (k := k) (by rw [HL.out, ← HN.out]; exact hlt)
   have b8 := (Below.refl wr.heap.size wr).drew
   have B8 := hide (Below.step B.out B.out.size b8)
   have SC := hide (HS.out _ k x y B8.out hx hy)
   obtain ⟨b, off, rfl, hb, hc⟩ := ((HU.out.step B.out).step b8).get hx
   obtain ⟨b', off', rfl, hb', hc'⟩ := ((HV.out.step B.out).step b8).get hy
   have c0 := hc 0 _ rfl
   have e0 := hc' 0 _ rfl
   rw [Nat.add_zero, Nat.mul_one] at c0 e0
   have l0 : (0 : Int) ≤ (k : Int) := by omega
   have l1 : (k : Int) < (n : Int) := by omega
   have P := hide (And.intro c0 e0)
   clear hc hc' hb hb' hx hy b8
   go_wp2_with fail
   go_region_held3 (fun W => W.cell? ⟨b, off + k, none⟩ = some (sv x.a) ∧ W.cell? ⟨b', off' + k, none⟩ = some (sv y.a))
    (exact P.out)
    (first
     | (go_at_call 66; refine Calls.mono SC.out ?_; rintro e wx ⟨rfl, bx⟩; replace P := hide (And.intro (cell_keep P.out.1 bx) (cell_keep P.out.2 bx)); have B9 := hide (Below.step B8.out B8.out.size bx)))
   all_goals
    clear P c0 e0 SC
    go_wp2_with fail
    exact ⟨⟨k + 1, by omega, by go_num, B9⟩, by simp [intOf]; omega⟩
  ·obtain rfl : k = n := by omega
   go_wp2_with fail
   go_ret
   exact ⟨rfl, B.out⟩
theorem same_mt {w : World} {u v : Value} {m f : List Vx} {L M : Nat} (hu : Mc w u m L) (hv : Mc w v f M) (hl : f.length = m.length) (he : ∀ (i : Nat) x y, m[i]? = some x → f[i]? = some y → tms x.d = tms y.d) :
  Calls Tryz.prog 18 #[u, v] w fun e w' => e = .returned (.bool true) ∧ Below w.heap.size w w' :=
 same_mg hu.1 hv.1 hl (fun W i x y hb hx hy => same_t ((hu.2 x (List.mem_of_getElem? hx)).step hb) ((hv.2 y (List.mem_of_getElem? hy)).step hb) (he i x y hx hy))
theorem fm_at {ts : List Tm} (h : Fm ts) {t : Tm} (ht : t ∈ ts) : gsum ts t.1 = t.2 ∧ 0 ≤ t.1 := by
 refine ⟨?_, (h.2 t ht).1⟩
 obtain ⟨pre, post, rfl⟩ := List.append_of_mem ht
 have hpw := List.pairwise_append.1 h.1
 have hpc := List.pairwise_cons.1 hpw.2.1
 rw [gsum_append, gsum_none (fun x hx => by have := hpw.2.2 x hx t (by simp); omega), Rat.zero_add]
 simp only [gsum]
 rw [gsum_none (fun x hx => by have := hpc.1 x hx; omega), Rat.add_zero]
 simp
def zvx : Vx := ⟨(none, 0, 0), []⟩
theorem made1 (w : World) (B n : Nat) (hB : B ≤ w.heap.size) (hn : n ≤ 100000000) :
    Ow 28 em 1 (w.alloc (.cells (madeCells #[.slice none 0 0] (n * 1)) 28)) B (.slice (some ⟨w.heap.size, 0, none⟩) n n) (List.replicate n zvx) := by
  have h := Ow.lit (B := B) em_len w 28 (List.replicate n zvx) (madeCells #[.slice none 0 0] (n * 1)) (made_flat (enc := em) em_len (by omega) zvx n) hB (by simp [maxLen]; omega)
  simpa using h
theorem make_row (n : Nat) (hn : n ≤ 100000000) (W : World) : (Instr.makeSlice 22 (.int .i64 (n : Int)) (.int .i64 (n : Int))).run Tryz.prog W = .ok (.slice (some ⟨W.heap.size, 0, none⟩) n n) (W.alloc (.cells (madeCells #[.slice none 0 0] (n * 1)) 28)) := by
  obtain ⟨i, hi, hz0, hz1, hz2⟩ := info_parts info_row
  have h := run_make (P := Tryz.prog) W 22 28 i _ Tryz.underlying22 hi hz0 .i64 .i64 (n : Int) (n : Int) (by omega) (Int.le_refl _) (by rw [hz2]; omega) (by omega)
  rw [hz1, Int.toNat_natCast] at h
  exact h
theorem flat_setM : ∀ (d : List Vx) (i : Nat) (x : Vx), i < d.length → (flat em d).set i (sv x.a) = flat em (d.set i x)
  | [], i, x, h => by simp at h
  | y :: d, 0, x, _ => by simp [flat, em]
  | y :: d, i + 1, x, h => by
    have ih := flat_setM d i x (by simpa using h)
    rw [List.set_cons_succ, flat, flat, ← ih]
    simp only [em, List.cons_append, List.nil_append, List.set_cons_succ]
theorem own_lenM {W : World} {B g n c : Nat} {d : List Vx} (h : Ow 28 em 1 W B (.slice (some ⟨g, 0, none⟩) n c) d) : n = d.length := by
  rcases h.form with ⟨e, _⟩ | ⟨g', cap, cur, e, _⟩
  · cases e
  · injection e
theorem Ow.putM {W : World} {B g n c i : Nat} {d : List Vx} (h : Ow 28 em 1 W B (.slice (some ⟨g, 0, none⟩) n c) d) (hi : i < d.length) (x : Vx) :
    Ow 28 em 1 (W.setCell ⟨g, i, none⟩ (sv x.a)) B (.slice (some ⟨g, 0, none⟩) n c) (d.set i x) := by
  have hn := own_lenM h
  subst hn
  have h1 := World.ownsRow.stored (show W.ownsRow B _ 1 _ d.length _ from h) i (sv x.a)
  have h2 := h1.1
  rw [flat_setM d i x hi] at h2
  unfold Ow
  rw [List.length_set]
  exact h2
theorem Ow.cellsM {W : World} {B g n c i : Nat} {d : List Vx} {x : Vx} (h : Ow 28 em 1 W B (.slice (some ⟨g, 0, none⟩) n c) d) (hi : d[i]? = some x) :
    W.cell? ⟨g, i, none⟩ = some (sv x.a) ∧ W.frozen? ⟨g, i, none⟩ = false := by
  obtain ⟨b, off, e, hb, hc⟩ := (h.rl em_len).get hi
  injection e with e
  injection e with e1 e2
  subst e1 e2
  have c0 := hc 0 _ rfl
  rw [Nat.zero_add, Nat.add_zero, Nat.mul_one] at c0
  exact ⟨c0, h.frozen rfl _⟩
theorem Tg.keptM {W W' : World} {B L : Nat} {v u : Value} {d : List Tx} {B' : Nat} {f : List Vx} (h : Tg W B v d L) (ho : Ow 28 em 1 W B' u f) (hg : W.grownBy W' u.ownBlock) : Tg W' B v d L :=
  ⟨h.1.kept hg (ow_ow_ne h.1 ho (by decide)), fun x hx => (h.2 x hx).grownT hg (fun g e => ho.otm g e)⟩
def RowOk (n : Int) (x y : Vx) : Prop := Fm (tms y.d) ∧ (∀ c, 0 ≤ c → gsum (tms y.d) c = gsum (tms x.d) c) ∧ (∀ t ∈ y.d, t.c < n) ∧ y.d.length ≤ x.d.length
def Sm (W : World) (B : Nat) (n : Int) (P k : Nat) (m cur : List Vx) : Prop := cur.length = m.length ∧ ∀ (j : Nat) x y, j < k → m[j]? = some x → cur[j]? = some y → RowOk n x y ∧ Tg W B (sv y.a) y.d P
theorem Sm.step {W W' : World} {B P k : Nat} {n : Int} {m cur : List Vx} (h : Sm W B n P k m cur) (hb : Below W.heap.size W W') : Sm W' B n P k m cur := ⟨h.1, fun j x y hj hx hy => ⟨(h.2 j x y hj hx hy).1, (h.2 j x y hj hx hy).2.step hb⟩⟩
theorem Sm.put {W W' : World} {B P k : Nat} {n : Int} {m cur : List Vx} {x z : Vx} {B' : Nat} {u : Value} {f : List Vx} (h : Sm W B n P k m cur) (hx : m[k]? = some x) (hz : RowOk n x z) (tz : Tg W B (sv z.a) z.d P) (ho : Ow 28 em 1 W B' u f) (hg : W.grownBy W' u.ownBlock) : Sm W' B n P (k + 1) m (cur.set k z) := by
  have hk := (List.getElem?_eq_some_iff.1 hx).1
  refine ⟨by rw [List.length_set]; exact h.1, fun j a b hj ha hb => ?_⟩
  by_cases e : j = k
  · subst e
    rw [List.getElem?_set_self (by rw [h.1]; exact hk)] at hb
    rw [hx] at ha
    injection ha with ha
    injection hb with hb
    subst ha hb
    exact ⟨hz, tz.keptM ho hg⟩
  · rw [List.getElem?_set_ne (fun h => e h.symm)] at hb
    have h1 := h.2 j a b (by omega) ha hb
    exact ⟨h1.1, h1.2.keptM ho hg⟩
def MtBad (m : List Vx) (n : Int) : Prop := ∃ x ∈ m, ∃ c : Int, n ≤ c ∧ 0 ≤ c ∧ gsum (tms x.d) c ≠ 0
set_option maxHeartbeats 8000000 in
theorem within_m {w : World} {v : Value} {m : List Vx} {L N P : Nat} {n : Int} (hv : Mv w v m L) (hN : ∀ x ∈ m, x.d.length ≤ N) (hNN : N ≤ 1000) (hm : m.length ≤ 1000) (h1 : 1 ≤ L) (hL : L ≤ 100000) (hP : N * (L + 1) + 1 ≤ P) :
    Calls Tryz.prog 106 #[v, .int .i64 n] w fun e w' => Below w.heap.size w w' ∧
      ((MtBad m n ∧ e = .returned (.tuple #[.slice none 0 0, .bool false])) ∨
       (¬ MtBad m n ∧ ∃ v' m', e = .returned (.tuple #[v', .bool true]) ∧ Ow 28 em 1 w' w.heap.size v' m' ∧ Sm w' w.heap.size n P m.length m m')) := by
  obtain ⟨A, c, e1, hc1, hc2, hc3⟩ := id hv.1
  obtain ⟨q, hlen⟩ : ∃ q, q = m.length := ⟨_, rfl⟩
  rw [← hlen] at e1 hc1 hm ⊢
  subst e1
  have HV := hide hv
  have HN := hide hlen
  have NN := hide hN
  have NB := hide hNN
  have PB := hide (And.intro h1 hL)
  have PP := hide (show ∀ k, k ≤ N → k * (L + 1) + 1 ≤ P from fun k hk => Nat.le_trans (Nat.succ_le_succ (Nat.mul_le_mul_right _ hk)) hP)
  unfold maxLen at hc2
  have hmk := make_row q (by omega) w
  have O1 := hide (made1 w w.heap.size q (Nat.le_refl _) (by omega))
  have BA := hide (alloc_below w (.cells (madeCells #[.slice none 0 0] (q * 1)) 28))
  have S1 := hide (show Sm (w.alloc (.cells (madeCells #[.slice none 0 0] (q * 1)) 28)) w.heap.size n P 0 m (List.replicate q zvx) from ⟨by simp [HN.out], fun j x y h => by omega⟩)
  generalize madeCells #[.slice none 0 0] (q * 1) = Z at *
  have hpx : q ≤ 9223372036854775807 := by omega
  have hpz : (0 : Int) ≤ (q : Int) := by omega
  clear hv hc3 hlen hN hNN h1 hL hP
  go_enter Tryz.func106, Tryz.ntmps106
  go_wp2_with fail
  clear hmk
  generalize (w.alloc (.cells Z 28)) = w2 at *
  go_loopw [14] (fun iv wr => ∃ (k : Nat) (cur : List Vx), k ≤ q ∧ iv = .int .i64 (k : Int) ∧ Hid (Below w.heap.size w wr) ∧ Hid (Ow 28 em 1 wr w.heap.size (.slice (some ⟨w.heap.size, 0, none⟩) q q) cur) ∧ Hid (Sm wr w.heap.size n P k m cur)) (fun iv _ => q - (intOf iv).toNat)
  case atStart => exact ⟨0, _, Nat.zero_le _, rfl, BA, O1, S1⟩
  case round =>
    obtain ⟨k, cur, hk, rfl, B, O, S⟩ := hrel
    by_cases hlt : k < q
    · obtain ⟨x, hx⟩ := len_of (d := m) (k := k) (by rw [← HN.out]; exact hlt)
      have HX := hide hx
      have hmx := List.mem_of_getElem? hx
      have XM := hide hmx
      have RX := hide ((HV.out.2 x hmx).step B.out)
      have NX := hide (NN.out x hmx)
      obtain ⟨b, off, rfl, hb, hcs⟩ := (HV.out.1.step B.out).get hx
      have c0 := hcs 0 _ rfl
      rw [Nat.add_zero, Nat.mul_one] at c0
      have l0 : (0 : Int) ≤ (k : Int) := by omega
      have l1 : (k : Int) < (q : Int) := by omega
      clear hcs hb hx hmx
      go_wp2_with fail
      refine (make_v RX.out (by have := NX.out; have := NB.out; omega) PB.out.1 (by have := PB.out.2; omega)).mono ?_
      rintro e w5 ⟨v1, d1, rfl, t1, f1, g1, n1, bx⟩
      obtain ⟨A9, m9, c9, rfl⟩ := rv_sl t1.tv.1
      have HM := hide (show m9 = d1.length by
        obtain ⟨A', c', e, _⟩ := t1.tv.1
        injection e with e1 e2 e3)
      have T5 := hide ((t1.mono (B' := w.heap.size) B.out.size).more (M := P) (PP.out _ NX.out))
      have F5 := hide f1
      have G5 := hide (show ∀ c, 0 ≤ c → gsum (tms d1) c = gsum (tms x.d) c from g1)
      have N5 := hide n1
      have hml : m9 ≤ 1000 := by rw [HM.out]; have := NX.out; have := NB.out; omega
      have B5 := hide (Below.step B.out B.out.size bx)
      have O5 := hide (O.out.step bx)
      have S5 := hide (S.out.step bx)
      clear t1 f1 g1 n1 bx B O S c0 RX
      rcases snoc_or d1 with hd | ⟨xs, l, hd⟩
      · have hm0 : m9 = 0 := by rw [HM.out, hd]; rfl
        have RO := hide (show RowOk n x ⟨(A9, m9, c9), d1⟩ from ⟨F5.out, G5.out, (fun t ht => by rw [hd] at ht; cases ht), N5.out⟩)
        subst hm0
        clear hd
        obtain ⟨y, hy⟩ := len_of (d := cur) (k := k) (by rw [S5.out.1, ← HN.out]; exact hlt)
        obtain ⟨e0, f0⟩ := O5.out.cellsM hy
        have hg : w5.grownBy (w5.setCell ⟨w.heap.size, k, none⟩ (.slice A9 0 c9)) (some w.heap.size) := only_set (p := ⟨w.heap.size, k, none⟩) (only_refl w5 _) rfl _
        have O6 := hide (O5.out.putM (i := k) (by rw [S5.out.1, ← HN.out]; exact hlt) ⟨(A9, 0, c9), d1⟩)
        have S6 := hide (S5.out.put HX.out RO.out T5.out O5.out hg)
        have B6 := hide (show Below w.heap.size w _ from (B5.out.grown hg B5.out.size (fun g e => by injection e with e; subst e; exact (O5.out.lt rfl).1)))
        clear hy hg O5 S5 T5 B5
        go_wp2_with fail
        exact ⟨⟨k + 1, _, by omega, by go_num, B6, O6, S6⟩, by simp [intOf]; omega⟩
      · obtain ⟨q9, hq9⟩ : ∃ q9, q9 = xs.length := ⟨_, rfl⟩
        have hm0 : m9 = q9 + 1 := by rw [HM.out, hd, hq9]; simp
        have hl : d1[q9]? = some l := by rw [hd, hq9]; simp
        have hfl := fm_last (xs := tms xs) (l := tm l) (by have h := F5.out; rw [hd, tms_append] at h; exact h)
        subst hm0
        obtain ⟨b2, off2, hA9, hb, hcs⟩ := T5.out.tv.1.get hl
        have z0 := hcs 0 _ rfl
        rw [Nat.add_zero] at z0
        have hw : IntKind.i64.wrap (q9 : Int) = (q9 : Int) := IntWalk.i64_in _ (by omega)
        have l2 : (0 : Int) ≤ (q9 : Int) := by omega
        have l3 : (q9 : Int) < ((q9 + 1 : Nat) : Int) := by omega
        clear hcs hb
        subst hA9
        by_cases hq : n ≤ l.c
        · have t4 : decide (n ≤ l.c) = true := decide_eq_true hq
          have BAD := hide (show MtBad m n from ⟨x, XM.out, l.c, hq, (F5.out.2 (tm l) (by rw [hd, tms_append]; simp [tms])).1, by
            have h0 : 0 ≤ l.c := (F5.out.2 (tm l) (by rw [hd, tms_append]; simp [tms])).1
            rw [← G5.out l.c h0, hd, tms_append]
            have e : gsum (tms xs ++ [tm l]) l.c = (tm l).2 := hfl.1
            rw [show tms [l] = [tm l] from rfl, e]
            exact (F5.out.2 (tm l) (by rw [hd, tms_append]; simp [tms])).2⟩)
          have BB := hide B5.out
          clear hq hfl hl hd hq9 O5 S5 T5
          go_wp2_with fail
          go_ret2
          exact ⟨BB.out, .inl ⟨BAD.out, rfl⟩⟩
        · have t4 : decide (n ≤ l.c) = false := decide_eq_false hq
          have RO := hide (show RowOk n x ⟨(some ⟨b2, off2, none⟩, q9 + 1, c9), d1⟩ from ⟨F5.out, G5.out, (fun t ht => by
            have h := hfl.2 (tm t) (by rw [show tms xs ++ [tm l] = tms d1 by rw [hd, tms_append]; rfl]; exact List.mem_map.2 ⟨t, ht, rfl⟩)
            have h : t.c ≤ l.c := h
            omega), N5.out⟩)
          clear hq hfl hl hd hq9
          obtain ⟨y, hy⟩ := len_of (d := cur) (k := k) (by rw [S5.out.1, ← HN.out]; exact hlt)
          obtain ⟨e0, f0⟩ := O5.out.cellsM hy
          have hg : w5.grownBy (w5.setCell ⟨w.heap.size, k, none⟩ (.slice (some ⟨b2, off2, none⟩) (q9 + 1) c9)) (some w.heap.size) := only_set (p := ⟨w.heap.size, k, none⟩) (only_refl w5 _) rfl _
          have O6 := hide (O5.out.putM (i := k) (by rw [S5.out.1, ← HN.out]; exact hlt) ⟨((some ⟨b2, off2, none⟩), (q9 + 1), c9), d1⟩)
          have S6 := hide (S5.out.put HX.out RO.out T5.out O5.out hg)
          have B6 := hide (show Below w.heap.size w _ from (B5.out.grown hg B5.out.size (fun g e => by injection e with e; subst e; exact (O5.out.lt rfl).1)))
          clear hy hg O5 S5 T5 B5
          go_wp2_with fail
          exact ⟨⟨k + 1, _, by omega, by go_num, B6, O6, S6⟩, by simp [intOf]; omega⟩
    · obtain rfl : k = q := by omega
      have GOOD := hide (show ¬ MtBad m n from by
        rintro ⟨x, hx, c, h, h0, hc⟩
        obtain ⟨j, hj, rfl⟩ := List.mem_iff_getElem.1 hx
        obtain ⟨y, hy⟩ := len_of (d := cur) (k := j) (by rw [S.out.1]; exact hj)
        obtain ⟨⟨h1, h2, h3, h4⟩, -⟩ := S.out.2 j _ y (by rw [HN.out]; exact hj) (List.getElem?_eq_getElem hj) hy
        rw [← h2 c h0] at hc
        exact hc (gsum_none (fun t ht => by
          obtain ⟨z, hz, rfl⟩ := List.mem_map.1 ht
          have := h3 z hz
          show z.c ≠ c
          omega)))
      go_wp2_with fail
      go_ret2
      exact ⟨B.out, .inr ⟨GOOD.out, _, cur, rfl, O.out, S.out⟩⟩
def tv (m : List Vx) (k : Nat) (ts : List Tm) (c i : Int) : Rat := if i < (k : Int) then gsum (rwA m i) c else if i = (k : Int) then gsum ts c else 0
def Tr (W : World) (B P n : Nat) (m : List Vx) (k s : Nat) (ts : List Tm) (cur : List Vx) : Prop :=
 cur.length = n ∧ (∀ (c : Nat) y, cur[c]? = some y → Fm (tms y.d) ∧ (∀ i : Int, 0 ≤ i → gsum (tms y.d) i = tv m k ts (c : Int) i) ∧ y.d.length ≤ s ∧ Tg W B (sv y.a) y.d P) ∧
 ∀ (c c' : Nat) y y', c ≠ c' → cur[c]? = some y → cur[c']? = some y' → (sv y.a).ownBlock = none ∨ (sv y.a).ownBlock ≠ (sv y'.a).ownBlock
theorem Tr.step {W W' : World} {B P n k s : Nat} {m cur : List Vx} {ts : List Tm} (h : Tr W B P n m k s ts cur) (hb : Below W.heap.size W W') : Tr W' B P n m k s ts cur :=
 ⟨h.1, fun c y hy => ⟨(h.2.1 c y hy).1, (h.2.1 c y hy).2.1, (h.2.1 c y hy).2.2.1, (h.2.1 c y hy).2.2.2.step hb⟩, h.2.2⟩
theorem Tr.next {W : World} {B P n k s : Nat} {m cur : List Vx} {x : Vx} (h : Tr W B P n m k s (tms x.d) cur) (hx : m[k]? = some x) : Tr W B P n m (k + 1) s [] cur :=
 ⟨h.1, fun c y hy => ⟨(h.2.1 c y hy).1, fun i hi => by
  rw [(h.2.1 c y hy).2.1 i hi]
  unfold tv
  by_cases h1 : i < (k : Int)
  ·rw [if_pos h1, if_pos (by omega)]
  ·by_cases h2 : i = (k : Int)
   ·rw [if_neg h1, if_pos h2, if_pos (by omega), h2, rwA_in hx]
   ·rw [if_neg h1, if_neg h2, if_neg (by omega)]
    split <;> rfl, (h.2.1 c y hy).2.2⟩, h.2.2⟩
theorem fm_push {ts : List Tm} {k : Int} {v : Rat} (h : Fm ts) (hk : 0 ≤ k) (hv : v ≠ 0) (hl : ∀ i, k ≤ i → gsum ts i = 0) : Fm (ts ++ [(k, v)]) := by
 have hlt : ∀ t ∈ ts, t.1 < k := fun t ht => by
  obtain ⟨h1, h2⟩ := fm_at h ht
  rcases Int.lt_or_le t.1 k with h3 | h3
  ·exact h3
  ·exact absurd (h1.symm.trans (hl t.1 h3)) (h.2 t ht).2
 refine ⟨List.pairwise_append.2 ⟨h.1, by simp, fun a ha b hb => by simp at hb; subst hb; exact hlt a ha⟩, fun t ht => ?_⟩
 rcases List.mem_append.1 ht with ht | ht
 ·exact h.2 t ht
 ·simp at ht; subst ht; exact ⟨hk, hv⟩
theorem Tg.keptT {W W' : World} {B L : Nat} {v u : Value} {d : List Tx} {B' : Nat} {f : List Tx} (h : Tg W B v d L) (ho : Ow 77 et 4 W B' u f) (hne : v.ownBlock = none ∨ v.ownBlock ≠ u.ownBlock) (hg : W.grownBy W' u.ownBlock) : Tg W' B v d L :=
 ⟨h.1.kept hg hne, fun x hx => (h.2 x hx).grownT hg (fun g e => ho.ot g e)⟩
theorem Tr.push {W W' W'' : World} {B P n k s : Nat} {m cur : List Vx} {ts : List Tm} {cc : Nat} {y : Vx} {tx : Rx} {a' : Sl} {u : Value} {f : List Vx} {Bo : Nat} (h : Tr W B P n m k s ts cur) (hy : cur[cc]? = some y) (h0 : gsum ts (cc : Int) = 0) (hx0 : tx.r ≠ 0) (rx0 : Rg W B tx P)
  (ho : Ow 77 et 4 W' B (sv a') (y.d ++ [⟨(k : Int), tx⟩])) (hg : W.grownBy W' (sv y.a).ownBlock) (hn : (sv a').ownBlock = (sv y.a).ownBlock ∨ ∃ g, (sv a').ownBlock = some g ∧ W.heap.size ≤ g)
  (hou : Ow 28 em 1 W' Bo u f) (hgu : W'.grownBy W'' u.ownBlock) :
  Tr W'' B P n m k (s + 1) (ts ++ [((cc : Int), tx.r)]) (cur.set cc ⟨a', y.d ++ [⟨(k : Int), tx⟩]⟩) := by
 have hcl := (List.getElem?_eq_some_iff.1 hy).1
 obtain ⟨y1, y2, y3, y4⟩ := h.2.1 cc y hy
 refine ⟨by rw [List.length_set]; exact h.1, fun c z hz => ?_, fun c c' z z' hcc hz hz' => ?_⟩
 ·by_cases e : c = cc
  ·subst e
   rw [List.getElem?_set_self hcl] at hz
   injection hz with hz
   subst hz
   have hsum : ∀ i : Int, 0 ≤ i → gsum (tms (y.d ++ [(⟨(k : Int), tx⟩ : Tx)])) i = tv m k (ts ++ [((c : Int), tx.r)]) (c : Int) i := fun i hi => by
    rw [tms_append, gsum_append, y2 i hi]
    unfold tv
    by_cases h1 : i < (k : Int)
    ·rw [if_pos h1, if_pos h1]
     simp only [tms, List.map_cons, List.map_nil, gsum, tm]
     rw [if_neg (by omega)]; grind
    ·by_cases h2 : i = (k : Int)
     ·rw [if_neg h1, if_neg h1, if_pos h2, if_pos h2, gsum_append, h0]
      simp only [tms, List.map_cons, List.map_nil, gsum, tm]
      rw [if_pos h2.symm]; simp
     ·rw [if_neg h1, if_neg h1, if_neg h2, if_neg h2]
      simp only [tms, List.map_cons, List.map_nil, gsum, tm]
      rw [if_neg (fun e => h2 e.symm)]; grind
   refine ⟨?_, hsum, by simp; omega, ?_⟩
   ·show Fm (tms (y.d ++ [(⟨(k : Int), tx⟩ : Tx)]))
    rw [tms_append]
    show Fm (tms y.d ++ [((k : Int), tx.r)])
    refine fm_push y1 (by omega) hx0 (fun i hi => ?_)
    rw [y2 i (by omega)]
    unfold tv
    rw [if_neg (by omega)]
    split
    ·exact h0
    ·rfl
   ·have hT : Tg W' B (sv a') (y.d ++ [(⟨(k : Int), tx⟩ : Tx)]) P := y4.push ho hg rx0 (Nat.le_refl _)
    exact hT.keptM hou hgu
  ·rw [List.getElem?_set_ne (fun h => e h.symm)] at hz
   obtain ⟨z1, z2, z3, z4⟩ := h.2.1 c z hz
   refine ⟨z1, fun i hi => ?_, by omega, (z4.keptT y4.1 (h.2.2 c cc z y e hz hy) hg).keptM hou hgu⟩
   rw [z2 i hi]
   unfold tv
   rw [gsum_append]
   have hn0 : gsum [((cc : Int), tx.r)] (c : Int) = 0 := gsum_none (fun t ht => by simp at ht; subst ht; show (cc : Int) ≠ (c : Int); omega)
   rw [hn0, Rat.add_zero]
 ·have hold : ∀ c z, c ≠ cc → (cur.set cc ⟨a', y.d ++ [⟨(k : Int), tx⟩]⟩)[c]? = some z → cur[c]? = some z := fun c z e hz => by rwa [List.getElem?_set_ne (fun h => e h.symm)] at hz
  by_cases e : c = cc
  ·subst e
   rw [List.getElem?_set_self hcl] at hz
   injection hz with hz
   subst hz
   have hz2 := hold c' z' (fun h => hcc h.symm) hz'
   rcases hn with hn | ⟨g, hg1, hg2⟩
   ·have := h.2.2 c c' y z' hcc hy hz2
    show (sv a').ownBlock = none ∨ _
    rw [hn]
    exact this
   ·refine .inr (fun e => ?_)
    have e : (sv a').ownBlock = (sv z'.a).ownBlock := e
    rw [hg1] at e
    have := ((h.2.1 c' z' hz2).2.2.2.1.lt e.symm).2
    omega
  ·have hz1 := hold c z e hz
   by_cases e2 : c' = cc
   ·subst e2
    rw [List.getElem?_set_self hcl] at hz'
    injection hz' with hz'
    subst hz'
    rcases hn with hn | ⟨g, hg1, hg2⟩
    ·have := h.2.2 c c' z y hcc hz1 hy
     show _ ∨ (sv z.a).ownBlock ≠ (sv a').ownBlock
     rw [hn]
     exact this
    ·cases hb : (sv z.a).ownBlock with
     | none => exact .inl rfl
     | some g' =>
      refine .inr (fun e => ?_)
      have e : some g' = (sv a').ownBlock := e
      rw [hg1] at e
      injection e with e
      have := ((h.2.1 c z hz1).2.2.2.1.lt hb).2
      omega
   ·exact h.2.2 c c' z z' hcc hz1 (hold c' z' e2 hz')
def TrBad (m : List Vx) (n : Int) : Prop := MtBad m n ∨ n < 0 ∨ 65536 < n
set_option maxHeartbeats 16000000 in
theorem transpose_m {w : World} {v : Value} {m : List Vx} {L N P : Nat} {n : Int} (hv : Mv w v m L) (hN : ∀ x ∈ m, x.d.length ≤ N) (hNN : N ≤ 1000) (hm : m.length ≤ 1000) (h1 : 1 ≤ L) (hL : L ≤ 100000) (hP : N * (L + 1) + 1 ≤ P) :
    Calls Tryz.prog 49 #[v, .int .i64 n] w fun e w' => Below w.heap.size w w' ∧
      ((TrBad m n ∧ e = .returned (.tuple #[.slice none 0 0, .int .i64 2])) ∨
       (¬ TrBad m n ∧ ∃ v' m', e = .returned (.tuple #[v', .int .i64 0]) ∧ Ow 28 em 1 w' w.heap.size v' m' ∧ (m'.length : Int) = n ∧
         (∀ (c : Nat) y, m'[c]? = some y → Fm (tms y.d) ∧ (∀ i : Int, 0 ≤ i → gsum (tms y.d) i = gsum (rwA m i) (c : Int)) ∧ y.d.length ≤ m.length * N ∧ Tg w' w.heap.size (sv y.a) y.d P) ∧
         ∀ (c c' : Nat) y y', c ≠ c' → m'[c]? = some y → m'[c']? = some y' → (sv y.a).ownBlock = none ∨ (sv y.a).ownBlock ≠ (sv y'.a).ownBlock)) := by
  obtain ⟨i0, hi, hz0, hz1, hz2⟩ := info_parts info_tm
  obtain ⟨A, q0, c, rfl⟩ := rv_sl hv.1
  have NB := hide hNN
  have MB := hide hm
  have NN := hide hN
  have WC := hide (within_m (n := n) hv hN hNN hm h1 hL hP)
  clear hv hN hNN hm h1 hL hP
  go_enter Tryz.func49, Tryz.ntmps49
  go_wp2_with fail
  refine WC.out.mono ?_
  rintro e w1 ⟨bx, hs⟩
  have B1 := hide bx
  clear bx WC
  rcases hs with ⟨bad, rfl⟩ | ⟨good, v1, m1, rfl, o1, s1⟩
  · have BAD := hide (show TrBad m n from .inl bad)
    clear bad
    go_wp2_with fail
    go_ret2
    exact ⟨B1.out, .inl ⟨BAD.out, rfl⟩⟩
  · have GOOD := hide good
    have S1 := hide s1
    have O1 := hide o1
    obtain ⟨A1, q, c1, rfl⟩ := rv_sl (o1.rl em_len)
    have HQ := hide (show q = m1.length by
      obtain ⟨A', c', e, _⟩ := o1.rl em_len
      injection e with e1 e2 e3)
    have HQM := hide (show m1.length = m.length from s1.1)
    have hqb : q ≤ 1000 := by rw [HQ.out, HQM.out]; exact MB.out
    clear good s1 o1
    by_cases hneg : n < 0
    · have q1 : decide (n < 0) = true := decide_eq_true hneg
      have BAD := hide (show TrBad m n from .inr (.inl hneg))
      clear hneg
      go_wp2_with fail
      go_ret2
      exact ⟨B1.out, .inl ⟨BAD.out, rfl⟩⟩
    · by_cases hbig : 65536 < n
      · have q1 : decide (n < 0) = false := decide_eq_false hneg
        have q2 : decide (65536 < n) = true := decide_eq_true hbig
        have BAD := hide (show TrBad m n from .inr (.inr hbig))
        clear hneg hbig
        go_wp2_with fail
        go_ret2
        exact ⟨B1.out, .inl ⟨BAD.out, rfl⟩⟩
      · obtain ⟨p, rfl⟩ : ∃ p : Nat, n = (p : Int) := ⟨n.toNat, by omega⟩
        have hp : p ≤ 65536 := by omega
        have q1 : decide ((p : Int) < 0) = false := decide_eq_false hneg
        have q2 : decide ((65536 : Int) < (p : Int)) = false := decide_eq_false hbig
        have q3 : decide (65536 < p) = false := decide_eq_false (by omega)
        have GT := hide (show ¬ TrBad m (p : Int) from by rintro (h | h | h); exact GOOD.out h; omega; omega)
        have hmk := make_row p (by omega) w1
        have O2 := hide (made1 w1 w1.heap.size p (Nat.le_refl _) (by omega))
        have BA := hide (alloc_below w1 (.cells (madeCells #[.slice none 0 0] (p * 1)) 28))
        have R2 := hide (show Tr (w1.alloc (.cells (madeCells #[.slice none 0 0] (p * 1)) 28)) w.heap.size P p m1 0 0 [] (List.replicate p zvx) from
          ⟨by simp, fun c y hy => by
            have e : y = zvx := by
              have h := List.mem_of_getElem? hy
              simp at h
              exact h.2
            subst e
            refine ⟨Fm.nil, fun i hi => ?_, Nat.le_refl _, Ow.nil _ _ _ _ _, fun x hx => by cases hx⟩
            unfold tv
            rw [if_neg (by omega)]
            split <;> rfl, fun c c' y y' _ hy _ => by
            have e : y = zvx := by
              have h := List.mem_of_getElem? hy
              simp at h
              exact h.2
            subst e
            exact .inl rfl⟩)
        have NB2 := hide (show ∀ (c : Nat) y g, (List.replicate p zvx)[c]? = some y → (sv y.a).ownBlock = some g → w1.heap.size ≤ g from fun c y g hy hg => by
          have e : y = zvx := by
            have h := List.mem_of_getElem? hy
            simp at h
            exact h.2
          subst e
          cases hg)
        generalize madeCells #[.slice none 0 0] (p * 1) = Z at *
        have hpx : p ≤ 9223372036854775807 := by omega
        have hpz : (0 : Int) ≤ (p : Int) := by omega
        clear hneg hbig
        go_wp2_with fail
        clear hmk
        generalize (w1.alloc (.cells Z 28)) = w2 at *
        go_loopw [32] (fun iv wr => ∃ (k s : Nat) (cur : List Vx), k ≤ q ∧ iv = .int .i64 (k : Int) ∧ Hid (s ≤ k * N) ∧ Hid (Below w1.heap.size w1 wr) ∧ Hid (Ow 28 em 1 wr w1.heap.size (.slice (some ⟨w1.heap.size, 0, none⟩) p p) cur) ∧ Hid (Tr wr w.heap.size P p m1 k s [] cur) ∧ Hid (∀ (c : Nat) y g, cur[c]? = some y → (sv y.a).ownBlock = some g → w1.heap.size ≤ g)) (fun iv _ => q - (intOf iv).toNat)
        case atStart => exact ⟨0, 0, _, Nat.zero_le _, rfl, hide (Nat.zero_le _), BA, O2, R2, NB2⟩
        case round =>
          obtain ⟨k, s, cur, hk, rfl, SL, C, O, R, G⟩ := hrel
          by_cases hlt : k < q
          · obtain ⟨x, hx⟩ := len_of (d := m1) (k := k) (by rw [← HQ.out]; exact hlt)
            obtain ⟨x0, hx0⟩ := len_of (d := m) (k := k) (by rw [← HQM.out, ← HQ.out]; exact hlt)
            obtain ⟨ro, tx⟩ := S1.out.2 k x0 x (by rw [← HQM.out, ← HQ.out]; exact hlt) hx0 hx
            have RO := hide ro
            have TX := hide tx
            have HX := hide hx
            have NX := hide (show x.d.length ≤ N from Nat.le_trans ro.2.2.2 (NN.out x0 (List.mem_of_getElem? hx0)))
            obtain ⟨b, off, rfl, hb, hcs⟩ := ((O1.out.rl em_len).step C.out).get hx
            have c0 := hcs 0 _ rfl
            rw [Nat.add_zero, Nat.mul_one] at c0
            have l0 : (0 : Int) ≤ (k : Int) := by omega
            have l1 : (k : Int) < (q : Int) := by omega
            obtain ⟨A5, nd, c5, hxa⟩ := rv_sl tx.tv.1
            have HD := hide (show nd = x.d.length by
              obtain ⟨A', c', e, _⟩ := tx.tv.1
              rw [hxa] at e
              injection e with e1 e2 e3)
            have hnd : nd ≤ 1000 := by rw [HD.out]; exact Nat.le_trans NX.out NB.out
            have R0 := hide (show Tr wr w.heap.size P p m1 k s ((tms x.d).take 0) cur from R.out)
            have S0 := hide (show s ≤ k * N + 0 from SL.out)
            have HXA := hide hxa
            rw [hxa] at c0
            clear hcs hb hx hx0 ro tx R SL R2 NB2 O2 hxa
            go_wp2_with fail
            clear c0
            obtain ⟨wo, hwo⟩ : ∃ wo, wo = wr := ⟨_, rfl⟩
            subst hwo
            go_loopw [39] (fun iv wr => ∃ (j s : Nat) (cur : List Vx), j ≤ nd ∧ iv = .int .i64 (j : Int) ∧ Hid (s ≤ k * N + j) ∧ Hid (Below w1.heap.size w1 wr) ∧ Hid (Ow 28 em 1 wr w1.heap.size (.slice (some ⟨w1.heap.size, 0, none⟩) p p) cur) ∧ Hid (Tr wr w.heap.size P p m1 k s ((tms x.d).take j) cur) ∧ Hid (∀ (c : Nat) y g, cur[c]? = some y → (sv y.a).ownBlock = some g → w1.heap.size ≤ g)) (fun iv _ => nd - (intOf iv).toNat)
            case atStart => exact ⟨0, s, _, Nat.zero_le _, rfl, S0, C, O, R0, G⟩
            case round =>
              obtain ⟨j, s, cur, hj, rfl, SL, C, O, R, G⟩ := hrel
              by_cases hltj : j < nd
              · obtain ⟨t, ht⟩ := len_of (d := x.d) (k := j) (by rw [← HD.out]; exact hltj)
                obtain ⟨tc, tx⟩ := t
                have htm : (tms x.d)[j]? = some (tc, tx.r) := by unfold tms; rw [List.getElem?_map, ht]; rfl
                have hc0 : 0 ≤ tc := (RO.out.1.2 _ (List.mem_of_getElem? htm)).1
                obtain ⟨cc, rfl⟩ : ∃ cc : Nat, tc = (cc : Int) := ⟨tc.toNat, by omega⟩
                have hcp : cc < p := by have := RO.out.2.2.1 _ (List.mem_of_getElem? ht); simp at this; omega
                have X0 := hide (show tx.r ≠ 0 from (RO.out.1.2 _ (List.mem_of_getElem? htm)).2)
                have FT := hide (show gsum ((tms x.d).take j) (cc : Int) = 0 from fm_take RO.out.1 htm)
                have ET := hide (show (tms x.d).take (j + 1) = (tms x.d).take j ++ [((cc : Int), tx.r)] from take_snoc htm)
                have E4' := hide (show E4 wr A5 (j * 4) ⟨(cc : Int), tx⟩ from E4.of (by have h := (TX.out.step C.out).tv.1; rw [HXA.out] at h; exact h) ht)
                obtain ⟨b2, off2, rfl, -⟩ := E4'.out
                obtain ⟨d0, d1, d2, d3⟩ := E4'.out.cells
                have l0 : (0 : Int) ≤ (j : Int) := by omega
                have l1 : (j : Int) < (nd : Int) := by omega
                have l2 : (0 : Int) ≤ (cc : Int) := by omega
                have l3 : (cc : Int) < (p : Int) := by omega
                have b8 := (alloc_below wr (.cells #[.int .i64 (cc : Int), .bool tx.s, sv tx.u, sv tx.t] 77)).drew
                have C5 := hide (Below.step C.out C.out.size b8)
                have O5 := hide (O.out.step b8)
                have R5 := hide (R.out.step b8)
                have X5 := hide (((TX.out.2 _ (List.mem_of_getElem? ht)).step C.out).step b8)
                have Q5 := hide (show Bt (wr.alloc (.cells #[.int .i64 (cc : Int), .bool tx.s, sv tx.u, sv tx.t] 77)).drew wr.heap.size ⟨(cc : Int), tx⟩ from heap_alloc_new wr (.cells #[.int .i64 (cc : Int), .bool tx.s, sv tx.u, sv tx.t] 77))
                obtain ⟨y, hy⟩ := len_of (d := cur) (k := cc) (by rw [R.out.1]; exact hcp)
                have HY := hide hy
                have NE := hide (fun g (h : (sv y.a).ownBlock = some g) => ((R.out.2.1 cc y hy).2.2.2.1.lt h).2)
                have HLEN := hide (show y.d.length + 1 ≤ 1000000000000 by
                  have h1 := (R.out.2.1 cc y hy).2.2.1
                  have h2 := SL.out
                  have h3 : k * N ≤ 1000 * 1000 := Nat.mul_le_mul (by omega) NB.out
                  omega)
                have YT := hide ((R5.out.2.1 cc y hy).2.2.2.1)
                obtain ⟨e0, f0⟩ := O5.out.cellsM hy
                clear hy ht htm b8 R O E4'
                go_wp2_with fail
                generalize (wr.alloc (.cells #[.int .i64 (cc : Int), .bool tx.s, sv tx.u, sv tx.t] 77)) = w3 at *
                generalize wr.heap.size = gb at *
                obtain ⟨x0, x1, x2, x3⟩ := Q5.out.cells
                have ba := (alloc_below w3 (.cells #[.int .i64 (k : Int), .bool tx.s, sv tx.u, sv tx.t] 77)).drew
                have Q6 := hide ((show Bt w3 gb ⟨(cc : Int), tx⟩ from Q5.out).step ba)
                have O6 := hide ((show Ow 28 em 1 w3 w1.heap.size (.slice (some ⟨w1.heap.size, 0, none⟩) p p) cur from O5.out).step ba)
                obtain ⟨y0, y1, y2, y3⟩ := Q6.out.cells
                obtain ⟨e2, f2⟩ := O6.out.cellsM HY.out
                clear ba
                go_region_law (refine step_pushE rfl (.tmp 50) (.tmp 55) 28 rfl Tryz.underlying28 hi hz0 hz1 hz2 rfl (by omega) et_len et_one w3.drew w.heap.size _ y.d ⟨(k : Int), tx⟩ _ rfl YT.out rfl rfl HLEN.out (by decide) (Nat.le_trans B1.out.size C5.out.size) ?_; intro v' w' ho hg; obtain ⟨A8, n8, c8, rfl⟩ := rv_sl (ho.rl et_len); have OF := hide (O5.out.kept hg.1 (ow_ow_ne O5.out YT.out (by decide))); obtain ⟨e1, f1⟩ := OF.out.cellsM HY.out; have QF := hide (show Bt w' gb ⟨(cc : Int), tx⟩ from (hg.1.block gb Q5.out.lt (fun e => by have := NE.out gb e.symm; omega)).trans Q5.out); obtain ⟨z0, z1, z2, z3⟩ := QF.out.cells; have HO := hide ho; have HG := hide hg; clear ho hg)
                all_goals
                  have O7 := hide (OF.out.putM (i := cc) (List.getElem?_eq_some_iff.1 HY.out).1 ⟨(A8, n8, c8), y.d ++ [⟨(k : Int), tx⟩]⟩)
                  have R7 := hide (show Tr (w'.setCell ⟨w1.heap.size, cc, none⟩ (.slice A8 n8 c8)) w.heap.size P p m1 k (s + 1) ((tms x.d).take (j + 1)) (cur.set cc ⟨(A8, n8, c8), y.d ++ [⟨(k : Int), tx⟩]⟩) from by
                    rw [ET.out]
                    exact R5.out.push HY.out FT.out X0.out X5.out HO.out HG.out.1 (by
                      rcases HG.out.2 with h | h
                      · exact .inl h
                      · exact .inr ⟨_, h, Nat.le_succ _⟩) OF.out (only_set (p := ⟨w1.heap.size, cc, none⟩) (only_refl w' (some w1.heap.size)) rfl _))
                  have C7 := hide (show Below w1.heap.size w1 (w'.setCell ⟨w1.heap.size, cc, none⟩ (.slice A8 n8 c8)) from (C5.out.grown HG.out.1 C5.out.size (fun g e => G.out cc y g HY.out e)).setCell (p := ⟨w1.heap.size, cc, none⟩) (Nat.le_refl _) _)
                  have G7 := hide (show ∀ (c : Nat) z g, (cur.set cc ⟨(A8, n8, c8), y.d ++ [⟨(k : Int), tx⟩]⟩)[c]? = some z → (sv z.a).ownBlock = some g → w1.heap.size ≤ g from fun c z g hz hg => by
                    by_cases e : c = cc
                    · subst e
                      rw [List.getElem?_set_self (List.getElem?_eq_some_iff.1 HY.out).1] at hz
                      injection hz with hz
                      subst hz
                      rcases HG.out.2 with h | h
                      · exact G.out c y g HY.out (h ▸ hg)
                      · have hg : (Value.slice A8 n8 c8).ownBlock = some g := hg
                        rw [h] at hg
                        injection hg with hg
                        have := C5.out.size
                        omega
                    · rw [List.getElem?_set_ne (fun h => e h.symm)] at hz
                      exact G.out c z g hz hg)
                  have SL7 := hide (show s + 1 ≤ k * N + (j + 1) by have := SL.out; omega)
                  clear x0 x1 x2 x3 y0 y1 y2 y3 z0 z1 z2 z3 e0 e1 e2 f0 f1 f2 d0 d1 d2 d3 HO HG OF QF O5 R5 Q5 C5 X5 Q6 O6 YT
                  go_wp2_with fail
                  exact ⟨⟨j + 1, s + 1, _, by omega, by go_num, SL7, C7, O7, R7, G7⟩, by simp [intOf]; omega⟩
              · obtain rfl : j = nd := by omega
                have R7 := hide (show Tr wr w.heap.size P p m1 (k + 1) s [] cur from (show Tr wr w.heap.size P p m1 k s (tms x.d) cur by have h := R.out; rwa [List.take_of_length_le (by rw [tms_len, ← HD.out]; exact Nat.le_refl _)] at h).next HX.out)
                have SL7 := hide (show s ≤ (k + 1) * N by rw [Nat.add_mul k 1]; have := SL.out; have := NX.out; have := HD.out; omega)
                clear R
                go_wp2_with fail
                exact ⟨⟨k + 1, s, cur, by omega, by go_num, SL7, C, O, R7, G⟩, by simp [intOf]; omega⟩
          · obtain rfl : k = q := by omega
            have FIN := hide (show ∀ (c : Nat) y, cur[c]? = some y → Fm (tms y.d) ∧ (∀ i : Int, 0 ≤ i → gsum (tms y.d) i = gsum (rwA m i) (c : Int)) ∧ y.d.length ≤ m.length * N ∧ Tg wr w.heap.size (sv y.a) y.d P from fun c y hy => by
              obtain ⟨h1, h2, h3, h4⟩ := R.out.2.1 c y hy
              refine ⟨h1, fun i hi => ?_, ?_, h4⟩
              · rw [h2 i hi]
                unfold tv
                by_cases h : i < (k : Int)
                · rw [if_pos h]
                  obtain ⟨x, hx⟩ := len_of (d := m1) (k := i.toNat) (by have := HQ.out; omega)
                  obtain ⟨x0, hx0⟩ := len_of (d := m) (k := i.toNat) (by have := HQ.out; have := HQM.out; omega)
                  obtain ⟨ro, -⟩ := S1.out.2 i.toNat x0 x (by have := HQ.out; have := HQM.out; omega) hx0 hx
                  have e1 := rwA_in hx
                  have e2 := rwA_in hx0
                  rw [Int.toNat_of_nonneg hi] at e1 e2
                  rw [e1, e2]
                  exact ro.2.1 _ (by omega)
                · rw [if_neg h, rwA_out m i (.inr (by have := HQ.out; have := HQM.out; omega))]
                  split <;> rfl
              · have := SL.out
                rw [← HQM.out, ← HQ.out]
                omega)
            have LEN := hide R.out.1
            have DST := hide R.out.2.2
            have OUT := hide (O.out.mono B1.out.size)
            have BB := hide (B1.out.trans (C.out.mono B1.out.size))
            clear R G O C R2 NB2 O2
            go_wp2_with fail
            go_ret2
            exact ⟨BB.out, .inr ⟨GT.out, _, cur, rfl, OUT.out, by rw [LEN.out], FIN.out, DST.out⟩⟩
set_option maxHeartbeats 4000000 in
theorem whole6_c (w : World) (z : Int) (h1 : -9223372036854775808 ≤ z) (h2 : z ≤ 9223372036854775807) :
  Calls Tryz.prog 48 #[.int .i64 z] w fun e w' => ∃ x : Rx, e = .returned (rx x) ∧ x.r = (z : Rat) ∧ Rc w' (rx x) x.r 6 ∧ Below w.heap.size w w' := by
 have HB := hide ((Below.refl w.heap.size w).alloc (Nat.le_refl _) rblk)
 have HZ := hide (Rb.new w)
 refine Calls.mono (R := RRet w (z : Rat) 6) ?_ (fun e w' h => h.rx)
 go_enter Tryz.func48, Tryz.ntmps48
 go_wp2_with fail
 refine (rqsmall_any (w.alloc rblk) z h1 h2).mono ?_
 rintro e w1 ⟨v, rfl, c1, b1⟩
 have B1 := hide (Below.step HB.out HB.out.size b1)
 have Z1 := hide (HZ.out.step b1)
 have TC := hide (rfto_any c1 (by omega))
 clear b1 c1 HB HZ
 go_wp2_with fail
 refine TC.out.mono ?_
 rintro e w4 ⟨r, rfl, c2, b2⟩
 obtain ⟨sg, A1, n1, c1', D1, m1, d1, rfl, k0, k1, k2, f0, f1, f2, fin⟩ := rret_fit (w0 := w) c2 (Z1.out.step b2) (by omega) (Below.step B1.out B1.out.size b2)
 have F := hide fin
 clear fin TC c2 b2 Z1 B1
 go_wp2_with fail
 exact bodyPost_ret (rret rfl _ _ _ #[.bool sg, .slice A1 n1 c1', .slice D1 m1 d1] rfl rfl F.out.1) rfl F.out.2
theorem lr_lit {α : Type} {enc : α → List Value} {k : Nat} (hk : ∀ x, (enc x).length = k) (W : World) (T : TypeId) (d : List α) (cs : Array Value) (hc : cs.toList = flat enc d) (hm : d.length ≤ maxLen) {g : Nat} (hg : W.heap.size = g) : Lr enc k (W.alloc (.cells cs T)) (.slice (some ⟨g, 0, none⟩) d.length d.length) d := by
 subst hg
 exact (Ow.lit (B := W.heap.size) hk W T d cs hc (Nat.le_refl _) hm).rl hk
theorem tc1 {W : World} {x1 : Rx} (c1 : Int) (h1 : Rc W (rx x1) x1.r 6) {g : Nat} (hg : W.heap.size = g) : Tc (W.alloc (.cells #[.int .i64 c1, .bool x1.s, sv x1.u, sv x1.t] 77)) (.slice (some ⟨g, 0, none⟩) 1 1) [⟨c1, x1⟩] 6 :=
 ⟨lr_lit et_len W 77 [⟨c1, x1⟩] _ rfl (by simp [maxLen]) hg, fun y hy => by simp at hy; subst hy; exact h1.step (alloc_below _ _)⟩
theorem tc2 {W : World} {x1 x2 : Rx} (c1 c2 : Int) (h1 : Rc W (rx x1) x1.r 6) (h2 : Rc W (rx x2) x2.r 6) {g : Nat} (hg : W.heap.size = g) : Tc (W.alloc (.cells #[.int .i64 c1, .bool x1.s, sv x1.u, sv x1.t, .int .i64 c2, .bool x2.s, sv x2.u, sv x2.t] 77)) (.slice (some ⟨g, 0, none⟩) 2 2) [⟨c1, x1⟩, ⟨c2, x2⟩] 6 :=
 ⟨lr_lit et_len W 77 [⟨c1, x1⟩, ⟨c2, x2⟩] _ rfl (by simp [maxLen]) hg, fun y hy => by
  simp at hy
  rcases hy with rfl | rfl
  ·exact h1.step (alloc_below _ _)
  ·exact h2.step (alloc_below _ _)⟩
theorem fc2 {W : World} {x1 x2 : Rx} (h1 : Rc W (rx x1) x1.r 6) (h2 : Rc W (rx x2) x2.r 6) {g : Nat} (hg : W.heap.size = g) : Fc (W.alloc (.cells #[.bool x1.s, sv x1.u, sv x1.t, .bool x2.s, sv x2.u, sv x2.t] 42)) (.slice (some ⟨g, 0, none⟩) 2 2) [x1, x2] 6 :=
 ⟨lr_lit er_len W 42 [x1, x2] _ rfl (by simp [maxLen]) hg, fun y hy => by
  simp at hy
  rcases hy with rfl | rfl
  ·exact h1.step (alloc_below _ _)
  ·exact h2.step (alloc_below _ _)⟩
theorem mc2 {W : World} {x1 x2 : Vx} (h1 : Tc W (sv x1.a) x1.d 6) (h2 : Tc W (sv x2.a) x2.d 6) {g : Nat} (hg : W.heap.size = g) : Mc (W.alloc (.cells #[sv x1.a, sv x2.a] 28)) (.slice (some ⟨g, 0, none⟩) 2 2) [x1, x2] 6 :=
 ⟨lr_lit em_len W 28 [x1, x2] _ rfl (by simp [maxLen]) hg, fun y hy => by
  simp at hy
  rcases hy with rfl | rfl
  ·exact h1.step (alloc_below _ _)
  ·exact h2.step (alloc_below _ _)⟩
theorem Mc.mv {W : World} {v : Value} {m : List Vx} {L : Nat} (h : Mc W v m L) : Mv W v m L := ⟨h.1, fun x hx => (h.2 x hx).tv⟩
theorem Fc.fv {W : World} {v : Value} {d : List Rx} {L : Nat} (h : Fc W v d L) : Fv W v d L := ⟨h.1, fun x hx => (h.2 x hx).ra⟩
section
variable {x1 x2 x3 : Rx} (h1 : x1.r = ((1 : Int) : Rat)) (h2 : x2.r = ((2 : Int) : Rat)) (h3 : x3.r = ((3 : Int) : Rat)) (a1 a2 : Sl)
theorem ex6_g0 (i : Int) : gsum (tms [(⟨0, x1⟩ : Tx), ⟨1, x2⟩]) i = if i = 0 then x1.r else if i = 1 then x2.r else 0 := by
 simp only [tms, tm, List.map_cons, List.map_nil, gsum]
 by_cases e0 : i = 0
 ·subst e0; simp [Rat.add_zero]
 ·by_cases e1 : i = 1
  ·subst e1; simp [Rat.add_zero, Rat.zero_add]
  ·rw [if_neg (fun h => e0 h.symm), if_neg (fun h => e1 h.symm), if_neg e0, if_neg e1]; simp [Rat.add_zero]
theorem ex6_g1 (i : Int) : gsum (tms [(⟨1, x3⟩ : Tx)]) i = if i = 1 then x3.r else 0 := by
 simp only [tms, tm, List.map_cons, List.map_nil, gsum]
 by_cases e1 : i = 1
 ·subst e1; simp [Rat.add_zero]
 ·rw [if_neg (fun h => e1 h.symm), if_neg e1]; simp [Rat.add_zero]
theorem ex6_bad : ¬ TrBad [⟨a1, [⟨0, x1⟩, ⟨1, x2⟩]⟩, ⟨a2, [⟨1, x3⟩]⟩] 2 := by
 rintro (⟨x, hx, c, hc, -, hn⟩ | h | h)
 ·simp at hx
  rcases hx with rfl | rfl
  ·exact hn (by show gsum (tms [(⟨0, x1⟩ : Tx), ⟨1, x2⟩]) c = 0; rw [ex6_g0, if_neg (by omega), if_neg (by omega)])
  ·exact hn (by show gsum (tms [(⟨1, x3⟩ : Tx)]) c = 0; rw [ex6_g1, if_neg (by omega)])
 ·omega
 ·omega
theorem ex6_r0 : rwA [⟨a1, [⟨0, x1⟩, ⟨1, x2⟩]⟩, ⟨a2, [⟨1, x3⟩]⟩] 0 = tms [(⟨0, x1⟩ : Tx), ⟨1, x2⟩] := rwA_in (m := [⟨a1, [⟨0, x1⟩, ⟨1, x2⟩]⟩, ⟨a2, [⟨1, x3⟩]⟩]) (k := 0) rfl
theorem ex6_r1 : rwA [⟨a1, [⟨0, x1⟩, ⟨1, x2⟩]⟩, ⟨a2, [⟨1, x3⟩]⟩] 1 = tms [(⟨1, x3⟩ : Tx)] := rwA_in (m := [⟨a1, [⟨0, x1⟩, ⟨1, x2⟩]⟩, ⟨a2, [⟨1, x3⟩]⟩]) (k := 1) rfl
theorem ex6_ro (i : Int) (h : i < 0 ∨ 2 ≤ i) : rwA [⟨a1, [⟨0, x1⟩, ⟨1, x2⟩]⟩, ⟨a2, [⟨1, x3⟩]⟩] i = [] := rwA_out _ i (by simpa using h)
include h1 h2 h3
omit h2 h3 in
theorem ex6_c0 {k1 : Rx} (hk : k1.r = ((1 : Int) : Rat)) {y : List Tx} (hf : Fm (tms y)) (hs : ∀ i : Int, 0 ≤ i → gsum (tms y) i = gsum (rwA [⟨a1, [⟨0, x1⟩, ⟨1, x2⟩]⟩, ⟨a2, [⟨1, x3⟩]⟩] i) 0) : tms y = tms [(⟨0, k1⟩ : Tx)] := by
 refine Fm.unique hf ⟨by simp [tms, tm], fun t ht => by simp [tms, tm] at ht; subst ht; exact ⟨Int.le_refl _, by rw [hk]; decide⟩⟩ (fun i hi => ?_)
 rw [hs i hi]
 by_cases e0 : i = 0
 ·subst e0; rw [ex6_r0, ex6_g0]; simp [tms, tm, gsum, h1, hk, Rat.add_zero]
 ·by_cases e1 : i = 1
  ·subst e1; rw [ex6_r1, ex6_g1]; simp [tms, tm, gsum, Rat.add_zero]
  ·rw [ex6_ro a1 a2 i (by omega)]
   simp only [tms, tm, List.map_cons, List.map_nil, gsum]
   rw [if_neg (fun h => e0 h.symm)]; simp [Rat.add_zero]
omit h1 in
theorem ex6_c1 {k2 k3 : Rx} (hk : k2.r = ((2 : Int) : Rat)) (hk3 : k3.r = ((3 : Int) : Rat)) {y : List Tx} (hf : Fm (tms y)) (hs : ∀ i : Int, 0 ≤ i → gsum (tms y) i = gsum (rwA [⟨a1, [⟨0, x1⟩, ⟨1, x2⟩]⟩, ⟨a2, [⟨1, x3⟩]⟩] i) 1) : tms y = tms [(⟨0, k2⟩ : Tx), ⟨1, k3⟩] := by
 refine Fm.unique hf ⟨by simp [tms, tm], fun t ht => by simp [tms, tm] at ht; rcases ht with rfl | rfl; exact ⟨Int.le_refl _, by rw [hk]; decide⟩; exact ⟨by show (0 : Int) ≤ 1; omega, by rw [hk3]; decide⟩⟩ (fun i hi => ?_)
 rw [hs i hi, ex6_g0]
 by_cases e0 : i = 0
 ·subst e0; rw [ex6_r0, ex6_g0]; simp [h2, hk]
 ·by_cases e1 : i = 1
  ·subst e1; rw [ex6_r1, ex6_g1]; simp [h3, hk3]
  ·rw [ex6_ro a1 a2 i (by omega), if_neg e0, if_neg e1]; rfl
theorem ex6_t {z1 z2 : Rx} (g1 : z1.r = ((1 : Int) : Rat)) (g2 : z2.r = ((1 : Int) : Rat)) :
  dt (rwA [⟨a1, [⟨0, x1⟩, ⟨1, x2⟩]⟩, ⟨a2, [⟨1, x3⟩]⟩] ((0 : Nat) : Int)) (xf [z1, z2]) = ((3 : Int) : Rat) ∧ dt (rwA [⟨a1, [⟨0, x1⟩, ⟨1, x2⟩]⟩, ⟨a2, [⟨1, x3⟩]⟩] ((1 : Nat) : Int)) (xf [z1, z2]) = ((3 : Int) : Rat) := by
 have e0 : xf [z1, z2] 0 = z1.r := xf_in (d := [z1, z2]) (k := 0) rfl
 have e1 : xf [z1, z2] 1 = z2.r := xf_in (d := [z1, z2]) (k := 1) rfl
 constructor
 ·rw [show ((0 : Nat) : Int) = 0 from rfl, ex6_r0]
  simp only [tms, tm, List.map_cons, List.map_nil, dt, e0, e1, h1, h2, g1, g2]
  have q1 : ((1 : Int) : Rat) = 1 := rfl
  have q2 : ((2 : Int) : Rat) = 2 := rfl
  have q3 : ((3 : Int) : Rat) = 3 := rfl
  rw [q1, q3]
  try rw [q2]
  grind
 ·rw [show ((1 : Nat) : Int) = 1 from rfl, ex6_r1]
  simp only [tms, tm, List.map_cons, List.map_nil, dt, e0, e1, h3, g1, g2]
  have q1 : ((1 : Int) : Rat) = 1 := rfl
  have q2 : ((2 : Int) : Rat) = 2 := rfl
  have q3 : ((3 : Int) : Rat) = 3 := rfl
  rw [q1, q3]
  try rw [q2]
  grind
end
set_option maxHeartbeats 16000000 in
theorem mspeaks_true (w : World) : Calls Tryz.prog 8 #[] w fun e w' => e = .returned (.bool true) ∧ Below w.heap.size w w' := by
 go_enter Tryz.func8, Tryz.ntmps8
 go_wp2_with fail
 refine (whole6_c w 1 (by omega) (by omega)).mono ?_
 rintro e w1 ⟨x1, rfl, h1, c1, b1⟩
 go_wp2_with fail
 refine (whole6_c w1 2 (by omega) (by omega)).mono ?_
 rintro e w2 ⟨x2, rfl, h2, c2, b2⟩
 have TA := hide (tc2 0 1 (c1.step b2) c2 (g := w2.heap.size) rfl)
 have B := hide (Below.step (Below.step b1 b1.size b2) (Below.step b1 b1.size b2).size (alloc_below w2 (.cells #[.int .i64 0, .bool x1.s, sv x1.u, sv x1.t, .int .i64 1, .bool x2.s, sv x2.u, sv x2.t] 77)))
 clear b1 b2 c1 c2
 go_wp2_with fail
 generalize (w2.alloc (.cells #[.int .i64 0, .bool x1.s, sv x1.u, sv x1.t, .int .i64 1, .bool x2.s, sv x2.u, sv x2.t] 77)) = w3 at *
 generalize w2.heap.size = ga at *
 refine (whole6_c w3 3 (by omega) (by omega)).mono ?_
 rintro e w4 ⟨x3, rfl, h3, c3, b3⟩
 have al := alloc_below w4 (.cells #[.int .i64 1, .bool x3.s, sv x3.u, sv x3.t] 77)
 have TB := hide (tc1 1 c3 (g := w4.heap.size) rfl)
 replace TA := hide ((TA.out.step b3).step al)
 replace B := hide (Below.step (Below.step B.out B.out.size b3) (Below.step B.out B.out.size b3).size al)
 clear b3 c3 al
 generalize e5 : (w4.alloc (.cells #[.int .i64 1, .bool x3.s, sv x3.u, sv x3.t] 77)) = w5 at TA TB B
 have MA := hide (mc2 (x1 := ⟨(some ⟨ga, 0, none⟩, 2, 2), [⟨0, x1⟩, ⟨1, x2⟩]⟩) (x2 := ⟨(some ⟨w4.heap.size, 0, none⟩, 1, 1), [⟨1, x3⟩]⟩) TA.out TB.out (g := w5.heap.size) rfl)
 go_wp2_with fail
 clear e5
 have al := alloc_below w5 (.cells #[sv (some ⟨ga, 0, none⟩, 2, 2), sv (some ⟨w4.heap.size, 0, none⟩, 1, 1)] 28)
 replace B := hide (Below.step B.out B.out.size al)
 clear al TA TB
 refine (transpose_m (N := 2) (P := 15) (n := 2) MA.out.mv (by simp) (by omega) (by simp) (by omega) (by omega) (by omega)).mono ?_
 rintro e w6 ⟨b6, (⟨bad, -⟩ | ⟨-, v', m', rfl, ow, hl, hm, -⟩)⟩
 ·exact absurd bad (ex6_bad _ _)
 have hl2 : m'.length = 2 := by omega
 obtain ⟨y0, y1, rfl⟩ : ∃ y0 y1, m' = [y0, y1] := by
  match m', hl2 with
  | [y0, y1], _ => exact ⟨y0, y1, rfl⟩
 obtain ⟨f0, s0, -, t0⟩ := hm 0 y0 rfl
 obtain ⟨f1, s1, -, t1⟩ := hm 1 y1 rfl
 have MT := hide (show Mc w6 v' [y0, y1] 15 from ⟨ow.rl em_len, fun y hy => by
  simp at hy
  rcases hy with rfl | rfl
  ·exact t0.tc
  ·exact t1.tc⟩)
 have S0 := hide (And.intro f0 s0)
 have S1 := hide (And.intro f1 s1)
 replace MA := hide (MA.out.step b6)
 replace B := hide (Below.step B.out B.out.size b6)
 obtain ⟨A, n, c, rfl⟩ := rv_sl MT.out.1
 clear b6 ow hl hm hl2 f0 s0 f1 s1 t0 t1
 go_wp2_with fail
 refine (whole6_c w6 1 (by omega) (by omega)).mono ?_
 rintro e w7 ⟨z1, rfl, g1, c1, b1⟩
 go_wp2_with fail
 refine (whole6_c w7 1 (by omega) (by omega)).mono ?_
 rintro e w8 ⟨z2, rfl, g2, c2, b2⟩
 have F := hide (fc2 (c1.step b2) c2 (g := w8.heap.size) rfl)
 have bx := Below.step (Below.step b1 b1.size b2) (Below.step b1 b1.size b2).size (alloc_below w8 (.cells #[.bool z1.s, sv z1.u, sv z1.t, .bool z2.s, sv z2.u, sv z2.t] 42))
 replace MT := hide (MT.out.step bx)
 replace MA := hide (MA.out.step bx)
 replace B := hide (Below.step B.out B.out.size bx)
 clear b1 b2 c1 c2 bx
 go_wp2_with fail
 refine (times_m (N := 2) MA.out.mv F.out.fv (by simp) (by simp) (by omega) (by omega) (by omega) (by omega) (by omega)).mono ?_
 rintro e w9 ⟨u, l, rfl, rg, hl, hx, b9⟩
 obtain ⟨p, q, rfl⟩ : ∃ p q, l = [p, q] := by
  match l, (show l.length = 2 from hl) with
  | [p, q], _ => exact ⟨p, q, rfl⟩
 have e0 := hide ((hx 0 p rfl).trans (ex6_t h1 h2 h3 _ _ g1 g2).1)
 have e1 := hide ((hx 1 q rfl).trans (ex6_t h1 h2 h3 _ _ g1 g2).2)
 have FL := hide rg.fc
 replace MT := hide (MT.out.step b9)
 replace B := hide (Below.step B.out B.out.size b9)
 obtain ⟨A2, n2, d2, rfl⟩ := rv_sl FL.out.1
 clear rg hl hx b9 F MA g1 g2
 go_wp2_with fail
 refine (whole6_c w9 3 (by omega) (by omega)).mono ?_
 rintro e w10 ⟨r1, rfl, g1, c1, b1⟩
 go_wp2_with fail
 refine (whole6_c w10 3 (by omega) (by omega)).mono ?_
 rintro e w11 ⟨r2, rfl, g2, c2, b2⟩
 have F := hide (fc2 (c1.step b2) c2 (g := w11.heap.size) rfl)
 have bx := Below.step (Below.step b1 b1.size b2) (Below.step b1 b1.size b2).size (alloc_below w11 (.cells #[.bool r1.s, sv r1.u, sv r1.t, .bool r2.s, sv r2.u, sv r2.t] 42))
 replace MT := hide (MT.out.step bx)
 replace FL := hide (FL.out.step bx)
 replace B := hide (Below.step B.out B.out.size bx)
 clear b1 b2 c1 c2 bx
 go_wp2_with fail
 refine (sameall_t FL.out F.out (by simp only [List.map_cons, List.map_nil, e0.out, e1.out, g1, g2])).mono ?_
 rintro e w12 ⟨rfl, bx⟩
 replace MT := hide (MT.out.step bx)
 replace B := hide (Below.step B.out B.out.size bx)
 clear bx FL F e0 e1 g1 g2
 go_wp2_with fail
 refine (whole6_c w12 1 (by omega) (by omega)).mono ?_
 rintro e w13 ⟨k1, rfl, g1, c1, b1⟩
 have TA := hide (tc1 0 c1 (g := w13.heap.size) rfl)
 have bx := Below.step b1 b1.size (alloc_below w13 (.cells #[.int .i64 0, .bool k1.s, sv k1.u, sv k1.t] 77))
 replace MT := hide (MT.out.step bx)
 replace B := hide (Below.step B.out B.out.size bx)
 clear b1 c1 bx
 go_wp2_with fail
 generalize (w13.alloc (.cells #[.int .i64 0, .bool k1.s, sv k1.u, sv k1.t] 77)) = w14 at *
 generalize w13.heap.size = gb at *
 refine (whole6_c w14 2 (by omega) (by omega)).mono ?_
 rintro e w15 ⟨k2, rfl, g2, c2, b2⟩
 go_wp2_with fail
 refine (whole6_c w15 3 (by omega) (by omega)).mono ?_
 rintro e w16 ⟨k3, rfl, g3, c3, b3⟩
 have TB := hide (tc2 0 1 (c2.step b3) c3 (g := w16.heap.size) rfl)
 have bx := Below.step (Below.step b2 b2.size b3) (Below.step b2 b2.size b3).size (alloc_below w16 (.cells #[.int .i64 0, .bool k2.s, sv k2.u, sv k2.t, .int .i64 1, .bool k3.s, sv k3.u, sv k3.t] 77))
 replace MT := hide (MT.out.step bx)
 replace TA := hide (TA.out.step bx)
 replace B := hide (Below.step B.out B.out.size bx)
 clear b2 b3 c2 c3 bx
 generalize e5 : (w16.alloc (.cells #[.int .i64 0, .bool k2.s, sv k2.u, sv k2.t, .int .i64 1, .bool k3.s, sv k3.u, sv k3.t] 77)) = w17 at TA TB B MT
 have MB := hide (mc2 (x1 := ⟨(some ⟨gb, 0, none⟩, 1, 1), [⟨0, k1⟩]⟩) (x2 := ⟨(some ⟨w16.heap.size, 0, none⟩, 2, 2), [⟨0, k2⟩, ⟨1, k3⟩]⟩) TA.out TB.out (g := w17.heap.size) rfl)
 go_wp2_with fail
 clear e5
 have al := alloc_below w17 (.cells #[sv (some ⟨gb, 0, none⟩, 1, 1), sv (some ⟨w16.heap.size, 0, none⟩, 2, 2)] 28)
 replace B := hide (Below.step B.out B.out.size al)
 replace MT := hide (MT.out.step al)
 clear al TA TB
 refine (same_mt MT.out MB.out rfl (fun i x y hx hy => by
  match i, hx, hy with
  | 0, hx, hy => simp at hx hy; subst hx; subst hy; exact ex6_c0 h1 _ _ g1 S0.out.1 S0.out.2
  | 1, hx, hy => simp at hx hy; subst hx; subst hy; exact ex6_c1 h2 h3 _ _ g2 g3 S1.out.1 S1.out.2
  | (k + 2), hx, hy => simp at hx)).mono ?_
 rintro e w18 ⟨rfl, bx⟩
 replace B := hide (Below.step B.out B.out.size bx)
 clear bx
 go_wp2_with fail
 go_ret
 exact ⟨rfl, B.out⟩
end Go.Proofs.YtfnngcaalpknlaaGreat
