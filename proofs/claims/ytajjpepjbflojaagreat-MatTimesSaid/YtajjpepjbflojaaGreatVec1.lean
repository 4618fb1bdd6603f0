/-
  Vectors: Get.
-/
import Derived.Test.YtajjpepjbflojaaGreatTv

namespace Go.Proofs.YtajjpepjbflojaaGreat
open Go.RowKit Go.Proofs.YtajjpepjbflojaaGreat.Num
set_option linter.unusedVariables false
set_option linter.unusedSimpArgs false
set_option maxRecDepth 100000

theorem RoRet.rg {w : World} {r : Rat} {L : Nat} {e : Ending} {w' : World} (h : RoRet w r L e w') (h1 : 1 ≤ L) : RgRet w r L e w' := by
  obtain ⟨s, u, t, he, hc, o⟩ := id h
  exact RgRet.of h (hc.ra.sz h1)

set_option maxHeartbeats 2000000 in
theorem whole_o (w : World) (z : Int) (h1 : -9223372036854775808 ≤ z) (h2 : z ≤ 9223372036854775807) :
    Calls Tryz.prog 58 #[.int .i64 z] w (RgRet w (z : Rat) 1) := by
  have HB := hide ((Below.refl w.heap.size w).alloc (Nat.le_refl _) rblk)
  have HZ := hide (Rb.new w)
  go_enter Tryz.func58, Tryz.ntmps58
  go_wp2_with fail
  refine (zof_any (w.alloc rblk) z h1 h2).mono ?_
  rintro e w1 ⟨v, rfl, z1, b1⟩
  have B1 := hide (Below.step HB.out HB.out.size b1)
  have RC := hide (ofint_own (Zi.za z1) (Nat.le_refl 1) (by omega))
  have Z1 := hide (HZ.out.step b1)
  clear z1 b1 HB HZ
  go_wp2_with fail
  refine RC.out.mono ?_
  rintro e w2 ⟨sg, u, t, rfl, c2, o1, o2, dj, b2⟩
  obtain ⟨A1, n1, c1', rfl⟩ := o1.slice
  obtain ⟨D1, m1, d1, rfl⟩ := o2.slice
  obtain ⟨k0, k1, k2, f0, f1, f2, fin⟩ := rr_put_o (w0 := w) c2 (o1.mono B1.out.size) (o2.mono B1.out.size) dj (Z1.out.step b2) (by omega) (Below.step B1.out B1.out.size b2)
  have F := hide fin
  clear fin RC c2 b2 Z1 B1 o1 o2 dj
  go_wp2_with fail
  exact bodyPost_ret (rret rfl _ _ _ #[.bool sg, .slice A1 n1 c1', .slice D1 m1 d1] rfl rfl F.out.1) rfl (F.out.2.rg (Nat.le_refl 1))

/-- A variable that holds a fraction. -/
def Bq (W : World) (g : Nat) (s : Bool) (u t : Value) : Prop := W.heap[g]? = some (rbox s u t)
theorem Bq.new (w : World) (s : Bool) (u t : Value) : Bq (w.alloc (rbox s u t)) w.heap.size s u t := heap_alloc_new w _
theorem Bq.lt {W : World} {g : Nat} {s : Bool} {u t : Value} (h : Bq W g s u t) : g < W.heap.size := by unfold Bq at h; exact (Array.getElem?_eq_some_iff.1 h).1
theorem Bq.step {W W' : World} {g : Nat} {s : Bool} {u t : Value} (h : Bq W g s u t) (hb : Below W.heap.size W W') : Bq W' g s u t := (hb.block g h.lt).trans h
theorem Bq.all {W : World} {g : Nat} {s : Bool} {u t : Value} (h : Bq W g s u t) : W.cell? ⟨g, 0, none⟩ = some (.bool s) ∧ W.cell? ⟨g, 1, none⟩ = some u ∧ W.cell? ⟨g, 2, none⟩ = some t ∧ W.frozen? ⟨g, 0, none⟩ = false ∧ W.frozen? ⟨g, 1, none⟩ = false ∧ W.frozen? ⟨g, 2, none⟩ = false :=
  ⟨cell_of_row W g 0 _ _ _ h, cell_of_row W g 1 _ _ _ h, cell_of_row W g 2 _ _ _ h, frozen_of_row W g 0 _ _ h, frozen_of_row W g 1 _ _ h, frozen_of_row W g 2 _ _ h⟩
theorem Bq.put {W : World} {g : Nat} {s : Bool} {u t : Value} (h : Bq W g s u t) (s' : Bool) (u' t' : Value) : Bq (((W.setCell ⟨g, 0, none⟩ (.bool s')).setCell ⟨g, 1, none⟩ u').setCell ⟨g, 2, none⟩ t') g s' u' t' :=
  heap_setCell_same _ g 2 _ _ t' (heap_setCell_same _ g 1 _ _ u' (heap_setCell_same W g 0 _ _ (.bool s') h))
theorem only_put3 (W : World) (g : Nat) (a b c : Value) : W.grownBy (((W.setCell ⟨g, 0, none⟩ a).setCell ⟨g, 1, none⟩ b).setCell ⟨g, 2, none⟩ c) (some g) :=
  only_set (p := ⟨g, 2, none⟩) (only_set (p := ⟨g, 1, none⟩) (only_set (p := ⟨g, 0, none⟩) (only_refl W (some g)) rfl a) rfl b) rfl c
theorem below_put3 {B : Nat} {w W : World} {g : Nat} (h : Below B w W) (hg : B ≤ g) (a b c : Value) : Below B w (((W.setCell ⟨g, 0, none⟩ a).setCell ⟨g, 1, none⟩ b).setCell ⟨g, 2, none⟩ c) :=
  ((h.setCell hg a).setCell hg b).setCell hg c
theorem nu_of {W : World} {g : Nat} {cs : Array Value} {T : TypeId} {fz : Nat × Nat} (h : W.heap[g]? = some (.cells cs T fz)) (hn : cs.toList.all (fun v => match v with | .int .u64 _ => false | _ => true) = true) : Nu W g :=
  ⟨cs, T, fz, h, fun j z hj => by
    have hm := List.all_eq_true.1 hn _ (Array.mem_toList_iff.2 (Array.mem_of_getElem? hj))
    simp at hm⟩
theorem Bq.nu {W : World} {g : Nat} {s : Bool} {A D : Option Addr} {n c m d : Nat} (h : Bq W g s (.slice A n c) (.slice D m d)) : Nu W g := nu_of h rfl
theorem Rb.nu {W : World} {g : Nat} (h : Rb W g) : Nu W g := nu_of h rfl
theorem Rb.put {W : World} {g : Nat} (h : Rb W g) (s' : Bool) (u' t' : Value) : Bq (((W.setCell ⟨g, 0, none⟩ (.bool s')).setCell ⟨g, 1, none⟩ u').setCell ⟨g, 2, none⟩ t') g s' u' t' := h.set _ _ _
theorem Rb.other {W : World} {g h : Nat} (z : Rb W h) (hne : h ≠ g) (a b c : Value) : Rb (((W.setCell ⟨g, 0, none⟩ a).setCell ⟨g, 1, none⟩ b).setCell ⟨g, 2, none⟩ c) h :=
  ((Below.heap_setCell _ _ c h hne).trans ((Below.heap_setCell _ _ b h hne).trans (Below.heap_setCell _ _ a h hne))).trans z
/-- The result's variable is filled. -/
theorem rg_put {w0 w : World} {x : Rx} {L g : Nat} (h : Rg w w0.heap.size x L) (hz : Rb w g) (hg0 : w0.heap.size ≤ g) (hb : Below w0.heap.size w0 w) :
    (w.cell? ⟨g, 0, none⟩ = some (.bool false) ∧ w.cell? ⟨g, 1, none⟩ = some (.slice none 0 0) ∧ w.cell? ⟨g, 2, none⟩ = some (.slice none 0 0) ∧
      w.frozen? ⟨g, 0, none⟩ = false ∧ w.frozen? ⟨g, 1, none⟩ = false ∧ w.frozen? ⟨g, 2, none⟩ = false) ∧
      (((w.setCell ⟨g, 0, none⟩ (.bool x.s)).setCell ⟨g, 1, none⟩ (sv x.u)).setCell ⟨g, 2, none⟩ (sv x.t)).heap[g]? = some (.cells #[.bool x.s, sv x.u, sv x.t] 26 (0, 0)) ∧
        RgRet w0 x.r L (.returned (rx x)) (((w.setCell ⟨g, 0, none⟩ (.bool x.s)).setCell ⟨g, 1, none⟩ (sv x.u)).setCell ⟨g, 2, none⟩ (sv x.t)) :=
  ⟨⟨hz.c0, hz.c1, hz.c2, hz.fz 0, hz.fz 1, hz.fz 2⟩, hz.set _ _ _, x, rfl, rfl, h.grown (only_put3 w g _ _ _) hz.nu, below_put3 hb hg0 _ _ _⟩

theorem gt_take {d : List Tx} {k : Nat} {x : Tx} (h : d[k]? = some x) (col : Int) : gt (tms (d.take (k + 1))) col = gt (tms (d.take k)) col + (if x.c = col ∧ 0 ≤ col then x.x.r else 0) := by
  rw [tms_snoc h]
  unfold gt
  by_cases h0 : 0 ≤ col
  · rw [if_pos h0, if_pos h0, gsum_snoc]
    by_cases h1 : x.c = col
    · rw [if_pos (And.intro h1 h0), if_pos (show (tm x).1 = col from h1)]; rfl
    · rw [if_neg (fun e : x.c = col ∧ 0 ≤ col => h1 e.1), if_neg (show ¬ (tm x).1 = col from h1)]
  · rw [if_neg h0, if_neg h0, if_neg (fun e => h0 e.2), Rat.add_zero]
theorem len_of {α : Type} {d : List α} {k : Nat} (h : k < d.length) : ∃ x, d[k]? = some x := ⟨d[k], List.getElem?_eq_getElem h⟩

set_option maxHeartbeats 4000000 in
theorem get_g {w : World} {v : Value} {d : List Tx} {L : Nat} {col : Int} (hv : Tv w v d L) (hn : d.length ≤ 100000) (h1 : 1 ≤ L) (hL : L ≤ 1000000) :
    Calls Tryz.prog 42 #[v, .int .i64 col] w (RgRet w (gt (tms d) col) (d.length * (L + 1) + 1)) := by
  obtain ⟨A, c, rfl, hc1, hc2, hc3⟩ := id hv.1
  have HV := hide hv
  have HB := hide ((Below.refl w.heap.size w).alloc (Nat.le_refl _) rblk)
  have HZ := hide (Rb.new w)
  have hnl := hn
  obtain ⟨n, hlen⟩ : ∃ n, n = d.length := ⟨_, rfl⟩
  rw [← hlen] at HV hnl ⊢
  have HN := hide hlen
  clear hv hc3 hn hlen
  go_enter Tryz.func42, Tryz.ntmps42
  go_wp2_with fail
  refine (whole_o (w.alloc rblk) 0 (by omega) (by omega)).mono ?_
  rintro e w1 ⟨x, rfl, hx, rg, b1⟩
  have Z1 := hide (HZ.out.step b1)
  have B1 := hide (Below.step HB.out HB.out.size b1)
  have bx := (Below.refl w1.heap.size w1).alloc (Nat.le_refl _) (rbox x.s (sv x.u) (sv x.t))
  have Z2 := hide (Z1.out.step bx)
  have B2 := hide (Below.step B1.out B1.out.size bx)
  have R2 := hide ((rg.mono (B' := w.heap.size) (by simp)).step bx)
  have Q2 := hide (Bq.new w1 x.s (sv x.u) (sv x.t))
  have X2 := hide hx
  have lt1 : w.heap.size < w1.heap.size := by have := b1.size; simp at this; omega
  clear bx rg b1 hx Z1 B1 HB HZ
  go_wp2_with fail
  generalize (w1.alloc (rbox x.s (sv x.u) (sv x.t))) = w2 at *
  generalize w1.heap.size = g5 at *
  have HE := hide (show x.r = gt (tms (d.take 0)) col by rw [X2.out]; simp [tms, gt, gsum])
  clear X2
  go_loopw [11] (fun iv wr => ∃ (k : Nat) (x : Rx), k ≤ n ∧ iv = .int .i64 (k : Int) ∧ Hid (Below w.heap.size w wr) ∧ Hid (Rb wr w.heap.size) ∧ Bq wr g5 x.s (sv x.u) (sv x.t) ∧ Hid (x.r = gt (tms (d.take k)) col) ∧ Hid (Rg wr w.heap.size x (k * (L + 1) + 1))) (fun iv _ => n - (intOf iv).toNat)
  case atStart => exact ⟨0, x, Nat.zero_le _, rfl, B2, Z2, Q2.out, HE, by simpa using R2⟩
  case round =>
    obtain ⟨k, y, hk, rfl, B, Z, Qb, E, R⟩ := hrel
    obtain ⟨p0, p1, p2, f0, f1, f2⟩ := Qb.all
    by_cases hlt : k < n
    · obtain ⟨t, ht⟩ := len_of (d := d) (k := k) (by rw [← HN.out]; exact hlt)
      have ET := hide (gt_take ht col)
      have HK := hide (show k * (L + 1) + 1 ≤ 1000000000000 by have := Nat.mul_le_mul (show k ≤ 100000 by omega) (show L + 1 ≤ 1000001 by omega); omega)
      have HM := hide (show k * (L + 1) + 1 + L + 1 = (k + 1) * (L + 1) + 1 by rw [Nat.add_mul k 1]; omega)
      have HR := hide ((HV.out.2 t (List.mem_of_getElem? ht)).step B.out)
      obtain ⟨b, off, rfl, hb, hc⟩ := (HV.out.1.step B.out).get ht
      have c0 := hc 0 _ rfl
      have c1 := hc 1 _ rfl
      have c2 := hc 2 _ rfl
      have c3 := hc 3 _ rfl
      rw [Nat.add_zero] at c0
      have l0 : (0 : Int) ≤ (k : Int) := by omega
      have l1 : (k : Int) < (n : Int) := by omega
      have b8 := (Below.refl wr.heap.size wr).alloc (Nat.le_refl _) (.cells #[.int .i64 t.c, .bool t.x.s, sv t.x.u, sv t.x.t] 63)
      replace HR := hide (HR.out.step b8)
      replace B := hide (Below.step B.out B.out.size b8)
      replace Z := hide (Z.out.step b8)
      replace R := hide (R.out.step b8)
      have Q8 := hide (Qb.step b8)
      clear hc hb ht b8
      by_cases hq : t.c = col ∧ 0 ≤ col
      · rw [if_pos hq] at ET
        have t1 : (t.c == col) = true := beq_iff_eq.2 hq.1
        have t2 : decide (0 ≤ col) = true := decide_eq_true hq.2
        clear hq
        clear p0 p1 p2 f0 f1 f2 Qb
        obtain ⟨p0, p1, p2, f0, f1, f2⟩ := Q8.out.all
        go_wp2_with fail
        refine (add_g R.out.ra HR.out (by omega) h1 HK.out (by omega)).mono ?_
        rintro e w3 ⟨z, rfl, hz, rz, bz⟩
        have RZ := hide (rz.mono (B' := w.heap.size) B.out.size)
        replace B := hide (Below.step B.out B.out.size bz)
        replace Z := hide (Z.out.step bz)
        have Q9 := hide (Q8.out.step bz)
        clear p0 p1 p2 f0 f1 f2 Q8 c0 c1 c2 c3
        obtain ⟨p0, p1, p2, f0, f1, f2⟩ := Q9.out.all
        have only := only_put3 w3 g5 (.bool z.s) (sv z.u) (sv z.t)
        have bz2 := hide (below_put3 B.out (Nat.le_of_lt lt1) (.bool z.s) (sv z.u) (sv z.t))
        have zz := hide (Z.out.other (g := g5) (by omega) (.bool z.s) (sv z.u) (sv z.t))
        have qq := hide (Q9.out.put z.s (sv z.u) (sv z.t))
        have ee := hide (show z.r = gt (tms (d.take (k + 1))) col by rw [hz, ET.out, E.out])
        have rr := hide ((RZ.out.grown only Q9.out.nu).more (M := (k + 1) * (L + 1) + 1) (by rw [← HM.out]; omega))
        clear only rz bz hz
        go_wp2_with fail
        exact ⟨⟨k + 1, z, by omega, by go_num, bz2, zz, qq.out, ee, rr⟩, by simp [intOf]; omega⟩
      · have ET := hide (ET.out.trans (by rw [if_neg hq, Rat.add_zero]))
        have RN := hide (R.out.more (M := (k + 1) * (L + 1) + 1) (by rw [← HM.out]; omega))
        have EN := hide (E.out.trans ET.out.symm)
        clear p0 p1 p2 f0 f1 f2 Qb
        by_cases hq1 : t.c = col
        · have t1 : (t.c == col) = true := beq_iff_eq.2 hq1
          have t2 : decide (0 ≤ col) = false := decide_eq_false (fun h => hq ⟨hq1, h⟩)
          clear hq hq1
          go_wp2_with fail
          exact ⟨⟨k + 1, y, by omega, by go_num, B, Z, Q8.out, EN, RN⟩, by simp [intOf]; omega⟩
        · have t1 : (t.c == col) = false := beq_eq_false_iff_ne.2 hq1
          clear hq hq1
          go_wp2_with fail
          exact ⟨⟨k + 1, y, by omega, by go_num, B, Z, Q8.out, EN, RN⟩, by simp [intOf]; omega⟩
    · obtain rfl : k = n := by omega
      have e9 := hide (show y.r = gt (tms d) col by rw [E.out, List.take_of_length_le (by rw [← HN.out]; exact Nat.le_refl _)])
      obtain ⟨⟨k0, k1, k2, q0, q1, q2⟩, fin⟩ := rg_put R.out Z.out (Nat.le_refl _) B.out
      rw [e9.out] at fin
      have F := hide fin
      clear fin E R Z B Qb HE R2 B2 Z2 Q2
      go_wp2_with fail
      exact bodyPost_ret (rret rfl _ _ _ #[.bool y.s, sv y.u, sv y.t] rfl rfl F.out.1) rfl F.out.2
end Go.Proofs.YtajjpepjbflojaaGreat
