/-
  Shared texts, one behind the other: Rcmp.
-/
import Derived.Test.YtpfeacdhplbblaaGreatFl
import Derived.Test.YtpfeacdhplbblaaGreatBundleE

namespace Go.Proofs.YtpfeacdhplbblaaGreat
open Go.RowKit Go.Proofs.YtpfeacdhplbblaaGreat.Num
set_option linter.unusedVariables false
set_option linter.unusedSimpArgs false
set_option maxRecDepth 100000
set_option maxHeartbeats 1000000 in
theorem qnegs_any {w : World} {v : Value} {z : Int} {L : Nat} (h : Qi w v z L) (hL : L ≤ 800000000000) :
    Calls Tryz.prog 104 #[v] w (QRet w (-z) L) := by
  obtain ⟨u, rfl, hc⟩ := h
  obtain ⟨A, n, c, rfl⟩ := hc.iw.slice
  obtain ⟨s, hs⟩ : ∃ s, decide (z < 0) = s := ⟨_, rfl⟩
  have hzz : Hid (zi (!s) z.natAbs = -z) := hide (by
    unfold zi
    by_cases h : z < 0
    · rw [decide_eq_true h] at hs; subst hs; simp only [Bool.not_true, Bool.false_eq_true, if_false]; omega
    · rw [decide_eq_false h] at hs; subst hs; simp only [Bool.not_false, if_true]; omega)
  rw [hs]
  have a1 : Below w.heap.size w (w.alloc (qbox s (.slice A n c))) := (Below.refl _ _).alloc (Nat.le_refl _) _
  have a2 : Below w.heap.size w ((w.alloc (qbox s (.slice A n c))).alloc qblk) := a1.alloc (by simp) _
  have hz : Qb ((w.alloc (qbox s (.slice A n c))).alloc qblk) (w.heap.size + 1) := by have h := Qb.new (w.alloc (qbox s (.slice A n c))); simpa using h
  have HS := hide (show w.heap.size + 1 < ((w.alloc (qbox s (.slice A n c))).alloc qblk).heap.size by simp)
  have FM := hide (form_any (s := !s) (hc.step a2).iw hL hzz.out)
  have HA := hide a2
  have HZ := hide hz
  clear hc a1 a2 hz hs hzz
  go_enter Tryz.func104, Tryz.ntmps104
  go_wp2_with fail
  refine FM.out.mono ?_
  rintro e w2 ⟨v, rfl, qv, b2⟩
  obtain ⟨sg, A1, n1, c2, rfl, k0, k1, f0, f1, fin⟩ := q_ret (w0 := w) qv (HZ.out.step HS.out b2) (by omega) (HA.out.trans (b2.mono HA.out.size))
  have F := hide fin
  clear fin FM HA HZ HS qv b2
  go_wp2_with fail
  exact bodyPost_ret (qret rfl _ _ _ #[.bool sg, .slice A1 n1 c2] rfl rfl F.out.1) rfl F.out.2
set_option maxHeartbeats 4000000 in
theorem qsubs_any {w : World} {u v : Value} {a b : Int} {L M K : Nat} (hu : Qi w u a L) (hv : Qi w v b M) (hL : L ≤ K) (hM : M ≤ K) (hK : K ≤ 400000000000) :
    Calls Tryz.prog 85 #[u, v] w (QRet w (a - b) (K + 1)) := by
  obtain ⟨s, x, A, n, c, rfl, -, -, -⟩ := id hu.parts
  obtain ⟨t, y, D, m, d, rfl, -, -, -⟩ := id hv.parts
  obtain ⟨a3, z3, hsz, p0, p1, q0, q1⟩ := q_world w s t A D n c m d
  have HU := hide (hu.step a3)
  have HV := hide (hv.step a3)
  have HA := hide a3
  have HZ := hide z3
  have HS := hide (show w.heap.size + 1 + 1 < (((w.alloc (qbox s (.slice A n c))).alloc (qbox t (.slice D m d))).alloc qblk).heap.size by rw [hsz]; omega)
  clear hu hv a3 z3 hsz
  go_enter Tryz.func85, Tryz.ntmps85
  go_wp2_with fail
  generalize hW0 : ((w.alloc (qbox s (.slice A n c))).alloc (qbox t (.slice D m d))).alloc qblk = W0 at *
  have p0d : W0.drew.cell? ⟨w.heap.size, 0, none⟩ = some (.bool s) := p0
  have p1d : W0.drew.cell? ⟨w.heap.size, 1, none⟩ = some (.slice A n c) := p1
  have q0d : W0.drew.cell? ⟨w.heap.size + 1, 0, none⟩ = some (.bool t) := q0
  have q1d : W0.drew.cell? ⟨w.heap.size + 1, 1, none⟩ = some (.slice D m d) := q1
  have C := hide (qnegs_any (w := W0.drew) HV.out (show M ≤ 800000000000 by omega))
  go_region_held3 (fun W => W.cell? ⟨w.heap.size, 0, none⟩ = some (.bool s) ∧ W.cell? ⟨w.heap.size, 1, none⟩ = some (.slice A n c) ∧ W.cell? ⟨w.heap.size + 1, 0, none⟩ = some (.bool t) ∧ W.cell? ⟨w.heap.size + 1, 1, none⟩ = some (.slice D m d))
    (first
      | with_reducible exact ⟨p0d, p1d, q0d, q1d⟩
      | with_reducible exact ⟨cell_keep p0d b1, cell_keep p1d b1, cell_keep q0d b1, cell_keep q1d b1⟩
      | with_reducible exact ⟨cell_keep (cell_keep p0d b1) b2, cell_keep (cell_keep p1d b1) b2, cell_keep (cell_keep q0d b1) b2, cell_keep (cell_keep q1d b1) b2⟩
      | with_reducible exact ⟨cell_zset (cell_keep (cell_keep p0d b1) b2) (by simp <;> omega) _ _, cell_zset (cell_keep (cell_keep p1d b1) b2) (by simp <;> omega) _ _, cell_zset (cell_keep (cell_keep q0d b1) b2) (by simp <;> omega) _ _, cell_zset (cell_keep (cell_keep q1d b1) b2) (by simp <;> omega) _ _⟩)
    (first
      | (go_at_call 104; (with_reducible refine C.out.mono ?_); rintro e w1 ⟨nb, rfl, qn, b1⟩; have FM := hide (Int.sub_eq_add_neg ▸ qadd_any (K := K) (HU.out.step (below_of_drew b1)) qn hL hM hK))
      | (go_at_call 103; (with_reducible refine FM.out.mono ?_); rintro e w2 ⟨v, rfl, qv, b2⟩; obtain ⟨sg, A1, n1, c2, rfl, k0, k1, f0, f1, fin⟩ := q_ret (w0 := w) qv ((HZ.out.step HS.out (below_of_drew b1)).step (Nat.lt_of_lt_of_le HS.out b1.size) b2) (by omega) (HA.out.trans (((below_of_drew b1).trans (b2.mono b1.size)).mono HA.out.size))))
  all_goals
    have F := hide fin
    clear fin
    go_wp2_with fail
    exact bodyPost_ret (qret rfl _ _ _ #[.bool sg, .slice A1 n1 c2] rfl rfl F.out.1) rfl F.out.2
theorem zsg_subs (a b : Int) : zsg (a - b) = cmpZ a b := by
  unfold zsg cmpZ
  rcases Int.lt_trichotomy a b with h | h | h
  · rw [if_neg (by omega), if_pos (by omega), if_pos h]
  · rw [if_pos (by omega), if_neg (by omega), if_neg (by omega)]
  · rw [if_neg (by omega), if_neg (by omega), if_neg (by omega), if_pos h]
set_option maxHeartbeats 4000000 in
theorem qcmps_any {w : World} {u v : Value} {a b : Int} {L M K : Nat} (hu : Qi w u a L) (hv : Qi w v b M) (hL : L ≤ K) (hM : M ≤ K) (hK : K ≤ 400000000000) :
    Calls Tryz.prog 53 #[u, v] w fun e w' => e = .returned (.int .i64 (cmpZ a b)) ∧ Below w.heap.size w w' := by
  obtain ⟨s, x, A, n, c, rfl, -, -, -⟩ := id hu.parts
  obtain ⟨t, y, D, m, d, rfl, -, -, -⟩ := id hv.parts
  have a1 : Below w.heap.size w (w.alloc (qbox s (.slice A n c))) := (Below.refl _ _).alloc (Nat.le_refl _) _
  have a2 : Below w.heap.size w ((w.alloc (qbox s (.slice A n c))).alloc (qbox t (.slice D m d))) := a1.alloc (by simp) _
  have C := hide (qsubs_any (hu.step a2) (hv.step a2) hL hM hK)
  have HA := hide a2
  rw [← zsg_subs]
  clear hu hv a1 a2
  go_enter Tryz.func53, Tryz.ntmps53
  go_wp2_with fail
  refine C.out.mono ?_
  rintro e w1 ⟨v, rfl, qv, b1⟩
  have H := hide qv
  have HA1 := hide (HA.out.trans (b1.mono HA.out.size))
  clear qv b1 C HA
  go_wp2_with fail
  refine (qsign_any H.out).mono ?_
  rintro e w2 ⟨rfl, b2⟩
  have HA2 := hide (HA1.out.trans (b2.mono HA1.out.size))
  clear H HA1 b2
  go_wp2_with fail
  go_ret
  exact ⟨rfl, HA2.out⟩
theorem cmpR_nums (r1 r2 : Rat) : cmpZ (r1.num * ((r2.den : Nat) : Int)) (r2.num * ((r1.den : Nat) : Int)) = cmpR r1 r2 := by
  rw [cmpR_mk r1.num r2.num r1.den r2.den (Nat.pos_of_ne_zero r1.den_nz) (Nat.pos_of_ne_zero r2.den_nz), Rat.mkRat_self, Rat.mkRat_self]
set_option maxHeartbeats 4000000 in
theorem rqcmp_s {w : World} {a b : Value} {r1 r2 : Rat} {L : Nat} (ha : Rf w a r1 L) (hb : Rf w b r2 L) (h1 : 1 ≤ L) (hL : L ≤ 10000000000) :
    Calls Tryz.prog 33 #[a, b] w fun e w' => e = .returned (.int .i64 (cmpR r1 r2)) ∧ Below w.heap.size w w' := by
  obtain ⟨s, A, n, c, D, m, d, rfl, ha⟩ := ha.parts
  obtain ⟨t, F, k, f, H, l, h, rfl, hb⟩ := hb.parts
  have b1 : Below w.heap.size w (w.alloc (fqbox s (.slice A n c) (.slice D m d))) := alloc_below w _
  have b2 : Below w.heap.size w ((w.alloc (fqbox s (.slice A n c) (.slice D m d))).alloc (fqbox t (.slice F k f) (.slice H l h))) := b1.alloc b1.size _
  have q1 : Fq ((w.alloc (fqbox s (.slice A n c) (.slice D m d))).alloc (fqbox t (.slice F k f) (.slice H l h))) w.heap.size s (.slice A n c) (.slice D m d) := (Fq.new w s (.slice A n c) (.slice D m d)).step (alloc_below _ _)
  have q2 : Fq ((w.alloc (fqbox s (.slice A n c) (.slice D m d))).alloc (fqbox t (.slice F k f) (.slice H l h))) (w.heap.size + 1) t (.slice F k f) (.slice H l h) := by
    have h9 := Fq.new (w.alloc (fqbox s (.slice A n c) (.slice D m d))) t (.slice F k f) (.slice H l h)
    rwa [show (w.alloc (fqbox s (.slice A n c) (.slice D m d))).heap.size = w.heap.size + 1 by simp] at h9
  have R0 := hide (And.intro (ha.split.1.step b2) (And.intro (ha.split.2.step b2) (And.intro (hb.split.1.step b2) (hb.split.2.step b2))))
  have P1 := hide q1
  have P2 := hide q2
  have B0 := hide b2
  have HE := hide (cmpR_nums r1 r2)
  rw [← HE.out]
  clear ha hb q1 q2 b1 b2 HE
  generalize r1.num = a1 at *
  generalize r1.den = e1 at *
  generalize r2.num = a2 at *
  generalize r2.den = e2 at *
  go_enter Tryz.func33, Tryz.ntmps33
  go_wp2_with fail
  generalize ((w.alloc (fqbox s (.slice A n c) (.slice D m d))).alloc (fqbox t (.slice F k f) (.slice H l h))) = W0 at *
  have b8 := (Below.refl W0.heap.size W0).drew
  have R := hide (And.intro (R0.out.1.step b8) (And.intro (R0.out.2.1.step b8) (And.intro (R0.out.2.2.1.step b8) (R0.out.2.2.2.step b8))))
  have Q1 := hide (P1.out.step b8)
  have Q2 := hide (P2.out.step b8)
  have B := hide (Below.step B0.out B0.out.size b8)
  clear R0 P1 P2 B0 b8
  go_region_held3 (fun W => (W.cell? ⟨w.heap.size, 0, none⟩ = some (.bool s) ∧ W.cell? ⟨w.heap.size, 1, none⟩ = some (.slice A n c) ∧ W.cell? ⟨w.heap.size, 2, none⟩ = some (.slice D m d)) ∧ (W.cell? ⟨w.heap.size + 1, 0, none⟩ = some (.bool t) ∧ W.cell? ⟨w.heap.size + 1, 1, none⟩ = some (.slice F k f) ∧ W.cell? ⟨w.heap.size + 1, 2, none⟩ = some (.slice H l h)))
    (exact ⟨⟨Q1.out.all.1, Q1.out.all.2.1, Q1.out.all.2.2.1⟩, Q2.out.all.1, Q2.out.all.2.1, Q2.out.all.2.2.1⟩)
    (first
      | (go_at_call 54; refine Calls.mono (rqtimes_any (z := a1) (q := ((e2 : Nat) : Int)) (L := L) ?_ ?_ (by omega)) ?_; (focus ((with_reducible exact R.out.1); done)); (focus ((with_reducible exact R.out.2.2.2); done)); rintro e wx ⟨vx, rfl, tx, bx⟩; have X1 := hide tx; replace R := hide (And.intro (R.out.1.step bx) (And.intro (R.out.2.1.step bx) (And.intro (R.out.2.2.1.step bx) (R.out.2.2.2.step bx)))); replace Q1 := hide (Q1.out.step bx); replace Q2 := hide (Q2.out.step bx); replace B := hide (Below.step B.out B.out.size bx); clear tx bx)
      | (go_at_call 54; refine Calls.mono (rqtimes_any (z := a2) (q := ((e1 : Nat) : Int)) (L := L) ?_ ?_ (by omega)) ?_; (focus ((with_reducible exact R.out.2.2.1); done)); (focus ((with_reducible exact R.out.2.1); done)); rintro e wx ⟨vy, rfl, tx, bx⟩; have X2 := hide tx; replace X1 := hide (X1.out.step bx); replace Q1 := hide (Q1.out.step bx); replace Q2 := hide (Q2.out.step bx); replace B := hide (Below.step B.out B.out.size bx); clear tx bx R)
      | (go_at_call 53; refine Calls.mono (qcmps_any (a := a1 * ((e2 : Nat) : Int)) (b := a2 * ((e1 : Nat) : Int)) (L := L + L) (M := L + L) (K := L + L) X1.out X2.out (by omega) (by omega) (by omega)) ?_; rintro e wx ⟨rfl, bx⟩; replace Q1 := hide (Q1.out.step bx); replace Q2 := hide (Q2.out.step bx); replace B := hide (Below.step B.out B.out.size bx); clear bx))
  all_goals
    clear Q1 Q2
    go_wp2_with fail
    go_ret
    exact ⟨rfl, B.out⟩
end Go.Proofs.YtpfeacdhplbblaaGreat
