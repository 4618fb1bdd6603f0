/-
  For RatSums: the document's Cmp, differences and negations in memory of the call's own.
-/
import Derived.Test.YtajjpepjbflojaaGreatFl
import Derived.Test.YtajjpepjbflojaaGreatRownN
import Derived.Test.YtajjpepjbflojaaGreatZrefDC


namespace Go.Proofs.YtajjpepjbflojaaGreat
open Go.RowKit Go.Proofs.YtajjpepjbflojaaGreat.Num
set_option linter.unusedVariables false
set_option linter.unusedSimpArgs false
set_option maxRecDepth 100000

theorem cmpR_num (r1 r2 : Rat) : cmpZ (r1.num * ((r2.den : Nat) : Int)) (r2.num * ((r1.den : Nat) : Int)) = cmpR r1 r2 := by
  rw [cmpR_mk r1.num r2.num r1.den r2.den (Nat.pos_of_ne_zero r1.den_nz) (Nat.pos_of_ne_zero r2.den_nz), Rat.mkRat_self, Rat.mkRat_self]
set_option maxHeartbeats 4000000 in
theorem rqcmp_any {w : World} {a b : Value} {r1 r2 : Rat} {L : Nat} (ha : Rf w a r1 L) (hb : Rf w b r2 L) (h1 : 1 ≤ L) (hL : L ≤ 10000000000) :
    Calls Tryz.prog 35 #[a, b] w fun e w' => e = .returned (.int .i64 (cmpR r1 r2)) ∧ Below w.heap.size w w' := by
  obtain ⟨s, A, n, c, D, m, d, rfl, ha⟩ := ha.parts
  obtain ⟨t, F, k, f, H, l, h, rfl, hb⟩ := hb.parts
  have b1 : Below w.heap.size w (w.alloc (fqbox s (.slice A n c) (.slice D m d))) := alloc_below w _
  have b2 : Below w.heap.size w ((w.alloc (fqbox s (.slice A n c) (.slice D m d))).alloc (fqbox t (.slice F k f) (.slice H l h))) := b1.alloc b1.size _
  have q1 : Fq ((w.alloc (fqbox s (.slice A n c) (.slice D m d))).alloc (fqbox t (.slice F k f) (.slice H l h))) w.heap.size s (.slice A n c) (.slice D m d) := (Fq.new w s (.slice A n c) (.slice D m d)).step (alloc_below _ _)
  have q2 : Fq ((w.alloc (fqbox s (.slice A n c) (.slice D m d))).alloc (fqbox t (.slice F k f) (.slice H l h))) (w.heap.size + 1) t (.slice F k f) (.slice H l h) := by
    have h9 := Fq.new (w.alloc (fqbox s (.slice A n c) (.slice D m d))) t (.slice F k f) (.slice H l h)
    rwa [show (w.alloc (fqbox s (.slice A n c) (.slice D m d))).heap.size = w.heap.size + 1 by simp] at h9
  have R0 := hide (And.intro (ha.split.1.step b2) (And.intro (ha.split.2.step b2) (And.intro (hb.split.1.step b2) (hb.split.2.step b2))))
  have P1 := hide q1
  have P2 := hide q2
  have B0 := hide b2
  have HE := hide (cmpR_num r1 r2)
  rw [← HE.out]
  clear ha hb q1 q2 b1 b2 HE
  generalize r1.num = a1 at *
  generalize r1.den = e1 at *
  generalize r2.num = a2 at *
  generalize r2.den = e2 at *
  go_enter Tryz.func35, Tryz.ntmps35
  go_wp2_with fail
  generalize ((w.alloc (fqbox s (.slice A n c) (.slice D m d))).alloc (fqbox t (.slice F k f) (.slice H l h))) = W0 at *
  have b8 := (Below.refl W0.heap.size W0).drew
  have R := hide (And.intro (R0.out.1.step b8) (And.intro (R0.out.2.1.step b8) (And.intro (R0.out.2.2.1.step b8) (R0.out.2.2.2.step b8))))
  have Q1 := hide (P1.out.step b8)
  have Q2 := hide (P2.out.step b8)
  have B := hide (Below.step B0.out B0.out.size b8)
  clear R0 P1 P2 B0 b8
  go_region_held3 (fun W => (W.cell? ⟨w.heap.size, 0, none⟩ = some (.bool s) ∧ W.cell? ⟨w.heap.size, 1, none⟩ = some (.slice A n c) ∧ W.cell? ⟨w.heap.size, 2, none⟩ = some (.slice D m d)) ∧ (W.cell? ⟨w.heap.size + 1, 0, none⟩ = some (.bool t) ∧ W.cell? ⟨w.heap.size + 1, 1, none⟩ = some (.slice F k f) ∧ W.cell? ⟨w.heap.size + 1, 2, none⟩ = some (.slice H l h)))
    (exact ⟨⟨Q1.out.all.1, Q1.out.all.2.1, Q1.out.all.2.2.1⟩, Q2.out.all.1, Q2.out.all.2.1, Q2.out.all.2.2.1⟩)
    (first
      | (go_at_call 106; refine Calls.mono (rqtimes_any (z := a1) (q := ((e2 : Nat) : Int)) (L := L) ?_ ?_ (by omega)) ?_; (focus ((with_reducible exact R.out.1); done)); (focus ((with_reducible exact R.out.2.2.2); done)); rintro e wx ⟨vx, rfl, tx, bx⟩; have X1 := hide tx; replace R := hide (And.intro (R.out.1.step bx) (And.intro (R.out.2.1.step bx) (And.intro (R.out.2.2.1.step bx) (R.out.2.2.2.step bx)))); replace Q1 := hide (Q1.out.step bx); replace Q2 := hide (Q2.out.step bx); replace B := hide (Below.step B.out B.out.size bx); clear tx bx)
      | (go_at_call 106; refine Calls.mono (rqtimes_any (z := a2) (q := ((e1 : Nat) : Int)) (L := L) ?_ ?_ (by omega)) ?_; (focus ((with_reducible exact R.out.2.2.1); done)); (focus ((with_reducible exact R.out.2.1); done)); rintro e wx ⟨vy, rfl, tx, bx⟩; have X2 := hide tx; replace X1 := hide (X1.out.step bx); replace Q1 := hide (Q1.out.step bx); replace Q2 := hide (Q2.out.step bx); replace B := hide (Below.step B.out B.out.size bx); clear tx bx R)
      | (go_at_call 113; refine Calls.mono (qcmp_any (a := a1 * ((e2 : Nat) : Int)) (b := a2 * ((e1 : Nat) : Int)) (L := L + L) (M := L + L) (K := L + L) X1.out X2.out (by omega) (by omega) (by omega)) ?_; rintro e wx ⟨rfl, bx⟩; replace Q1 := hide (Q1.out.step bx); replace Q2 := hide (Q2.out.step bx); replace B := hide (Below.step B.out B.out.size bx); clear bx))
  all_goals
    clear Q1 Q2
    go_wp2_with fail
    go_ret
    exact ⟨rfl, B.out⟩

theorem sub_g {w : World} {a b : Value} {r1 r2 : Rat} {L : Nat} (ha : Ra w a r1 L) (hb : Ra w b r2 L) (h1 : 1 ≤ L) (hL : L ≤ 1000000000000) :
    Calls Tryz.prog 22 #[a, b] w (RgRet w (r1 - r2) (2 * L + 1)) :=
  (rsub_o ha hb h1 (by omega)).mono fun e w' h => h.rg (by omega)
theorem neg_g {w : World} {x : Rx} {r : Rat} {L : Nat} (ha : Ra w (rx x) r L) (h1 : 1 ≤ L) (hL : L ≤ 1000000000000) :
    Calls Tryz.prog 24 #[rx x] w (RgRet w (-r) L) := by
  obtain ⟨s, u, t, p, q, e, h2, h3, hr⟩ := id ha
  injection e with e
  have e3 := congrArg Array.toList e
  simp at e3
  obtain ⟨e4, e5, e6⟩ := e3
  have k := rneg_o (s := x.s) (x := p) (y := q) (show Nw w (.slice x.u.1 x.u.2.1 x.u.2.2) p L from by rw [← e5] at h2; exact h2) (show Nw w (.slice x.t.1 x.t.2.1 x.t.2.2) q L from by rw [← e6] at h3; exact h3) h1 (by omega)
  have hq : mkRat (-zi x.s p) (dn q) = -r := by
    rw [hr, e4]
    exact (Rat.neg_mkRat _ _).symm
  rw [hq] at k
  exact k.mono fun e w' h => h.rg h1
theorem rqsub_f {w : World} {a b : Value} {r1 r2 : Rat} {L : Nat} (ha : Rf w a r1 L) (hb : Rf w b r2 L) (h1 : 1 ≤ L) (hL : L ≤ 4000000000) :
    Calls Tryz.prog 28 #[a, b] w (RxRet w (r1 - r2) (L + L + 1)) :=
  (rqsub_any ha hb h1 (by omega)).mono fun e w' h => by
    obtain ⟨v, e1, h2, h3⟩ := h
    exact RfRet.to ⟨v, e1, h2, h3⟩ h2.sz
theorem rqneg_f {w : World} {a : Value} {r : Rat} {L : Nat} (ha : Rf w a r L) (hL : L ≤ 4000000000) :
    Calls Tryz.prog 30 #[a] w (RxRet w (-r) L) :=
  (rqneg_any ha (by omega)).mono fun e w' h => by
    obtain ⟨v, e1, h2, h3⟩ := h
    exact RfRet.to ⟨v, e1, h2, h3⟩ h2.sz
theorem rgreat_x {w : World} {a0 b0 : Rx} {r1 r2 : Rat} {L M : Nat} (ha : Ra w (rx a0) r1 L) (hb : Ra w (rx b0) r2 M) (hL : L ≤ 17592186044000) (hM : M ≤ 17592186044000) :
    Calls Tryz.prog 18 #[rx a0, rx b0] w fun e w' => e = .returned (.bool (decide (12 < a0.u.2.1 + a0.t.2.1 ∨ 12 < b0.u.2.1 + b0.t.2.1))) ∧ Below w.heap.size w w' := by
  have h1 := ha.words
  have h2 := hb.words
  exact rgreat_any (by omega) (by omega) (by omega) (by omega)
theorem Zf.raq {W : World} {x : Rx} {z : Zt} {L : Nat} {q : Rat} (h : Zf W x z L) (hq : x.r = q) : Ra W (rx x) q L := by rw [← hq]; exact h.ra
theorem Lw.bsetX {w : World} {v : Value} {xs : List Nat} {L g : Nat} (h : Lw w v xs L) (hz : Bn w g) (j : Nat) (u : Value) : Lw (w.setCell ⟨g, j, none⟩ u) v xs L := by
  obtain ⟨A, n, c, e, h1, h2⟩ := h
  exact ⟨A, n, c, e, by rw [World.size_setCell]; exact h1.bset hz j u, h2⟩
theorem Firm2.zf (x : Rx) (z : Zt) (L : Nat) : Firm2 (fun W => Zf W x z L) := ⟨fun _ _ h hb => h.step hb, fun _ _ j u h hn => ⟨h.1, h.2.1, h.2.2.1.bsetX hn j u, h.2.2.2.bsetX hn j u⟩⟩
theorem Firm2.rfq (x : Rx) (q : Rat) (L : Nat) : Firm2 (fun W => x.r = q ∧ Rf W (rx x) x.r L) := Firm2.and (F := fun _ => x.r = q) ⟨fun _ _ h _ => h, fun _ _ _ _ h _ => h⟩ (Firm2.rf _ _ _)
end Go.Proofs.YtajjpepjbflojaaGreat
