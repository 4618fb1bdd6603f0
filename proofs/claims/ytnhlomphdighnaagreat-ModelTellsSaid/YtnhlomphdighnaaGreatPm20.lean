
/-
 The document's constraint of a sum.
-/
import Derived.Test.YtnhlomphdighnaaGreatBundleU
import Derived.Test.YtnhlomphdighnaaGreatBundleI
import Derived.Test.YtnhlomphdighnaaGreatBundleQ


namespace Go.Proofs.YtnhlomphdighnaaGreat
open Go.RowKit Go.Proofs.YtnhlomphdighnaaGreat.Num
set_option linter.unusedVariables false
set_option linter.unusedSimpArgs false
set_option maxRecDepth 100000
set_option maxHeartbeats 4000000 in
theorem rcons_c {w : World} {s : Int} {v : Value} {d : List Tx} {x : Rx} {L : Nat} (hv : Tv w v d L) (hr : Ra w (rx x) x.r L) (hn : d.length ≤ 1000) (h1 : 1 ≤ L) (hL : L ≤ 100000) :
  Calls Tryz.prog 39 #[.int .i64 s, v, rx x] w (McRet w s d x.r (d.length * (5 * L + 1) + 6 + 5 * L)) := by
 obtain ⟨A0, n0, c0, rfl⟩ := rv_sl hv.1
 have b2 : Below w.heap.size w ((w.alloc (rbox x.s (sv x.u) (sv x.t))).alloc kblk).drew := (((Below.refl _ _).alloc (Nat.le_refl _) _).alloc (by simp) _).drew
 have Z := hide (show Kz ((w.alloc (rbox x.s (sv x.u) (sv x.t))).alloc kblk).drew (w.heap.size + 1) by
  have h := Kz.new (w.alloc (rbox x.s (sv x.u) (sv x.t)))
  have h2 : Kz ((w.alloc (rbox x.s (sv x.u) (sv x.t))).alloc kblk) (w.heap.size + 1) := by simpa using h
  exact h2)
 have P := hide (show Bq ((w.alloc (rbox x.s (sv x.u) (sv x.t))).alloc kblk).drew w.heap.size x.s (sv x.u) (sv x.t) from
  ((Bq.new w _ _ _).step ((Below.refl _ _).alloc (Nat.le_refl _) kblk)).step (Below.refl _ _).drew)
 have HV := hide (hv.step b2)
 have HR := hide (hr.step b2)
 have B := hide b2
 have HN := hide hn
 have hg0 : w.heap.size ≠ w.heap.size + 1 := by omega
 clear hv hr b2 hn
 go_enter Tryz.func39, Tryz.ntmps39
 go_wp2_with fail
 generalize hW0 : ((w.alloc (rbox x.s (sv x.u) (sv x.t))).alloc kblk) = W0 at *
 go_region_held3 (fun W => W.cell? ⟨w.heap.size, 0, none⟩ = some (.bool x.s) ∧ W.cell? ⟨w.heap.size, 1, none⟩ = some (sv x.u) ∧ W.cell? ⟨w.heap.size, 2, none⟩ = some (sv x.t))
  (first | with_reducible exact P.out.three | with_reducible exact (P.out.oth5 hg0 _ _ _ _ _).three)
  (first
   | (go_at_call 42; refine Calls.mono (vmake_fl (L := L) HV.out HN.out h1 hL) ?_; rintro e wx ⟨v1, d1, rfl, t1, f1, g1, l1, bx⟩; obtain ⟨A5, n5, c5, rfl⟩ := rv_sl t1.tv.1; have T1 := hide (t1.mono (B' := w.heap.size) B.out.size); have F1 := hide f1; have G1 := hide g1; have N1 := hide l1; replace P := hide (P.out.step bx); replace HR := hide (HR.out.step bx); replace Z := hide (Z.out.step bx); replace B := hide (Below.step B.out B.out.size bx); clear t1 f1 g1 l1 bx)
   | (go_at_call 38; refine Calls.mono (rof_f (L := L) HR.out h1 (by omega)) ?_; rintro e wx ⟨q, rfl, hq, rq, bx⟩; have HQ := hide hq; have RQ := hide rq; replace T1 := hide (T1.out.step bx); replace P := hide (P.out.step bx); replace Z := hide (Z.out.step bx); replace B := hide (Below.step B.out B.out.size bx); clear hq rq bx)
   | (go_at_call 40; refine Calls.mono (rfto_g RQ.out (by omega)) ?_; rintro e wx ⟨y, rfl, e3, r3, bx⟩; replace P := hide (P.out.step bx); obtain ⟨⟨k0, k1, k2, k3, k4⟩, ⟨f0, f1, f2, f3, f4⟩, fin⟩ := kg_put (w0 := w) (k := ⟨s, (A5, n5, c5), d1, y⟩) (L := d.length * (5 * L + 1) + 6 + 5 * L) ⟨(T1.out.step bx).more (by omega), (r3.mono (B' := w.heap.size) B.out.size).more (by omega), F1.out⟩ (Z.out.step bx) (by omega) (Below.step B.out B.out.size bx); dsimp only at fin; have E3 := hide (show y.r = x.r by rw [e3, HQ.out]); clear e3))
 all_goals
  have F9 := hide fin
  clear fin
  go_wp2_with fail
  exact bodyPost_ret (kret rfl _ _ _ #[.int .i64 s, .slice A5 n5 c5, .bool y.s, sv y.u, sv y.t] rfl rfl F9.out.1) rfl ⟨⟨s, (A5, n5, c5), d1, y⟩, rfl, F9.out.2.1, rfl, G1.out, E3.out, N1.out, F9.out.2.2⟩
end Go.Proofs.YtnhlomphdighnaaGreat
