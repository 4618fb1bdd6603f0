
/-
 The walk of ConsRounds: true.
-/
import Derived.Test.YtfnngcaalpknlaaGreatBundleN
import Derived.Test.YtfnngcaalpknlaaGreatBundleQ
import Derived.Test.YtfnngcaalpknlaaGreatBundleG
import Derived.Test.YtfnngcaalpknlaaGreatKdrw
import Derived.ChangeSlices
import Derived.Deep.DeepCutAuto


namespace Go.Proofs.YtfnngcaalpknlaaGreat
open Go.ChangeShapes Go.WideShapes Go.ChangeAt Go.RowKit Go.Joins Go.Deep Go.Proofs.YtfnngcaalpknlaaGreat.Num
set_option linter.unusedVariables false
set_option linter.unusedSimpArgs false
set_option maxRecDepth 100000
set_option maxHeartbeats 16000000 in
theorem rounds_go (w : World) (a : Kx) (v : Value) (fl : List Bool) (u : Value) (f : List Rx) (ha : Kv w a 17592186043904) (hv : Lr eb1 1 w v fl ∧ fl.length ≤ 140737488351232) (hu : Fv w u f 17592186043904) :
  Calls Tryz.prog 5 #[kx a, v, u] w fun e w' => e = .returned (.bool true) ∧ Below w.heap.size w w' := by
 obtain ⟨hv, hnv⟩ := hv
 have NV := hide hnv
 obtain ⟨A1, n1, c1, rfl⟩ := rv_sl hv
 obtain ⟨A2, n2, c2, rfl⟩ := rv_sl hu.1
 have b2 := alloc_new_below w (kbox a)
 have PA := hide (Kq.new w a)
 have HA := hide (ha.step b2)
 have HV := hide (hv.step b2)
 have HU := hide (hu.step b2)
 have B := hide b2
 clear ha hv hu b2 hnv
 go_enter Tryz.func5, Tryz.ntmps5
 go_wp2_with fail
 generalize (w.alloc (kbox a)) = w0 at *
 refine (kspeaks_true _).mono ?_
 rintro e wx ⟨rfl, bx⟩
 replace PA := hide (PA.out.step bx)
 replace HA := hide (HA.out.step bx)
 replace HV := hide (HV.out.step bx)
 replace HU := hide (HU.out.step bx)
 replace B := hide (Below.step B.out B.out.size bx)
 clear bx
 obtain ⟨p0, p1, p2, p3, p4⟩ := PA.out.all
 have bx := alloc_below wx (.cells #[.int .i64 a.s, sv a.v, .bool a.x.s, sv a.x.u, sv a.x.t] 54)
 have KL := hide (show Kl (wx.alloc (.cells #[.int .i64 a.s, sv a.v, .bool a.x.s, sv a.x.u, sv a.x.t] 54)) (.slice (some ⟨wx.heap.size, 0, none⟩) 1 1) [a] 17592186043904 from
  ⟨(Ow.lit (B := wx.heap.size) ek_len wx 54 [a] #[.int .i64 a.s, sv a.v, .bool a.x.s, sv a.x.u, sv a.x.t] rfl (Nat.le_refl _) (by simp [maxLen])).rl ek_len, fun k hk => by
   simp at hk
   subst hk
   exact HA.out.step bx⟩)
 replace PA := hide (PA.out.step bx)
 replace HA := hide (HA.out.step bx)
 replace HV := hide (HV.out.step bx)
 replace HU := hide (HU.out.step bx)
 replace B := hide (Below.step B.out B.out.size bx)
 clear bx
 go_wp2_with fail
 clear p0 p1 p2 p3 p4
 generalize (wx.alloc (.cells #[.int .i64 a.s, sv a.v, .bool a.x.s, sv a.x.u, sv a.x.t] 54)) = w2 at *
 generalize wx.heap.size = gl at *
 refine (kgreat_c KL.out (by omega)).mono ?_
 rintro e w3 ⟨bx, o, rfl, ho⟩
 have HO := hide ho
 replace PA := hide (PA.out.step bx)
 replace HA := hide (HA.out.step bx)
 replace HV := hide (HV.out.step bx)
 replace HU := hide (HU.out.step bx)
 replace B := hide (Below.step B.out B.out.size bx)
 clear ho bx KL
 cases o
 case true =>
  go_wp2_with fail
  go_ret
  exact ⟨rfl, B.out⟩
 have OA := hide ((HO.out rfl).2 a (by simp))
 replace HA := hide (HA.out.tight OA.out)
 clear HO
 go_wp2_with fail
 refine (greatall_c HU.out (by omega)).mono ?_
 rintro e w4 ⟨bx, o, rfl, ho⟩
 have HO := hide ho
 replace PA := hide (PA.out.step bx)
 replace HA := hide (HA.out.step bx)
 replace HV := hide (HV.out.step bx)
 replace HU := hide (HU.out.step bx)
 replace B := hide (Below.step B.out B.out.size bx)
 clear ho bx
 cases o
 case true =>
  go_wp2_with fail
  go_ret
  exact ⟨rfl, B.out⟩
 have OU := hide (HO.out rfl)
 replace HU := hide (HU.out.tight OU.out.2)
 clear HO
 obtain ⟨zs, z, hw⟩ := kw_of HA.out
 have WA := hide hw
 clear hw
 obtain ⟨p0, p1, p2, p3, p4⟩ := PA.out.all
 go_wp2_with fail
 refine (kcopy_w WA.out (by have := OA.out.1; omega) (by omega)).mono ?_
 rintro e w5 ⟨q, rfl, hq, kq, bx⟩
 have QS := hide hq
 have KQ := hide kq.kw
 replace PA := hide (PA.out.step bx)
 replace HA := hide (HA.out.step bx)
 replace HV := hide (HV.out.step bx)
 replace HU := hide (HU.out.step bx)
 replace WA := hide (WA.out.step bx)
 replace B := hide (Below.step B.out B.out.size bx)
 clear hq kq bx p0 p1 p2 p3 p4
 have PQ := hide (Kq.new w5 q)
 have bx := alloc_new_below w5 (kbox q)
 replace PA := hide (PA.out.step bx)
 replace HA := hide (HA.out.step bx)
 replace HV := hide (HV.out.step bx)
 replace HU := hide (HU.out.step bx)
 replace WA := hide (WA.out.step bx)
 replace KQ := hide (KQ.out.step bx)
 replace B := hide (Below.step B.out B.out.size bx)
 clear bx
 obtain ⟨q0, q1, q2, q3, q4⟩ := PQ.out.all
 go_wp2_with fail
 clear q0 q1 q2 q3 q4
 generalize (w5.alloc (kbox q)) = w6 at *
 generalize w5.heap.size = gq at *
 have PA6 := PA
 have WA6 := WA
 have PQ6 := PQ
 have KQ6 := KQ
 have B6 := B
 have QD := hide (show q.d.length ≤ 30 by
  have h := WA.out.1.2.1
  have h2 := KQ.out.1.2.1
  have h3 := OA.out.1
  omega)
 refine (kform_g KQ.out.kv (by have := QD.out; omega) (by omega) (by omega)).mono ?_
 rintro e w7 ⟨fo, rfl, fg, fs, fa, fr, fn, bx⟩
 have FG := hide fg
 have FS := hide fs
 have FA := hide fa
 have FR := hide fr
 have FN := hide fn
 have BF := hide bx
 replace PA := hide (PA.out.step bx)
 replace HA := hide (HA.out.step bx)
 replace HV := hide (HV.out.step bx)
 replace HU := hide (HU.out.step bx)
 replace WA := hide (WA.out.step bx)
 replace KQ := hide (KQ.out.step bx)
 replace PQ := hide (PQ.out.step bx)
 replace B := hide (Below.step B.out B.out.size bx)
 clear fg fs fa fr fn bx
 have PF := hide (Kq.new w7 fo)
 have bx := alloc_new_below w7 (kbox fo)
 replace PA := hide (PA.out.step bx)
 replace HA := hide (HA.out.step bx)
 replace HV := hide (HV.out.step bx)
 replace HU := hide (HU.out.step bx)
 replace WA := hide (WA.out.step bx)
 replace KQ := hide (KQ.out.step bx)
 replace PQ := hide (PQ.out.step bx)
 replace FG := hide (FG.out.step bx)
 replace B := hide (Below.step B.out B.out.size bx)
 replace BF := hide (Below.step BF.out BF.out.size bx)
 clear bx
 go_wp2_with fail
 generalize (w7.alloc (kbox fo)) = w8 at *
 generalize w7.heap.size = gf at *
 have FG8 := FG
 go_cut [9, 10] (fun s9 s10 wx => RdTwo w8 q fl (q.d.length * (6 + 1) + 1 + 6 + 1) s9 s10 wx)
 case first =>
  obtain ⟨i, hi, hz0, hz1, hz2⟩ := info_parts info_bl
  have B8 := hide (Below.refl w8.heap.size w8).drew
  refine wp_region_held_drew (S := fun W => W.cell? ⟨gq, 0, none⟩ = some (.int .i64 q.s) ∧ W.cell? ⟨gq, 1, none⟩ = some (sv q.v) ∧ W.cell? ⟨gq, 2, none⟩ = some (.bool q.x.s) ∧ W.cell? ⟨gq, 3, none⟩ = some (sv q.x.u) ∧ W.cell? ⟨gq, 4, none⟩ = some (sv q.x.t)) (by kernel_rfl) ?_ (fun hHeld => ?_)
  ·try dsimp only
   exact (PQ.out.step (Below.refl w8.heap.size w8).drew).all
  generalize w8.drew = V0 at *
  refine tk 0 (v := ?_) hHeld ?_ ?_; rotate_left; (focus (intro w hSw; (try dsimp only at hSw); go_simp; (try with_reducible rfl)))
  refine tp 2 hHeld ?_
  try simp only [Act.put, s1, s2, s3, s4, s5, s6]
  refine r2 1 8 (fun K hK => ?_) (fun K hK => ?_)
  ·go_simp; have FO := hide (Ow.lit (enc := eb1) (k := 1) (B := w8.heap.size) eb1_len V0 4 [] #[] rfl B8.out.size (by simp [maxLen])); have bx := alloc_new_below V0 (.cells #[] 4); replace B8 := hide (Below.step B8.out B8.out.size bx); clear bx; generalize (V0.alloc (.cells #[] 4)) = V1 at *; generalize V0.heap.size = gb at *; (try dsimp only); refine hK.out _ _ ?_ (fun hHeld => ?_); (focus ((try dsimp only); exact (PQ.out.step B8.out).all)); clear hK K
   try simp only [Act.put, s1, s2, s3, s4, s5, s6]
   refine r2 3 8 (fun K hK => ?_) (fun K hK => ?_)
   ·refine step_joinN rfl (.tmp 28) (.tmp 29) 66 rfl Tryz.underlying66 hi hz0 hz1 hz2 rfl (by omega) eb1_len eb1_one V1 w8.heap.size _ _ [] fl (HV.out.step B8.out) FO.out rfl rfl (by have := NV.out; simp; omega) (by decide) B8.out.size ?_; intro v9 V2 ho hg; have B9 := hide (below_own B8.out FO.out hg B8.out.size); replace B8 := B9; clear B9; replace FO := hide (show Ow 4 eb1 1 V2 w8.heap.size v9 fl from ho); obtain ⟨A9, n9, c9, rfl⟩ := rv_sl (FO.out.rl eb1_len); clear ho hg; (try dsimp only); refine hK.out _ _ ?_ (fun hHeld => ?_); (focus ((try dsimp only); exact (PQ.out.step B8.out).all)); clear hK K
    try simp only [Act.put, s1, s2, s3, s4, s5, s6]
    refine r2 4 8 (fun K hK => ?_) (fun K hK => ?_)
    ·go_simp; go_at_call 35; refine Calls.mono (kround_g (fl := fl) (KQ.out.step B8.out).kv (FO.out.rl eb1_len) (by have := QD.out; omega) (by omega) (by omega)) ?_; rintro e V3 hret; obtain ⟨r, n, rfl, ho, bx⟩ := hret.one; have RO := hide ho; have lb := B8.out.size; replace B8 := hide (Below.step B8.out B8.out.size bx); clear ho bx hret FO; generalize V2.heap.size = bs at *; (try dsimp only); refine hK.out _ _ ?_ (fun hHeld => ?_); (focus ((try dsimp only); exact (PQ.out.step B8.out).all)); clear hK K
     refine tp 5 hHeld ?_
     try simp only [Act.put, s1, s2, s3, s4, s5, s6]
     refine tp 6 hHeld ?_
     refine tp 7 hHeld ?_
     try simp only [Act.put, s1, s2, s3, s4, s5, s6]
     refine r1 8 (fun K hK => ?_)
     go_simp; have Z := hide (Kz.new V3); have bx := alloc_new_below V3 kblk; have lg := B8.out.size; replace RO := hide (RO.out.step bx); replace B8 := hide (Below.step B8.out B8.out.size bx); clear bx; generalize (V3.alloc kblk) = V4 at *; generalize V3.heap.size = g9 at *; (try dsimp only); refine hK.out _ _ ?_ (fun hHeld => ?_); (focus ((try dsimp only); exact (PQ.out.step B8.out).all)); clear hK K
     try simp only [Act.put, s1, s2, s3, s4, s5, s6]
     refine r1 9 (fun K hK => ?_)
     obtain ⟨z0, z1, z2, z3, z4⟩ := Z.out.all; have y0 := Z.out.fz 0; have y1 := Z.out.fz 1; have y2 := Z.out.fz 2; have y3 := Z.out.fz 3; have y4 := Z.out.fz 4; go_simp; have PR := hide (show Kq (((((V4.setCell ⟨g9, 0, none⟩ (.int .i64 r.s)).setCell ⟨g9, 1, none⟩ (sv r.v)).setCell ⟨g9, 2, none⟩ (.bool r.x.s)).setCell ⟨g9, 3, none⟩ (sv r.x.u)).setCell ⟨g9, 4, none⟩ (sv r.x.t)) g9 r from put5_heap Z.out rfl _ _ _ _ _); replace RO := hide (RO.out.grownK (only_put5 V4 g9 (.int .i64 r.s) (sv r.v) (.bool r.x.s) (sv r.x.u) (sv r.x.t)) Z.out.kb); replace B8 := hide (below_put5 B8.out lg (.int .i64 r.s) (sv r.v) (.bool r.x.s) (sv r.x.u) (sv r.x.t)); clear z0 z1 z2 z3 z4 y0 y1 y2 y3 y4 Z; generalize (((((V4.setCell ⟨g9, 0, none⟩ (.int .i64 r.s)).setCell ⟨g9, 1, none⟩ (sv r.v)).setCell ⟨g9, 2, none⟩ (.bool r.x.s)).setCell ⟨g9, 3, none⟩ (sv r.x.u)).setCell ⟨g9, 4, none⟩ (sv r.x.t)) = V5 at *; (try dsimp only); refine hK.out _ _ ?_ (fun hHeld => ?_); (focus ((try dsimp only); exact (PQ.out.step B8.out).all)); clear hK K
     refine tp 10 hHeld ?_
     try simp only [Act.put, s1, s2, s3, s4, s5, s6]
     refine wpAnyH_done (by kernel_rfl) ?_ _; go_wp2_with fail; go_meet; exact ⟨g9, r, n, bs, rfl, rfl, lg, lb, PR.out, RO.out, B8.out⟩
    ·go_simp; have Z := hide (Kz.new V2); have bx := alloc_new_below V2 kblk; have lg := B8.out.size; replace FO := hide (FO.out.step bx); replace B8 := hide (Below.step B8.out B8.out.size bx); clear bx; generalize (V2.alloc kblk) = V3 at *; generalize V2.heap.size = g9 at *; (try dsimp only); refine hK.out _ _ ?_ (fun hHeld => ?_); (focus ((try dsimp only); exact (PQ.out.step B8.out).all)); clear hK K
     try simp only [Act.put, s1, s2, s3, s4, s5, s6]
     refine r1 4 (fun K hK => ?_)
     go_simp; go_at_call 35; refine Calls.mono (kround_g (fl := fl) (KQ.out.step B8.out).kv (FO.out.rl eb1_len) (by have := QD.out; omega) (by omega) (by omega)) ?_; rintro e V4 hret; obtain ⟨r, n, rfl, ho, bx⟩ := hret.one; have RO := hide ho; have lb := B8.out.size; replace Z := hide (Z.out.step bx); replace B8 := hide (Below.step B8.out B8.out.size bx); clear ho bx hret FO; generalize V3.heap.size = bs at *; (try dsimp only); refine hK.out _ _ ?_ (fun hHeld => ?_); (focus ((try dsimp only); exact (PQ.out.step B8.out).all)); clear hK K
     refine tp 5 hHeld ?_
     try simp only [Act.put, s1, s2, s3, s4, s5, s6]
     refine tp 6 hHeld ?_
     refine tp 7 hHeld ?_
     try simp only [Act.put, s1, s2, s3, s4, s5, s6]
     refine r1 9 (fun K hK => ?_)
     obtain ⟨z0, z1, z2, z3, z4⟩ := Z.out.all; have y0 := Z.out.fz 0; have y1 := Z.out.fz 1; have y2 := Z.out.fz 2; have y3 := Z.out.fz 3; have y4 := Z.out.fz 4; go_simp; have PR := hide (show Kq (((((V4.setCell ⟨g9, 0, none⟩ (.int .i64 r.s)).setCell ⟨g9, 1, none⟩ (sv r.v)).setCell ⟨g9, 2, none⟩ (.bool r.x.s)).setCell ⟨g9, 3, none⟩ (sv r.x.u)).setCell ⟨g9, 4, none⟩ (sv r.x.t)) g9 r from put5_heap Z.out rfl _ _ _ _ _); replace RO := hide (RO.out.grownK (only_put5 V4 g9 (.int .i64 r.s) (sv r.v) (.bool r.x.s) (sv r.x.u) (sv r.x.t)) Z.out.kb); replace B8 := hide (below_put5 B8.out lg (.int .i64 r.s) (sv r.v) (.bool r.x.s) (sv r.x.u) (sv r.x.t)); clear z0 z1 z2 z3 z4 y0 y1 y2 y3 y4 Z; generalize (((((V4.setCell ⟨g9, 0, none⟩ (.int .i64 r.s)).setCell ⟨g9, 1, none⟩ (sv r.v)).setCell ⟨g9, 2, none⟩ (.bool r.x.s)).setCell ⟨g9, 3, none⟩ (sv r.x.u)).setCell ⟨g9, 4, none⟩ (sv r.x.t)) = V5 at *; (try dsimp only); refine hK.out _ _ ?_ (fun hHeld => ?_); (focus ((try dsimp only); exact (PQ.out.step B8.out).all)); clear hK K
     refine tp 10 hHeld ?_
     try simp only [Act.put, s1, s2, s3, s4, s5, s6]
     refine wpAnyH_done (by kernel_rfl) ?_ _; go_wp2_with fail; go_meet; exact ⟨g9, r, n, bs, rfl, rfl, lg, lb, PR.out, RO.out, B8.out⟩
   ·go_simp; have Z := hide (Kz.new V1); have bx := alloc_new_below V1 kblk; have lg := B8.out.size; replace FO := hide (FO.out.step bx); replace B8 := hide (Below.step B8.out B8.out.size bx); clear bx; generalize (V1.alloc kblk) = V2 at *; generalize V1.heap.size = g9 at *; (try dsimp only); refine hK.out _ _ ?_ (fun hHeld => ?_); (focus ((try dsimp only); exact (PQ.out.step B8.out).all)); clear hK K
    try simp only [Act.put, s1, s2, s3, s4, s5, s6]
    refine r1 3 (fun K hK => ?_)
    refine step_joinN rfl (.tmp 28) (.tmp 29) 66 rfl Tryz.underlying66 hi hz0 hz1 hz2 rfl (by omega) eb1_len eb1_one V2 w8.heap.size _ _ [] fl (HV.out.step B8.out) FO.out rfl rfl (by have := NV.out; simp; omega) (by decide) B8.out.size ?_; intro v9 V3 ho hg; replace Z := hide (Z.out.offB FO.out hg); have B9 := hide (below_own B8.out FO.out hg B8.out.size); replace B8 := B9; clear B9; replace FO := hide (show Ow 4 eb1 1 V3 w8.heap.size v9 fl from ho); obtain ⟨A9, n9, c9, rfl⟩ := rv_sl (FO.out.rl eb1_len); clear ho hg; (try dsimp only); refine hK.out _ _ ?_ (fun hHeld => ?_); (focus ((try dsimp only); exact (PQ.out.step B8.out).all)); clear hK K
    try simp only [Act.put, s1, s2, s3, s4, s5, s6]
    refine r1 4 (fun K hK => ?_)
    go_simp; go_at_call 35; refine Calls.mono (kround_g (fl := fl) (KQ.out.step B8.out).kv (FO.out.rl eb1_len) (by have := QD.out; omega) (by omega) (by omega)) ?_; rintro e V4 hret; obtain ⟨r, n, rfl, ho, bx⟩ := hret.one; have RO := hide ho; have lb := B8.out.size; replace Z := hide (Z.out.step bx); replace B8 := hide (Below.step B8.out B8.out.size bx); clear ho bx hret FO; generalize V3.heap.size = bs at *; (try dsimp only); refine hK.out _ _ ?_ (fun hHeld => ?_); (focus ((try dsimp only); exact (PQ.out.step B8.out).all)); clear hK K
    refine tp 5 hHeld ?_
    try simp only [Act.put, s1, s2, s3, s4, s5, s6]
    refine tp 6 hHeld ?_
    refine tp 7 hHeld ?_
    try simp only [Act.put, s1, s2, s3, s4, s5, s6]
    refine r1 9 (fun K hK => ?_)
    obtain ⟨z0, z1, z2, z3, z4⟩ := Z.out.all; have y0 := Z.out.fz 0; have y1 := Z.out.fz 1; have y2 := Z.out.fz 2; have y3 := Z.out.fz 3; have y4 := Z.out.fz 4; go_simp; have PR := hide (show Kq (((((V4.setCell ⟨g9, 0, none⟩ (.int .i64 r.s)).setCell ⟨g9, 1, none⟩ (sv r.v)).setCell ⟨g9, 2, none⟩ (.bool r.x.s)).setCell ⟨g9, 3, none⟩ (sv r.x.u)).setCell ⟨g9, 4, none⟩ (sv r.x.t)) g9 r from put5_heap Z.out rfl _ _ _ _ _); replace RO := hide (RO.out.grownK (only_put5 V4 g9 (.int .i64 r.s) (sv r.v) (.bool r.x.s) (sv r.x.u) (sv r.x.t)) Z.out.kb); replace B8 := hide (below_put5 B8.out lg (.int .i64 r.s) (sv r.v) (.bool r.x.s) (sv r.x.u) (sv r.x.t)); clear z0 z1 z2 z3 z4 y0 y1 y2 y3 y4 Z; generalize (((((V4.setCell ⟨g9, 0, none⟩ (.int .i64 r.s)).setCell ⟨g9, 1, none⟩ (sv r.v)).setCell ⟨g9, 2, none⟩ (.bool r.x.s)).setCell ⟨g9, 3, none⟩ (sv r.x.u)).setCell ⟨g9, 4, none⟩ (sv r.x.t)) = V5 at *; (try dsimp only); refine hK.out _ _ ?_ (fun hHeld => ?_); (focus ((try dsimp only); exact (PQ.out.step B8.out).all)); clear hK K
    refine tp 10 hHeld ?_
    try simp only [Act.put, s1, s2, s3, s4, s5, s6]
    refine wpAnyH_done (by kernel_rfl) ?_ _; go_wp2_with fail; go_meet; exact ⟨g9, r, n, bs, rfl, rfl, lg, lb, PR.out, RO.out, B8.out⟩
  ·go_simp; have Z := hide (Kz.new V0); have bx := alloc_new_below V0 kblk; have lg := B8.out.size; replace B8 := hide (Below.step B8.out B8.out.size bx); clear bx; generalize (V0.alloc kblk) = V1 at *; generalize V0.heap.size = g9 at *; (try dsimp only); refine hK.out _ _ ?_ (fun hHeld => ?_); (focus ((try dsimp only); exact (PQ.out.step B8.out).all)); clear hK K
   try simp only [Act.put, s1, s2, s3, s4, s5, s6]
   refine r1 1 (fun K hK => ?_)
   go_simp; have FO := hide (Ow.lit (enc := eb1) (k := 1) (B := w8.heap.size) eb1_len V1 4 [] #[] rfl B8.out.size (by simp [maxLen])); have bx := alloc_new_below V1 (.cells #[] 4); replace Z := hide (Z.out.step bx); replace B8 := hide (Below.step B8.out B8.out.size bx); clear bx; generalize (V1.alloc (.cells #[] 4)) = V2 at *; generalize V1.heap.size = gb at *; (try dsimp only); refine hK.out _ _ ?_ (fun hHeld => ?_); (focus ((try dsimp only); exact (PQ.out.step B8.out).all)); clear hK K
   try simp only [Act.put, s1, s2, s3, s4, s5, s6]
   refine r1 3 (fun K hK => ?_)
   refine step_joinN rfl (.tmp 28) (.tmp 29) 66 rfl Tryz.underlying66 hi hz0 hz1 hz2 rfl (by omega) eb1_len eb1_one V2 w8.heap.size _ _ [] fl (HV.out.step B8.out) FO.out rfl rfl (by have := NV.out; simp; omega) (by decide) B8.out.size ?_; intro v9 V3 ho hg; replace Z := hide (Z.out.offB FO.out hg); have B9 := hide (below_own B8.out FO.out hg B8.out.size); replace B8 := B9; clear B9; replace FO := hide (show Ow 4 eb1 1 V3 w8.heap.size v9 fl from ho); obtain ⟨A9, n9, c9, rfl⟩ := rv_sl (FO.out.rl eb1_len); clear ho hg; (try dsimp only); refine hK.out _ _ ?_ (fun hHeld => ?_); (focus ((try dsimp only); exact (PQ.out.step B8.out).all)); clear hK K
   try simp only [Act.put, s1, s2, s3, s4, s5, s6]
   refine r1 4 (fun K hK => ?_)
   go_simp; go_at_call 35; refine Calls.mono (kround_g (fl := fl) (KQ.out.step B8.out).kv (FO.out.rl eb1_len) (by have := QD.out; omega) (by omega) (by omega)) ?_; rintro e V4 hret; obtain ⟨r, n, rfl, ho, bx⟩ := hret.one; have RO := hide ho; have lb := B8.out.size; replace Z := hide (Z.out.step bx); replace B8 := hide (Below.step B8.out B8.out.size bx); clear ho bx hret FO; generalize V3.heap.size = bs at *; (try dsimp only); refine hK.out _ _ ?_ (fun hHeld => ?_); (focus ((try dsimp only); exact (PQ.out.step B8.out).all)); clear hK K
   refine tp 5 hHeld ?_
   try simp only [Act.put, s1, s2, s3, s4, s5, s6]
   refine tp 6 hHeld ?_
   refine tp 7 hHeld ?_
   try simp only [Act.put, s1, s2, s3, s4, s5, s6]
   refine r1 9 (fun K hK => ?_)
   obtain ⟨z0, z1, z2, z3, z4⟩ := Z.out.all; have y0 := Z.out.fz 0; have y1 := Z.out.fz 1; have y2 := Z.out.fz 2; have y3 := Z.out.fz 3; have y4 := Z.out.fz 4; go_simp; have PR := hide (show Kq (((((V4.setCell ⟨g9, 0, none⟩ (.int .i64 r.s)).setCell ⟨g9, 1, none⟩ (sv r.v)).setCell ⟨g9, 2, none⟩ (.bool r.x.s)).setCell ⟨g9, 3, none⟩ (sv r.x.u)).setCell ⟨g9, 4, none⟩ (sv r.x.t)) g9 r from put5_heap Z.out rfl _ _ _ _ _); replace RO := hide (RO.out.grownK (only_put5 V4 g9 (.int .i64 r.s) (sv r.v) (.bool r.x.s) (sv r.x.u) (sv r.x.t)) Z.out.kb); replace B8 := hide (below_put5 B8.out lg (.int .i64 r.s) (sv r.v) (.bool r.x.s) (sv r.x.u) (sv r.x.t)); clear z0 z1 z2 z3 z4 y0 y1 y2 y3 y4 Z; generalize (((((V4.setCell ⟨g9, 0, none⟩ (.int .i64 r.s)).setCell ⟨g9, 1, none⟩ (sv r.v)).setCell ⟨g9, 2, none⟩ (.bool r.x.s)).setCell ⟨g9, 3, none⟩ (sv r.x.u)).setCell ⟨g9, 4, none⟩ (sv r.x.t)) = V5 at *; (try dsimp only); refine hK.out _ _ ?_ (fun hHeld => ?_); (focus ((try dsimp only); exact (PQ.out.step B8.out).all)); clear hK K
   refine tp 10 hHeld ?_
   try simp only [Act.put, s1, s2, s3, s4, s5, s6]
   refine wpAnyH_done (by kernel_rfl) ?_ _; go_wp2_with fail; go_meet; exact ⟨g9, r, n, bs, rfl, rfl, lg, lb, PR.out, RO.out, B8.out⟩
 case rest =>
  obtain ⟨gr, r, n, bs, rfl, rfl, lg, lb, pr, ro, bx⟩ := hcut
  have PR := hide pr
  have RO := hide ro
  have LB6 := hide (Nat.le_trans BF.out.size lb)
  have BSL := hide lb
  clear pr ro
  replace PA := hide (PA.out.step bx)
  replace HA := hide (HA.out.step bx)
  replace HV := hide (HV.out.step bx)
  replace HU := hide (HU.out.step bx)
  replace WA := hide (WA.out.step bx)
  replace KQ := hide (KQ.out.step bx)
  replace PQ := hide (PQ.out.step bx)
  replace PF := hide (PF.out.step bx)
  replace FG := hide (FG.out.step bx)
  replace B := hide (Below.step B.out B.out.size bx)
  replace BF := hide (Below.step BF.out BF.out.size bx)
  clear bx
  obtain ⟨p0, p1, p2, p3, p4⟩ := PA.out.all
  go_wp2_with fail
  refine (rround_f (fl := fl) HA.out HV.out (by have := OA.out.1; omega) (by omega) (by omega)).mono ?_
  rintro e w9 hret
  obtain ⟨r2, m2, rfl, ho, bx⟩ := hret.one
  have RW := hide ho
  clear ho hret p0 p1 p2 p3 p4
  replace PA := hide (PA.out.step bx)
  replace HA := hide (HA.out.step bx)
  replace HV := hide (HV.out.step bx)
  replace HU := hide (HU.out.step bx)
  replace WA := hide (WA.out.step bx)
  replace KQ := hide (KQ.out.step bx)
  replace PQ := hide (PQ.out.step bx)
  replace PF := hide (PF.out.step bx)
  replace FG := hide (FG.out.step bx)
  replace PR := hide (PR.out.step bx)
  replace RO := hide (RO.out.step bx)
  replace B := hide (Below.step B.out B.out.size bx)
  replace BF := hide (Below.step BF.out BF.out.size bx)
  clear bx
  obtain ⟨et, ex, el⟩ := Kx.eqs WA.out KQ.out
  have ET := hide et
  have EX := hide ex
  obtain rfl : n = m2 := RO.out.two RW.out QS.out et ex
  clear et ex el
  have PW := hide (Kq.new w9 r2)
  have bx := alloc_new_below w9 (kbox r2)
  replace PA := hide (PA.out.step bx)
  replace HA := hide (HA.out.step bx)
  replace HV := hide (HV.out.step bx)
  replace HU := hide (HU.out.step bx)
  replace WA := hide (WA.out.step bx)
  replace KQ := hide (KQ.out.step bx)
  replace PQ := hide (PQ.out.step bx)
  replace PF := hide (PF.out.step bx)
  replace FG := hide (FG.out.step bx)
  replace PR := hide (PR.out.step bx)
  replace RO := hide (RO.out.step bx)
  replace RW := hide (RW.out.step bx)
  replace B := hide (Below.step B.out B.out.size bx)
  replace BF := hide (Below.step BF.out BF.out.size bx)
  clear bx
  go_wp2_with fail
  generalize (w9.alloc (kbox r2)) = w10 at *
  generalize w9.heap.size = gw at *
  have hnn : (n != n) = false := by simp
  obtain ⟨us, hus⟩ := fl_of HU.out
  have UA := hide hus
  clear hus
  have bx := (Below.refl w10.heap.size w10).drew
  replace PA := hide (PA.out.step bx)
  replace HA := hide (HA.out.step bx)
  replace HV := hide (HV.out.step bx)
  replace HU := hide (HU.out.step bx)
  replace WA := hide (WA.out.step bx)
  replace KQ := hide (KQ.out.step bx)
  replace PQ := hide (PQ.out.step bx)
  replace PF := hide (PF.out.step bx)
  replace FG := hide (FG.out.step bx)
  replace PR := hide (PR.out.step bx)
  replace RO := hide (RO.out.step bx)
  replace RW := hide (RW.out.step bx)
  replace PW := hide (PW.out.step bx)
  replace UA := hide (UA.out.step bx)
  replace B := hide (Below.step B.out B.out.size bx)
  replace BF := hide (Below.step BF.out BF.out.size bx)
  clear bx
  go_region_held3 (fun W => (W.cell? ⟨w.heap.size, 0, none⟩ = some (.int .i64 a.s) ∧ W.cell? ⟨w.heap.size, 1, none⟩ = some (sv a.v) ∧ W.cell? ⟨w.heap.size, 2, none⟩ = some (.bool a.x.s) ∧ W.cell? ⟨w.heap.size, 3, none⟩ = some (sv a.x.u) ∧ W.cell? ⟨w.heap.size, 4, none⟩ = some (sv a.x.t)) ∧ (W.cell? ⟨gq, 0, none⟩ = some (.int .i64 q.s) ∧ W.cell? ⟨gq, 1, none⟩ = some (sv q.v) ∧ W.cell? ⟨gq, 2, none⟩ = some (.bool q.x.s) ∧ W.cell? ⟨gq, 3, none⟩ = some (sv q.x.u) ∧ W.cell? ⟨gq, 4, none⟩ = some (sv q.x.t)) ∧ (W.cell? ⟨gf, 0, none⟩ = some (.int .i64 fo.s) ∧ W.cell? ⟨gf, 1, none⟩ = some (sv fo.v) ∧ W.cell? ⟨gf, 2, none⟩ = some (.bool fo.x.s) ∧ W.cell? ⟨gf, 3, none⟩ = some (sv fo.x.u) ∧ W.cell? ⟨gf, 4, none⟩ = some (sv fo.x.t)))
   (with_reducible exact ⟨PA.out.all, PQ.out.all, PF.out.all⟩)
   (first
    | (go_at_call 37; refine Calls.mono (rform_g (L := 6) HA.out (by have := OA.out.1; omega) (by omega) (by omega)) ?_; rintro e wx ⟨fw, rfl, wg, ws, wa, wr, wn, bx⟩; have WG := hide wg; have WE := hide (show fo.s = fw.s ∧ tms fo.d = tms fw.d ∧ fo.x.r = fw.x.r from ⟨FS.out.trans (QS.out.trans ws.symm), FG.out.2.2.unique wg.2.2 (fun c hc => (FA.out c hc).trans ((congrArg (fun t => gsum t c) ET.out).trans (wa c hc).symm)), FR.out.trans (EX.out.trans wr.symm)⟩); clear wg ws wa wr wn; replace PA := hide (PA.out.step bx); replace HA := hide (HA.out.step bx); replace HV := hide (HV.out.step bx); replace HU := hide (HU.out.step bx); replace WA := hide (WA.out.step bx); replace KQ := hide (KQ.out.step bx); replace PQ := hide (PQ.out.step bx); replace PF := hide (PF.out.step bx); replace FG := hide (FG.out.step bx); replace PR := hide (PR.out.step bx); replace RO := hide (RO.out.step bx); replace RW := hide (RW.out.step bx); replace PW := hide (PW.out.step bx); replace UA := hide (UA.out.step bx); replace B := hide (Below.step B.out B.out.size bx); replace BF := hide (Below.step BF.out BF.out.size bx); clear bx)
    | (go_at_call 29; refine Calls.mono (samecons_x FG.out.kc WG.out.kc) ?_; rintro e wx ⟨hb, bx⟩; obtain rfl := hb.tr WE.out; clear hb; replace PA := hide (PA.out.step bx); replace HA := hide (HA.out.step bx); replace HV := hide (HV.out.step bx); replace HU := hide (HU.out.step bx); replace WA := hide (WA.out.step bx); replace KQ := hide (KQ.out.step bx); replace PQ := hide (PQ.out.step bx); replace PF := hide (PF.out.step bx); replace FG := hide (FG.out.step bx); replace PR := hide (PR.out.step bx); replace RO := hide (RO.out.step bx); replace RW := hide (RW.out.step bx); replace PW := hide (PW.out.step bx); replace UA := hide (UA.out.step bx); replace B := hide (Below.step B.out B.out.size bx); replace BF := hide (Below.step BF.out BF.out.size bx); clear bx)
    | (go_at_call 38; refine Calls.mono (kfalse_c KQ.out.kv (by have := QD.out; omega) (by omega) (by omega)) ?_; rintro e wx ⟨⟨o1, rfl, h1⟩, bx⟩; have HF := hide h1; clear h1; replace PA := hide (PA.out.step bx); replace HA := hide (HA.out.step bx); replace HV := hide (HV.out.step bx); replace HU := hide (HU.out.step bx); replace WA := hide (WA.out.step bx); replace KQ := hide (KQ.out.step bx); replace PQ := hide (PQ.out.step bx); replace PF := hide (PF.out.step bx); replace FG := hide (FG.out.step bx); replace PR := hide (PR.out.step bx); replace RO := hide (RO.out.step bx); replace RW := hide (RW.out.step bx); replace PW := hide (PW.out.step bx); replace UA := hide (UA.out.step bx); replace B := hide (Below.step B.out B.out.size bx); replace BF := hide (Below.step BF.out BF.out.size bx); clear bx)
    | (go_at_call 39; refine Calls.mono (rfalse_f HA.out (by have := OA.out.1; omega) (by omega) (by omega)) ?_; rintro e wx ⟨⟨o2, rfl, h2⟩, bx⟩; obtain rfl : o1 = o2 := bool_iff (HF.out.trans (by rw [QS.out, ET.out, EX.out])) h2; clear h2; replace PA := hide (PA.out.step bx); replace HA := hide (HA.out.step bx); replace HV := hide (HV.out.step bx); replace HU := hide (HU.out.step bx); replace WA := hide (WA.out.step bx); replace KQ := hide (KQ.out.step bx); replace PQ := hide (PQ.out.step bx); replace PF := hide (PF.out.step bx); replace FG := hide (FG.out.step bx); replace PR := hide (PR.out.step bx); replace RO := hide (RO.out.step bx); replace RW := hide (RW.out.step bx); replace PW := hide (PW.out.step bx); replace UA := hide (UA.out.step bx); replace B := hide (Below.step B.out B.out.size bx); replace BF := hide (Below.step BF.out BF.out.size bx); clear bx)
    | (go_at_call 25; refine Calls.mono (copyall_v UA.out (by omega) (by have := OU.out.1; omega)) ?_; rintro e wx ⟨vu, fu, rfl, hf, bx⟩; have FU := hide hf.fl; obtain ⟨A8, n8, c8, rfl⟩ := rv_sl hf.fl.1; clear hf; replace PA := hide (PA.out.step bx); replace HA := hide (HA.out.step bx); replace HV := hide (HV.out.step bx); replace HU := hide (HU.out.step bx); replace WA := hide (WA.out.step bx); replace KQ := hide (KQ.out.step bx); replace PQ := hide (PQ.out.step bx); replace PF := hide (PF.out.step bx); replace FG := hide (FG.out.step bx); replace PR := hide (PR.out.step bx); replace RO := hide (RO.out.step bx); replace RW := hide (RW.out.step bx); replace PW := hide (PW.out.step bx); replace UA := hide (UA.out.step bx); replace B := hide (Below.step B.out B.out.size bx); replace BF := hide (Below.step BF.out BF.out.size bx); clear bx)
    | (go_at_call 40; refine Calls.mono (kholds_c KQ.out.kv FU.out.fv (by have := QD.out; omega) (by omega) (by omega) (by omega) (by omega)) ?_; rintro e wx ⟨⟨o3, rfl, h3⟩, bx⟩; have HH := hide h3; clear h3; replace PA := hide (PA.out.step bx); replace HA := hide (HA.out.step bx); replace HV := hide (HV.out.step bx); replace HU := hide (HU.out.step bx); replace WA := hide (WA.out.step bx); replace KQ := hide (KQ.out.step bx); replace PQ := hide (PQ.out.step bx); replace PF := hide (PF.out.step bx); replace FG := hide (FG.out.step bx); replace PR := hide (PR.out.step bx); replace RO := hide (RO.out.step bx); replace RW := hide (RW.out.step bx); replace PW := hide (PW.out.step bx); replace UA := hide (UA.out.step bx); replace FU := hide (FU.out.step bx); replace B := hide (Below.step B.out B.out.size bx); replace BF := hide (Below.step BF.out BF.out.size bx); clear bx)
    | (go_at_call 41; refine Calls.mono (rholds_f HA.out HU.out (by have := OA.out.1; omega) (by omega) (by omega) (by omega) (by omega) (by have := OU.out.1; omega)) ?_; rintro e wx ⟨⟨o4, rfl, h4⟩, bx⟩; obtain rfl : o3 = o4 := bool_iff (HH.out.trans (by rw [QS.out, ET.out, EX.out, FU.out.xf UA.out])) h4; clear h4; replace PA := hide (PA.out.step bx); replace HA := hide (HA.out.step bx); replace HV := hide (HV.out.step bx); replace HU := hide (HU.out.step bx); replace WA := hide (WA.out.step bx); replace KQ := hide (KQ.out.step bx); replace PQ := hide (PQ.out.step bx); replace PF := hide (PF.out.step bx); replace FG := hide (FG.out.step bx); replace PR := hide (PR.out.step bx); replace RO := hide (RO.out.step bx); replace RW := hide (RW.out.step bx); replace PW := hide (PW.out.step bx); replace UA := hide (UA.out.step bx); replace B := hide (Below.step B.out B.out.size bx); replace BF := hide (Below.step BF.out BF.out.size bx); clear bx))
  all_goals
   rcases RO.out.cases with rfl | rfl | rfl
   case inl =>
    have e0 := RO.out.bad (by decide)
    subst e0
    obtain ⟨r0, r1, r2', r3, r4⟩ : _ ∧ _ ∧ _ ∧ _ ∧ _ := (show wx.cell? ⟨gr, 0, none⟩ = some (.int .i64 0) ∧ wx.cell? ⟨gr, 1, none⟩ = some (.slice none 0 0) ∧ wx.cell? ⟨gr, 2, none⟩ = some (.bool false) ∧ wx.cell? ⟨gr, 3, none⟩ = some (.slice none 0 0) ∧ wx.cell? ⟨gr, 4, none⟩ = some (.slice none 0 0) from PR.out.all)
    go_wp2_with fail
    refine (rsame_zero _).mono ?_
    rintro e wy ⟨rfl, bx⟩
    replace B := hide (Below.step B.out B.out.size bx)
    go_wp2_with fail
    go_ret
    exact ⟨rfl, B.out⟩
   case inr.inl =>
    have e0 := RO.out.bad (by decide)
    subst e0
    obtain ⟨r0, r1, r2', r3, r4⟩ : _ ∧ _ ∧ _ ∧ _ ∧ _ := (show wx.cell? ⟨gr, 0, none⟩ = some (.int .i64 0) ∧ wx.cell? ⟨gr, 1, none⟩ = some (.slice none 0 0) ∧ wx.cell? ⟨gr, 2, none⟩ = some (.bool false) ∧ wx.cell? ⟨gr, 3, none⟩ = some (.slice none 0 0) ∧ wx.cell? ⟨gr, 4, none⟩ = some (.slice none 0 0) from PR.out.all)
    go_wp2_with fail
    refine (rsame_zero _).mono ?_
    rintro e wy ⟨rfl, bx⟩
    replace B := hide (Below.step B.out B.out.size bx)
    go_wp2_with fail
    go_ret
    exact ⟨rfl, B.out⟩
   case inr.inr =>
    obtain ⟨kg1, kg2, heq, hrl⟩ := RO.out.eqs RW.out QS.out ET.out EX.out
    have K1 := hide kg1
    have K2 := hide kg2
    have HE := hide heq
    have HRL := hide hrl
    clear kg1 kg2 heq hrl
    obtain ⟨r0, r1, r2', r3, r4⟩ := PR.out.all
    obtain ⟨m0, m1, m2, m3, m4⟩ := PW.out.all
    go_wp2_with fail
    refine (samecons_x K1.out.kc K2.out.kc).mono ?_
    rintro e wa ⟨hb, bx⟩
    obtain rfl := hb.tr HE.out
    clear hb r0 r1 r2' r3 r4 m0 m1 m2 m3 m4
    replace PA := hide (PA.out.step bx)
    replace PQ := hide (PQ.out.step bx)
    replace PF := hide (PF.out.step bx)
    replace FG := hide (FG.out.step bx)
    replace PR := hide (PR.out.step bx)
    replace PW := hide (PW.out.step bx)
    replace K1 := hide (K1.out.step bx)
    replace B := hide (Below.step B.out B.out.size bx)
    replace BF := hide (Below.step BF.out BF.out.size bx)
    clear bx
    obtain ⟨m0, m1, m2, m3, m4⟩ := PF.out.all
    have SR := hide (K1.out.ksp (by have := QD.out; omega))
    have AP := hide (kg_apart FG8.out BSL.out K1.out)
    go_wp2_with fail
    have FD := hide (show fo.d.length ≤ 1000000 by have := FN.out; have := QD.out; omega)
    have s6 := BF.out.size
    refine (kspoil_w (FG.out.ksp (by have := QD.out; omega)) s6 FD.out).mono ?_
    rintro e wb ⟨rfl, sb⟩
    have PR2 := hide (sb.kq PR.out (fun h => by
     rcases PR.out.kb.ne FG.out.1.1 with h' | h'
     ·rw [h'] at h; cases h
     ·exact h' h.symm))
    have SR2 := hide (SR.out.spo sb AP.out)
    have BF2 := hide (BF.out.trans sb.1)
    clear m0 m1 m2 m3 m4 s6
    obtain ⟨r0, r1, r2', r3, r4⟩ := PR2.out.all
    have RD := hide (show r.d.length ≤ 1000000 by have := HRL.out; have := QD.out; omega)
    go_wp2_with fail
    refine (kspoil_w (SR2.out.mono LB6.out) BF2.out.size RD.out).mono ?_
    rintro e wd ⟨rfl, sd⟩
    have BF3 := hide (BF2.out.trans sd.1)
    clear r0 r1 r2' r3 r4
    obtain ⟨p0, p1, p2, p3, p4⟩ := (PA6.out.step BF3.out).all
    obtain ⟨q0, q1, q2, q3, q4⟩ := (PQ6.out.step BF3.out).all
    go_wp2_with fail
    refine (samecons_w (KQ6.out.step BF3.out) (WA6.out.step BF3.out) QS.out).mono ?_
    rintro e we ⟨rfl, bx⟩
    have B9 := hide (Below.step (Below.step B6.out B6.out.size BF3.out) (Below.step B6.out B6.out.size BF3.out).size bx)
    clear bx
    go_wp2_with fail
    go_ret
    exact ⟨rfl, B9.out⟩
end Go.Proofs.YtfnngcaalpknlaaGreat
