
/-
 The walk of PoolScales: true.
-/
import Derived.Test.YtofmhfbbedalbaaGreatPl10
import Derived.Test.YtofmhfbbedalbaaGreatPl6
import Derived.Test.YtofmhfbbedalbaaGreatBundleN
import Derived.Test.YtofmhfbbedalbaaGreatKdrw
import Derived.Deep.DeepCutAuto


namespace Go.Proofs.YtofmhfbbedalbaaGreat
open Go.RowKit Go.Joins Go.Deep Go.Proofs.YtofmhfbbedalbaaGreat.Num
set_option linter.unusedVariables false
set_option linter.unusedSimpArgs false
set_option maxRecDepth 100000
theorem kw_sameP {W W' : World} {a q : Kx} {zs : List Zt} {z : Zt} {L M : Nat} (h : Kw W a zs z L) (k : Kw W' q zs z M) : tms q.d = tms a.d ∧ q.x.r = a.x.r ∧ q.d.length = a.d.length :=
 ⟨k.1.tms h.1, k.2.2.1.trans h.2.2.1.symm, k.1.2.1.trans h.1.2.1.symm⟩
set_option maxHeartbeats 16000000 in
theorem pscales_go (w : World) (a : Kx) (u : Value) (f : List Rx) (ha : Kv w a 17592186043904) (hu : Fv w u f 17592186043904) :
  Calls Tryz.prog 3 #[kx a, u] w fun e w' => e = .returned (.bool true) ∧ Below w.heap.size w w' := by
 obtain ⟨A2, n2, c2, rfl⟩ := rv_sl hu.1
 have b2 := alloc_below w (kbox a)
 have PA := hide (Kq.new w a)
 have HA := hide (ha.step b2)
 have HU := hide (hu.step b2)
 have B := hide b2
 clear ha hu b2
 go_enter Tryz.func3, Tryz.ntmps3
 go_wp2_with fail
 generalize (w.alloc (kbox a)) = w0 at *
 generalize w.heap.size = ga at PA
 refine (plspeaks_true _).mono ?_
 rintro e wx ⟨rfl, bx⟩
 replace PA := hide (PA.out.step bx)
 replace HA := hide (HA.out.step bx)
 replace HU := hide (HU.out.step bx)
 replace B := hide (Below.step B.out B.out.size bx)
 clear bx
 obtain ⟨p0, p1, p2, p3, p4⟩ := PA.out.all
 have bx := alloc_below wx (.cells #[.int .i64 a.s, sv a.v, .bool a.x.s, sv a.x.u, sv a.x.t] 29)
 have KL := hide (show Kl (wx.alloc (.cells #[.int .i64 a.s, sv a.v, .bool a.x.s, sv a.x.u, sv a.x.t] 29)) (.slice (some ⟨wx.heap.size, 0, none⟩) 1 1) [a] 17592186043904 from
  ⟨(Ow.lit (B := wx.heap.size) ek_len wx 29 [a] #[.int .i64 a.s, sv a.v, .bool a.x.s, sv a.x.u, sv a.x.t] rfl (Nat.le_refl _) (by simp [maxLen])).rl ek_len, fun k hk => by
   simp at hk
   subst hk
   exact HA.out.step bx⟩)
 replace PA := hide (PA.out.step bx)
 replace HA := hide (HA.out.step bx)
 replace HU := hide (HU.out.step bx)
 replace B := hide (Below.step B.out B.out.size bx)
 clear bx
 go_wp2_with fail
 clear p0 p1 p2 p3 p4
 generalize (wx.alloc (.cells #[.int .i64 a.s, sv a.v, .bool a.x.s, sv a.x.u, sv a.x.t] 29)) = w2 at *
 generalize wx.heap.size = gl at *
 refine (kgreat_c KL.out (by omega)).mono ?_
 rintro e w3 ⟨bx, o, rfl, ho⟩
 have HO := hide ho
 clear ho KL
 replace PA := hide (PA.out.step bx)
 replace HA := hide (HA.out.step bx)
 replace HU := hide (HU.out.step bx)
 replace B := hide (Below.step B.out B.out.size bx)
 clear bx
 cases o
 case true =>
  go_wp2_with fail
  go_ret
  exact ⟨rfl, B.out⟩
 have OA := hide ((HO.out rfl).2 a (by simp))
 replace HA := hide (HA.out.tight OA.out)
 clear HO
 go_wp2_with fail
 refine (greatall_c HU.out (by omega)).mono ?_
 rintro e w4 ⟨bx, o, rfl, ho⟩
 have HO := hide ho
 clear ho
 replace PA := hide (PA.out.step bx)
 replace HA := hide (HA.out.step bx)
 replace HU := hide (HU.out.step bx)
 replace B := hide (Below.step B.out B.out.size bx)
 clear bx
 cases o
 case true =>
  go_wp2_with fail
  go_ret
  exact ⟨rfl, B.out⟩
 have OU := hide (HO.out rfl)
 replace HU := hide (HU.out.tight OU.out.2)
 clear HO
 obtain ⟨p0, p1, p2, p3, p4⟩ := PA.out.all
 obtain ⟨zs, z, hkw⟩ := kw_of HA.out
 have KW := hide hkw
 clear hkw
 go_wp2_with fail
 refine (kcopy_w KW.out (by have := OA.out.1; omega) (by omega)).mono ?_
 rintro e w5 ⟨a1, rfl, es, kg, bx⟩
 obtain ⟨m1, m2, m3⟩ := kw_sameP KW.out kg.kw
 have KV1 := hide kg.kw.kv
 have EV := hide (And.intro es (And.intro m1 (And.intro m2 m3)))
 clear es kg m1 m2 m3 KW p0 p1 p2 p3 p4
 replace PA := hide (PA.out.step bx)
 replace HA := hide (HA.out.step bx)
 replace HU := hide (HU.out.step bx)
 replace B := hide (Below.step B.out B.out.size bx)
 clear bx
 go_wp2_with fail
 refine (pscale_g (N := 217) KV1.out (by have := OA.out.1; have := EV.out.2.2.2; omega) (by omega) (by
  have h1 := OA.out.1
  have h2 := EV.out.2.2.2
  have h3 : a1.d.length * (6 + 1) ≤ 30 * 7 := Nat.mul_le_mul (by omega) (by omega)
  omega) (by omega)).mono ?_
 rintro e w6 ⟨s, rfl, ks, es, sc, ln, bx⟩
 have ba := alloc_below w6 (kbox s)
 have SC := hide (show Scl (tms a.d) a.x.r (tms s.d) s.x.r by rw [← EV.out.2.1, ← EV.out.2.2.1]; exact sc)
 have ES := hide (show s.s = a.s from es.trans EV.out.1)
 have LS := hide (show s.d.length ≤ 30 by have := OA.out.1; have := EV.out.2.2.2; omega)
 have PS := hide (Kq.new w6 s)
 have KS := hide (show Kg (w6.alloc (kbox s)) 0 s 651 from (ks.mono (Nat.zero_le _)).step ba)
 replace PA := hide ((PA.out.step bx).step ba)
 replace HA := hide ((HA.out.step bx).step ba)
 replace HU := hide ((HU.out.step bx).step ba)
 replace B := hide (Below.step (Below.step B.out B.out.size bx) (Below.step B.out B.out.size bx).size ba)
 clear ks es sc ln bx ba EV KV1
 go_wp2_with fail
 generalize (w6.alloc (kbox s)) = w7 at *
 generalize w6.heap.size = gs at *
 have HOLDS := hide (show Kpt s.s (dt (tms s.d) (xf f)) s.x.r ↔ Kpt a.s (dt (tms a.d) (xf f)) a.x.r by
  rw [ES.out]
  exact SC.out.kpt (n := f.length) (fun c hc => xf_out f c hc) a.s)
 have KP := hide (show ∀ V, Below w7.heap.size w7 V → _ ∧ _ from fun V h => And.intro (PA.out.step h).all (PS.out.step h).all)
 have BV := hide (show Below w7.heap.size w7 w7.drew from (Below.refl _ _).drew)
 refine wp_region_held_drew (S := fun W => (W.cell? ⟨ga, 0, none⟩ = some (.int .i64 a.s) ∧ W.cell? ⟨ga, 1, none⟩ = some (sv a.v) ∧ W.cell? ⟨ga, 2, none⟩ = some (.bool a.x.s) ∧ W.cell? ⟨ga, 3, none⟩ = some (sv a.x.u) ∧ W.cell? ⟨ga, 4, none⟩ = some (sv a.x.t)) ∧ W.cell? ⟨gs, 0, none⟩ = some (.int .i64 s.s) ∧ W.cell? ⟨gs, 1, none⟩ = some (sv s.v) ∧ W.cell? ⟨gs, 2, none⟩ = some (.bool s.x.s) ∧ W.cell? ⟨gs, 3, none⟩ = some (sv s.x.u) ∧ W.cell? ⟨gs, 4, none⟩ = some (sv s.x.t)) (by kernel_rfl) ?_ (fun hHeld => ?_)
 ·try dsimp only
  exact KP.out _ BV.out
 generalize w7.drew = V0 at *
 refine tk 0 (v := ?_) hHeld ?_ ?_; rotate_left; (focus (intro w hSw; (try dsimp only at hSw); go_simp; (try with_reducible rfl)))
 try simp only [Act.put, s1, s2, s3, s4, s5, s6]
 refine tk 1 (v := ?_) hHeld ?_ ?_; rotate_left; (focus (intro w hSw; (try dsimp only at hSw); go_simp; (try with_reducible rfl)))
 try simp only [Act.put, s1, s2, s3, s4, s5, s6]
 refine r1 2 (fun K hK => ?_)
 go_simp; go_at_call 11; refine Calls.mono (rscale_g (L := 6) (N := 966) (HA.out.step BV.out) (by have := OA.out.1; omega) (by omega) (by omega) (by have h1 := OA.out.1; have h3 : a.d.length * (5 * 6 + 1) ≤ 30 * 31 := Nat.mul_le_mul (by omega) (by omega); omega) (by omega)) ?_; rintro e V1 ⟨t, rfl, kt, et, sct, lt, bx⟩; have KT := hide kt.kc; have EQ := hide (show s.s = t.s ∧ tms s.d = tms t.d ∧ s.x.r = t.x.r from And.intro (ES.out.trans et.symm) (SC.out.unique sct)); clear kt et sct lt; replace BV := hide (Below.step BV.out BV.out.size bx); clear bx; (try dsimp only); refine hK.out _ _ ?_ (fun hHeld => ?_); (focus ((try dsimp only); exact KP.out _ BV.out)); clear hK K
 try simp only [Act.put, s1, s2, s3, s4, s5, s6]
 try simp only [Act.put, s1, s2, s3, s4, s5, s6]
 refine r1 3 (fun K hK => ?_)
 go_simp; go_at_call 10; refine Calls.mono (samecons_x (KS.out.kc.step BV.out) KT.out) ?_; rintro e V2 ⟨hbr, bx⟩; obtain rfl := hbr.tr EQ.out; clear hbr KT EQ; replace BV := hide (Below.step BV.out BV.out.size bx); clear bx; (try dsimp only); refine hK.out _ _ ?_ (fun hHeld => ?_); (focus ((try dsimp only); exact KP.out _ BV.out)); clear hK K
 try simp only [Act.put, s1, s2, s3, s4, s5, s6]
 refine tp 4 hHeld ?_
 try simp only [Act.put, s1, s2, s3, s4, s5, s6]
 refine tk 5 (v := ?_) hHeld ?_ ?_; rotate_left; (focus (intro w hSw; (try dsimp only at hSw); go_simp; (try with_reducible rfl)))
 try simp only [Act.put, s1, s2, s3, s4, s5, s6]
 refine tk 7 (v := ?_) hHeld ?_ ?_; rotate_left; (focus (intro w hSw; (try dsimp only at hSw); go_simp; (try with_reducible rfl)))
 try simp only [Act.put, s1, s2, s3, s4, s5, s6]
 refine r1 6 (fun K hK => ?_)
 go_simp; go_at_call 8; refine Calls.mono (pscale_g (k := s) (L := 651) (N := 20212) (KS.out.kc.kv.step BV.out) (by have := LS.out; omega) (by omega) (by have h1 := LS.out; have h3 : s.d.length * (651 + 1) ≤ 30 * 652 := Nat.mul_le_mul (by omega) (by omega); omega) (by omega)) ?_; rintro e V3 ⟨t, rfl, kt, et, sct, lt, bx⟩; have KT := hide kt.kc; have EQ := hide (show t.s = s.s ∧ tms t.d = tms s.d ∧ t.x.r = s.x.r from And.intro et (SC.out.again sct)); clear kt et sct lt; replace BV := hide (Below.step BV.out BV.out.size bx); clear bx; (try dsimp only); refine hK.out _ _ ?_ (fun hHeld => ?_); (focus ((try dsimp only); exact KP.out _ BV.out)); clear hK K
 try simp only [Act.put, s1, s2, s3, s4, s5, s6]
 try simp only [Act.put, s1, s2, s3, s4, s5, s6]
 refine r1 8 (fun K hK => ?_)
 go_simp; go_at_call 10; refine Calls.mono (samecons_x KT.out (KS.out.kc.step BV.out)) ?_; rintro e V4 ⟨hbr, bx⟩; obtain rfl := hbr.tr EQ.out; clear hbr KT EQ; replace BV := hide (Below.step BV.out BV.out.size bx); clear bx; (try dsimp only); refine hK.out _ _ ?_ (fun hHeld => ?_); (focus ((try dsimp only); exact KP.out _ BV.out)); clear hK K
 try simp only [Act.put, s1, s2, s3, s4, s5, s6]
 refine tk 9 (v := ?_) hHeld ?_ ?_; rotate_left; (focus (intro w hSw; (try dsimp only at hSw); go_simp; (try with_reducible rfl)))
 try simp only [Act.put, s1, s2, s3, s4, s5, s6]
 refine tp 10 hHeld ?_
 try simp only [Act.put, s1, s2, s3, s4, s5, s6]
 refine tk 11 (v := ?_) hHeld ?_ ?_; rotate_left; (focus (intro w hSw; (try dsimp only at hSw); go_simp; (try with_reducible rfl)))
 try simp only [Act.put, s1, s2, s3, s4, s5, s6]
 refine tp 12 hHeld ?_
 try simp only [Act.put, s1, s2, s3, s4, s5, s6]
 refine tk 14 (v := ?_) hHeld ?_ ?_; rotate_left; (focus (intro w hSw; (try dsimp only at hSw); go_simp; (try with_reducible rfl)))
 try simp only [Act.put, s1, s2, s3, s4, s5, s6]
 refine tp 15 hHeld ?_
 try simp only [Act.put, s1, s2, s3, s4, s5, s6]
 refine r1 13 (fun K hK => ?_)
 go_simp; go_at_call 12; refine Calls.mono (rholds_f (k := s) (L := 651) (K := 6) (KS.out.kc.kv.step BV.out) (HU.out.step BV.out) (by have := LS.out; omega) (by omega) (by omega) (by omega) (by omega) (by have := OU.out.1; omega)) ?_; rintro e V5 ⟨⟨o, rfl, ho⟩, bx⟩; have HH := hide ho; clear ho; replace BV := hide (Below.step BV.out BV.out.size bx); clear bx; (try dsimp only); refine hK.out _ _ ?_ (fun hHeld => ?_); (focus ((try dsimp only); exact KP.out _ BV.out)); clear hK K
 try simp only [Act.put, s1, s2, s3, s4, s5, s6]
 cases o
 case false =>
  as_aux_lemma =>
   try simp only [Act.put, s1, s2, s3, s4, s5, s6]
   refine r1 16 (fun K hK => ?_)
   go_simp; go_at_call 12; refine Calls.mono (rholds_f (k := a) (L := 6) (K := 6) (HA.out.step BV.out) (HU.out.step BV.out) (by have := OA.out.1; omega) (by omega) (by omega) (by omega) (by omega) (by have := OU.out.1; omega)) ?_; rintro e V6 ⟨hbr, bx⟩; obtain rfl := hbr.fa (fun h => absurd (HH.out.2 (HOLDS.out.2 h)) (by simp)); clear hbr; replace BV := hide (Below.step BV.out BV.out.size bx); clear bx; (try dsimp only); refine hK.out _ _ ?_ (fun hHeld => ?_); (focus ((try dsimp only); exact KP.out _ BV.out)); clear hK K
   try simp only [Act.put, s1, s2, s3, s4, s5, s6]
   refine tk 17 (v := ?_) hHeld ?_ ?_; rotate_left; (focus (intro w hSw; (try dsimp only at hSw); go_simp; (try with_reducible rfl)))
   try simp only [Act.put, s1, s2, s3, s4, s5, s6]
   refine tk 18 (v := ?_) hHeld ?_ ?_; rotate_left; (focus (intro w hSw; (try dsimp only at hSw); go_simp; (try with_reducible rfl)))
   try simp only [Act.put, s1, s2, s3, s4, s5, s6]
   refine tp 19 hHeld ?_
   try simp only [Act.put, s1, s2, s3, s4, s5, s6]
   refine wpAnyH_done (by kernel_rfl) ?_ _
   go_wp2_with fail
   go_ret
   exact ⟨rfl, Below.step B.out B.out.size BV.out⟩
 case true =>
  as_aux_lemma =>
   try simp only [Act.put, s1, s2, s3, s4, s5, s6]
   refine r1 16 (fun K hK => ?_)
   go_simp; go_at_call 12; refine Calls.mono (rholds_f (k := a) (L := 6) (K := 6) (HA.out.step BV.out) (HU.out.step BV.out) (by have := OA.out.1; omega) (by omega) (by omega) (by omega) (by omega) (by have := OU.out.1; omega)) ?_; rintro e V6 ⟨hbr, bx⟩; obtain rfl := hbr.tr (HOLDS.out.1 (HH.out.1 (by simp))); clear hbr; replace BV := hide (Below.step BV.out BV.out.size bx); clear bx; (try dsimp only); refine hK.out _ _ ?_ (fun hHeld => ?_); (focus ((try dsimp only); exact KP.out _ BV.out)); clear hK K
   try simp only [Act.put, s1, s2, s3, s4, s5, s6]
   refine tk 17 (v := ?_) hHeld ?_ ?_; rotate_left; (focus (intro w hSw; (try dsimp only at hSw); go_simp; (try with_reducible rfl)))
   try simp only [Act.put, s1, s2, s3, s4, s5, s6]
   refine tk 18 (v := ?_) hHeld ?_ ?_; rotate_left; (focus (intro w hSw; (try dsimp only at hSw); go_simp; (try with_reducible rfl)))
   try simp only [Act.put, s1, s2, s3, s4, s5, s6]
   refine tp 19 hHeld ?_
   try simp only [Act.put, s1, s2, s3, s4, s5, s6]
   refine wpAnyH_done (by kernel_rfl) ?_ _
   go_wp2_with fail
   go_ret
   exact ⟨rfl, Below.step B.out B.out.size BV.out⟩
end Go.Proofs.YtofmhfbbedalbaaGreat
