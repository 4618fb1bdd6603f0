
/-
 The walk of ModelTells: true.
-/
import Derived.Test.YtnhlomphdighnaaGreatBundleU
import Derived.Test.YtnhlomphdighnaaGreatPm14
import Derived.Test.YtnhlomphdighnaaGreatPm17
import Derived.Test.YtnhlomphdighnaaGreatPm18
import Derived.Test.YtnhlomphdighnaaGreatPm15
import Derived.Test.YtnhlomphdighnaaGreatPm19


namespace Go.Proofs.YtnhlomphdighnaaGreat
open Go.RowKit Go.Proofs.YtnhlomphdighnaaGreat.Num
set_option linter.unusedVariables false
set_option linter.unusedSimpArgs false
set_option maxRecDepth 100000
theorem wwl_wvT {W : World} {v : Value} {d : List Wx} {ts : List Wt} {L : Nat} (h : Wwl W v d ts L) : ∀ r ∈ d, Wv W r L := fun r hr => by
 obtain ⟨i, hi, rfl⟩ := List.mem_iff_getElem.1 hr
 have hx : d[i]? = some d[i] := List.getElem?_eq_getElem hi
 obtain ⟨t, ht⟩ := zs_at h.2.1 hx
 have k := h.2.2 i _ t hx ht
 exact ⟨k.2.2.2.tv, k.2.1.ra, k.2.2.1.ra⟩
theorem uwl_uvT {W : World} {v : Value} {d : List Ux} {ts : List Ut} {L : Nat} (h : Uwl W v d ts L) : ∀ r ∈ d, Uv W r L := fun r hr => by
 obtain ⟨i, hi, rfl⟩ := List.mem_iff_getElem.1 hr
 have hx : d[i]? = some d[i] := List.getElem?_eq_getElem hi
 obtain ⟨t, ht⟩ := zs_at h.2.1 hx
 have k := h.2.2 i _ t hx ht
 exact ⟨k.2.1.ra, k.2.2.1.ra, k.2.2.2.ra⟩
theorem len_copyT {W W' : World} {v v' : Value} {d d' : List Wx} {ts : List Wt} {L M : Nat} (h : Wwl W v d ts L) (k : Wwl W' v' d' ts M) (hd : ∀ r ∈ d, r.d.length ≤ 30) : ∀ r ∈ d', r.d.length ≤ 30 := by
 intro r hr
 obtain ⟨i, hi, rfl⟩ := List.mem_iff_getElem.1 hr
 have hx : d'[i]? = some d'[i] := List.getElem?_eq_getElem hi
 obtain ⟨t, ht⟩ := zs_at k.2.1 hx
 obtain ⟨y, hy⟩ := len_of (d := d) (k := i) (by have := h.2.1; have := k.2.1; omega)
 have e1 := (k.2.2 i _ t hx ht).2.2.2.2.1
 have e2 := (h.2.2 i _ t hy ht).2.2.2.2.1
 rw [e1, ← e2]
 exact hd y (List.mem_of_getElem? hy)
set_option maxHeartbeats 16000000 in
theorem mtells_go (w : World) (p : Px) (hp : Pv w p 17592186043904) :
  Calls Tryz.prog 3 #[px p] w fun e w' => e = .returned (.bool true) ∧ Below w.heap.size w w' := by
 obtain ⟨pnm, pob, ⟨RA, rn, rc⟩, prs, ⟨VA, vn, vc⟩, pvs⟩ := p
 have VN : Hid (vn = pvs.length) := hide (by
  obtain ⟨VA', vc', ev, -⟩ := id hp.2.1
  dsimp only at ev
  injection ev)
 have b2 := alloc_below w (.cells #[.string pnm, .string pob, .slice RA rn rc, .slice VA vn vc] 25)
 have PP := hide (show Pq (w.alloc (.cells #[.string pnm, .string pob, .slice RA rn rc, .slice VA vn vc] 25)) w.heap.size ⟨pnm, pob, (RA, rn, rc), prs, (VA, vn, vc), pvs⟩ from heap_alloc_new w _)
 have HP := hide (hp.step b2)
 have BW := hide b2
 clear hp b2
 go_enter Tryz.func3, Tryz.ntmps3
 go_wp2_with fail
 generalize (w.alloc (.cells #[.string pnm, .string pob, .slice RA rn rc, .slice VA vn vc] 25)) = w0 at *
 refine (mspeaks_true w0).mono ?_
 rintro e w1 ⟨rfl, bx⟩
 replace PP := hide (PP.out.step bx)
 replace HP := hide (HP.out.step bx)
 replace BW := hide (Below.step BW.out BW.out.size bx)
 clear bx
 obtain ⟨p0, p1, p2, p3⟩ := PP.out.alls
 go_wp2_with fail
 refine (pgreat_c HP.out (by omega)).mono ?_
 rintro e w2 ⟨bx, o, rfl, ho⟩
 have HO := hide ho
 replace PP := hide (PP.out.step bx)
 replace HP := hide (HP.out.step bx)
 replace BW := hide (Below.step BW.out BW.out.size bx)
 clear ho bx p0 p1 p2 p3
 obtain ⟨p0, p1, p2, p3⟩ := PP.out.alls
 cases o
 case true =>
  go_wp2_with fail
  go_ret
  exact ⟨rfl, BW.out⟩
 have OK := hide (HO.out rfl).len
 replace HP := hide (HP.out.tight (HO.out rfl))
 clear HO
 obtain ⟨ts, hts⟩ := wwl_of HP.out.1.1 HP.out.1.2
 obtain ⟨us, hus⟩ := uwl_of HP.out.2.1 HP.out.2.2
 have TS := hide hts
 have US := hide hus
 clear hts hus
 go_wp2_with fail
 refine (pcopy_w TS.out US.out OK.out (by omega)).mono ?_
 rintro e w5 ⟨⟨nm, ob, ⟨QA, qn, qc⟩, rows, ⟨UA, un, uc⟩, vars⟩, rfl, hnm, hob, hr, hu9, bx⟩
 have b3 := alloc_below w5 (.cells #[.string nm, .string ob, .slice QA qn qc, .slice UA un uc] 25)
 have PQ := hide (show Pq (w5.alloc (.cells #[.string nm, .string ob, .slice QA qn qc, .slice UA un uc] 25)) w5.heap.size ⟨nm, ob, (QA, qn, qc), rows, (UA, un, uc), vars⟩ from heap_alloc_new w5 _)
 have NM := hide (show nm = pnm ∧ ob = pob from ⟨hnm, hob⟩)
 have RW := hide (hr.wwl.step b3)
 have UW := hide (hu9.uwl.step b3)
 have b4 := Below.step bx bx.size b3
 replace PP := hide (PP.out.step b4)
 replace HP := hide (HP.out.step b4)
 replace TS := hide (TS.out.step b4)
 replace US := hide (US.out.step b4)
 replace BW := hide (Below.step BW.out BW.out.size b4)
 clear hr hu9 bx b3 b4 p0 p1 p2 p3 hnm hob
 go_wp2_with fail
 generalize (w5.alloc (.cells #[.string nm, .string ob, .slice QA qn qc, .slice UA un uc] 25)) = w6 at *
 generalize w5.heap.size = g7 at *
 have HI := hide (show Pv w6 ⟨nm, ob, (QA, qn, qc), rows, (UA, un, uc), vars⟩ 6 from ⟨⟨RW.out.1, wwl_wvT RW.out⟩, UW.out.1, uwl_uvT UW.out⟩)
 have KI := hide (show PsLen ⟨nm, ob, (QA, qn, qc), rows, (UA, un, uc), vars⟩ from ⟨by have h1 := RW.out.2.1; have h2 := TS.out.2.1; have h3 : prs.length ≤ 70 := OK.out.1; show rows.length ≤ 70; omega, by have h1 := UW.out.2.1; have h2 := US.out.2.1; have h3 : pvs.length ≤ 50 := OK.out.2.1; show vars.length ≤ 50; omega, len_copyT TS.out RW.out OK.out.2.2⟩)
 have EP := hide (show cprob ⟨nm, ob, (QA, qn, qc), rows, (UA, un, uc), vars⟩ = cprob ⟨pnm, pob, (RA, rn, rc), prs, (VA, vn, vc), pvs⟩ from cprob_w (p := ⟨nm, ob, (QA, qn, qc), rows, (UA, un, uc), vars⟩) (q := ⟨pnm, pob, (RA, rn, rc), prs, (VA, vn, vc), pvs⟩) RW.out UW.out TS.out US.out)
 have EO := hide (show ∀ c, xf (vars.map (·.co)) c = xf (pvs.map (·.co)) c from fun c => xco_w UW.out US.out c)
 have EW := hide (show vars.map (·.w) = pvs.map (·.w) from whl_w UW.out US.out)
 have C := hide (show Below w6.heap.size w6 w6.drew from (Below.refl _ _).drew)
 have SI := hide (fun W (h : Below w6.heap.size w6 W) => (PQ.out.step h).alls)
 go_region_held3 (fun W => W.cell? ⟨g7, 0, none⟩ = some (.string nm) ∧ W.cell? ⟨g7, 1, none⟩ = some (.string ob) ∧ W.cell? ⟨g7, 2, none⟩ = some (.slice QA qn qc) ∧ W.cell? ⟨g7, 3, none⟩ = some (.slice UA un uc))
  (with_reducible exact SI.out _ C.out)
  (first
   | (go_at_call 7; refine (mconstraints_c (p := ⟨nm, ob, (QA, qn, qc), rows, (UA, un, uc), vars⟩) (HI.out.step C.out) KI.out).mono ?_; rintro e wx ⟨v1, l1, rfl, k1, r1, n1, bx⟩; have KG := hide (show Kgl wx w6.heap.size v1 l1 217 from ⟨k1.1.mono C.out.size, fun z hz => (k1.2 z hz).mono C.out.size⟩); have CR := hide r1; have LN := hide n1; replace C := hide (Below.step C.out C.out.size bx); clear k1 r1 n1 bx)
   | (go_at_call 8; refine (mobj_c (p := ⟨nm, ob, (QA, qn, qc), rows, (UA, un, uc), vars⟩) (L := 6) (HI.out.step C.out) (by have h3 : vars.length ≤ 50 := KI.out.2.1; show vars.length ≤ _; omega) (by omega) (by omega)).mono ?_; rintro e wx ⟨v2, d2, rfl, k2, f2, g2, n2, bx⟩; have TG := hide (show Tg wx w6.heap.size v2 d2 6 from k2.mono C.out.size); have FM := hide f2; have GS := hide g2; have DL := hide n2; replace KG := hide (KG.out.step bx); replace C := hide (Below.step C.out C.out.size bx); clear k2 f2 g2 n2 bx)
   | (go_at_call 9; refine (mwhole_c (p := ⟨nm, ob, (QA, qn, qc), rows, (UA, un, uc), vars⟩) (HI.out.step C.out) (by have h3 : vars.length ≤ 50 := KI.out.2.1; show vars.length ≤ _; omega)).mono ?_; rintro e wx ⟨v3, rfl, k3, bx⟩; have WL := hide k3; replace KG := hide (KG.out.step bx); replace TG := hide (TG.out.step bx); replace C := hide (Below.step C.out C.out.size bx); clear k3 bx))
 all_goals
  clear SI HI KI
  obtain ⟨A1, c1, e1, h11, h12, -⟩ := id (KG.out.1.rl ek_len)
  obtain ⟨m1, hm1⟩ : ∃ m, m = l1.length := ⟨_, rfl⟩
  rw [← hm1] at e1 h11
  subst e1
  obtain ⟨A2, c2, e2, -⟩ := id (TG.out.1.rl et_len)
  obtain ⟨m2, hm2⟩ : ∃ m, m = d2.length := ⟨_, rfl⟩
  rw [← hm2] at e2
  subst e2
  rw [EW.out] at WL
  obtain ⟨A3, c3, e3, h31, h32, -⟩ := id WL.out
  rw [List.length_map, ← VN.out] at e3 h31
  subst e3
  have M1 := hide hm1
  have M2 := hide hm2
  have t0 : ((vn : Int) != (vn : Int)) = false := by simp
  have PS := hide (show Lr eu 13 w6 (.slice VA vn vc) pvs from HP.out.2.1)
  unfold maxLen at h12 h32
  clear hm1 hm2
  obtain ⟨p0, p1, p2, p3⟩ := (PP.out.step C.out).alls
  go_wp2_with fail
  refine (rconstraints_c (HP.out.step C.out) OK.out).mono ?_
  rintro e w8 ⟨v4, l4, rfl, k4, r4, n4, bx⟩
  have K4 := hide (show Kgl w8 w6.heap.size v4 l4 966 from ⟨k4.1.mono C.out.size, fun z hz => (k4.2 z hz).mono C.out.size⟩)
  have R4 := hide r4
  replace KG := hide (KG.out.step bx)
  replace TG := hide (TG.out.step bx)
  replace WL := hide (WL.out.step bx)
  replace C := hide (Below.step C.out C.out.size bx)
  clear k4 r4 n4 bx p0 p1 p2 p3
  obtain ⟨p0, p1, p2, p3⟩ := (PP.out.step C.out).alls
  have R1 := hide (show Crs l1 (cprob ⟨pnm, pob, (RA, rn, rc), prs, (VA, vn, vc), pvs⟩) from by rw [← EP.out]; exact CR.out)
  go_wp2_with fail
  refine (csame_c (L := 217) (M := 966) (KG.out.1.rl ek_len) (K4.out.1.rl ek_len) (fun k hk => (KG.out.2 k hk).kc) (fun k hk => (K4.out.2 k hk).kc) (R4.out.len.trans R1.out.len.symm) (R1.out.same R4.out)).mono ?_
  rintro e w9 ⟨rfl, bx⟩
  replace KG := hide (KG.out.step bx)
  replace TG := hide (TG.out.step bx)
  replace WL := hide (WL.out.step bx)
  replace C := hide (Below.step C.out C.out.size bx)
  clear bx p0 p1 p2 p3 K4 R4
  obtain ⟨p0, p1, p2, p3⟩ := (PP.out.step C.out).alls
  go_wp2_with fail
  refine (robj_c (L := 6) (HP.out.step C.out) (by have h3 : pvs.length ≤ 50 := OK.out.2.1; show pvs.length ≤ _; omega) (by omega) (by omega)).mono ?_
  rintro e w10 ⟨v5, d5, rfl, t5, f5, g5, n5, bx⟩
  have T5 := hide t5.tc
  have F5 := hide f5
  have G5 := hide g5
  replace KG := hide (KG.out.step bx)
  replace TG := hide (TG.out.step bx)
  replace WL := hide (WL.out.step bx)
  replace C := hide (Below.step C.out C.out.size bx)
  clear t5 f5 g5 n5 bx p0 p1 p2 p3
  obtain ⟨p0, p1, p2, p3⟩ := (PP.out.step C.out).alls
  go_wp2_with fail
  refine (same_t TG.out.tc T5.out (FM.out.unique F5.out (fun c hc => ((GS.out c hc).trans (EO.out c)).trans (G5.out c hc).symm))).mono ?_
  rintro e w11 ⟨rfl, bx⟩
  replace KG := hide (KG.out.step bx)
  replace TG := hide (TG.out.step bx)
  replace WL := hide (WL.out.step bx)
  replace C := hide (Below.step C.out C.out.size bx)
  clear bx p0 p1 p2 p3 T5 F5 G5
  obtain ⟨p0, p1, p2, p3⟩ := (PP.out.step C.out).alls
  go_wp2_with fail
  clear p0 p1 p2 p3 t0
  go_loopw [49] (fun iv wr => ∃ k : Nat, k ≤ vn ∧ iv = .int .i64 (k : Int) ∧ Hid (Below w11.heap.size w11 wr)) (fun iv _ => vn - (intOf iv).toNat)
  case atStart => exact ⟨0, Nat.zero_le _, rfl, hide (Below.refl _ _)⟩
  case round =>
   obtain ⟨k, hk, rfl, D⟩ := hrel
   have CD := hide (Below.step C.out C.out.size D.out)
   obtain ⟨p0, p1, p2, p3⟩ := (PP.out.step CD.out).alls
   by_cases hlt : k < vn
   ·obtain ⟨x, hx⟩ := len_of (d := pvs) (k := k) (by rw [← VN.out]; exact hlt)
    have hy : (pvs.map (·.w))[k]? = some x.w := by rw [List.getElem?_map, hx]; rfl
    obtain ⟨b, off, rfl, hb, hc⟩ := (PS.out.step CD.out).get hx
    obtain ⟨b', off', rfl, hb', hc'⟩ := (WL.out.step D.out).get hy
    have c1 := hc 1 _ rfl
    have c0' := hc' 0 _ rfl
    rw [Nat.add_zero, Nat.mul_one] at c0'
    have l0 : (0 : Int) ≤ (k : Int) := by omega
    have l1 : (k : Int) < (vn : Int) := by omega
    have t1 : (x.w != x.w) = false := by simp
    clear hc hb hc' hb' hx hy
    go_wp2_with fail
    go_quiet (fail)
    have D8 := hide (show Below w11.heap.size w11 (wr.drewN nq) from below_drewN D.out nq)
    generalize wr.drewN nq = w9 at *
    go_wp2_with fail
    exact ⟨⟨k + 1, by omega, by go_num, D8⟩, by simp [intOf]; omega⟩
   ·obtain rfl : k = vn := by omega
    have KG2 := hide (KG.out.step D.out)
    have TG2 := hide (TG.out.step D.out)
    clear KG TG WL D R1 C
    go_wp2_with fail
    clear p0 p1 p2 p3
    have KS := hide (show ∀ x ∈ l1, KspC wr w6.heap.size wr.heap.size x ∧ x.d.length ≤ 1000000 from fun x hx => ⟨(KG2.out.2 x hx).kspc (by omega), by have := LN.out x hx; omega⟩)
    have TS2 := hide (show SpC wr w6.heap.size wr.heap.size (.slice A2 m2 c2) d2 from (TG2.out.sp (by omega)).spc)
    have hs6 := hide (CD.out.size)
    obtain ⟨wo, hwo⟩ : ∃ wo, wo = wr := ⟨_, rfl⟩
    subst hwo
    go_loopw [66] (fun iv wr => ∃ k : Nat, k ≤ m1 ∧ iv = .int .i64 (k : Int) ∧ Hid (Spn w6.heap.size wo.heap.size wo wr)) (fun iv _ => m1 - (intOf iv).toNat)
    case atStart => exact ⟨0, Nat.zero_le _, rfl, hide (Spn.refl _ _ _)⟩
    case round =>
     obtain ⟨j, hj, rfl, D⟩ := hrel
     by_cases hjt : j < m1
     ·obtain ⟨x, hx⟩ := len_of (d := l1) (k := j) (by rw [← M1.out]; exact hjt)
      have O := D.out.ow (by decide) (by decide) KG2.out.1
      obtain ⟨b, off, rfl, hb, hcs⟩ := (O.rl ek_len).get hx
      have c0 := hcs 0 _ rfl
      have c1 := hcs 1 _ rfl
      have c2 := hcs 2 _ rfl
      have c3 := hcs 3 _ rfl
      have c4 := hcs 4 _ rfl
      rw [Nat.add_zero] at c0
      have l0 : (0 : Int) ≤ (j : Int) := by omega
      have l1 : (j : Int) < (m1 : Int) := by omega
      obtain ⟨d', s', l'⟩ := (KS.out x (List.mem_of_getElem? hx)).1.spn D.out
      have SC := hide (kspoil_n s' (Nat.le_trans hs6.out D.out.2.1) (by rw [l']; exact (KS.out x (List.mem_of_getElem? hx)).2))
      clear hx O hb hcs s' l'
      go_wp2_with fail
      refine SC.out.mono ?_
      rintro e w2 ⟨rfl, sp⟩
      have D2 := hide (D.out.trans sp)
      clear SC D sp c0 c1 c2 c3 c4
      go_wp2_with fail
      exact ⟨⟨j + 1, by omega, by go_num, D2⟩, by simp [intOf]; omega⟩
     ·obtain rfl : j = m1 := by omega
      obtain ⟨d', s', l'⟩ := TS2.out.spn D.out
      have SC := hide (spoil_n s' (Nat.le_trans hs6.out D.out.2.1) (by rw [l']; have h1 : d2.length ≤ vars.length := DL.out; have h2 : vars.length = us.length := UW.out.2.1; have h3 : pvs.length = us.length := US.out.2.1; have h4 : pvs.length ≤ 50 := OK.out.2.1; omega))
      clear s' l'
      go_wp2_with fail
      refine SC.out.mono ?_
      rintro e w12 ⟨rfl, sp⟩
      have BE := hide (Below.trans CD.out (D.out.trans sp).1)
      clear SC D sp
      obtain ⟨p0, p1, p2, p3⟩ := (PP.out.step BE.out).alls
      obtain ⟨q0, q1, q2, q3⟩ := (PQ.out.step BE.out).alls
      go_wp2_with fail
      refine (psame_w (p := ⟨nm, ob, (QA, qn, qc), rows, (UA, un, uc), vars⟩) (q := ⟨pnm, pob, (RA, rn, rc), prs, (VA, k, vc), pvs⟩) (RW.out.step BE.out) (UW.out.step BE.out) (TS.out.step BE.out) (US.out.step BE.out) NM.out.1.symm NM.out.2.symm).mono ?_
      rintro e w13 ⟨rfl, bx⟩
      have BF := hide (Below.step BW.out BW.out.size (BE.out.trans (bx.mono BE.out.size)))
      clear bx p0 p1 p2 p3 q0 q1 q2 q3
      go_wp2_with fail
      go_ret
      exact ⟨rfl, BF.out⟩
end Go.Proofs.YtnhlomphdighnaaGreat
