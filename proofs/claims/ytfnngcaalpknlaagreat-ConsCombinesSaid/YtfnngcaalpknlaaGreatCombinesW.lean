
/-
 The walk of ConsCombines: true.
-/
import Derived.Test.YtfnngcaalpknlaaGreatKxConsCombines
import Derived.Test.YtfnngcaalpknlaaGreatBundleN
import Derived.Test.YtfnngcaalpknlaaGreatKrnd
import Derived.Test.YtfnngcaalpknlaaGreatKref9
import Derived.Test.YtfnngcaalpknlaaGreatBundleG


namespace Go.Proofs.YtfnngcaalpknlaaGreat
open Go.RowKit Go.Proofs.YtfnngcaalpknlaaGreat.Num
set_option linter.unusedVariables false
set_option linter.unusedSimpArgs false
set_option maxRecDepth 100000
def Lik (l l' : List Kx) : Prop := l.length = l'.length ∧ ∀ (i : Nat) x y, l[i]? = some x → l'[i]? = some y → x.s = y.s ∧ tms x.d = tms y.d ∧ x.x.r = y.x.r ∧ x.d.length = y.d.length
theorem kwl_lik {W W' : World} {v v' : Value} {l l' : List Kx} {ts : List Kt} {L M : Nat} (h : Kwl W v l ts L) (k : Kwl W' v' l' ts M) : Lik l l' := by
 refine ⟨by rw [h.2.1, k.2.1], fun i x y hx hy => ?_⟩
 have hi := (List.getElem?_eq_some_iff.1 hx).1
 obtain ⟨t, ht⟩ : ∃ t, ts[i]? = some t := ⟨ts[i]'(by have := h.2.1; omega), List.getElem?_eq_getElem _⟩
 obtain ⟨h1, h2⟩ := h.2.2 i x t hx ht
 obtain ⟨k1, k2⟩ := k.2.2 i y t hy ht
 exact ⟨h1.trans k1.symm, h2.1.tms k2.1, h2.2.2.1.trans k2.2.2.1.symm, h2.1.2.1.trans k2.1.2.1.symm⟩
theorem Lik.symm {l l' : List Kx} (h : Lik l l') : Lik l' l := ⟨h.1.symm, fun i x y hx hy => by
 obtain ⟨h1, h2, h3, h4⟩ := h.2 i y x hy hx
 exact ⟨h1.symm, h2.symm, h3.symm, h4.symm⟩⟩
theorem Lik.at {l l' : List Kx} (h : Lik l l') {i : Nat} {x : Kx} (hx : l[i]? = some x) : ∃ y, l'[i]? = some y ∧ x.s = y.s ∧ tms x.d = tms y.d ∧ x.x.r = y.x.r ∧ x.d.length = y.d.length := by
 have hi := (List.getElem?_eq_some_iff.1 hx).1
 obtain ⟨y, hy⟩ := len_of (d := l') (k := i) (by have := h.1; omega)
 exact ⟨y, hy, h.2 i x y hx hy⟩
theorem Lik.arg {l l' : List Kx} {o o' : List Rx} {t : Int} (h : Lik l l') (ho : o.length = o'.length) (k : CmArg l o t) : CmArg l' o' t := by
 rcases k with k | k | ⟨x, hx, k⟩
 ·exact .inl k
 ·exact .inr (.inl (by rw [← ho, ← h.1]; exact k))
 ·obtain ⟨i, hi, e⟩ := List.getElem_of_mem hx
  obtain ⟨y, hy, h1, -⟩ := h.at (i := i) (x := x) (by rw [List.getElem?_eq_getElem hi, e])
  exact .inr (.inr ⟨y, List.mem_of_getElem? hy, by rw [← h1]; exact k⟩)
theorem Lik.rule {l l' : List Kx} {o o' : List Rx} {t : Int} (h : Lik l l') (ho : xf o = xf o') (k : CmRule l o t) : CmRule l' o' t := by
 obtain ⟨i, x, hx, k⟩ := k
 obtain ⟨y, hy, h1, -⟩ := h.at hx
 exact ⟨i, y, hy, by rw [← h1, ← ho]; exact k⟩
theorem Lik.cmt {l l' : List Kx} {o o' : List Rx} {ts : List Tm} {r : Rat} (h : Lik l l') (ho : xf o = xf o') (k : CmT l o l.length ts r) : CmT l' o' l'.length ts r := by
 have hk : ∀ i, i < l.length → tms (kAt l i).d = tms (kAt l' i).d ∧ (kAt l i).x.r = (kAt l' i).x.r := fun i hi => by
  obtain ⟨x, hx⟩ := len_of hi
  obtain ⟨y, hy, h1, h2, h3, -⟩ := h.at hx
  rw [kAt_of hx, kAt_of hy]
  exact ⟨h2, h3⟩
 refine ⟨fun c hc => ?_, ?_⟩
 ·rw [k.1 c hc, ← h.1]
  exact sm_congr fun i hi => by rw [ho, (hk i hi).1]
 ·rw [k.2, ← h.1]
  exact sm_congr fun i hi => by rw [ho, (hk i hi).2]
def CbO (W : World) (B : Nat) (l : List Kx) (o : List Rx) (t : Int) (r : Kx) (n : Int) : Prop :=
 (n = 2 ∧ r = kz0 ∧ CmArg l o t) ∨ (n = 241 ∧ r = kz0 ∧ ¬ CmArg l o t ∧ CmRule l o t) ∨ (n = 0 ∧ ¬ CmArg l o t ∧ ¬ CmRule l o t ∧ Kg W B r 141200 ∧ r.s = t ∧ CmT l o l.length (tms r.d) r.x.r ∧ r.d.length ≤ 360)
theorem CbRet.one {w w' : World} {l : List Kx} {o : List Rx} {t : Int} {e : Ending} (h : CbRet w l o t e w') :
  ∃ (r : Kx) (n : Int), e = .returned (.tuple #[kx r, .int .i64 n]) ∧ CbO w' w.heap.size l o t r n ∧ Below w.heap.size w w' := by
 obtain ⟨⟨rfl, h⟩ | ⟨rfl, h, h2⟩ | ⟨r, rfl, h1, h2, h3, h4, h5, h6⟩, b⟩ := h
 ·exact ⟨kz0, 2, rfl, .inl ⟨rfl, rfl, h⟩, b⟩
 ·exact ⟨kz0, 241, rfl, .inr (.inl ⟨rfl, rfl, h, h2⟩), b⟩
 ·exact ⟨r, 0, rfl, .inr (.inr ⟨rfl, h1, h2, h3, h4, h5, h6⟩), b⟩
theorem CbO.step {W W' : World} {B : Nat} {l : List Kx} {o : List Rx} {t : Int} {r : Kx} {n : Int} (h : CbO W B l o t r n) (hb : Below W.heap.size W W') : CbO W' B l o t r n := by
 rcases h with h | h | ⟨h0, h1, h2, h3, h4⟩
 ·exact .inl h
 ·exact .inr (.inl h)
 ·exact .inr (.inr ⟨h0, h1, h2, h3.step hb, h4⟩)
theorem CbO.cases {W : World} {B : Nat} {l : List Kx} {o : List Rx} {t : Int} {r : Kx} {n : Int} (h : CbO W B l o t r n) : (n = 2 ∧ r = kz0) ∨ (n = 241 ∧ r = kz0) ∨ n = 0 := by
 rcases h with ⟨h, k, -⟩ | ⟨h, k, -⟩ | ⟨h, -⟩
 ·exact .inl ⟨h, k⟩
 ·exact .inr (.inl ⟨h, k⟩)
 ·exact .inr (.inr h)
theorem CbO.two {W W' : World} {B B' : Nat} {l l' : List Kx} {o o' : List Rx} {t : Int} {r r' : Kx} {n n' : Int} (h : CbO W B l o t r n) (h' : CbO W' B' l' o' t r' n') (hl : Lik l l') (ho : o.length = o'.length) (hx : xf o = xf o') : n = n' := by
 have a1 := fun k => hl.arg (t := t) ho k
 have a2 := fun k => hl.symm.arg (t := t) ho.symm k
 have b1 := fun k => hl.rule (t := t) hx k
 have b2 := fun k => hl.symm.rule (t := t) hx.symm k
 rcases h with ⟨rfl, -, h⟩ | ⟨rfl, -, h, h2⟩ | ⟨rfl, h, h2, -⟩ <;> rcases h' with ⟨rfl, -, k⟩ | ⟨rfl, -, k, k2⟩ | ⟨rfl, k, k2, -⟩ <;>
  first | rfl | exact absurd (a1 ‹CmArg l o t›) ‹¬ CmArg l' o' t› | exact absurd (a2 ‹CmArg l' o' t›) ‹¬ CmArg l o t› | exact absurd (b1 ‹CmRule l o t›) ‹¬ CmRule l' o' t› | exact absurd (b2 ‹CmRule l' o' t›) ‹¬ CmRule l o t›
theorem CbO.eqs {W W' : World} {B B' : Nat} {l l' : List Kx} {o o' : List Rx} {t : Int} {r r' : Kx} (h : CbO W B l o t r 0) (h' : CbO W' B' l' o' t r' 0) (hl : Lik l l') (hx : xf o = xf o') :
  Kg W B r 141200 ∧ Kg W' B' r' 141200 ∧ (r.s = r'.s ∧ tms r.d = tms r'.d ∧ r.x.r = r'.x.r) ∧ r.d.length ≤ 360 := by
 rcases h with ⟨h, -⟩ | ⟨h, -⟩ | ⟨-, h1, h2, h3, h4, h5, h6⟩
 ·omega
 ·omega
 rcases h' with ⟨h, -⟩ | ⟨h, -⟩ | ⟨-, k1, k2, k3, k4, k5, k6⟩
 ·omega
 ·omega
 have e := hl.cmt hx h5
 exact ⟨h3, k3, ⟨h4.trans k4.symm, h3.2.2.unique k3.2.2 (fun c hc => (e.1 c hc).trans (k5.1 c hc).symm), e.2.trans k5.2.symm⟩, h6⟩
set_option maxHeartbeats 16000000 in
theorem combines_go (w : World) (v : Value) (l : List Kx) (u : Value) (o : List Rx) (t : Int) (hv : Kl w v l 17592186043904) (hu : Fv w u o 17592186043904) (ht : (Lit.int .i64 t).wf = true) :
  Calls Tryz.prog 4 #[v, u, .int .i64 t] w fun e w' => e = .returned (.bool true) ∧ Below w.heap.size w w' := by
 obtain ⟨A, n, c, rfl⟩ := rv_sl hv.1
 obtain ⟨A1, n1, c1, rfl⟩ := rv_sl hu.1
 have HV := hide hv
 have HU := hide hu
 clear hv hu ht
 go_enter Tryz.func4, Tryz.ntmps4
 go_wp2_with fail
 refine (kspeaks_true _).mono ?_
 rintro e w1 ⟨rfl, bx⟩
 have B := hide bx
 replace HV := hide (HV.out.step bx)
 replace HU := hide (HU.out.step bx)
 clear bx
 go_wp2_with fail
 refine (kgreat_c HV.out (by omega)).mono ?_
 rintro e w2 ⟨bx, p, rfl, hp⟩
 have HP := hide hp
 clear hp
 replace HV := hide (HV.out.step bx)
 replace HU := hide (HU.out.step bx)
 replace B := hide (Below.step B.out B.out.size bx)
 clear bx
 cases p
 case true =>
  go_wp2_with fail
  go_ret
  exact ⟨rfl, B.out⟩
 have KS := hide (HP.out rfl)
 replace HV := hide (HV.out.tight KS.out.2)
 clear HP
 go_wp2_with fail
 refine (greatall_c HU.out (by omega)).mono ?_
 rintro e w3 ⟨bx, p, rfl, hp⟩
 have HP := hide hp
 clear hp
 replace HV := hide (HV.out.step bx)
 replace HU := hide (HU.out.step bx)
 replace B := hide (Below.step B.out B.out.size bx)
 clear bx
 cases p
 case true =>
  go_wp2_with fail
  go_ret
  exact ⟨rfl, B.out⟩
 have OS := hide (HP.out rfl)
 replace HU := hide (HU.out.tight OS.out.2)
 clear HP
 obtain ⟨ts, hts⟩ := kwl_of HV.out
 have WV := hide hts
 obtain ⟨us, hus⟩ := fl_of HU.out
 have WU := hide hus
 clear hts hus
 go_wp2_with fail
 refine (ccopy_w WV.out (by omega) (by have := KS.out.1; omega) (fun k hk => by have := (KS.out.2 k hk).1; omega)).mono ?_
 rintro e w4 ⟨v', l', rfl, hc, bx⟩
 have CV := hide hc.kwl
 clear hc
 replace HV := hide (HV.out.step bx)
 replace HU := hide (HU.out.step bx)
 replace WV := hide (WV.out.step bx)
 replace WU := hide (WU.out.step bx)
 replace B := hide (Below.step B.out B.out.size bx)
 clear bx
 obtain ⟨A2, n2, c2, rfl⟩ := rv_sl CV.out.1
 go_wp2_with fail
 refine (copyall_v WU.out (by omega) (by have := OS.out.1; omega)).mono ?_
 rintro e w5 ⟨u', o', rfl, hc, bx⟩
 have CU := hide hc.fl
 clear hc
 replace HV := hide (HV.out.step bx)
 replace HU := hide (HU.out.step bx)
 replace WV := hide (WV.out.step bx)
 replace WU := hide (WU.out.step bx)
 replace CV := hide (CV.out.step bx)
 replace B := hide (Below.step B.out B.out.size bx)
 clear bx
 obtain ⟨A3, n3, c3, rfl⟩ := rv_sl CU.out.1
 have LK := hide (kwl_lik WV.out CV.out)
 have XF := hide (WU.out.xf CU.out)
 have OL := hide (show o.length = o'.length by rw [WU.out.2.1, CU.out.2.1])
 have KD := hide (show ∀ k ∈ l', k.d.length ≤ 30 from fun k hk => by
  obtain ⟨i, hi, e⟩ := List.getElem_of_mem hk
  obtain ⟨y, hy, -, -, -, h4⟩ := LK.out.symm.at (i := i) (x := k) (by rw [List.getElem?_eq_getElem hi, e])
  have := (KS.out.2 y (List.mem_of_getElem? hy)).1
  omega)
 have KLL := hide (show l'.length ≤ 12 by have := LK.out.1; have := KS.out.1; omega)
 -- the words of the copies, to be found again
 have WV5 := WV
 have WU5 := WU
 have CV5 := CV
 have CU5 := CU
 have B5 := B
 have BF := hide (Below.refl w5.heap.size w5)
 go_wp2_with fail
 refine (kcombine_g (t := t) (show Kl w5 _ l' 6 from ⟨CV.out.1, fun k hk => by
  obtain ⟨i, hi, e⟩ := List.getElem_of_mem hk
  have h1 : l'[i]? = some k := by rw [List.getElem?_eq_getElem hi, e]
  obtain ⟨tt, htt⟩ : ∃ tt, ts[i]? = some tt := ⟨ts[i]'(by have := CV.out.2.1; omega), List.getElem?_eq_getElem _⟩
  exact (CV.out.2.2 i k tt h1 htt).2.kv⟩) CU.out.fv KD.out KLL.out).mono ?_
 rintro e w6 hret
 obtain ⟨r, m, rfl, ho, bx⟩ := hret.one
 have RO := hide ho
 clear ho hret
 replace BF := hide (Below.step BF.out BF.out.size bx)
 replace HV := hide (HV.out.step bx)
 replace HU := hide (HU.out.step bx)
 replace WV := hide (WV.out.step bx)
 replace WU := hide (WU.out.step bx)
 replace CV := hide (CV.out.step bx)
 replace CU := hide (CU.out.step bx)
 replace B := hide (Below.step B.out B.out.size bx)
 clear bx
 have PR := hide (Kq.new w6 r)
 have GR := hide BF.out.size
 have bx := alloc_below w6 (kbox r)
 replace BF := hide (Below.step BF.out BF.out.size bx)
 replace HV := hide (HV.out.step bx)
 replace HU := hide (HU.out.step bx)
 replace WV := hide (WV.out.step bx)
 replace WU := hide (WU.out.step bx)
 replace CV := hide (CV.out.step bx)
 replace CU := hide (CU.out.step bx)
 replace RO := hide (RO.out.step bx)
 replace B := hide (Below.step B.out B.out.size bx)
 clear bx
 go_wp2_with fail
 generalize (w6.alloc (kbox r)) = w7 at *
 generalize w6.heap.size = gr at *
 refine (rcombine_g (t := t) HV.out HU.out (fun k hk => (KS.out.2 k hk).1) KS.out.1).mono ?_
 rintro e w8 hret
 obtain ⟨r2, m2, rfl, ho, bx⟩ := hret.one
 have RW := hide ho
 clear ho hret
 replace BF := hide (Below.step BF.out BF.out.size bx)
 replace HV := hide (HV.out.step bx)
 replace HU := hide (HU.out.step bx)
 replace WV := hide (WV.out.step bx)
 replace WU := hide (WU.out.step bx)
 replace CV := hide (CV.out.step bx)
 replace CU := hide (CU.out.step bx)
 replace RO := hide (RO.out.step bx)
 replace PR := hide (PR.out.step bx)
 replace B := hide (Below.step B.out B.out.size bx)
 clear bx
 obtain rfl : m = m2 := RO.out.two RW.out LK.out.symm OL.out.symm XF.out.symm
 have PW := hide (Kq.new w8 r2)
 have bx := alloc_below w8 (kbox r2)
 replace BF := hide (Below.step BF.out BF.out.size bx)
 replace HV := hide (HV.out.step bx)
 replace HU := hide (HU.out.step bx)
 replace WV := hide (WV.out.step bx)
 replace WU := hide (WU.out.step bx)
 replace CV := hide (CV.out.step bx)
 replace CU := hide (CU.out.step bx)
 replace RO := hide (RO.out.step bx)
 replace PR := hide (PR.out.step bx)
 replace RW := hide (RW.out.step bx)
 replace B := hide (Below.step B.out B.out.size bx)
 clear bx
 rcases RO.out.cases with ⟨rfl, e0⟩ | ⟨rfl, e0⟩ | rfl
 case inl =>
  subst e0
  obtain ⟨r0, r1, r2', r3, r4⟩ : _ ∧ _ ∧ _ ∧ _ ∧ _ := (show (w8.alloc (kbox r2)).cell? ⟨gr, 0, none⟩ = some (.int .i64 0) ∧ (w8.alloc (kbox r2)).cell? ⟨gr, 1, none⟩ = some (.slice none 0 0) ∧ (w8.alloc (kbox r2)).cell? ⟨gr, 2, none⟩ = some (.bool false) ∧ (w8.alloc (kbox r2)).cell? ⟨gr, 3, none⟩ = some (.slice none 0 0) ∧ (w8.alloc (kbox r2)).cell? ⟨gr, 4, none⟩ = some (.slice none 0 0) from PR.out.all)
  go_wp2_with fail
  refine (rsame_zero _).mono ?_
  rintro e wy ⟨rfl, bx⟩
  have B9 := hide (Below.step B.out B.out.size bx)
  clear bx
  go_wp2_with fail
  go_ret
  exact ⟨rfl, B9.out⟩
 case inr.inl =>
  subst e0
  obtain ⟨r0, r1, r2', r3, r4⟩ : _ ∧ _ ∧ _ ∧ _ ∧ _ := (show (w8.alloc (kbox r2)).cell? ⟨gr, 0, none⟩ = some (.int .i64 0) ∧ (w8.alloc (kbox r2)).cell? ⟨gr, 1, none⟩ = some (.slice none 0 0) ∧ (w8.alloc (kbox r2)).cell? ⟨gr, 2, none⟩ = some (.bool false) ∧ (w8.alloc (kbox r2)).cell? ⟨gr, 3, none⟩ = some (.slice none 0 0) ∧ (w8.alloc (kbox r2)).cell? ⟨gr, 4, none⟩ = some (.slice none 0 0) from PR.out.all)
  go_wp2_with fail
  refine (rsame_zero _).mono ?_
  rintro e wy ⟨rfl, bx⟩
  have B9 := hide (Below.step B.out B.out.size bx)
  clear bx
  go_wp2_with fail
  go_ret
  exact ⟨rfl, B9.out⟩
 case inr.inr =>
  obtain ⟨kg1, kg2, heq, hrl⟩ := RO.out.eqs RW.out LK.out.symm XF.out.symm
  have K1 := hide kg1
  have K2 := hide kg2
  have HE := hide heq
  have HRL := hide hrl
  clear kg1 kg2 heq hrl
  obtain ⟨r0, r1, r2', r3, r4⟩ := PR.out.all
  obtain ⟨m0, m1, m2', m3, m4⟩ := PW.out.all
  go_wp2_with fail
  refine (samecons_x K1.out.kc K2.out.kc).mono ?_
  rintro e wa ⟨hb, bx⟩
  obtain rfl := hb.tr HE.out
  have PR9 := hide (PR.out.step bx)
  have K9 := hide (K1.out.step bx)
  have BF9 := hide (Below.step BF.out BF.out.size bx)
  clear hb bx r0 r1 r2' r3 r4 m0 m1 m2' m3 m4
  obtain ⟨r0, r1, r2', r3, r4⟩ := PR9.out.all
  have RD := hide (show r.d.length ≤ 1000000 by have := HRL.out; omega)
  have s6 := BF9.out.size
  go_wp2_with fail
  refine (kspoil_w (K9.out.ksp (by omega)) s6 RD.out).mono ?_
  rintro e wb ⟨rfl, sb⟩
  have BS := hide (BF9.out.trans sb.1)
  clear sb s6 r0 r1 r2' r3 r4
  go_wp2_with fail
  refine (csame_w (CV5.out.step BS.out) (WV5.out.step BS.out)).mono ?_
  rintro e wc ⟨rfl, bx⟩
  have BT := hide (Below.step BS.out BS.out.size bx)
  clear bx
  go_wp2_with fail
  refine (sameall_v (CU5.out.step BT.out) (WU5.out.step BT.out)).mono ?_
  rintro e wd ⟨rfl, bx⟩
  have BU := hide (Below.step BT.out BT.out.size bx)
  have B9 := hide (Below.step B5.out B5.out.size BU.out)
  clear bx
  go_wp2_with fail
  go_ret
  exact ⟨rfl, B9.out⟩
end Go.Proofs.YtfnngcaalpknlaaGreat
