
/-
 Pools: New, Len, Cuts, Broken; the document's Same of constraints.
-/
import Derived.Test.YtofmhfbbedalbaaGreatPl7
import Derived.Test.YtofmhfbbedalbaaGreatBundleN
import Derived.Test.YtofmhfbbedalbaaGreatBundleQ
import Derived.Test.YtofmhfbbedalbaaGreatKref8
import Derived.Deep.DeepCutAuto


namespace Go.Proofs.YtofmhfbbedalbaaGreat
open Go.RowKit Go.Joins Go.Deep Go.Proofs.YtofmhfbbedalbaaGreat.Num
set_option linter.unusedVariables false
set_option linter.unusedSimpArgs false
set_option maxRecDepth 100000
theorem plnew_c (w : World) (p : Int) (M : Nat) :
  Calls Tryz.prog 13 #[.int .i64 p] w fun e w' => ∃ g, e = .returned (.pointer (some ⟨g, 0, none⟩)) ∧ Plo w' w.heap.size g p (none, 0, 0) [] M ∧ Below w.heap.size w w' := by
 have b2 := hide (alloc_below w (.cells #[.int .i64 p, .slice none 0 0] 77))
 have Q := hide (show Plq (w.alloc (.cells #[.int .i64 p, .slice none 0 0] 77)) w.heap.size p (none, 0, 0) from heap_alloc_new w _)
 go_enter Tryz.func13, Tryz.ntmps13
 go_wp2_with fail
 go_ret
 exact ⟨w.heap.size, rfl, ⟨Q.out, Nat.le_refl _, Ow.nil _ _ _ _ _, fun x hx => by cases hx⟩, b2.out⟩
theorem pllen_c {w : World} {B g : Nat} {p : Int} {v : Sl} {l : List Cx} {M : Nat} (hp : Plo w B g p v l M) :
  Calls Tryz.prog 21 #[.pointer (some ⟨g, 0, none⟩)] w fun e w' => e = .returned (.int .i64 (l.length : Int)) ∧ Below w.heap.size w w' := by
 obtain ⟨VA, vn, vc⟩ := v
 obtain ⟨en, em⟩ := lr_nP hp.rd
 dsimp only at en
 have VN := hide en
 have c1 : w.cell? ⟨g, 1, none⟩ = some (.slice VA vn vc) := hp.1.c
 clear hp en em
 go_enter Tryz.func21, Tryz.ntmps21
 go_wp2_with fail
 go_ret
 exact ⟨by rw [← VN.out]; rfl, Below.refl _ _⟩
theorem ow_othT {α : Type} {enc : α → List Value} {k : Nat} {T : TypeId} {W : World} {B : Nat} {v : Value} {l : List α} (h : Ow T enc k W B v l) (h1 : T ≠ 109) (h2 : T ≠ 59) : ∀ g, v.ownBlock = some g → Oth W g := by
 intro g hg
 rcases h.form with ⟨rfl, _⟩ | ⟨g', cap, cur, rfl, hB, hlt, hh, r⟩
 ·cases hg
 ·have e : g' = g := by simpa [Value.ownBlock] using hg
  subst e
  exact ⟨cur, _, hh, h1, h2⟩
theorem Kg.same {W W' : World} {B B' L M : Nat} {k k' : Kx} (h : Kg W B k L) (h' : Kg W' B' k' M) (h1 : 1 ≤ L) (e1 : tms k'.d = tms k.d) (e2 : k'.x.r = k.x.r) : Kg W' B' k' L :=
 ⟨h'.1.fitP h'.2.2 (fun c hc => by rw [e1]; exact fm_sz h.2.2 h1 (h.1.szP h1) c), h'.2.1.fit (by rw [e2]; exact h.2.1.ra.sz h1), h'.2.2⟩
def Cts (l : List Cx) (k : Nat) (os : List Kx) : Prop := os.map cv = (cvs l).take k
theorem Cts.next {l : List Cx} {k : Nat} {os : List Kx} {x : Cx} {y : Kx} (h : Cts l k os) (hx : l[k]? = some x) (hy : cv y = cv x.k) : Cts l (k + 1) (os ++ [y]) := by
 have hc := cvs_get hx
 have hlt := (List.getElem?_eq_some_iff.1 hc).1
 have e := (List.getElem?_eq_some_iff.1 hc).2
 show (os ++ [y]).map cv = _
 rw [List.map_append, h, List.take_succ_eq_append_getElem hlt, e, ← hy]
 rfl
def CtRet (w : World) (l : List Cx) (M : Nat) (e : Ending) (w' : World) : Prop :=
 ∃ (v : Value) (os : List Kx), e = .returned v ∧ Ow 29 ek 5 w' w.heap.size v os ∧ (∀ y ∈ os, Kg w' w.heap.size y M) ∧ os.map cv = cvs l ∧ Below w.heap.size w w'
set_option maxHeartbeats 8000000 in
theorem plcuts_c {w : World} {B g : Nat} {p : Int} {v : Sl} {l : List Cx} {M : Nat} (hp : Plo w B g p v l M) (h1 : 1 ≤ M) (hM : M ≤ 500000) (hl : l.length ≤ 1000) :
  Calls Tryz.prog 15 #[.pointer (some ⟨g, 0, none⟩)] w (CtRet w l M) := by
 obtain ⟨i0, hi, hz0, hz1, hz2⟩ := info_parts info_kc
 obtain ⟨VA, vn, vc⟩ := v
 obtain ⟨en, em⟩ := lr_nP hp.rd
 dsimp only at en
 have VN := hide en
 have c1 : w.cell? ⟨g, 1, none⟩ = some (.slice VA vn vc) := hp.1.c
 have PL := hide hp
 have lv : vn ≤ 1000 := by omega
 clear hp en em
 go_enter Tryz.func15, Tryz.ntmps15
 go_wp2_with fail
 clear c1
 go_loopw [3, 11] (fun ov iv wr => ∃ (k : Nat) (os : List Kx), k ≤ vn ∧ iv = .int .i64 (k : Int) ∧ Hid (Below w.heap.size w wr) ∧ Hid (Ow 29 ek 5 wr w.heap.size ov os) ∧ Hid (∀ y ∈ os, Kg wr w.heap.size y M) ∧ Hid (Cts l k os) ∧ Hid (os.length = k)) (fun _ iv _ => vn - (intOf iv).toNat)
 case atStart => exact ⟨0, [], Nat.zero_le _, rfl, hide (Below.refl _ _), hide (Ow.nil _ _ _ _ _), hide (fun y hy => by cases hy), hide rfl, hide rfl⟩
 case round =>
  obtain ⟨k, os, hk, rfl, BL, O, KS, CT, OL⟩ := hrel
  obtain ⟨A1, n1, c1, rfl⟩ := rv_sl (O.out.rl ek_len)
  by_cases hlt : k < vn
  ·obtain ⟨x, hx⟩ := len_of (d := l) (k := k) (by rw [← VN.out]; exact hlt)
   have HX := hide hx
   obtain ⟨b, off, rfl, hb, hc⟩ := (PL.out.step BL.out).rd.get hx
   have cc0 := hc 0 _ rfl
   have cc1 := hc 1 _ rfl
   have cc2 := hc 2 _ rfl
   have cc3 := hc 3 _ rfl
   have cc4 := hc 4 _ rfl
   have cc5 := hc 5 _ rfl
   rw [Nat.add_zero] at cc0
   have b8 := alloc_below wr (cbox x)
   have BL2 := hide (Below.step BL.out BL.out.size b8)
   have O2 := hide (O.out.step b8)
   have KS2 := hide (fun y hy => (KS.out y hy).step b8)
   have CQ := hide (Cq.new wr x)
   have KX := hide ((PL.out.step BL2.out).2.2.2 x (List.mem_of_getElem? hx))
   obtain ⟨d0', e1', e2', e3', e4', e5'⟩ := CQ.out.all
   have l3 : (0 : Int) ≤ (k : Int) := by omega
   have l4 : (k : Int) < (vn : Int) := by omega
   have OS := hide (show os.length + 1 ≤ 1000000000000 by have := OL.out; omega)
   clear hx hc hb b8 BL O KS
   go_wp2_with fail
   clear cc0 cc1 cc2 cc3 cc4 cc5 d0' e1' e2' e3' e4' e5'
   generalize (wr.alloc (cbox x)) = w4 at *
   generalize wr.heap.size = gx at *
   refine (kform_g (k := x.k) (L := M) KX.out.1.kc.kv (by have := KX.out.2; omega) h1 (by omega)).mono ?_
   rintro e w5 ⟨y, rfl, kg, es, al, er, ln, bx⟩
   have ET := hide (show tms y.d = tms x.k.d from Fm.unique kg.2.2 KX.out.1.2.2 al)
   have KY := hide (KX.out.1.same (kg.mono (B' := w.heap.size) BL2.out.size) h1 ET.out er)
   have CY := hide (show cv y = cv x.k by unfold cv; rw [es, ET.out, er])
   have b9 := alloc_below w5 (.cells #[.int .i64 y.s, sv y.v, .bool y.x.s, sv y.x.u, sv y.x.t] 29)
   have O3 := hide (O2.out.step bx)
   have KS3 := hide (show ∀ z ∈ os ++ [y], Kg w5 w.heap.size z M from fun z hz => by
    rcases List.mem_append.1 hz with hz | hz
    ·exact (KS2.out z hz).step bx
    ·simp at hz
     subst hz
     exact KY.out)
   have BL3 := hide (Below.step BL2.out BL2.out.size bx)
   clear kg es al er ln bx KX O2 KS2 BL2 b9
   go_wp2_with (at_builtin; (refine wpList_pushE rfl (.tmp 15) (.tmp 19) 33 rfl Tryz.underlying33 hi hz0 hz1 hz2 rfl (by omega) ek_len ek_one w5 w.heap.size _ os y _ rfl O3.out rfl rfl OS.out (by decide) BL3.out.size ?_; intro v' w' ho hg; have OF := hide ho; have KF := hide (show ∀ z ∈ os ++ [y], Kg w' w.heap.size z M from fun z hz => (KS3.out z hz).grownO hg.1 (ow_othT O3.out (by decide) (by decide))); have BF := hide (below_own BL3.out O3.out hg.1 BL3.out.size); clear ho hg))
   exact ⟨⟨k + 1, os ++ [y], by omega, by go_num, BF, OF, KF, hide (CT.out.next HX.out CY.out), hide (by simp [OL.out])⟩, by simp [intOf]; omega⟩
  ·obtain rfl : k = vn := by omega
   go_wp2_with fail
   go_ret
   exact ⟨_, os, rfl, O.out, KS.out, by
    have := CT.out
    unfold Cts at this
    rw [this, List.take_of_length_le (by simp [cvs, VN.out])], BL.out⟩
open Classical in
noncomputable def nbr (X : Int → Rat) : List Ct → Nat
 | [] => 0
 | c :: r => (if Kpt c.1 (dt c.2.1 X) c.2.2 then 0 else 1) + nbr X r
theorem nbr_snoc (X : Int → Rat) (l : List Ct) (c : Ct) : nbr X (l ++ [c]) = nbr X l + nbr X [c] := by
 induction l with
 | nil => simp [nbr]
 | cons a l ih => simp only [List.cons_append, nbr] at ih ⊢; omega
theorem nbr_keep {X : Int → Rat} {c : Ct} (h : Kpt c.1 (dt c.2.1 X) c.2.2) : nbr X [c] = 0 := by simp [nbr, h]
theorem nbr_break {X : Int → Rat} {c : Ct} (h : ¬ Kpt c.1 (dt c.2.1 X) c.2.2) : nbr X [c] = 1 := by simp [nbr, h]
theorem nbr_take {X : Int → Rat} {l : List Cx} {k : Nat} {x : Cx} (hx : l[k]? = some x) : nbr X ((cvs l).take (k + 1)) = nbr X ((cvs l).take k) + nbr X [cv x.k] := by
 have hc := cvs_get hx
 have hlt := (List.getElem?_eq_some_iff.1 hc).1
 have e := (List.getElem?_eq_some_iff.1 hc).2
 rw [List.take_succ_eq_append_getElem hlt, e, nbr_snoc]
def ei9 (x : Int) : List Value := [.int .i64 x]
theorem ei9_len (x : Int) : (ei9 x).length = 1 := rfl
theorem ei9_one (x : Int) : ∀ u ∈ ei9 x, u.oneCell' = true := by
 intro u hu
 simp [ei9] at hu
 subst hu
 rfl
theorem info_i9 : (Tryz.prog.info? 3).map (fun i => (i.zero, i.size, i.bytes)) = some (some (.int .i64 0), 1, 8) := by kernel_rfl
set_option maxHeartbeats 8000000 in
theorem plbroken_c {w : World} {B g : Nat} {p : Int} {v : Sl} {l : List Cx} {M : Nat} {u : Value} {f : List Rx} {K : Nat} (hp : Plo w B g p v l M) (hu : Fv w u f K) (h1 : 1 ≤ M) (hM : M ≤ 500000) (h2 : 1 ≤ K) (hK : K ≤ 500000) (hl : l.length ≤ 1000) :
  Calls Tryz.prog 23 #[.pointer (some ⟨g, 0, none⟩), u] w fun e w' => (∃ A c, e = .returned (.slice A (nbr (xf f) (cvs l)) c)) ∧ Below w.heap.size w w' := by
 obtain ⟨i0, hi, hz0, hz1, hz2⟩ := info_parts info_i9
 obtain ⟨UA, un, uc, rfl⟩ := rv_sl hu.1
 obtain ⟨VA, vn, vc⟩ := v
 obtain ⟨en, em⟩ := lr_nP hp.rd
 dsimp only at en
 have VN := hide en
 have c1 : w.cell? ⟨g, 1, none⟩ = some (.slice VA vn vc) := hp.1.c
 have PL := hide hp
 have HU := hide hu
 have lv : vn ≤ 1000 := by omega
 clear hp en em hu
 go_enter Tryz.func23, Tryz.ntmps23
 go_wp2_with fail
 clear c1
 go_loopw [5, 13] (fun ov iv wr => ∃ (k : Nat) (os : List Int), k ≤ vn ∧ iv = .int .i64 (k : Int) ∧ Hid (Below w.heap.size w wr) ∧ Hid (Ow 3 ei9 1 wr w.heap.size ov os) ∧ Hid (os.length = nbr (xf f) ((cvs l).take k)) ∧ Hid (os.length ≤ k)) (fun _ iv _ => vn - (intOf iv).toNat)
 case atStart => exact ⟨0, [], Nat.zero_le _, rfl, hide (Below.refl _ _), hide (Ow.nil _ _ _ _ _), hide rfl, hide (Nat.zero_le _)⟩
 case round =>
  obtain ⟨k, os, hk, rfl, BL, O, CT, OL⟩ := hrel
  obtain ⟨A1, n1, c1, rfl⟩ := rv_sl (O.out.rl ei9_len)
  by_cases hlt : k < vn
  ·obtain ⟨x, hx⟩ := len_of (d := l) (k := k) (by rw [← VN.out]; exact hlt)
   have HX := hide hx
   obtain ⟨b, off, rfl, hb, hc⟩ := (PL.out.step BL.out).rd.get hx
   have cc0 := hc 0 _ rfl
   have cc1 := hc 1 _ rfl
   have cc2 := hc 2 _ rfl
   have cc3 := hc 3 _ rfl
   have cc4 := hc 4 _ rfl
   have cc5 := hc 5 _ rfl
   rw [Nat.add_zero] at cc0
   have b8 := alloc_below wr (cbox x)
   have BL2 := hide (Below.step BL.out BL.out.size b8)
   have O2 := hide (O.out.step b8)
   have CQ := hide (Cq.new wr x)
   have KX := hide ((PL.out.step BL2.out).2.2.2 x (List.mem_of_getElem? hx))
   have FX := hide (HU.out.step BL2.out)
   obtain ⟨d0', e1', e2', e3', e4', e5'⟩ := CQ.out.all
   have l3 : (0 : Int) ≤ (k : Int) := by omega
   have l4 : (k : Int) < (vn : Int) := by omega
   have OS := hide (show os.length + 1 ≤ 1000000000000 by have := OL.out; omega)
   clear hx hc hb b8 BL O
   go_wp2_with fail
   clear cc0 cc1 cc2 cc3 cc4 cc5 d0' e1' e2' e3' e4' e5'
   generalize (wr.alloc (cbox x)) = w4 at *
   generalize wr.heap.size = gx at *
   refine (kholds_c (k := x.k) (L := M) (K := K) KX.out.1.kc.kv FX.out (by have := KX.out.2; omega) h1 (by omega) h2 (by omega)).mono ?_
   rintro e w5 ⟨⟨o, rfl, ho⟩, bx⟩
   have HO := hide (show o = true ↔ Kpt (cv x.k).1 (dt (cv x.k).2.1 (xf f)) (cv x.k).2.2 from ho)
   have BL3 := hide (Below.step BL2.out BL2.out.size bx)
   have O3 := hide (O2.out.step bx)
   clear ho bx KX FX O2 BL2
   cases o
   ·have NB := hide (nbr_break (X := xf f) (c := cv x.k) (fun h => absurd (HO.out.2 h) (by simp)))
    go_wp2_with (at_builtin; (refine wpList_pushE rfl (.tmp 23) (.tmp 25) 47 rfl Tryz.underlying47 hi hz0 hz1 hz2 rfl (by omega) ei9_len ei9_one w5 w.heap.size _ os (k : Int) _ rfl O3.out rfl rfl OS.out (by decide) BL3.out.size ?_; intro v' w' ho hg; have OF := hide ho; have BF := hide (below_own BL3.out O3.out hg.1 BL3.out.size); clear ho hg))
    exact ⟨⟨k + 1, os ++ [(k : Int)], by omega, by go_num, BF, OF, hide (by rw [nbr_take HX.out, NB.out, ← CT.out]; simp), hide (by have := OL.out; simp; omega)⟩, by simp [intOf]; omega⟩
   ·have NB := hide (nbr_keep (X := xf f) (c := cv x.k) (HO.out.1 (by simp)))
    go_wp2_with fail
    exact ⟨⟨k + 1, os, by omega, by go_num, BL3, O3, hide (by rw [nbr_take HX.out, NB.out, ← CT.out]; rfl), hide (by have := OL.out; omega)⟩, by simp [intOf]; omega⟩
  ·obtain rfl : k = vn := by omega
   obtain ⟨en1, -⟩ := lr_nP (O.out.rl ei9_len)
   have E1 := hide (show n1 = nbr (xf f) (cvs l) by
    rw [en1, CT.out, List.take_of_length_le (by simp [cvs, VN.out])])
   clear en1
   go_wp2_with fail
   go_ret
   exact ⟨⟨A1, c1, by rw [← E1.out]; rfl⟩, BL.out⟩
set_option maxHeartbeats 8000000 in
theorem csameP_c {w : World} {u v : Value} {d f : List Kx} {L M : Nat} (hu : Lr ek 5 w u d) (hv : Lr ek 5 w v f) (hku : ∀ k ∈ d, Kc w k L) (hkv : ∀ k ∈ f, Kc w k M) (hl : f.length = d.length) (he : ∀ (i : Nat) x y, d[i]? = some x → f[i]? = some y → x.s = y.s ∧ tms x.d = tms y.d ∧ x.x.r = y.x.r) :
  Calls Tryz.prog 22 #[u, v] w fun e w' => e = .returned (.bool true) ∧ Below w.heap.size w w' := by
 obtain ⟨A, c, e1, hc1, hc2, hc3⟩ := id hu
 obtain ⟨D, m, e2, hd1, hd2, hd3⟩ := id hv
 obtain ⟨n, hlen⟩ : ∃ n, n = d.length := ⟨_, rfl⟩
 rw [hl] at e2 hd1
 rw [← hlen] at e1 e2 hc1 hd1
 subst e1 e2
 have HU := hide hu
 have KU := hide hku
 have KV := hide hkv
 have HE := hide he
 have HV := hide hv
 have HN := hide hlen
 have HL := hide hl
 unfold maxLen at hc2
 have t0 : ((n : Int) != (n : Int)) = false := by simp
 clear hu hv hku hkv he hc3 hd3 hl hlen
 go_enter Tryz.func22, Tryz.ntmps22
 go_wp2_with fail
 go_loopw [5] (fun iv wr => ∃ k : Nat, k ≤ n ∧ iv = .int .i64 (k : Int) ∧ Hid (Below w.heap.size w wr)) (fun iv _ => n - (intOf iv).toNat)
 case atStart => exact ⟨0, Nat.zero_le _, rfl, hide (Below.refl _ _)⟩
 case round =>
  obtain ⟨k, hk, rfl, B⟩ := hrel
  by_cases hlt : k < n
  ·obtain ⟨x, hx⟩ := len_of (d := d) (k := k) (by rw [← HN.out]; exact hlt)
   obtain ⟨y, hy⟩ := len_of (d := f) (k := k) (by rw [HL.out, ← HN.out]; exact hlt)
   have b8 := (Below.refl wr.heap.size wr).drew
   have B8 := hide (Below.step B.out B.out.size b8)
   have RX := hide (((KU.out x (List.mem_of_getElem? hx)).step B.out).step b8)
   have RY := hide (((KV.out y (List.mem_of_getElem? hy)).step B.out).step b8)
   have EC := hide (HE.out k x y hx hy)
   obtain ⟨b, off, rfl, hb, hc⟩ := ((HU.out.step B.out).step b8).get hx
   obtain ⟨b', off', rfl, hb', hc'⟩ := ((HV.out.step B.out).step b8).get hy
   have c0 := hc 0 _ rfl
   have c1 := hc 1 _ rfl
   have c2 := hc 2 _ rfl
   have c3 := hc 3 _ rfl
   have c4 := hc 4 _ rfl
   have e0 := hc' 0 _ rfl
   have e1 := hc' 1 _ rfl
   have e2 := hc' 2 _ rfl
   have e3 := hc' 3 _ rfl
   have e4 := hc' 4 _ rfl
   rw [Nat.add_zero] at c0 e0
   have l0 : (0 : Int) ≤ (k : Int) := by omega
   have l1 : (k : Int) < (n : Int) := by omega
   have P := hide (And.intro (And.intro c0 (And.intro c1 (And.intro c2 (And.intro c3 c4)))) (And.intro e0 (And.intro e1 (And.intro e2 (And.intro e3 e4)))))
   clear hc hc' hb hb' hx hy b8
   go_wp2_with fail
   go_region_held3 (fun W => (W.cell? ⟨b, off + k * 5, none⟩ = some (.int .i64 x.s) ∧ W.cell? ⟨b, off + k * 5 + 1, none⟩ = some (sv x.v) ∧ W.cell? ⟨b, off + k * 5 + 2, none⟩ = some (.bool x.x.s) ∧ W.cell? ⟨b, off + k * 5 + 3, none⟩ = some (sv x.x.u) ∧ W.cell? ⟨b, off + k * 5 + 4, none⟩ = some (sv x.x.t)) ∧ W.cell? ⟨b', off' + k * 5, none⟩ = some (.int .i64 y.s) ∧ W.cell? ⟨b', off' + k * 5 + 1, none⟩ = some (sv y.v) ∧ W.cell? ⟨b', off' + k * 5 + 2, none⟩ = some (.bool y.x.s) ∧ W.cell? ⟨b', off' + k * 5 + 3, none⟩ = some (sv y.x.u) ∧ W.cell? ⟨b', off' + k * 5 + 4, none⟩ = some (sv y.x.t))
    (with_reducible exact P.out)
    (first
     | (go_at_call 10; refine Calls.mono (samecons_x RX.out RY.out) ?_; rintro e wx ⟨hbr, bx⟩; obtain rfl := hbr.tr EC.out; clear hbr; have P9 := hide (And.intro (And.intro (cell_keep P.out.1.1 bx) (And.intro (cell_keep P.out.1.2.1 bx) (And.intro (cell_keep P.out.1.2.2.1 bx) (And.intro (cell_keep P.out.1.2.2.2.1 bx) (cell_keep P.out.1.2.2.2.2 bx))))) (And.intro (cell_keep P.out.2.1 bx) (And.intro (cell_keep P.out.2.2.1 bx) (And.intro (cell_keep P.out.2.2.2.1 bx) (And.intro (cell_keep P.out.2.2.2.2.1 bx) (cell_keep P.out.2.2.2.2.2 bx)))))); replace P := P9; have B9 := hide (Below.step B8.out B8.out.size bx)))
   all_goals
    clear P c0 c1 c2 c3 c4 e0 e1 e2 e3 e4
    go_wp2_with fail
    exact ⟨⟨k + 1, by omega, by go_num, B9⟩, by simp [intOf]; omega⟩
  ·obtain rfl : k = n := by omega
   go_wp2_with fail
   go_ret
   exact ⟨rfl, B.out⟩
end Go.Proofs.YtofmhfbbedalbaaGreat
