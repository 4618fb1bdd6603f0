
/-
 The document's constraints of a problem.
-/
import Derived.Test.YtnhlomphdighnaaGreatPm20
import Derived.Test.YtnhlomphdighnaaGreatKdrw
import Derived.Test.YtnhlomphdighnaaGreatBundleN
import Derived.BigQuiet


namespace Go.Proofs.YtnhlomphdighnaaGreat
open Go.RowKit Go.Proofs.YtnhlomphdighnaaGreat.Num
set_option linter.unusedVariables false
set_option linter.unusedSimpArgs false
set_option maxRecDepth 100000
theorem Wq.off {α : Type} {T : TypeId} {enc : α → List Value} {k B g : Nat} {W W' : World} {v : Value} {d : List α} {r : Wx} (h : Wq W g r) (ho : Ow T enc k W B v d) (hT : T ≠ 53) (hg : W.grownBy W' v.ownBlock) : Wq W' g r := by
 refine (hg.block g h.lt (fun he => ?_)).trans h
 rcases ho.offT h hT with e | e
 ·rw [e] at he; cases he
 ·exact e he.symm
theorem cmpR_eq {a b : Rat} (h : cmpR a b = 0) : a = b := by
 unfold cmpR at h
 split at h
 ·cases h
 ·split at h
  ·cases h
  ·grind
theorem Wq.alls {W : World} {g dn dc : Nat} {nm : ByteArray} {a b : Bool} {lo hi : Rx} {DA : Option Addr} {d : List Tx} (h : Wq W g ⟨nm, a, b, lo, hi, (DA, dn, dc), d⟩) :
  W.cell? ⟨g, 0, none⟩ = some (.string nm) ∧ W.cell? ⟨g, 1, none⟩ = some (.bool a) ∧ W.cell? ⟨g, 2, none⟩ = some (.bool b) ∧ W.cell? ⟨g, 3, none⟩ = some (.bool lo.s) ∧ W.cell? ⟨g, 4, none⟩ = some (sv lo.u) ∧ W.cell? ⟨g, 5, none⟩ = some (sv lo.t) ∧ W.cell? ⟨g, 6, none⟩ = some (.bool hi.s) ∧ W.cell? ⟨g, 7, none⟩ = some (sv hi.u) ∧ W.cell? ⟨g, 8, none⟩ = some (sv hi.t) ∧ W.cell? ⟨g, 9, none⟩ = some (.slice DA dn dc) := h.all
def RksRet (w : World) (p : Px) (e : Ending) (w' : World) : Prop :=
 ∃ v' l, e = .returned v' ∧ Kgl w' w.heap.size v' l 966 ∧ Crs l (cprob p) ∧ (∀ k ∈ l, k.d.length ≤ 30) ∧ Below w.heap.size w w'
def fltk (n : Nat) (d : List Tx) (j : Nat) : List Tx := (d.take j).filter fun x => !decide ((n : Int) ≤ x.c)
theorem fltk_in {n : Nat} {d : List Tx} {j : Nat} {x : Tx} (h : d[j]? = some x) (hx : x.c < (n : Int)) : fltk n d (j + 1) = fltk n d j ++ [x] := by
 unfold fltk
 rw [List.take_add_one, h, List.filter_append]
 congr 1
 simp
 omega
theorem fltk_out {n : Nat} {d : List Tx} {j : Nat} {x : Tx} (h : d[j]? = some x) (hx : ¬ x.c < (n : Int)) : fltk n d (j + 1) = fltk n d j := by
 unfold fltk
 rw [List.take_add_one, h, List.filter_append]
 simp
 omega
theorem fltk_len (n : Nat) (d : List Tx) (j : Nat) : (fltk n d j).length ≤ d.length := by
 unfold fltk
 exact Nat.le_trans (List.length_filter_le _ _) (by rw [List.length_take]; omega)
theorem fltk_mem {n : Nat} {d : List Tx} {j : Nat} {x : Tx} (h : x ∈ fltk n d j) : x ∈ d := by
 unfold fltk at h
 exact List.mem_of_mem_take (List.mem_filter.1 h).1
theorem fltk_all (n : Nat) (d : List Tx) : fltk n d d.length = d.filter fun x => !decide ((n : Int) ≤ x.c) := by
 unfold fltk
 rw [List.take_length]
set_option maxHeartbeats 16000000 in
theorem rconstraints_c {w : World} {p : Px} (hp : Pv w p 6) (hk : PsLen p) :
  Calls Tryz.prog 11 #[px p] w (RksRet w p) := by
 obtain ⟨i0, hi0, hz0, hz1, hz2⟩ := info_parts info_kc
 obtain ⟨j0, hj0, hy0, hy1, hy2⟩ := info_parts info_tm
 obtain ⟨nm, ob, ⟨RA, rn, rc⟩, rows, ⟨VA, vn, vc⟩, vars⟩ := p
 obtain ⟨RA', rc', er, hr1, hr2, hr3⟩ := id hp.1.1
 obtain ⟨VA', vc', ev, hc1, hc2, hc3⟩ := id hp.2.1
 dsimp only at er ev hc1 hc2 hr1 hr2
 injection er with e1 e2 e3
 subst e1 e2 e3
 injection ev with e1 e2 e3
 subst e1 e2 e3
 obtain ⟨n, hlen⟩ : ∃ n, n = vars.length := ⟨_, rfl⟩
 obtain ⟨m, hlr⟩ : ∃ m, m = rows.length := ⟨_, rfl⟩
 have HK := hide hk
 have HN := hide hlen
 have HM := hide hlr
 have CP := hide (show cprob ⟨nm, ob, (RA, rows.length, rc), rows, (VA, vars.length, vc), vars⟩ = crows n rows m ++ cvars vars n by unfold cprob; rw [hlen, hlr])
 rw [← hlen] at hp hc1 CP ⊢
 rw [← hlr] at hp hr1 CP ⊢
 have KN := hide (show m ≤ 70 ∧ n ≤ 50 from ⟨by rw [hlr]; exact hk.1, by rw [hlen]; exact hk.2.1⟩)
 have b2 := alloc_below w (.cells #[.string nm, .string ob, .slice RA m rc, .slice VA n vc] 25)
 have PQ := hide (show Pq (w.alloc (.cells #[.string nm, .string ob, .slice RA m rc, .slice VA n vc] 25)) w.heap.size ⟨nm, ob, (RA, m, rc), rows, (VA, n, vc), vars⟩ from heap_alloc_new w _)
 have HP := hide (hp.step b2)
 have B0 := hide b2
 unfold maxLen at hc2 hr2
 clear hp b2 hk hr3 hc3 hlen hlr
 obtain ⟨p0, p1, p2, p3⟩ := PQ.out.alls
 go_enter Tryz.func11, Tryz.ntmps11
 have hsz : (w.alloc (.cells #[.string nm, .string ob, .slice RA m rc, .slice VA n vc] 25)).heap.size = w.heap.size + 1 := by simp
 have BA := hide (alloc_below (w.alloc (.cells #[.string nm, .string ob, .slice RA m rc, .slice VA n vc] 25)) (.cells #[] 46))
 have O1 := hide (show Ow 46 ek 5 ((w.alloc (.cells #[.string nm, .string ob, .slice RA m rc, .slice VA n vc] 25)).alloc (.cells #[] 46)) (w.heap.size + 1) (.slice (some ⟨w.heap.size + 1, 0, none⟩) 0 0) ([] : List Kx) from by
  have h := Ow.lit (B := (w.alloc (.cells #[.string nm, .string ob, .slice RA m rc, .slice VA n vc] 25)).heap.size) ek_len (w.alloc (.cells #[.string nm, .string ob, .slice RA m rc, .slice VA n vc] 25)) 46 ([] : List Kx) #[] rfl (Nat.le_refl _) (by simp [maxLen])
  rw [hsz] at h
  exact h)
 go_wp2_with fail
 clear p0 p1 p2 p3
 have SZ := hide hsz
 generalize hW0 : (w.alloc (.cells #[.string nm, .string ob, .slice RA m rc, .slice VA n vc] 25)) = w0 at *
 clear hsz hW0
 rw [← SZ.out] at O1
 generalize hW1 : w0.alloc (.cells #[] 46) = w1 at *
 clear hW1
 go_loopw [3, 4] (fun ov iv wr => ∃ (k : Nat) (l : List Kx), k ≤ m ∧ iv = .int .i64 (k : Int) ∧ Hid (Below w0.heap.size w0 wr) ∧ Hid (Kgl wr w0.heap.size ov l 966) ∧ Hid (Crs l (crows n rows k)) ∧ Hid (∀ x ∈ l, x.d.length ≤ 30)) (fun _ iv _ => m - (intOf iv).toNat)
 case atStart => exact ⟨0, [], Nat.zero_le _, rfl, BA, hide ⟨by rw [SZ.out] at O1 ⊢; exact O1.out, fun k hk => by cases hk⟩, hide trivial, hide (fun x hx => by cases hx)⟩
 case round =>
  clear BA O1
  obtain ⟨k, l, hk, rfl, B, T, CR, LN⟩ := hrel
  obtain ⟨A1, n1, c1, rfl⟩ := rv_sl (T.out.1.rl ek_len)
  by_cases hlt : k < m
  ·obtain ⟨⟨rnm, ra, rb, rlo, rhi, ⟨DA, dn, dc⟩, rd⟩, hr⟩ := len_of (d := rows) (k := k) (by rw [← HM.out]; exact hlt)
   have HR := hide hr
   have RV := hide (HP.out.1.2 _ (List.mem_of_getElem? hr))
   obtain ⟨DA', dc', ed, hd1, hd2, -⟩ := id RV.out.1.1
   dsimp only at ed hd1 hd2
   injection ed with e1 e2 e3
   subst e1 e3
   have DN := hide (show dn = rd.length from e2)
   have D30 := hide (show rd.length ≤ 30 from HK.out.2.2 _ (List.mem_of_getElem? hr))
   have dn30 : dn ≤ 30 := by have := D30.out; have := DN.out; omega
   have LL := hide (show l.length ≤ 140 by rw [CR.out.len]; have := crows_len n rows k; have := KN.out; omega)
   have CN := hide (crows_next (n := n) hr)
   obtain ⟨b, off, rfl, hb, hc⟩ := (HP.out.1.1.step B.out).get hr
   have c0 := hc 0 _ rfl
   have c1' := hc 1 _ rfl
   have c2 := hc 2 _ rfl
   have c3 := hc 3 _ rfl
   have c4 := hc 4 _ rfl
   have c5 := hc 5 _ rfl
   have c6 := hc 6 _ rfl
   have c7 := hc 7 _ rfl
   have c8 := hc 8 _ rfl
   have c9 := hc 9 _ rfl
   rw [Nat.add_zero] at c0
   have l0 : (0 : Int) ≤ (k : Int) := by omega
   have l1 : (k : Int) < (m : Int) := by omega
   obtain ⟨p0, p1, p2, p3⟩ := (PQ.out.step B.out).alls
   have hsz : (wr.alloc (wbox ⟨rnm, ra, rb, rlo, rhi, (DA, dn, dc), rd⟩)).heap.size = wr.heap.size + 1 := by simp
   have b8 := alloc_below wr (wbox ⟨rnm, ra, rb, rlo, rhi, (DA, dn, dc), rd⟩)
   have b9 := alloc_below (wr.alloc (wbox ⟨rnm, ra, rb, rlo, rhi, (DA, dn, dc), rd⟩)) (.cells #[] 51)
   have WQ := hide (show Wq ((wr.alloc (wbox ⟨rnm, ra, rb, rlo, rhi, (DA, dn, dc), rd⟩)).alloc (.cells #[] 51)) wr.heap.size ⟨rnm, ra, rb, rlo, rhi, (DA, dn, dc), rd⟩ from Wq.step (heap_alloc_new wr _) b9)
   have BI := hide (Below.step b8 b8.size b9)
   have O := hide (show Ow 51 et 4 ((wr.alloc (wbox ⟨rnm, ra, rb, rlo, rhi, (DA, dn, dc), rd⟩)).alloc (.cells #[] 51)) wr.heap.size (.slice (some ⟨wr.heap.size + 1, 0, none⟩) 0 0) ([] : List Tx) from by
    have h := Ow.lit (B := wr.heap.size) et_len (wr.alloc (wbox ⟨rnm, ra, rb, rlo, rhi, (DA, dn, dc), rd⟩)) 51 ([] : List Tx) #[] rfl (by simp) (by simp [maxLen])
    rw [hsz] at h
    exact h)
   clear hc hb hr b8 b9 hsz hd1 hd2 e2
   go_wp2_with fail
   clear c0 c1' c2 c3 c4 c5 c6 c7 c8 c9 p0 p1 p2 p3
   generalize ((wr.alloc (wbox ⟨rnm, ra, rb, rlo, rhi, (DA, dn, dc), rd⟩)).alloc (.cells #[] 51)) = w3 at *
   obtain ⟨wo, hwo⟩ : ∃ wo, wo = wr := ⟨_, rfl⟩
   subst hwo
   go_loopw [6, 7] (fun tv jv wr => ∃ j : Nat, j ≤ dn ∧ jv = .int .i64 (j : Int) ∧ Hid (Below wo.heap.size wo wr) ∧ Hid (Wq wr wo.heap.size ⟨rnm, ra, rb, rlo, rhi, (DA, dn, dc), rd⟩) ∧ Hid (Ow 51 et 4 wr wo.heap.size tv (fltk n rd j))) (fun _ jv _ => dn - (intOf jv).toNat)
   case atStart => exact ⟨0, Nat.zero_le _, rfl, BI, WQ, hide (by have h := O.out; exact h)⟩
   case round =>
    clear BI WQ O
    obtain ⟨j, hj, rfl, BI, WQ, O⟩ := hrel
    obtain ⟨A5, n5, c5, rfl⟩ := rv_sl (O.out.rl et_len)
    obtain ⟨q0, q1, q2, q3, q4, q5, q6, q7, q8, q9⟩ := WQ.out.alls
    have BB := hide (Below.step B.out B.out.size BI.out)
    obtain ⟨p0, p1, p2, p3⟩ := (PQ.out.step BB.out).alls
    by_cases hjt : j < dn
    ·obtain ⟨x, hx⟩ := len_of (d := rd) (k := j) (by rw [← DN.out]; exact hjt)
     have FI := hide (fun h : x.c < (n : Int) => fltk_in (n := n) hx h)
     have FO := hide (fun h : ¬ x.c < (n : Int) => fltk_out (n := n) hx h)
     obtain ⟨b', off', rfl, hb', hc'⟩ := (RV.out.1.1.step BB.out).get hx
     have d0 := hc' 0 _ rfl
     have d1 := hc' 1 _ rfl
     have d2 := hc' 2 _ rfl
     have d3 := hc' 3 _ rfl
     rw [Nat.add_zero] at d0
     have CE := hide (And.intro d0 (And.intro d1 (And.intro d2 d3)))
     have m0 : (0 : Int) ≤ (j : Int) := by omega
     have m1 : (j : Int) < (dn : Int) := by omega
     have HL5 := hide (show (fltk n rd j).length + 1 ≤ 1000000000000 by have := fltk_len n rd j; have := D30.out; omega)
     clear hc' hb' hx d1 d2 d3
     go_wp2_with fail
     have bd := (Below.refl wr.heap.size wr).drew
     have B8 := hide (Below.step BI.out BI.out.size bd)
     have W8 := hide (WQ.out.step bd)
     have O8 := hide (O.out.step bd)
     have P8 := hide (PQ.out.step (Below.step BB.out BB.out.size bd))
     have E8 := hide (show wr.drew.cell? ⟨b', off' + j * 4, none⟩ = some (.int .i64 x.c) ∧ wr.drew.cell? ⟨b', off' + j * 4 + 1, none⟩ = some (.bool x.x.s) ∧ wr.drew.cell? ⟨b', off' + j * 4 + 2, none⟩ = some (sv x.x.u) ∧ wr.drew.cell? ⟨b', off' + j * 4 + 3, none⟩ = some (sv x.x.t) from ⟨cell_keep CE.out.1 bd, cell_keep CE.out.2.1 bd, cell_keep CE.out.2.2.1 bd, cell_keep CE.out.2.2.2 bd⟩)
     have SS := hide (And.intro W8.out.alls.2.2.2.2.2.2.2.2.2 (And.intro E8.out.1 P8.out.alls.2.2.2))
     clear WQ O BI CE BB p0 p1 p2 p3 q0 q1 q2 q3 q4 q5 q6 q7 q8 q9 d0 bd
     by_cases hxn : x.c < (n : Int)
     ·have t1 : decide (x.c < (n : Int)) = true := decide_eq_true hxn
      have FE := hide (FI.out (by first | exact hxn | omega))
      clear hxn FI FO
      go_region_held3 (fun W => W.cell? ⟨wo.heap.size, 9, none⟩ = some (.slice (some ⟨b', off', none⟩) dn dc) ∧ W.cell? ⟨b', off' + j * 4, none⟩ = some (.int .i64 x.c) ∧ W.cell? ⟨w.heap.size, 3, none⟩ = some (.slice VA n vc))
       (with_reducible exact SS.out)
       (first | fail)
      all_goals
       clear SS
       obtain ⟨q0, q1, q2, q3, q4, q5, q6, q7, q8, q9⟩ := W8.out.alls
       obtain ⟨d0, d1, d2, d3⟩ := E8.out
       generalize wr.drew = w9 at *
       go_wp2_with (at_builtin; (refine wpList_pushE rfl (.tmp 41) (.tmp 47) 31 rfl Tryz.underlying31 hj0 hy0 hy1 hy2 rfl (by omega) et_len et_one w9 wo.heap.size _ (fltk n rd j) x _ rfl O8.out rfl rfl HL5.out (by decide) B8.out.size ?_; intro v' w' ho hg; have OF := hide ho; have BF := hide (below_own B8.out O8.out hg.1 B8.out.size); have WF := hide (W8.out.off O8.out (by decide) hg.1); clear ho hg))
       exact ⟨⟨j + 1, by omega, by go_num, BF, WF, hide (by rw [FE.out]; exact OF.out)⟩, by simp [intOf]; omega⟩
     ·have t1 : decide (x.c < (n : Int)) = false := decide_eq_false hxn
      have FE := hide (FO.out (by first | exact hxn | omega))
      clear hxn FI FO
      go_region_held3 (fun W => W.cell? ⟨wo.heap.size, 9, none⟩ = some (.slice (some ⟨b', off', none⟩) dn dc) ∧ W.cell? ⟨b', off' + j * 4, none⟩ = some (.int .i64 x.c) ∧ W.cell? ⟨w.heap.size, 3, none⟩ = some (.slice VA n vc))
       (with_reducible exact SS.out)
       (first | fail)
      all_goals
       clear SS
       generalize wr.drew = w9 at *
       go_wp2_with fail
       exact ⟨⟨j + 1, by omega, by go_num, B8, W8, hide (by rw [FE.out]; exact O8.out)⟩, by simp [intOf]; omega⟩
    ·obtain rfl : j = dn := by omega
     have T8 := hide (T.out.step BI.out)
     have EL := hide (show ∀ x ∈ fltk n rd j, x ∈ rd from fun x hx => fltk_mem hx)
     have FL := hide (show (fltk n rd j).length ≤ 30 from Nat.le_trans (fltk_len n rd j) D30.out)
     have FG := hide (show ∀ c, 0 ≤ c → gsum (tms (fltk n rd j)) c = grow n ⟨rnm, ra, rb, rlo, rhi, (DA, j, dc), rd⟩ c from fun c _ => by rw [DN.out, fltk_all]; exact gsum_below rd n c)
     go_wp2_with fail
     clear p0 p1 p2 p3 q0 q1 q2 q3 q4 q5 q6 q7 q8 q9 BI T
     have bd := (Below.refl wr.heap.size wr).drew
     replace T := hide (T8.out.step bd)
     replace O := hide (O.out.step bd)
     replace WQ := hide (WQ.out.step bd)
     replace B := hide (Below.step BB.out BB.out.size bd)
     generalize fltk n rd j = df at *
     clear T8 bd
     cases ra
     case false =>
      cases rb
      case false =>
       have CW := hide (show crow n ⟨rnm, false, false, rlo, rhi, (DA, j, dc), rd⟩ = [] from by unfold crow; rw [if_neg (fun h => by cases h.1)]; rfl)
       refine wp_region_held_drew (S := fun W => W.cell? ⟨wo.heap.size, 0, none⟩ = some (.string rnm) ∧ W.cell? ⟨wo.heap.size, 1, none⟩ = some (.bool false) ∧ W.cell? ⟨wo.heap.size, 2, none⟩ = some (.bool false) ∧ W.cell? ⟨wo.heap.size, 3, none⟩ = some (.bool rlo.s) ∧ W.cell? ⟨wo.heap.size, 4, none⟩ = some (sv rlo.u) ∧ W.cell? ⟨wo.heap.size, 5, none⟩ = some (sv rlo.t) ∧ W.cell? ⟨wo.heap.size, 6, none⟩ = some (.bool rhi.s) ∧ W.cell? ⟨wo.heap.size, 7, none⟩ = some (sv rhi.u) ∧ W.cell? ⟨wo.heap.size, 8, none⟩ = some (sv rhi.t) ∧ W.cell? ⟨wo.heap.size, 9, none⟩ = some (.slice DA j dc)) (by kernel_rfl) ?_ (fun hHeld => ?_)
       ·try dsimp only
        exact WQ.out.alls
       generalize wr.drew = V0 at *
       refine tk 0 (v := ?_) hHeld ?_ ?_; rotate_left; (focus (intro w hSw; (try dsimp only at hSw); go_simp; (try with_reducible rfl)))
       try simp only [Act.put, s1, s2, s3, s4, s5, s6]
       refine tk 1 (v := ?_) hHeld ?_ ?_; rotate_left; (focus (intro w hSw; (try dsimp only at hSw); go_simp; (try with_reducible rfl)))
       try simp only [Act.put, s1, s2, s3, s4, s5, s6]
       refine tp 2 hHeld ?_
       try simp only [Act.put, s1, s2, s3, s4, s5, s6]
       refine sh 3 hHeld ?_
       try simp only [Act.put, s1, s2, s3, s4, s5, s6]
       refine sh 4 hHeld ?_
       try simp only [Act.put, s1, s2, s3, s4, s5, s6]
       refine tk 5 (v := ?_) hHeld ?_ ?_; rotate_left; (focus (intro w hSw; (try dsimp only at hSw); go_simp; (try with_reducible rfl)))
       try simp only [Act.put, s1, s2, s3, s4, s5, s6]
       refine tp 6 hHeld ?_
       try simp only [Act.put, s1, s2, s3, s4, s5, s6]
       refine sh 7 hHeld ?_
       try simp only [Act.put, s1, s2, s3, s4, s5, s6]
       refine sh 8 hHeld ?_
       try simp only [Act.put, s1, s2, s3, s4, s5, s6]
       refine sh 9 hHeld ?_
       try simp only [Act.put, s1, s2, s3, s4, s5, s6]
       refine sh 10 hHeld ?_
       try simp only [Act.put, s1, s2, s3, s4, s5, s6]
       refine sh 11 hHeld ?_
       try simp only [Act.put, s1, s2, s3, s4, s5, s6]
       refine sh 12 hHeld ?_
       try simp only [Act.put, s1, s2, s3, s4, s5, s6]
       refine sh 13 hHeld ?_
       try simp only [Act.put, s1, s2, s3, s4, s5, s6]
       refine sh 14 hHeld ?_
       try simp only [Act.put, s1, s2, s3, s4, s5, s6]
       refine tk 15 (v := ?_) hHeld ?_ ?_; rotate_left; (focus (intro w hSw; (try dsimp only at hSw); go_simp; (try with_reducible rfl)))
       try simp only [Act.put, s1, s2, s3, s4, s5, s6]
       refine wpAnyH_done (by kernel_rfl) ?_ _
       obtain ⟨q0, q1, q2, q3, q4, q5, q6, q7, q8, q9⟩ := WQ.out.alls
       go_wp2_with fail
       exact ⟨⟨k + 1, l ++ [], by omega, by go_num, B, hide (by have h := T.out; simpa using h), hide (by
        rw [CN.out, CW.out]
        exact CR.out.append (show Crs [] [] from trivial)), hide (fun x hx => by
         rcases List.mem_append.1 hx with h | h
         ·exact LN.out x h
         ·simp at h
          done)⟩, by simp [intOf]; omega⟩
      case true =>
       have CW := hide (show crow n ⟨rnm, false, true, rlo, rhi, (DA, j, dc), rd⟩ = [(1, grow n ⟨rnm, false, true, rlo, rhi, (DA, j, dc), rd⟩, rhi.r)] from by unfold crow; rw [if_neg (fun h => by cases h.1)]; rfl)
       refine wp_region_held_drew (S := fun W => W.cell? ⟨wo.heap.size, 0, none⟩ = some (.string rnm) ∧ W.cell? ⟨wo.heap.size, 1, none⟩ = some (.bool false) ∧ W.cell? ⟨wo.heap.size, 2, none⟩ = some (.bool true) ∧ W.cell? ⟨wo.heap.size, 3, none⟩ = some (.bool rlo.s) ∧ W.cell? ⟨wo.heap.size, 4, none⟩ = some (sv rlo.u) ∧ W.cell? ⟨wo.heap.size, 5, none⟩ = some (sv rlo.t) ∧ W.cell? ⟨wo.heap.size, 6, none⟩ = some (.bool rhi.s) ∧ W.cell? ⟨wo.heap.size, 7, none⟩ = some (sv rhi.u) ∧ W.cell? ⟨wo.heap.size, 8, none⟩ = some (sv rhi.t) ∧ W.cell? ⟨wo.heap.size, 9, none⟩ = some (.slice DA j dc)) (by kernel_rfl) ?_ (fun hHeld => ?_)
       ·try dsimp only
        exact WQ.out.alls
       generalize wr.drew = V0 at *
       refine tk 0 (v := ?_) hHeld ?_ ?_; rotate_left; (focus (intro w hSw; (try dsimp only at hSw); go_simp; (try with_reducible rfl)))
       try simp only [Act.put, s1, s2, s3, s4, s5, s6]
       refine tk 1 (v := ?_) hHeld ?_ ?_; rotate_left; (focus (intro w hSw; (try dsimp only at hSw); go_simp; (try with_reducible rfl)))
       try simp only [Act.put, s1, s2, s3, s4, s5, s6]
       refine tp 2 hHeld ?_
       try simp only [Act.put, s1, s2, s3, s4, s5, s6]
       refine sh 3 hHeld ?_
       try simp only [Act.put, s1, s2, s3, s4, s5, s6]
       refine sh 4 hHeld ?_
       try simp only [Act.put, s1, s2, s3, s4, s5, s6]
       refine tk 5 (v := ?_) hHeld ?_ ?_; rotate_left; (focus (intro w hSw; (try dsimp only at hSw); go_simp; (try with_reducible rfl)))
       try simp only [Act.put, s1, s2, s3, s4, s5, s6]
       refine tp 6 hHeld ?_
       try simp only [Act.put, s1, s2, s3, s4, s5, s6]
       refine sh 7 hHeld ?_
       try simp only [Act.put, s1, s2, s3, s4, s5, s6]
       refine sh 8 hHeld ?_
       try simp only [Act.put, s1, s2, s3, s4, s5, s6]
       refine sh 9 hHeld ?_
       try simp only [Act.put, s1, s2, s3, s4, s5, s6]
       refine sh 10 hHeld ?_
       try simp only [Act.put, s1, s2, s3, s4, s5, s6]
       refine sh 11 hHeld ?_
       try simp only [Act.put, s1, s2, s3, s4, s5, s6]
       refine sh 12 hHeld ?_
       try simp only [Act.put, s1, s2, s3, s4, s5, s6]
       refine sh 13 hHeld ?_
       try simp only [Act.put, s1, s2, s3, s4, s5, s6]
       refine sh 14 hHeld ?_
       try simp only [Act.put, s1, s2, s3, s4, s5, s6]
       refine tk 15 (v := ?_) hHeld ?_ ?_; rotate_left; (focus (intro w hSw; (try dsimp only at hSw); go_simp; (try with_reducible rfl)))
       try simp only [Act.put, s1, s2, s3, s4, s5, s6]
       refine wpAnyH_done (by kernel_rfl) ?_ _
       obtain ⟨q0, q1, q2, q3, q4, q5, q6, q7, q8, q9⟩ := WQ.out.alls
       go_wp2_with fail
       refine (rcons_c (s := 1) (L := 6) (x := rhi) (d := df) ⟨O.out.rl et_len, fun x hx => (RV.out.step B.out).1.2 x (EL.out x hx)⟩ (RV.out.step B.out).2.2 (by have := FL.out; omega) (by omega) (by omega)).mono ?_
       rintro e w6 ⟨k1, rfl, kg, ks, kt, kr, kn, bx⟩
       have CK1 := hide (show Crel k1 (1, grow n ⟨rnm, false, true, rlo, rhi, (DA, j, dc), rd⟩, rhi.r) from ⟨ks, kg.2.2, fun c hc => (kt c hc).trans (FG.out c hc), kr⟩)
       have KG1 := hide (show Kg w6 w0.heap.size k1 966 from by
        have h := kg.mono (B' := w0.heap.size) B.out.size
        have hq : df.length * (5 * 6 + 1) + 6 + 5 * 6 ≤ 966 := by have := FL.out; omega
        exact ⟨h.1.more hq, h.2.1.more hq, h.2.2⟩)
       have KL1 := hide (show k1.d.length ≤ 30 from Nat.le_trans kn FL.out)
       replace T := hide (T.out.step bx)
       replace O := hide (O.out.step bx)
       replace WQ := hide (WQ.out.step bx)
       replace B := hide (Below.step B.out B.out.size bx)
       clear bx
       clear kg ks kt kr kn q0 q1 q2 q3 q4 q5 q6 q7 q8 q9
       go_wp2_with (at_builtin; (refine wpList_pushE rfl (.tmp 83) (.tmp 88) 29 rfl Tryz.underlying29 hi0 hz0 hz1 hz2 rfl (by omega) ek_len ek_one w6 w0.heap.size _ (l) k1 _ rfl T.out.1 rfl rfl (by have := LL.out; simp; omega) (by decide) B.out.size ?_; intro v' w' ho hg; have TF := hide (T.out.push ho hg.1 KG1.out); have CF := hide (below_own B.out T.out.1 hg.1 B.out.size); have WF := hide (WQ.out.off T.out.1 (by decide) hg.1); have OF := hide (O.out.kept hg.1 (ow_tk O.out T.out.1 (by decide))); clear T B WQ O ho hg; have T := TF; have B := CF; have WQ := WF; have O := OF; clear TF CF WF OF; obtain ⟨q0, q1, q2, q3, q4, q5, q6, q7, q8, q9⟩ := WQ.out.alls))
       exact ⟨⟨k + 1, l ++ [k1], by omega, by go_num, B, hide (by have h := T.out; simpa using h), hide (by
        rw [CN.out, CW.out]
        exact CR.out.append (show Crs [k1] _ from ⟨CK1.out, trivial⟩)), hide (fun x hx => by
         rcases List.mem_append.1 hx with h | h
         ·exact LN.out x h
         ·simp at h
          rcases h with rfl
          all_goals (first | exact KL1.out))⟩, by simp [intOf]; omega⟩
     case true =>
      cases rb
      case false =>
       have CW := hide (show crow n ⟨rnm, true, false, rlo, rhi, (DA, j, dc), rd⟩ = [(2, grow n ⟨rnm, true, false, rlo, rhi, (DA, j, dc), rd⟩, rlo.r)] from by unfold crow; rw [if_neg (fun h => by cases h.2.1)]; rfl)
       refine wp_region_held_drew (S := fun W => W.cell? ⟨wo.heap.size, 0, none⟩ = some (.string rnm) ∧ W.cell? ⟨wo.heap.size, 1, none⟩ = some (.bool true) ∧ W.cell? ⟨wo.heap.size, 2, none⟩ = some (.bool false) ∧ W.cell? ⟨wo.heap.size, 3, none⟩ = some (.bool rlo.s) ∧ W.cell? ⟨wo.heap.size, 4, none⟩ = some (sv rlo.u) ∧ W.cell? ⟨wo.heap.size, 5, none⟩ = some (sv rlo.t) ∧ W.cell? ⟨wo.heap.size, 6, none⟩ = some (.bool rhi.s) ∧ W.cell? ⟨wo.heap.size, 7, none⟩ = some (sv rhi.u) ∧ W.cell? ⟨wo.heap.size, 8, none⟩ = some (sv rhi.t) ∧ W.cell? ⟨wo.heap.size, 9, none⟩ = some (.slice DA j dc)) (by kernel_rfl) ?_ (fun hHeld => ?_)
       ·try dsimp only
        exact WQ.out.alls
       generalize wr.drew = V0 at *
       refine tk 0 (v := ?_) hHeld ?_ ?_; rotate_left; (focus (intro w hSw; (try dsimp only at hSw); go_simp; (try with_reducible rfl)))
       try simp only [Act.put, s1, s2, s3, s4, s5, s6]
       refine tk 1 (v := ?_) hHeld ?_ ?_; rotate_left; (focus (intro w hSw; (try dsimp only at hSw); go_simp; (try with_reducible rfl)))
       try simp only [Act.put, s1, s2, s3, s4, s5, s6]
       refine tp 2 hHeld ?_
       try simp only [Act.put, s1, s2, s3, s4, s5, s6]
       refine tk 3 (v := ?_) hHeld ?_ ?_; rotate_left; (focus (intro w hSw; (try dsimp only at hSw); go_simp; (try with_reducible rfl)))
       try simp only [Act.put, s1, s2, s3, s4, s5, s6]
       refine tk 4 (v := ?_) hHeld ?_ ?_; rotate_left; (focus (intro w hSw; (try dsimp only at hSw); go_simp; (try with_reducible rfl)))
       try simp only [Act.put, s1, s2, s3, s4, s5, s6]
       refine tk 5 (v := ?_) hHeld ?_ ?_; rotate_left; (focus (intro w hSw; (try dsimp only at hSw); go_simp; (try with_reducible rfl)))
       try simp only [Act.put, s1, s2, s3, s4, s5, s6]
       refine tp 6 hHeld ?_
       try simp only [Act.put, s1, s2, s3, s4, s5, s6]
       refine sh 7 hHeld ?_
       try simp only [Act.put, s1, s2, s3, s4, s5, s6]
       refine sh 8 hHeld ?_
       try simp only [Act.put, s1, s2, s3, s4, s5, s6]
       refine sh 9 hHeld ?_
       try simp only [Act.put, s1, s2, s3, s4, s5, s6]
       refine sh 10 hHeld ?_
       try simp only [Act.put, s1, s2, s3, s4, s5, s6]
       refine sh 11 hHeld ?_
       try simp only [Act.put, s1, s2, s3, s4, s5, s6]
       refine sh 12 hHeld ?_
       try simp only [Act.put, s1, s2, s3, s4, s5, s6]
       refine sh 13 hHeld ?_
       try simp only [Act.put, s1, s2, s3, s4, s5, s6]
       refine sh 14 hHeld ?_
       try simp only [Act.put, s1, s2, s3, s4, s5, s6]
       refine tk 15 (v := ?_) hHeld ?_ ?_; rotate_left; (focus (intro w hSw; (try dsimp only at hSw); go_simp; (try with_reducible rfl)))
       try simp only [Act.put, s1, s2, s3, s4, s5, s6]
       refine wpAnyH_done (by kernel_rfl) ?_ _
       obtain ⟨q0, q1, q2, q3, q4, q5, q6, q7, q8, q9⟩ := WQ.out.alls
       go_wp2_with fail
       refine (rcons_c (s := 2) (L := 6) (x := rlo) (d := df) ⟨O.out.rl et_len, fun x hx => (RV.out.step B.out).1.2 x (EL.out x hx)⟩ (RV.out.step B.out).2.1 (by have := FL.out; omega) (by omega) (by omega)).mono ?_
       rintro e w6 ⟨k1, rfl, kg, ks, kt, kr, kn, bx⟩
       have CK1 := hide (show Crel k1 (2, grow n ⟨rnm, true, false, rlo, rhi, (DA, j, dc), rd⟩, rlo.r) from ⟨ks, kg.2.2, fun c hc => (kt c hc).trans (FG.out c hc), kr⟩)
       have KG1 := hide (show Kg w6 w0.heap.size k1 966 from by
        have h := kg.mono (B' := w0.heap.size) B.out.size
        have hq : df.length * (5 * 6 + 1) + 6 + 5 * 6 ≤ 966 := by have := FL.out; omega
        exact ⟨h.1.more hq, h.2.1.more hq, h.2.2⟩)
       have KL1 := hide (show k1.d.length ≤ 30 from Nat.le_trans kn FL.out)
       replace T := hide (T.out.step bx)
       replace O := hide (O.out.step bx)
       replace WQ := hide (WQ.out.step bx)
       replace B := hide (Below.step B.out B.out.size bx)
       clear bx
       clear kg ks kt kr kn q0 q1 q2 q3 q4 q5 q6 q7 q8 q9
       go_wp2_with (at_builtin; (refine wpList_pushE rfl (.tmp 74) (.tmp 79) 29 rfl Tryz.underlying29 hi0 hz0 hz1 hz2 rfl (by omega) ek_len ek_one w6 w0.heap.size _ (l) k1 _ rfl T.out.1 rfl rfl (by have := LL.out; simp; omega) (by decide) B.out.size ?_; intro v' w' ho hg; have TF := hide (T.out.push ho hg.1 KG1.out); have CF := hide (below_own B.out T.out.1 hg.1 B.out.size); have WF := hide (WQ.out.off T.out.1 (by decide) hg.1); have OF := hide (O.out.kept hg.1 (ow_tk O.out T.out.1 (by decide))); clear T B WQ O ho hg; have T := TF; have B := CF; have WQ := WF; have O := OF; clear TF CF WF OF; obtain ⟨q0, q1, q2, q3, q4, q5, q6, q7, q8, q9⟩ := WQ.out.alls))
       exact ⟨⟨k + 1, l ++ [k1], by omega, by go_num, B, hide (by have h := T.out; simpa using h), hide (by
        rw [CN.out, CW.out]
        exact CR.out.append (show Crs [k1] _ from ⟨CK1.out, trivial⟩)), hide (fun x hx => by
         rcases List.mem_append.1 hx with h | h
         ·exact LN.out x h
         ·simp at h
          rcases h with rfl
          all_goals (first | exact KL1.out))⟩, by simp [intOf]; omega⟩
      case true =>
       by_cases heq : rlo.r = rhi.r
       ·have EQ := hide heq
        have CZ := hide (show cmpR rlo.r rhi.r = 0 from by rw [heq]; exact cmpR_same _)
        clear heq
        have CW := hide (show crow n ⟨rnm, true, true, rlo, rhi, (DA, j, dc), rd⟩ = [(3, grow n ⟨rnm, true, true, rlo, rhi, (DA, j, dc), rd⟩, rlo.r)] from by unfold crow; rw [if_pos ⟨rfl, rfl, EQ.out⟩])
        refine wp_region_held_drew (S := fun W => W.cell? ⟨wo.heap.size, 0, none⟩ = some (.string rnm) ∧ W.cell? ⟨wo.heap.size, 1, none⟩ = some (.bool true) ∧ W.cell? ⟨wo.heap.size, 2, none⟩ = some (.bool true) ∧ W.cell? ⟨wo.heap.size, 3, none⟩ = some (.bool rlo.s) ∧ W.cell? ⟨wo.heap.size, 4, none⟩ = some (sv rlo.u) ∧ W.cell? ⟨wo.heap.size, 5, none⟩ = some (sv rlo.t) ∧ W.cell? ⟨wo.heap.size, 6, none⟩ = some (.bool rhi.s) ∧ W.cell? ⟨wo.heap.size, 7, none⟩ = some (sv rhi.u) ∧ W.cell? ⟨wo.heap.size, 8, none⟩ = some (sv rhi.t) ∧ W.cell? ⟨wo.heap.size, 9, none⟩ = some (.slice DA j dc)) (by kernel_rfl) ?_ (fun hHeld => ?_)
        ·try dsimp only
         exact WQ.out.alls
        generalize wr.drew = V0 at *
        refine tk 0 (v := ?_) hHeld ?_ ?_; rotate_left; (focus (intro w hSw; (try dsimp only at hSw); go_simp; (try with_reducible rfl)))
        try simp only [Act.put, s1, s2, s3, s4, s5, s6]
        refine tk 1 (v := ?_) hHeld ?_ ?_; rotate_left; (focus (intro w hSw; (try dsimp only at hSw); go_simp; (try with_reducible rfl)))
        try simp only [Act.put, s1, s2, s3, s4, s5, s6]
        refine tp 2 hHeld ?_
        try simp only [Act.put, s1, s2, s3, s4, s5, s6]
        refine tk 3 (v := ?_) hHeld ?_ ?_; rotate_left; (focus (intro w hSw; (try dsimp only at hSw); go_simp; (try with_reducible rfl)))
        try simp only [Act.put, s1, s2, s3, s4, s5, s6]
        refine tk 4 (v := ?_) hHeld ?_ ?_; rotate_left; (focus (intro w hSw; (try dsimp only at hSw); go_simp; (try with_reducible rfl)))
        try simp only [Act.put, s1, s2, s3, s4, s5, s6]
        refine tk 5 (v := ?_) hHeld ?_ ?_; rotate_left; (focus (intro w hSw; (try dsimp only at hSw); go_simp; (try with_reducible rfl)))
        try simp only [Act.put, s1, s2, s3, s4, s5, s6]
        refine tp 6 hHeld ?_
        try simp only [Act.put, s1, s2, s3, s4, s5, s6]
        refine tk 7 (v := ?_) hHeld ?_ ?_; rotate_left; (focus (intro w hSw; (try dsimp only at hSw); go_simp; (try with_reducible rfl)))
        try simp only [Act.put, s1, s2, s3, s4, s5, s6]
        refine tk 8 (v := ?_) hHeld ?_ ?_; rotate_left; (focus (intro w hSw; (try dsimp only at hSw); go_simp; (try with_reducible rfl)))
        try simp only [Act.put, s1, s2, s3, s4, s5, s6]
        refine tk 10 (v := ?_) hHeld ?_ ?_; rotate_left; (focus (intro w hSw; (try dsimp only at hSw); go_simp; (try with_reducible rfl)))
        try simp only [Act.put, s1, s2, s3, s4, s5, s6]
        refine tk 11 (v := ?_) hHeld ?_ ?_; rotate_left; (focus (intro w hSw; (try dsimp only at hSw); go_simp; (try with_reducible rfl)))
        try simp only [Act.put, s1, s2, s3, s4, s5, s6]
        refine r1 9 (fun K hK => ?_)
        go_simp; go_at_call 38; refine Calls.mono (rof_f (L := 6) (RV.out.2.1.step B.out) (by omega) (by omega)) ?_; rintro e V1 ⟨q1, rfl, h1, r1, bx⟩; have R1 := hide r1; have H1 := hide h1; clear r1 h1; replace T := hide (T.out.step bx); replace O := hide (O.out.step bx); replace WQ := hide (WQ.out.step bx); replace B := hide (Below.step B.out B.out.size bx); clear bx; (try dsimp only); refine hK.out _ _ ?_ (fun hHeld => ?_); (focus ((try dsimp only); exact WQ.out.alls)); clear hK K
        try simp only [Act.put, s1, s2, s3, s4, s5, s6]
        try simp only [Act.put, s1, s2, s3, s4, s5, s6]
        refine r1 12 (fun K hK => ?_)
        go_simp; go_at_call 38; refine Calls.mono (rof_f (L := 6) (RV.out.2.2.step B.out) (by omega) (by omega)) ?_; rintro e V2 ⟨q2, rfl, h2, r2, bx⟩; have R2 := hide r2; have H2 := hide h2; replace R1 := hide (R1.out.step bx); clear r2 h2; replace T := hide (T.out.step bx); replace O := hide (O.out.step bx); replace WQ := hide (WQ.out.step bx); replace B := hide (Below.step B.out B.out.size bx); clear bx; (try dsimp only); refine hK.out _ _ ?_ (fun hHeld => ?_); (focus ((try dsimp only); exact WQ.out.alls)); clear hK K
        try simp only [Act.put, s1, s2, s3, s4, s5, s6]
        try simp only [Act.put, s1, s2, s3, s4, s5, s6]
        refine r1 13 (fun K hK => ?_)
        go_simp; go_at_call 37; refine Calls.mono (rqcmp_s (L := 30) R1.out R2.out (by omega) (by omega)) ?_; rintro e V3 ⟨he, bx⟩; rw [H1.out, H2.out, CZ.out] at he; subst he; replace T := hide (T.out.step bx); replace O := hide (O.out.step bx); replace WQ := hide (WQ.out.step bx); replace B := hide (Below.step B.out B.out.size bx); clear bx; (try dsimp only); refine hK.out _ _ ?_ (fun hHeld => ?_); (focus ((try dsimp only); exact WQ.out.alls)); clear hK K
        try simp only [Act.put, s1, s2, s3, s4, s5, s6]
        refine tk 14 (v := ?_) hHeld ?_ ?_; rotate_left; (focus (intro w hSw; (try dsimp only at hSw); go_simp; (try with_reducible rfl)))
        try simp only [Act.put, s1, s2, s3, s4, s5, s6]
        refine tk 15 (v := ?_) hHeld ?_ ?_; rotate_left; (focus (intro w hSw; (try dsimp only at hSw); go_simp; (try with_reducible rfl)))
        try simp only [Act.put, s1, s2, s3, s4, s5, s6]
        refine wpAnyH_done (by kernel_rfl) ?_ _
        obtain ⟨q0, q1, q2, q3, q4, q5, q6, q7, q8, q9⟩ := WQ.out.alls
        go_wp2_with fail
        refine (rcons_c (s := 3) (L := 6) (x := rlo) (d := df) ⟨O.out.rl et_len, fun x hx => (RV.out.step B.out).1.2 x (EL.out x hx)⟩ (RV.out.step B.out).2.1 (by have := FL.out; omega) (by omega) (by omega)).mono ?_
        rintro e w6 ⟨k1, rfl, kg, ks, kt, kr, kn, bx⟩
        have CK1 := hide (show Crel k1 (3, grow n ⟨rnm, true, true, rlo, rhi, (DA, j, dc), rd⟩, rlo.r) from ⟨ks, kg.2.2, fun c hc => (kt c hc).trans (FG.out c hc), kr⟩)
        have KG1 := hide (show Kg w6 w0.heap.size k1 966 from by
         have h := kg.mono (B' := w0.heap.size) B.out.size
         have hq : df.length * (5 * 6 + 1) + 6 + 5 * 6 ≤ 966 := by have := FL.out; omega
         exact ⟨h.1.more hq, h.2.1.more hq, h.2.2⟩)
        have KL1 := hide (show k1.d.length ≤ 30 from Nat.le_trans kn FL.out)
        replace T := hide (T.out.step bx)
        replace O := hide (O.out.step bx)
        replace WQ := hide (WQ.out.step bx)
        replace B := hide (Below.step B.out B.out.size bx)
        clear bx
        clear kg ks kt kr kn q0 q1 q2 q3 q4 q5 q6 q7 q8 q9
        go_wp2_with (at_builtin; (refine wpList_pushE rfl (.tmp 65) (.tmp 70) 29 rfl Tryz.underlying29 hi0 hz0 hz1 hz2 rfl (by omega) ek_len ek_one w6 w0.heap.size _ (l) k1 _ rfl T.out.1 rfl rfl (by have := LL.out; simp; omega) (by decide) B.out.size ?_; intro v' w' ho hg; have TF := hide (T.out.push ho hg.1 KG1.out); have CF := hide (below_own B.out T.out.1 hg.1 B.out.size); have WF := hide (WQ.out.off T.out.1 (by decide) hg.1); have OF := hide (O.out.kept hg.1 (ow_tk O.out T.out.1 (by decide))); clear T B WQ O ho hg; have T := TF; have B := CF; have WQ := WF; have O := OF; clear TF CF WF OF; obtain ⟨q0, q1, q2, q3, q4, q5, q6, q7, q8, q9⟩ := WQ.out.alls))
        exact ⟨⟨k + 1, l ++ [k1], by omega, by go_num, B, hide (by have h := T.out; simpa using h), hide (by
         rw [CN.out, CW.out]
         exact CR.out.append (show Crs [k1] _ from ⟨CK1.out, trivial⟩)), hide (fun x hx => by
          rcases List.mem_append.1 hx with h | h
          ·exact LN.out x h
          ·simp at h
           rcases h with rfl
           all_goals (first | exact KL1.out))⟩, by simp [intOf]; omega⟩
       ·have EQ := hide heq
        obtain ⟨z, hz⟩ : ∃ z, z = cmpR rlo.r rhi.r := ⟨_, rfl⟩
        have CZ := hide hz.symm
        have z0 : z ≠ 0 := by rw [hz]; exact fun h => heq (cmpR_eq h)
        have t5 : (z == 0) = false := by simpa using z0
        have t6 : decide (z = 0) = false := decide_eq_false z0
        clear heq hz z0
        have CW := hide (show crow n ⟨rnm, true, true, rlo, rhi, (DA, j, dc), rd⟩ = [(2, grow n ⟨rnm, true, true, rlo, rhi, (DA, j, dc), rd⟩, rlo.r), (1, grow n ⟨rnm, true, true, rlo, rhi, (DA, j, dc), rd⟩, rhi.r)] from by unfold crow; rw [if_neg (fun h => EQ.out h.2.2)]; rfl)
        refine wp_region_held_drew (S := fun W => W.cell? ⟨wo.heap.size, 0, none⟩ = some (.string rnm) ∧ W.cell? ⟨wo.heap.size, 1, none⟩ = some (.bool true) ∧ W.cell? ⟨wo.heap.size, 2, none⟩ = some (.bool true) ∧ W.cell? ⟨wo.heap.size, 3, none⟩ = some (.bool rlo.s) ∧ W.cell? ⟨wo.heap.size, 4, none⟩ = some (sv rlo.u) ∧ W.cell? ⟨wo.heap.size, 5, none⟩ = some (sv rlo.t) ∧ W.cell? ⟨wo.heap.size, 6, none⟩ = some (.bool rhi.s) ∧ W.cell? ⟨wo.heap.size, 7, none⟩ = some (sv rhi.u) ∧ W.cell? ⟨wo.heap.size, 8, none⟩ = some (sv rhi.t) ∧ W.cell? ⟨wo.heap.size, 9, none⟩ = some (.slice DA j dc)) (by kernel_rfl) ?_ (fun hHeld => ?_)
        ·try dsimp only
         exact WQ.out.alls
        generalize wr.drew = V0 at *
        refine tk 0 (v := ?_) hHeld ?_ ?_; rotate_left; (focus (intro w hSw; (try dsimp only at hSw); go_simp; (try with_reducible rfl)))
        try simp only [Act.put, s1, s2, s3, s4, s5, s6]
        refine tk 1 (v := ?_) hHeld ?_ ?_; rotate_left; (focus (intro w hSw; (try dsimp only at hSw); go_simp; (try with_reducible rfl)))
        try simp only [Act.put, s1, s2, s3, s4, s5, s6]
        refine tp 2 hHeld ?_
        try simp only [Act.put, s1, s2, s3, s4, s5, s6]
        refine tk 3 (v := ?_) hHeld ?_ ?_; rotate_left; (focus (intro w hSw; (try dsimp only at hSw); go_simp; (try with_reducible rfl)))
        try simp only [Act.put, s1, s2, s3, s4, s5, s6]
        refine tk 4 (v := ?_) hHeld ?_ ?_; rotate_left; (focus (intro w hSw; (try dsimp only at hSw); go_simp; (try with_reducible rfl)))
        try simp only [Act.put, s1, s2, s3, s4, s5, s6]
        refine tk 5 (v := ?_) hHeld ?_ ?_; rotate_left; (focus (intro w hSw; (try dsimp only at hSw); go_simp; (try with_reducible rfl)))
        try simp only [Act.put, s1, s2, s3, s4, s5, s6]
        refine tp 6 hHeld ?_
        try simp only [Act.put, s1, s2, s3, s4, s5, s6]
        refine tk 7 (v := ?_) hHeld ?_ ?_; rotate_left; (focus (intro w hSw; (try dsimp only at hSw); go_simp; (try with_reducible rfl)))
        try simp only [Act.put, s1, s2, s3, s4, s5, s6]
        refine tk 8 (v := ?_) hHeld ?_ ?_; rotate_left; (focus (intro w hSw; (try dsimp only at hSw); go_simp; (try with_reducible rfl)))
        try simp only [Act.put, s1, s2, s3, s4, s5, s6]
        refine tk 10 (v := ?_) hHeld ?_ ?_; rotate_left; (focus (intro w hSw; (try dsimp only at hSw); go_simp; (try with_reducible rfl)))
        try simp only [Act.put, s1, s2, s3, s4, s5, s6]
        refine tk 11 (v := ?_) hHeld ?_ ?_; rotate_left; (focus (intro w hSw; (try dsimp only at hSw); go_simp; (try with_reducible rfl)))
        try simp only [Act.put, s1, s2, s3, s4, s5, s6]
        refine r1 9 (fun K hK => ?_)
        go_simp; go_at_call 38; refine Calls.mono (rof_f (L := 6) (RV.out.2.1.step B.out) (by omega) (by omega)) ?_; rintro e V1 ⟨q1, rfl, h1, r1, bx⟩; have R1 := hide r1; have H1 := hide h1; clear r1 h1; replace T := hide (T.out.step bx); replace O := hide (O.out.step bx); replace WQ := hide (WQ.out.step bx); replace B := hide (Below.step B.out B.out.size bx); clear bx; (try dsimp only); refine hK.out _ _ ?_ (fun hHeld => ?_); (focus ((try dsimp only); exact WQ.out.alls)); clear hK K
        try simp only [Act.put, s1, s2, s3, s4, s5, s6]
        try simp only [Act.put, s1, s2, s3, s4, s5, s6]
        refine r1 12 (fun K hK => ?_)
        go_simp; go_at_call 38; refine Calls.mono (rof_f (L := 6) (RV.out.2.2.step B.out) (by omega) (by omega)) ?_; rintro e V2 ⟨q2, rfl, h2, r2, bx⟩; have R2 := hide r2; have H2 := hide h2; replace R1 := hide (R1.out.step bx); clear r2 h2; replace T := hide (T.out.step bx); replace O := hide (O.out.step bx); replace WQ := hide (WQ.out.step bx); replace B := hide (Below.step B.out B.out.size bx); clear bx; (try dsimp only); refine hK.out _ _ ?_ (fun hHeld => ?_); (focus ((try dsimp only); exact WQ.out.alls)); clear hK K
        try simp only [Act.put, s1, s2, s3, s4, s5, s6]
        try simp only [Act.put, s1, s2, s3, s4, s5, s6]
        refine r1 13 (fun K hK => ?_)
        go_simp; go_at_call 37; refine Calls.mono (rqcmp_s (L := 30) R1.out R2.out (by omega) (by omega)) ?_; rintro e V3 ⟨he, bx⟩; rw [H1.out, H2.out, CZ.out] at he; subst he; replace T := hide (T.out.step bx); replace O := hide (O.out.step bx); replace WQ := hide (WQ.out.step bx); replace B := hide (Below.step B.out B.out.size bx); clear bx; (try dsimp only); refine hK.out _ _ ?_ (fun hHeld => ?_); (focus ((try dsimp only); exact WQ.out.alls)); clear hK K
        try simp only [Act.put, s1, s2, s3, s4, s5, s6]
        refine tk 14 (v := ?_) hHeld ?_ ?_; rotate_left; (focus (intro w hSw; (try dsimp only at hSw); go_simp; (try with_reducible rfl)))
        try simp only [Act.put, s1, s2, s3, s4, s5, s6]
        refine tk 15 (v := ?_) hHeld ?_ ?_; rotate_left; (focus (intro w hSw; (try dsimp only at hSw); go_simp; (try with_reducible rfl)))
        try simp only [Act.put, s1, s2, s3, s4, s5, s6]
        refine wpAnyH_done (by kernel_rfl) ?_ _
        obtain ⟨q0, q1, q2, q3, q4, q5, q6, q7, q8, q9⟩ := WQ.out.alls
        go_wp2_with fail
        refine (rcons_c (s := 2) (L := 6) (x := rlo) (d := df) ⟨O.out.rl et_len, fun x hx => (RV.out.step B.out).1.2 x (EL.out x hx)⟩ (RV.out.step B.out).2.1 (by have := FL.out; omega) (by omega) (by omega)).mono ?_
        rintro e w6 ⟨k1, rfl, kg, ks, kt, kr, kn, bx⟩
        have CK1 := hide (show Crel k1 (2, grow n ⟨rnm, true, true, rlo, rhi, (DA, j, dc), rd⟩, rlo.r) from ⟨ks, kg.2.2, fun c hc => (kt c hc).trans (FG.out c hc), kr⟩)
        have KG1 := hide (show Kg w6 w0.heap.size k1 966 from by
         have h := kg.mono (B' := w0.heap.size) B.out.size
         have hq : df.length * (5 * 6 + 1) + 6 + 5 * 6 ≤ 966 := by have := FL.out; omega
         exact ⟨h.1.more hq, h.2.1.more hq, h.2.2⟩)
        have KL1 := hide (show k1.d.length ≤ 30 from Nat.le_trans kn FL.out)
        replace T := hide (T.out.step bx)
        replace O := hide (O.out.step bx)
        replace WQ := hide (WQ.out.step bx)
        replace B := hide (Below.step B.out B.out.size bx)
        clear bx
        clear kg ks kt kr kn q0 q1 q2 q3 q4 q5 q6 q7 q8 q9
        go_wp2_with (at_builtin; (refine wpList_pushE rfl (.tmp 74) (.tmp 79) 29 rfl Tryz.underlying29 hi0 hz0 hz1 hz2 rfl (by omega) ek_len ek_one w6 w0.heap.size _ (l) k1 _ rfl T.out.1 rfl rfl (by have := LL.out; simp; omega) (by decide) B.out.size ?_; intro v' w' ho hg; have TF := hide (T.out.push ho hg.1 KG1.out); have CF := hide (below_own B.out T.out.1 hg.1 B.out.size); have WF := hide (WQ.out.off T.out.1 (by decide) hg.1); have OF := hide (O.out.kept hg.1 (ow_tk O.out T.out.1 (by decide))); clear T B WQ O ho hg; have T := TF; have B := CF; have WQ := WF; have O := OF; clear TF CF WF OF; obtain ⟨q0, q1, q2, q3, q4, q5, q6, q7, q8, q9⟩ := WQ.out.alls))
        go_wp2_with fail
        refine (rcons_c (s := 1) (L := 6) (x := rhi) (d := df) ⟨O.out.rl et_len, fun x hx => (RV.out.step B.out).1.2 x (EL.out x hx)⟩ (RV.out.step B.out).2.2 (by have := FL.out; omega) (by omega) (by omega)).mono ?_
        rintro e w6 ⟨k2, rfl, kg, ks, kt, kr, kn, bx⟩
        have CK2 := hide (show Crel k2 (1, grow n ⟨rnm, true, true, rlo, rhi, (DA, j, dc), rd⟩, rhi.r) from ⟨ks, kg.2.2, fun c hc => (kt c hc).trans (FG.out c hc), kr⟩)
        have KG2 := hide (show Kg w6 w0.heap.size k2 966 from by
         have h := kg.mono (B' := w0.heap.size) B.out.size
         have hq : df.length * (5 * 6 + 1) + 6 + 5 * 6 ≤ 966 := by have := FL.out; omega
         exact ⟨h.1.more hq, h.2.1.more hq, h.2.2⟩)
        have KL2 := hide (show k2.d.length ≤ 30 from Nat.le_trans kn FL.out)
        replace T := hide (T.out.step bx)
        replace O := hide (O.out.step bx)
        replace WQ := hide (WQ.out.step bx)
        replace B := hide (Below.step B.out B.out.size bx)
        clear bx
        clear kg ks kt kr kn q0 q1 q2 q3 q4 q5 q6 q7 q8 q9
        go_wp2_with (at_builtin; (refine wpList_pushE rfl (.tmp 83) (.tmp 88) 29 rfl Tryz.underlying29 hi0 hz0 hz1 hz2 rfl (by omega) ek_len ek_one w6 w0.heap.size _ (l ++ [k1]) k2 _ rfl T.out.1 rfl rfl (by have := LL.out; simp; omega) (by decide) B.out.size ?_; intro v' w' ho hg; have TF := hide (T.out.push ho hg.1 KG2.out); have CF := hide (below_own B.out T.out.1 hg.1 B.out.size); have WF := hide (WQ.out.off T.out.1 (by decide) hg.1); have OF := hide (O.out.kept hg.1 (ow_tk O.out T.out.1 (by decide))); clear T B WQ O ho hg; have T := TF; have B := CF; have WQ := WF; have O := OF; clear TF CF WF OF; obtain ⟨q0, q1, q2, q3, q4, q5, q6, q7, q8, q9⟩ := WQ.out.alls))
        exact ⟨⟨k + 1, l ++ [k1, k2], by omega, by go_num, B, hide (by have h := T.out; simpa using h), hide (by
         rw [CN.out, CW.out]
         exact CR.out.append (show Crs [k1, k2] _ from ⟨CK1.out, CK2.out, trivial⟩)), hide (fun x hx => by
          rcases List.mem_append.1 hx with h | h
          ·exact LN.out x h
          ·simp at h
           rcases h with rfl | rfl
           all_goals (first | exact KL1.out | exact KL2.out))⟩, by simp [intOf]; omega⟩
  ·obtain rfl : k = m := by omega
   have T0 := hide T.out
   have BB := hide B.out
   have CR0 := hide CR.out
   have LN0 := hide LN.out
   clear T B CR LN
   obtain ⟨p0, p1, p2, p3⟩ := (PQ.out.step BB.out).alls
   go_wp2_with fail
   clear p0 p1 p2 p3
   obtain ⟨wo, hwo⟩ : ∃ wo, wo = wr := ⟨_, rfl⟩
   subst hwo
   go_loopw [3, 8] (fun ov iv wr => ∃ (q : Nat) (l : List Kx), q ≤ n ∧ iv = .int .i64 (q : Int) ∧ Hid (Below w0.heap.size w0 wr) ∧ Hid (Kgl wr w0.heap.size ov l 966) ∧ Hid (Crs l (crows n rows k ++ cvars vars q)) ∧ Hid (∀ x ∈ l, x.d.length ≤ 30)) (fun _ iv _ => n - (intOf iv).toNat)
   case atStart => exact ⟨0, l, Nat.zero_le _, rfl, BB, T0, hide (by have h := CR0.out; rw [show cvars vars 0 = [] from rfl, List.append_nil]; exact h), LN0⟩
   case round =>
    clear BB T0 CR0 LN0
    obtain ⟨q, l, hq, rfl, B, T, CR, LN⟩ := hrel
    obtain ⟨A1, n1, c1, rfl⟩ := rv_sl (T.out.1.rl ek_len)
    by_cases hlt2 : q < n
    ·obtain ⟨⟨xnm, xw, xa, xb, xlo, xhi, xco⟩, hx⟩ := len_of (d := vars) (k := q) (by rw [← HN.out]; exact hlt2)
     have CN := hide (cvars_next hx)
     have UV := hide (HP.out.2.2 _ (List.mem_of_getElem? hx))
     have LL := hide (show l.length ≤ 240 by rw [CR.out.len, List.length_append]; have := crows_len n rows k; have := cvars_len vars q; have := KN.out; omega)
     obtain ⟨b, off, rfl, hb, hc⟩ := HP.out.2.1.get hx
     have CE := hide (And.intro (hc 2 _ rfl) (And.intro (hc 3 _ rfl) (And.intro (hc 4 _ rfl) (And.intro (hc 5 _ rfl) (And.intro (hc 6 _ rfl) (And.intro (hc 7 _ rfl) (And.intro (hc 8 _ rfl) (hc 9 _ rfl))))))))
     have l0 : (0 : Int) ≤ (q : Int) := by omega
     have l1 : (q : Int) < (n : Int) := by omega
     clear hc hb hx
     obtain ⟨p0, p1, p2, p3⟩ := (PQ.out.step B.out).alls
     go_wp2_with fail
     refine (rqsmall_any wr 1 (by omega) (by omega)).mono ?_
     rintro e w2 ⟨v2, rfl, s2, bx⟩
     have S2 := hide s2
     replace T := hide (T.out.step bx)
     replace B := hide (Below.step B.out B.out.size bx)
     clear s2 bx p0 p1 p2 p3
     have hs2 : w0.heap.size ≤ w2.heap.size := B.out.size
     go_wp2_with fail
     refine (rfto_g S2.out (by omega)).mono ?_
     rintro e w5 ⟨y, rfl, hy, ry, b1⟩
     have b7 := alloc_below w5 (.cells #[.int .i64 (q : Int), .bool y.s, sv y.u, sv y.t] 51)
     have O := hide (show Ow 51 et 4 (w5.alloc (.cells #[.int .i64 (q : Int), .bool y.s, sv y.u, sv y.t] 51)) w2.heap.size (.slice (some ⟨w5.heap.size, 0, none⟩) 1 1) [⟨(q : Int), y⟩] from Ow.lit et_len w5 51 [⟨(q : Int), y⟩] _ rfl b1.size (by simp [maxLen]))
     have RY := hide ((ry.mono (B' := w0.heap.size) B.out.size).step b7)
     have EY := hide hy
     replace T := hide ((T.out.step b1).step b7)
     have B5 := Below.step B.out B.out.size b1
     replace B := hide (Below.step B5 B5.size b7)
     have OM := hide (O.out.mono (B' := w0.heap.size) hs2)
     have FG := hide (show ∀ c, 0 ≤ c → gsum (tms [(⟨(q : Int), y⟩ : Tx)]) c = gone q c from fun c _ => by
      show gsum [((q : Int), y.r)] c = _
      rw [EY.out]
      unfold gone
      simp only [gsum]
      by_cases h : c = (q : Int)
      ·rw [if_pos h, if_pos h.symm, Rat.add_zero]; rfl
      ·rw [if_neg h, if_neg (fun e => h e.symm), Rat.add_zero])
     clear hy ry b1 b7 B5 S2 O hs2
     obtain ⟨p0, p1, p2, p3⟩ := (PQ.out.step B.out).alls
     obtain ⟨d2, d3, d4, d5, d6, d7, d8, d9⟩ := CE.out
     have E2 := cell_keep d2 B.out
     have E3 := cell_keep d3 B.out
     have E4 := cell_keep d4 B.out
     have E5 := cell_keep d5 B.out
     have E6 := cell_keep d6 B.out
     clear d2 d3 d4 d5 d6 d7 d8 d9
     have E7 := cell_keep CE.out.2.2.2.2.2.1 B.out
     have E8 := cell_keep CE.out.2.2.2.2.2.2.1 B.out
     have E9 := cell_keep CE.out.2.2.2.2.2.2.2 B.out
     cases xa
     case false =>
      cases xb
      case false =>
       go_wp2_with fail
       generalize (w5.alloc (.cells #[.int .i64 (q : Int), .bool y.s, sv y.u, sv y.t] 51)) = w6 at *
       exact ⟨⟨q + 1, l ++ [], by omega, by go_num, B, hide (by have h := T.out; simpa using h), hide (by
        rw [CN.out, ← List.append_assoc]
        exact CR.out.append (show Crs [] (cvar q ⟨xnm, xw, false, false, xlo, xhi, xco⟩) from trivial)), hide (fun z hz => by
         rcases List.mem_append.1 hz with h | h
         ·exact LN.out z h
         ·simp at h
          done)⟩, by simp [intOf]; omega⟩
      case true =>
       go_wp2_with fail
       generalize (w5.alloc (.cells #[.int .i64 (q : Int), .bool y.s, sv y.u, sv y.t] 51)) = w6 at *
       generalize w5.heap.size = gt5 at *
       refine (rcons_c (s := 1) (L := 6) (x := xhi) (d := [⟨(q : Int), y⟩]) ⟨OM.out.rl et_len, fun z hz => by simp at hz; subst hz; exact (RY.out.more (M := 6) (by omega)).ra⟩ (UV.out.2.1.step B.out) (by simp) (by omega) (by omega)).mono ?_
       rintro e w7 ⟨k1, rfl, kg, ks, kt, kr, kn, bx⟩
       have CK1 := hide (show Crel k1 (1, gone q, xhi.r) from ⟨ks, kg.2.2, fun c hc => (kt c hc).trans (FG.out c hc), kr⟩)
       have KG1 := hide (show Kg w7 w0.heap.size k1 966 from by
        have h := kg.mono (B' := w0.heap.size) B.out.size
        have hq : [(⟨(q : Int), y⟩ : Tx)].length * (5 * 6 + 1) + 6 + 5 * 6 ≤ 966 := by simp
        exact ⟨h.1.more hq, h.2.1.more hq, h.2.2⟩)
       have KL1 := hide (show k1.d.length ≤ 30 from Nat.le_trans kn (by simp))
       replace T := hide (T.out.step bx)
       replace OM := hide (OM.out.step bx)
       replace RY := hide (RY.out.step bx)
       replace B := hide (Below.step B.out B.out.size bx)
       clear kg ks kt kr kn bx p0 p1 p2 p3 E2 E3 E4 E5 E6 E7 E8 E9
       go_wp2_with (at_builtin; (refine wpList_pushE rfl (.tmp 125) (.tmp 134) 29 rfl Tryz.underlying29 hi0 hz0 hz1 hz2 rfl (by omega) ek_len ek_one w7 w0.heap.size _ (l) k1 _ rfl T.out.1 rfl rfl (by have := LL.out; simp; omega) (by decide) B.out.size ?_; intro v' w' ho hg; have TF := hide (T.out.push ho hg.1 KG1.out); have CF := hide (below_own B.out T.out.1 hg.1 B.out.size); have OF := hide (OM.out.kept hg.1 (ow_tk OM.out T.out.1 (by decide))); have YF := hide (RY.out.grownT hg.1 (fun g e => T.out.1.otK g e)); clear T B OM RY ho hg; have T := TF; have B := CF; have OM := OF; have RY := YF; clear TF CF OF YF; obtain ⟨p0, p1, p2, p3⟩ := (PQ.out.step B.out).alls; have E2 := cell_keep CE.out.1 B.out; have E3 := cell_keep CE.out.2.1 B.out; have E4 := cell_keep CE.out.2.2.1 B.out; have E5 := cell_keep CE.out.2.2.2.1 B.out; have E6 := cell_keep CE.out.2.2.2.2.1 B.out; have E7 := cell_keep CE.out.2.2.2.2.2.1 B.out; have E8 := cell_keep CE.out.2.2.2.2.2.2.1 B.out; have E9 := cell_keep CE.out.2.2.2.2.2.2.2 B.out))
       exact ⟨⟨q + 1, l ++ [k1], by omega, by go_num, B, hide (by have h := T.out; simpa using h), hide (by
        rw [CN.out, ← List.append_assoc]
        exact CR.out.append (show Crs [k1] (cvar q ⟨xnm, xw, false, true, xlo, xhi, xco⟩) from ⟨CK1.out, trivial⟩)), hide (fun z hz => by
         rcases List.mem_append.1 hz with h | h
         ·exact LN.out z h
         ·simp at h
          rcases h with rfl
          all_goals (first | exact KL1.out))⟩, by simp [intOf]; omega⟩
     case true =>
      cases xb
      case false =>
       go_wp2_with fail
       generalize (w5.alloc (.cells #[.int .i64 (q : Int), .bool y.s, sv y.u, sv y.t] 51)) = w6 at *
       generalize w5.heap.size = gt5 at *
       refine (rcons_c (s := 2) (L := 6) (x := xlo) (d := [⟨(q : Int), y⟩]) ⟨OM.out.rl et_len, fun z hz => by simp at hz; subst hz; exact (RY.out.more (M := 6) (by omega)).ra⟩ (UV.out.1.step B.out) (by simp) (by omega) (by omega)).mono ?_
       rintro e w7 ⟨k1, rfl, kg, ks, kt, kr, kn, bx⟩
       have CK1 := hide (show Crel k1 (2, gone q, xlo.r) from ⟨ks, kg.2.2, fun c hc => (kt c hc).trans (FG.out c hc), kr⟩)
       have KG1 := hide (show Kg w7 w0.heap.size k1 966 from by
        have h := kg.mono (B' := w0.heap.size) B.out.size
        have hq : [(⟨(q : Int), y⟩ : Tx)].length * (5 * 6 + 1) + 6 + 5 * 6 ≤ 966 := by simp
        exact ⟨h.1.more hq, h.2.1.more hq, h.2.2⟩)
       have KL1 := hide (show k1.d.length ≤ 30 from Nat.le_trans kn (by simp))
       replace T := hide (T.out.step bx)
       replace OM := hide (OM.out.step bx)
       replace RY := hide (RY.out.step bx)
       replace B := hide (Below.step B.out B.out.size bx)
       clear kg ks kt kr kn bx p0 p1 p2 p3 E2 E3 E4 E5 E6 E7 E8 E9
       go_wp2_with (at_builtin; (refine wpList_pushE rfl (.tmp 108) (.tmp 117) 29 rfl Tryz.underlying29 hi0 hz0 hz1 hz2 rfl (by omega) ek_len ek_one w7 w0.heap.size _ (l) k1 _ rfl T.out.1 rfl rfl (by have := LL.out; simp; omega) (by decide) B.out.size ?_; intro v' w' ho hg; have TF := hide (T.out.push ho hg.1 KG1.out); have CF := hide (below_own B.out T.out.1 hg.1 B.out.size); have OF := hide (OM.out.kept hg.1 (ow_tk OM.out T.out.1 (by decide))); have YF := hide (RY.out.grownT hg.1 (fun g e => T.out.1.otK g e)); clear T B OM RY ho hg; have T := TF; have B := CF; have OM := OF; have RY := YF; clear TF CF OF YF; obtain ⟨p0, p1, p2, p3⟩ := (PQ.out.step B.out).alls; have E2 := cell_keep CE.out.1 B.out; have E3 := cell_keep CE.out.2.1 B.out; have E4 := cell_keep CE.out.2.2.1 B.out; have E5 := cell_keep CE.out.2.2.2.1 B.out; have E6 := cell_keep CE.out.2.2.2.2.1 B.out; have E7 := cell_keep CE.out.2.2.2.2.2.1 B.out; have E8 := cell_keep CE.out.2.2.2.2.2.2.1 B.out; have E9 := cell_keep CE.out.2.2.2.2.2.2.2 B.out))
       exact ⟨⟨q + 1, l ++ [k1], by omega, by go_num, B, hide (by have h := T.out; simpa using h), hide (by
        rw [CN.out, ← List.append_assoc]
        exact CR.out.append (show Crs [k1] (cvar q ⟨xnm, xw, true, false, xlo, xhi, xco⟩) from ⟨CK1.out, trivial⟩)), hide (fun z hz => by
         rcases List.mem_append.1 hz with h | h
         ·exact LN.out z h
         ·simp at h
          rcases h with rfl
          all_goals (first | exact KL1.out))⟩, by simp [intOf]; omega⟩
      case true =>
       go_wp2_with fail
       generalize (w5.alloc (.cells #[.int .i64 (q : Int), .bool y.s, sv y.u, sv y.t] 51)) = w6 at *
       generalize w5.heap.size = gt5 at *
       refine (rcons_c (s := 2) (L := 6) (x := xlo) (d := [⟨(q : Int), y⟩]) ⟨OM.out.rl et_len, fun z hz => by simp at hz; subst hz; exact (RY.out.more (M := 6) (by omega)).ra⟩ (UV.out.1.step B.out) (by simp) (by omega) (by omega)).mono ?_
       rintro e w7 ⟨k1, rfl, kg, ks, kt, kr, kn, bx⟩
       have CK1 := hide (show Crel k1 (2, gone q, xlo.r) from ⟨ks, kg.2.2, fun c hc => (kt c hc).trans (FG.out c hc), kr⟩)
       have KG1 := hide (show Kg w7 w0.heap.size k1 966 from by
        have h := kg.mono (B' := w0.heap.size) B.out.size
        have hq : [(⟨(q : Int), y⟩ : Tx)].length * (5 * 6 + 1) + 6 + 5 * 6 ≤ 966 := by simp
        exact ⟨h.1.more hq, h.2.1.more hq, h.2.2⟩)
       have KL1 := hide (show k1.d.length ≤ 30 from Nat.le_trans kn (by simp))
       replace T := hide (T.out.step bx)
       replace OM := hide (OM.out.step bx)
       replace RY := hide (RY.out.step bx)
       replace B := hide (Below.step B.out B.out.size bx)
       clear kg ks kt kr kn bx p0 p1 p2 p3 E2 E3 E4 E5 E6 E7 E8 E9
       go_wp2_with (at_builtin; (refine wpList_pushE rfl (.tmp 108) (.tmp 117) 29 rfl Tryz.underlying29 hi0 hz0 hz1 hz2 rfl (by omega) ek_len ek_one w7 w0.heap.size _ (l) k1 _ rfl T.out.1 rfl rfl (by have := LL.out; simp; omega) (by decide) B.out.size ?_; intro v' w' ho hg; have TF := hide (T.out.push ho hg.1 KG1.out); have CF := hide (below_own B.out T.out.1 hg.1 B.out.size); have OF := hide (OM.out.kept hg.1 (ow_tk OM.out T.out.1 (by decide))); have YF := hide (RY.out.grownT hg.1 (fun g e => T.out.1.otK g e)); clear T B OM RY ho hg; have T := TF; have B := CF; have OM := OF; have RY := YF; clear TF CF OF YF; obtain ⟨p0, p1, p2, p3⟩ := (PQ.out.step B.out).alls; have E2 := cell_keep CE.out.1 B.out; have E3 := cell_keep CE.out.2.1 B.out; have E4 := cell_keep CE.out.2.2.1 B.out; have E5 := cell_keep CE.out.2.2.2.1 B.out; have E6 := cell_keep CE.out.2.2.2.2.1 B.out; have E7 := cell_keep CE.out.2.2.2.2.2.1 B.out; have E8 := cell_keep CE.out.2.2.2.2.2.2.1 B.out; have E9 := cell_keep CE.out.2.2.2.2.2.2.2 B.out))
       go_wp2_with fail
       refine (rcons_c (s := 1) (L := 6) (x := xhi) (d := [⟨(q : Int), y⟩]) ⟨OM.out.rl et_len, fun z hz => by simp at hz; subst hz; exact (RY.out.more (M := 6) (by omega)).ra⟩ (UV.out.2.1.step B.out) (by simp) (by omega) (by omega)).mono ?_
       rintro e w7 ⟨k2, rfl, kg, ks, kt, kr, kn, bx⟩
       have CK2 := hide (show Crel k2 (1, gone q, xhi.r) from ⟨ks, kg.2.2, fun c hc => (kt c hc).trans (FG.out c hc), kr⟩)
       have KG2 := hide (show Kg w7 w0.heap.size k2 966 from by
        have h := kg.mono (B' := w0.heap.size) B.out.size
        have hq : [(⟨(q : Int), y⟩ : Tx)].length * (5 * 6 + 1) + 6 + 5 * 6 ≤ 966 := by simp
        exact ⟨h.1.more hq, h.2.1.more hq, h.2.2⟩)
       have KL2 := hide (show k2.d.length ≤ 30 from Nat.le_trans kn (by simp))
       replace T := hide (T.out.step bx)
       replace OM := hide (OM.out.step bx)
       replace RY := hide (RY.out.step bx)
       replace B := hide (Below.step B.out B.out.size bx)
       clear kg ks kt kr kn bx p0 p1 p2 p3 E2 E3 E4 E5 E6 E7 E8 E9
       go_wp2_with (at_builtin; (refine wpList_pushE rfl (.tmp 125) (.tmp 134) 29 rfl Tryz.underlying29 hi0 hz0 hz1 hz2 rfl (by omega) ek_len ek_one w7 w0.heap.size _ (l ++ [k1]) k2 _ rfl T.out.1 rfl rfl (by have := LL.out; simp; omega) (by decide) B.out.size ?_; intro v' w' ho hg; have TF := hide (T.out.push ho hg.1 KG2.out); have CF := hide (below_own B.out T.out.1 hg.1 B.out.size); have OF := hide (OM.out.kept hg.1 (ow_tk OM.out T.out.1 (by decide))); have YF := hide (RY.out.grownT hg.1 (fun g e => T.out.1.otK g e)); clear T B OM RY ho hg; have T := TF; have B := CF; have OM := OF; have RY := YF; clear TF CF OF YF; obtain ⟨p0, p1, p2, p3⟩ := (PQ.out.step B.out).alls; have E2 := cell_keep CE.out.1 B.out; have E3 := cell_keep CE.out.2.1 B.out; have E4 := cell_keep CE.out.2.2.1 B.out; have E5 := cell_keep CE.out.2.2.2.1 B.out; have E6 := cell_keep CE.out.2.2.2.2.1 B.out; have E7 := cell_keep CE.out.2.2.2.2.2.1 B.out; have E8 := cell_keep CE.out.2.2.2.2.2.2.1 B.out; have E9 := cell_keep CE.out.2.2.2.2.2.2.2 B.out))
       exact ⟨⟨q + 1, l ++ [k1, k2], by omega, by go_num, B, hide (by have h := T.out; simpa using h), hide (by
        rw [CN.out, ← List.append_assoc]
        exact CR.out.append (show Crs [k1, k2] (cvar q ⟨xnm, xw, true, true, xlo, xhi, xco⟩) from ⟨CK1.out, CK2.out, trivial⟩)), hide (fun z hz => by
         rcases List.mem_append.1 hz with h | h
         ·exact LN.out z h
         ·simp at h
          rcases h with rfl | rfl
          all_goals (first | exact KL1.out | exact KL2.out))⟩, by simp [intOf]; omega⟩
    ·obtain rfl : q = n := by omega
     obtain ⟨p0, p1, p2, p3⟩ := (PQ.out.step B.out).alls
     go_wp2_with fail
     go_ret
     refine ⟨_, l, rfl, ⟨T.out.1.mono B0.out.size, fun z hz => (T.out.2 z hz).mono B0.out.size⟩, ?_, LN.out, Below.step B0.out B0.out.size B.out⟩
     rw [CP.out]
     exact CR.out
end Go.Proofs.YtnhlomphdighnaaGreat
