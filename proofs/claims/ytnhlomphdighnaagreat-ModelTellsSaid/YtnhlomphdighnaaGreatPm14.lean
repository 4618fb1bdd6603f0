
/-
 The document's Same of two problems of the same words.
-/
import Derived.Test.YtnhlomphdighnaaGreatPm13
import Derived.BigRegion


namespace Go.Proofs.YtnhlomphdighnaaGreat
open Go.RowKit Go.Proofs.YtnhlomphdighnaaGreat.Num
set_option linter.unusedVariables false
set_option linter.unusedSimpArgs false
set_option maxRecDepth 100000
theorem two_box (wr : World) (A B : Array Value) (T : TypeId) : Below wr.heap.size wr ((wr.alloc (.cells A T)).alloc (.cells B T)).drew ∧ ((wr.alloc (.cells A T)).alloc (.cells B T)).drew.heap[wr.heap.size]? = some (.cells A T) ∧ ((wr.alloc (.cells A T)).alloc (.cells B T)).drew.heap[wr.heap.size + 1]? = some (.cells B T) ∧ wr.heap.size + 1 < ((wr.alloc (.cells A T)).alloc (.cells B T)).drew.heap.size := by
 have h1 := heap_alloc_new wr (.cells A T)
 have b1 := alloc_below (wr.alloc (.cells A T)) (.cells B T)
 have h2 := heap_alloc_new (wr.alloc (.cells A T)) (.cells B T)
 rw [show (wr.alloc (.cells A T)).heap.size = wr.heap.size + 1 by simp] at h2
 have l1 : wr.heap.size < (wr.alloc (.cells A T)).heap.size := by simp
 refine ⟨(((Below.refl _ _).alloc (Nat.le_refl _) _).alloc (by simp) _).drew, (b1.block _ l1).trans h1, h2, by simp [World.drew]⟩
set_option maxHeartbeats 32000000 in
theorem psame_w {w : World} {p q : Px} {ts : List Wt} {us : List Ut} {L M : Nat} (hp : Wwl w (sv p.R) p.rows ts L) (hu : Uwl w (sv p.V) p.vars us L) (hq : Wwl w (sv q.R) q.rows ts M) (hv : Uwl w (sv q.V) q.vars us M) (hn : q.nm = p.nm) (ho : q.ob = p.ob) :
  Calls Tryz.prog 16 #[px p, px q] w fun e w' => e = .returned (.bool true) ∧ Below w.heap.size w w' := by
 obtain ⟨nm, ob, ⟨RA, rn, rc⟩, rows, ⟨VA, vn, vc⟩, vars⟩ := p
 obtain ⟨nm', ob', ⟨QA, qn, qc⟩, rows', ⟨WA, wn, wc⟩, vars'⟩ := q
 dsimp only at hn ho
 subst hn ho
 obtain ⟨_, _, er, hr1, hr2, hr3⟩ := id hp.1
 obtain ⟨_, _, ev, hc1, hc2, hc3⟩ := id hu.1
 obtain ⟨_, _, er', hs1, hs2, hs3⟩ := id hq.1
 obtain ⟨_, _, ev', hd1, hd2, hd3⟩ := id hv.1
 dsimp only at er ev hc1 hc2 hr1 hr2 er' ev' hs1 hs2 hd1 hd2
 have hl : rows'.length = rows.length := by rw [hp.2.1, hq.2.1]
 have hl' : vars'.length = vars.length := by rw [hu.2.1, hv.2.1]
 rw [hl] at er' hs1
 rw [hl'] at ev' hd1
 injection er with e1 e2 e3
 subst e1 e2 e3
 injection ev with e1 e2 e3
 subst e1 e2 e3
 injection er' with e1 e2 e3
 subst e1 e2 e3
 injection ev' with e1 e2 e3
 subst e1 e2 e3
 obtain ⟨n, hlen⟩ : ∃ n, n = vars.length := ⟨_, rfl⟩
 obtain ⟨m, hlr⟩ : ∃ m, m = rows.length := ⟨_, rfl⟩
 have HN := hide hlen
 have HM := hide hlr
 have HN' := hide hl'
 have HM' := hide hl
 dsimp only at hp hu hq hv
 rw [← hlen] at hu hv hc1 hd1 ⊢
 rw [← hlr] at hp hq hr1 hs1 ⊢
 have HP := hide hp
 have HU := hide hu
 have HQ := hide hq
 have HV := hide hv
 unfold maxLen at hc2 hr2
 have b2 : Below w.heap.size w ((w.alloc (.cells #[.string nm', .string ob', .slice RA m rc, .slice VA n vc] 25)).alloc (.cells #[.string nm', .string ob', .slice QA m qc, .slice WA n wc] 25)) := ((Below.refl _ _).alloc (Nat.le_refl _) _).alloc (by simp) _
 have PQ0 := hide (show Pq (w.alloc (.cells #[.string nm', .string ob', .slice RA m rc, .slice VA n vc] 25)) w.heap.size ⟨nm', ob', (RA, m, rc), rows, (VA, n, vc), vars⟩ from heap_alloc_new w _)
 have PQ := hide (PQ0.out.step (alloc_below _ (.cells #[.string nm', .string ob', .slice QA m qc, .slice WA n wc] 25)))
 have PO := hide (show Pq ((w.alloc (.cells #[.string nm', .string ob', .slice RA m rc, .slice VA n vc] 25)).alloc (.cells #[.string nm', .string ob', .slice QA m qc, .slice WA n wc] 25)) (w.heap.size + 1) ⟨nm', ob', (QA, m, qc), rows', (WA, n, wc), vars'⟩ from by
  have h := heap_alloc_new (w.alloc (.cells #[.string nm', .string ob', .slice RA m rc, .slice VA n vc] 25)) (.cells #[.string nm', .string ob', .slice QA m qc, .slice WA n wc] 25)
  rw [show (w.alloc (.cells #[.string nm', .string ob', .slice RA m rc, .slice VA n vc] 25)).heap.size = w.heap.size + 1 by simp] at h
  exact h)
 have B0 := hide b2
 clear hp hu hq hv b2 hr3 hc3 hs2 hs3 hd2 hd3 hlen hlr hl hl' PQ0
 have t0 : ((m : Int) != (m : Int)) = false := by simp
 have t1 : ((n : Int) != (n : Int)) = false := by simp
 go_enter Tryz.func16, Tryz.ntmps16
 go_wp2_with fail
 generalize ((w.alloc (.cells #[.string nm', .string ob', .slice RA m rc, .slice VA n vc] 25)).alloc (.cells #[.string nm', .string ob', .slice QA m qc, .slice WA n wc] 25)) = w0 at *
 go_loopw [5] (fun iv wr => ∃ (k : Nat), k ≤ m ∧ iv = .int .i64 (k : Int) ∧ Hid (Below w.heap.size w wr) ∧ Hid (Pq wr w.heap.size ⟨nm', ob', (RA, m, rc), rows, (VA, n, vc), vars⟩) ∧ Hid (Pq wr (w.heap.size + 1) ⟨nm', ob', (QA, m, qc), rows', (WA, n, wc), vars'⟩)) (fun iv _ => m - (intOf iv).toNat)
 case atStart => exact ⟨0, Nat.zero_le _, rfl, B0, PQ, PO⟩
 case round =>
  clear PQ PO B0
  obtain ⟨k, hk, rfl, B, PQ, PO⟩ := hrel
  obtain ⟨p0, p1, p2, p3⟩ := PQ.out.all
  obtain ⟨q0, q1, q2, q3⟩ := PO.out.all
  dsimp only at p0 p1 p2 p3 q0 q1 q2 q3
  by_cases hlt : k < m
  ·obtain ⟨x, hx⟩ := len_of (d := rows) (k := k) (by rw [← HM.out]; exact hlt)
   obtain ⟨y, hy⟩ := len_of (d := rows') (k := k) (by rw [HM'.out, ← HM.out]; exact hlt)
   obtain ⟨t, ht⟩ := zs_at HP.out.2.1 hx
   have X1 := hide ((HP.out.2.2 k x t hx ht).step B.out)
   have Y1 := hide ((HQ.out.2.2 k y t hy ht).step B.out)
   obtain ⟨b, off, rfl, hb, hc⟩ := (HP.out.1.step B.out).get hx
   obtain ⟨b', off', rfl, hb', hc'⟩ := (HQ.out.1.step B.out).get hy
   have c0 := hc 0 _ rfl
   have c1 := hc 1 _ rfl
   have c2 := hc 2 _ rfl
   have c3 := hc 3 _ rfl
   have c4 := hc 4 _ rfl
   have c5 := hc 5 _ rfl
   have c6 := hc 6 _ rfl
   have c7 := hc 7 _ rfl
   have c8 := hc 8 _ rfl
   have c9 := hc 9 _ rfl
   have e0 := hc' 0 _ rfl
   have e1 := hc' 1 _ rfl
   have e2 := hc' 2 _ rfl
   have e3 := hc' 3 _ rfl
   have e4 := hc' 4 _ rfl
   have e5 := hc' 5 _ rfl
   have e6 := hc' 6 _ rfl
   have e7 := hc' 7 _ rfl
   have e8 := hc' 8 _ rfl
   have e9 := hc' 9 _ rfl
   rw [Nat.add_zero] at c0 e0
   have l0 : (0 : Int) ≤ (k : Int) := by omega
   have l1 : (k : Int) < (m : Int) := by omega
   clear p0 p1 p2 p3 q0 q1 q2 q3
   have p2 : wr.cell? ⟨w.heap.size, 2, none⟩ = some (.slice (some ⟨b, off, none⟩) m rc) := PQ.out.all.2.2.1
   have q2 : wr.cell? ⟨w.heap.size + 1, 2, none⟩ = some (.slice (some ⟨b', off', none⟩) m qc) := PO.out.all.2.2.1
   have g0 := PQ.out.lt
   have g1 := PO.out.lt
   have g2 : w.heap.size ≠ wr.heap.size := by omega
   have g3 : w.heap.size + 1 ≠ wr.heap.size := by omega
   have g4 : b ≠ wr.heap.size := by omega
   have g5 : b' ≠ wr.heap.size := by omega
   have g6 : w.heap.size ≠ wr.heap.size + 1 := by omega
   have g7 : w.heap.size ≠ wr.heap.size := by omega
   have g8 : b ≠ wr.heap.size + 1 := by omega
   have g9 : b' ≠ wr.heap.size + 1 := by omega
   clear hc hc' hx hy ht
   go_wp2_with fail
   obtain ⟨w3, hw3⟩ : ∃ w3, w3 = wr := ⟨_, rfl⟩
   subst hw3
   go_cut [6, 7] from 48 to 58 (fun s6 s7 wx => ∃ gx gy, s6 = .pointer (some ⟨gx, 0, none⟩) ∧ s7 = .pointer (some ⟨gy, 0, none⟩) ∧ Wq wx gx x ∧ Wq wx gy y ∧ Below w3.heap.size w3 wx)
   case first =>
    go_region
    ·obtain ⟨bx, h1, h2, h3⟩ := two_box w3 #[.string x.nm, .bool x.a, .bool x.b, .bool x.lo.s, .slice x.lo.u.1 x.lo.u.2.1 x.lo.u.2.2, .slice x.lo.t.1 x.lo.t.2.1 x.lo.t.2.2, .bool x.hi.s, .slice x.hi.u.1 x.hi.u.2.1 x.hi.u.2.2, .slice x.hi.t.1 x.hi.t.2.1 x.hi.t.2.2, .slice x.v.1 x.v.2.1 x.v.2.2] #[.string y.nm, .bool y.a, .bool y.b, .bool y.lo.s, .slice y.lo.u.1 y.lo.u.2.1 y.lo.u.2.2, .slice y.lo.t.1 y.lo.t.2.1 y.lo.t.2.2, .bool y.hi.s, .slice y.hi.u.1 y.hi.u.2.1 y.hi.u.2.2, .slice y.hi.t.1 y.hi.t.2.1 y.hi.t.2.2, .slice y.v.1 y.v.2.1 y.v.2.2] 53
     generalize ((w3.alloc (.cells #[.string x.nm, .bool x.a, .bool x.b, .bool x.lo.s, .slice x.lo.u.1 x.lo.u.2.1 x.lo.u.2.2, .slice x.lo.t.1 x.lo.t.2.1 x.lo.t.2.2, .bool x.hi.s, .slice x.hi.u.1 x.hi.u.2.1 x.hi.u.2.2, .slice x.hi.t.1 x.hi.t.2.1 x.hi.t.2.2, .slice x.v.1 x.v.2.1 x.v.2.2] 53)).alloc (.cells #[.string y.nm, .bool y.a, .bool y.b, .bool y.lo.s, .slice y.lo.u.1 y.lo.u.2.1 y.lo.u.2.2, .slice y.lo.t.1 y.lo.t.2.1 y.lo.t.2.2, .bool y.hi.s, .slice y.hi.u.1 y.hi.u.2.1 y.hi.u.2.2, .slice y.hi.t.1 y.hi.t.2.1 y.hi.t.2.2, .slice y.v.1 y.v.2.1 y.v.2.2] 53)).drew = W1 at *
     go_wp2_with fail
     go_meet
     exact ⟨w3.heap.size, w3.heap.size + 1, rfl, rfl, h1, h2, bx⟩
    ·obtain ⟨bx, h1, h2, h3⟩ := two_box w3 #[.string y.nm, .bool y.a, .bool y.b, .bool y.lo.s, .slice y.lo.u.1 y.lo.u.2.1 y.lo.u.2.2, .slice y.lo.t.1 y.lo.t.2.1 y.lo.t.2.2, .bool y.hi.s, .slice y.hi.u.1 y.hi.u.2.1 y.hi.u.2.2, .slice y.hi.t.1 y.hi.t.2.1 y.hi.t.2.2, .slice y.v.1 y.v.2.1 y.v.2.2] #[.string x.nm, .bool x.a, .bool x.b, .bool x.lo.s, .slice x.lo.u.1 x.lo.u.2.1 x.lo.u.2.2, .slice x.lo.t.1 x.lo.t.2.1 x.lo.t.2.2, .bool x.hi.s, .slice x.hi.u.1 x.hi.u.2.1 x.hi.u.2.2, .slice x.hi.t.1 x.hi.t.2.1 x.hi.t.2.2, .slice x.v.1 x.v.2.1 x.v.2.2] 53
     generalize ((w3.alloc (.cells #[.string y.nm, .bool y.a, .bool y.b, .bool y.lo.s, .slice y.lo.u.1 y.lo.u.2.1 y.lo.u.2.2, .slice y.lo.t.1 y.lo.t.2.1 y.lo.t.2.2, .bool y.hi.s, .slice y.hi.u.1 y.hi.u.2.1 y.hi.u.2.2, .slice y.hi.t.1 y.hi.t.2.1 y.hi.t.2.2, .slice y.v.1 y.v.2.1 y.v.2.2] 53)).alloc (.cells #[.string x.nm, .bool x.a, .bool x.b, .bool x.lo.s, .slice x.lo.u.1 x.lo.u.2.1 x.lo.u.2.2, .slice x.lo.t.1 x.lo.t.2.1 x.lo.t.2.2, .bool x.hi.s, .slice x.hi.u.1 x.hi.u.2.1 x.hi.u.2.2, .slice x.hi.t.1 x.hi.t.2.1 x.hi.t.2.2, .slice x.v.1 x.v.2.1 x.v.2.2] 53)).drew = W1 at *
     go_wp2_with fail
     go_meet
     exact ⟨w3.heap.size + 1, w3.heap.size, rfl, rfl, h2, h1, bx⟩
   case rest =>
    obtain ⟨gx, gy, rfl, rfl, hx, hy, bx⟩ := hcut
    clear p2 q2 g0 g1 g2 g3 g4 g5 g6 g7 g8 g9 hb hb' c0 e0 c1 e1 c2 e2 c3 e3 c4 e4 c5 e5 c6 e6 c7 e7 c8 e8 c9 e9
    have HX := hide hx
    have HY := hide hy
    have X2 := hide (X1.out.step bx)
    have Y2 := hide (Y1.out.step bx)
    have B1 := hide (Below.step B.out B.out.size bx)
    have PQ1 := hide (PQ.out.step bx)
    have PO1 := hide (PO.out.step bx)
    clear hx hy bx X1 Y1 B PQ PO
    have q_nm := Y2.out.1.1.trans X2.out.1.1.symm
    have q_a := Y2.out.1.2.1.trans X2.out.1.2.1.symm
    have q_b := Y2.out.1.2.2.trans X2.out.1.2.2.symm
    have x0 : wc.cell? ⟨gx, 0, none⟩ = some (.string x.nm) := cell_of_row wc gx 0 _ _ _ HX.out
    have y0 : wc.cell? ⟨gy, 0, none⟩ = some (.string y.nm) := cell_of_row wc gy 0 _ _ _ HY.out
    have x1 : wc.cell? ⟨gx, 1, none⟩ = some (.bool x.a) := cell_of_row wc gx 1 _ _ _ HX.out
    have y1 : wc.cell? ⟨gy, 1, none⟩ = some (.bool y.a) := cell_of_row wc gy 1 _ _ _ HY.out
    have x2 : wc.cell? ⟨gx, 2, none⟩ = some (.bool x.b) := cell_of_row wc gx 2 _ _ _ HX.out
    have y2 : wc.cell? ⟨gy, 2, none⟩ = some (.bool y.b) := cell_of_row wc gy 2 _ _ _ HY.out
    have x3 : wc.cell? ⟨gx, 3, none⟩ = some (.bool x.lo.s) := cell_of_row wc gx 3 _ _ _ HX.out
    have y3 : wc.cell? ⟨gy, 3, none⟩ = some (.bool y.lo.s) := cell_of_row wc gy 3 _ _ _ HY.out
    have x4 : wc.cell? ⟨gx, 4, none⟩ = some (.slice x.lo.u.1 x.lo.u.2.1 x.lo.u.2.2) := cell_of_row wc gx 4 _ _ _ HX.out
    have y4 : wc.cell? ⟨gy, 4, none⟩ = some (.slice y.lo.u.1 y.lo.u.2.1 y.lo.u.2.2) := cell_of_row wc gy 4 _ _ _ HY.out
    have x5 : wc.cell? ⟨gx, 5, none⟩ = some (.slice x.lo.t.1 x.lo.t.2.1 x.lo.t.2.2) := cell_of_row wc gx 5 _ _ _ HX.out
    have y5 : wc.cell? ⟨gy, 5, none⟩ = some (.slice y.lo.t.1 y.lo.t.2.1 y.lo.t.2.2) := cell_of_row wc gy 5 _ _ _ HY.out
    rw [q_nm] at y0
    rw [q_a] at y1
    rw [q_b] at y2
    go_wp2_with fail
    clear x0 y0 x1 y1 x2 y2 x3 y3 x4 y4 x5 y5
    go_at_call 19
    refine (rsame_l X2.out.2.1.rl Y2.out.2.1.rl).mono ?_
    rintro e V1 ⟨rfl, bx⟩
    replace HX := hide (HX.out.step bx)
    replace HY := hide (HY.out.step bx)
    replace X2 := hide (X2.out.step bx)
    replace Y2 := hide (Y2.out.step bx)
    replace B1 := hide (Below.step B1.out B1.out.size bx)
    replace PQ1 := hide (PQ1.out.step bx)
    replace PO1 := hide (PO1.out.step bx)
    clear bx
    have x6 : V1.cell? ⟨gx, 6, none⟩ = some (.bool x.hi.s) := cell_of_row V1 gx 6 _ _ _ HX.out
    have y6 : V1.cell? ⟨gy, 6, none⟩ = some (.bool y.hi.s) := cell_of_row V1 gy 6 _ _ _ HY.out
    have x7 : V1.cell? ⟨gx, 7, none⟩ = some (.slice x.hi.u.1 x.hi.u.2.1 x.hi.u.2.2) := cell_of_row V1 gx 7 _ _ _ HX.out
    have y7 : V1.cell? ⟨gy, 7, none⟩ = some (.slice y.hi.u.1 y.hi.u.2.1 y.hi.u.2.2) := cell_of_row V1 gy 7 _ _ _ HY.out
    have x8 : V1.cell? ⟨gx, 8, none⟩ = some (.slice x.hi.t.1 x.hi.t.2.1 x.hi.t.2.2) := cell_of_row V1 gx 8 _ _ _ HX.out
    have y8 : V1.cell? ⟨gy, 8, none⟩ = some (.slice y.hi.t.1 y.hi.t.2.1 y.hi.t.2.2) := cell_of_row V1 gy 8 _ _ _ HY.out
    go_wp2_with fail
    clear x6 y6 x7 y7 x8 y8
    go_at_call 19
    refine (rsame_l X2.out.2.2.1.rl Y2.out.2.2.1.rl).mono ?_
    rintro e V2 ⟨rfl, bx⟩
    replace HX := hide (HX.out.step bx)
    replace HY := hide (HY.out.step bx)
    replace X2 := hide (X2.out.step bx)
    replace Y2 := hide (Y2.out.step bx)
    replace B1 := hide (Below.step B1.out B1.out.size bx)
    replace PQ1 := hide (PQ1.out.step bx)
    replace PO1 := hide (PO1.out.step bx)
    clear bx
    have x9 : V2.cell? ⟨gx, 9, none⟩ = some (.slice x.v.1 x.v.2.1 x.v.2.2) := cell_of_row V2 gx 9 _ _ _ HX.out
    have y9 : V2.cell? ⟨gy, 9, none⟩ = some (.slice y.v.1 y.v.2.1 y.v.2.2) := cell_of_row V2 gy 9 _ _ _ HY.out
    go_wp2_with fail
    clear x9 y9
    go_at_call 12
    refine (same_v X2.out.2.2.2 Y2.out.2.2.2).mono ?_
    rintro e V3 ⟨rfl, bx⟩
    replace HX := hide (HX.out.step bx)
    replace HY := hide (HY.out.step bx)
    replace X2 := hide (X2.out.step bx)
    replace Y2 := hide (Y2.out.step bx)
    replace B1 := hide (Below.step B1.out B1.out.size bx)
    replace PQ1 := hide (PQ1.out.step bx)
    replace PO1 := hide (PO1.out.step bx)
    clear bx
    go_wp2_with fail
    exact ⟨⟨k + 1, by omega, by go_num, B1, PQ1, PO1⟩, by simp [intOf]; omega⟩
  ·obtain rfl : m = k := by omega
   clear hlt hk
   go_wp2_with fail
   clear p0 p1 p2 p3 q0 q1 q2 q3
   have B0 := B
   clear B
   go_loopw [8] (fun iv wr => ∃ (k : Nat), k ≤ n ∧ iv = .int .i64 (k : Int) ∧ Hid (Below w.heap.size w wr) ∧ Hid (Pq wr w.heap.size ⟨nm', ob', (RA, m, rc), rows, (VA, n, vc), vars⟩) ∧ Hid (Pq wr (w.heap.size + 1) ⟨nm', ob', (QA, m, qc), rows', (WA, n, wc), vars'⟩)) (fun iv _ => n - (intOf iv).toNat)
   case atStart => exact ⟨0, Nat.zero_le _, rfl, B0, PQ, PO⟩
   case round =>
    clear PQ PO B0
    obtain ⟨k, hk, rfl, B, PQ, PO⟩ := hrel
    obtain ⟨p0, p1, p2, p3⟩ := PQ.out.all
    obtain ⟨q0, q1, q2, q3⟩ := PO.out.all
    dsimp only at p0 p1 p2 p3 q0 q1 q2 q3
    by_cases hlt : k < n
    ·obtain ⟨x, hx⟩ := len_of (d := vars) (k := k) (by rw [← HN.out]; exact hlt)
     obtain ⟨y, hy⟩ := len_of (d := vars') (k := k) (by rw [HN'.out, ← HN.out]; exact hlt)
     obtain ⟨t, ht⟩ := zs_at HU.out.2.1 hx
     have X1 := hide ((HU.out.2.2 k x t hx ht).step B.out)
     have Y1 := hide ((HV.out.2.2 k y t hy ht).step B.out)
     obtain ⟨b, off, rfl, hb, hc⟩ := (HU.out.1.step B.out).get hx
     obtain ⟨b', off', rfl, hb', hc'⟩ := (HV.out.1.step B.out).get hy
     have c0 := hc 0 _ rfl
     have c1 := hc 1 _ rfl
     have c2 := hc 2 _ rfl
     have c3 := hc 3 _ rfl
     have c4 := hc 4 _ rfl
     have c5 := hc 5 _ rfl
     have c6 := hc 6 _ rfl
     have c7 := hc 7 _ rfl
     have c8 := hc 8 _ rfl
     have c9 := hc 9 _ rfl
     have c10 := hc 10 _ rfl
     have c11 := hc 11 _ rfl
     have c12 := hc 12 _ rfl
     have e0 := hc' 0 _ rfl
     have e1 := hc' 1 _ rfl
     have e2 := hc' 2 _ rfl
     have e3 := hc' 3 _ rfl
     have e4 := hc' 4 _ rfl
     have e5 := hc' 5 _ rfl
     have e6 := hc' 6 _ rfl
     have e7 := hc' 7 _ rfl
     have e8 := hc' 8 _ rfl
     have e9 := hc' 9 _ rfl
     have e10 := hc' 10 _ rfl
     have e11 := hc' 11 _ rfl
     have e12 := hc' 12 _ rfl
     rw [Nat.add_zero] at c0 e0
     have l0 : (0 : Int) ≤ (k : Int) := by omega
     have l1 : (k : Int) < (n : Int) := by omega
     clear p0 p1 p2 p3 q0 q1 q2 q3
     have p2 : wr.cell? ⟨w.heap.size, 3, none⟩ = some (.slice (some ⟨b, off, none⟩) n vc) := PQ.out.all.2.2.2
     have q2 : wr.cell? ⟨w.heap.size + 1, 3, none⟩ = some (.slice (some ⟨b', off', none⟩) n wc) := PO.out.all.2.2.2
     have g0 := PQ.out.lt
     have g1 := PO.out.lt
     have g2 : w.heap.size ≠ wr.heap.size := by omega
     have g3 : w.heap.size + 1 ≠ wr.heap.size := by omega
     have g4 : b ≠ wr.heap.size := by omega
     have g5 : b' ≠ wr.heap.size := by omega
     have g6 : w.heap.size ≠ wr.heap.size + 1 := by omega
     have g7 : w.heap.size ≠ wr.heap.size := by omega
     have g8 : b ≠ wr.heap.size + 1 := by omega
     have g9 : b' ≠ wr.heap.size + 1 := by omega
     clear hc hc' hx hy ht
     go_wp2_with fail
     obtain ⟨w3, hw3⟩ : ∃ w3, w3 = wr := ⟨_, rfl⟩
     subst hw3
     go_cut [9, 10] from 108 to 118 (fun s6 s7 wx => ∃ gx gy, s6 = .pointer (some ⟨gx, 0, none⟩) ∧ s7 = .pointer (some ⟨gy, 0, none⟩) ∧ Uq wx gx x ∧ Uq wx gy y ∧ Below w3.heap.size w3 wx)
     case first =>
      go_region
      ·obtain ⟨bx, h1, h2, h3⟩ := two_box w3 #[.string x.nm, .bool x.w, .bool x.a, .bool x.b, .bool x.lo.s, .slice x.lo.u.1 x.lo.u.2.1 x.lo.u.2.2, .slice x.lo.t.1 x.lo.t.2.1 x.lo.t.2.2, .bool x.hi.s, .slice x.hi.u.1 x.hi.u.2.1 x.hi.u.2.2, .slice x.hi.t.1 x.hi.t.2.1 x.hi.t.2.2, .bool x.co.s, .slice x.co.u.1 x.co.u.2.1 x.co.u.2.2, .slice x.co.t.1 x.co.t.2.1 x.co.t.2.2] #[.string y.nm, .bool y.w, .bool y.a, .bool y.b, .bool y.lo.s, .slice y.lo.u.1 y.lo.u.2.1 y.lo.u.2.2, .slice y.lo.t.1 y.lo.t.2.1 y.lo.t.2.2, .bool y.hi.s, .slice y.hi.u.1 y.hi.u.2.1 y.hi.u.2.2, .slice y.hi.t.1 y.hi.t.2.1 y.hi.t.2.2, .bool y.co.s, .slice y.co.u.1 y.co.u.2.1 y.co.u.2.2, .slice y.co.t.1 y.co.t.2.1 y.co.t.2.2] 43
       generalize ((w3.alloc (.cells #[.string x.nm, .bool x.w, .bool x.a, .bool x.b, .bool x.lo.s, .slice x.lo.u.1 x.lo.u.2.1 x.lo.u.2.2, .slice x.lo.t.1 x.lo.t.2.1 x.lo.t.2.2, .bool x.hi.s, .slice x.hi.u.1 x.hi.u.2.1 x.hi.u.2.2, .slice x.hi.t.1 x.hi.t.2.1 x.hi.t.2.2, .bool x.co.s, .slice x.co.u.1 x.co.u.2.1 x.co.u.2.2, .slice x.co.t.1 x.co.t.2.1 x.co.t.2.2] 43)).alloc (.cells #[.string y.nm, .bool y.w, .bool y.a, .bool y.b, .bool y.lo.s, .slice y.lo.u.1 y.lo.u.2.1 y.lo.u.2.2, .slice y.lo.t.1 y.lo.t.2.1 y.lo.t.2.2, .bool y.hi.s, .slice y.hi.u.1 y.hi.u.2.1 y.hi.u.2.2, .slice y.hi.t.1 y.hi.t.2.1 y.hi.t.2.2, .bool y.co.s, .slice y.co.u.1 y.co.u.2.1 y.co.u.2.2, .slice y.co.t.1 y.co.t.2.1 y.co.t.2.2] 43)).drew = W1 at *
       go_wp2_with fail
       go_meet
       exact ⟨w3.heap.size, w3.heap.size + 1, rfl, rfl, h1, h2, bx⟩
      ·obtain ⟨bx, h1, h2, h3⟩ := two_box w3 #[.string y.nm, .bool y.w, .bool y.a, .bool y.b, .bool y.lo.s, .slice y.lo.u.1 y.lo.u.2.1 y.lo.u.2.2, .slice y.lo.t.1 y.lo.t.2.1 y.lo.t.2.2, .bool y.hi.s, .slice y.hi.u.1 y.hi.u.2.1 y.hi.u.2.2, .slice y.hi.t.1 y.hi.t.2.1 y.hi.t.2.2, .bool y.co.s, .slice y.co.u.1 y.co.u.2.1 y.co.u.2.2, .slice y.co.t.1 y.co.t.2.1 y.co.t.2.2] #[.string x.nm, .bool x.w, .bool x.a, .bool x.b, .bool x.lo.s, .slice x.lo.u.1 x.lo.u.2.1 x.lo.u.2.2, .slice x.lo.t.1 x.lo.t.2.1 x.lo.t.2.2, .bool x.hi.s, .slice x.hi.u.1 x.hi.u.2.1 x.hi.u.2.2, .slice x.hi.t.1 x.hi.t.2.1 x.hi.t.2.2, .bool x.co.s, .slice x.co.u.1 x.co.u.2.1 x.co.u.2.2, .slice x.co.t.1 x.co.t.2.1 x.co.t.2.2] 43
       generalize ((w3.alloc (.cells #[.string y.nm, .bool y.w, .bool y.a, .bool y.b, .bool y.lo.s, .slice y.lo.u.1 y.lo.u.2.1 y.lo.u.2.2, .slice y.lo.t.1 y.lo.t.2.1 y.lo.t.2.2, .bool y.hi.s, .slice y.hi.u.1 y.hi.u.2.1 y.hi.u.2.2, .slice y.hi.t.1 y.hi.t.2.1 y.hi.t.2.2, .bool y.co.s, .slice y.co.u.1 y.co.u.2.1 y.co.u.2.2, .slice y.co.t.1 y.co.t.2.1 y.co.t.2.2] 43)).alloc (.cells #[.string x.nm, .bool x.w, .bool x.a, .bool x.b, .bool x.lo.s, .slice x.lo.u.1 x.lo.u.2.1 x.lo.u.2.2, .slice x.lo.t.1 x.lo.t.2.1 x.lo.t.2.2, .bool x.hi.s, .slice x.hi.u.1 x.hi.u.2.1 x.hi.u.2.2, .slice x.hi.t.1 x.hi.t.2.1 x.hi.t.2.2, .bool x.co.s, .slice x.co.u.1 x.co.u.2.1 x.co.u.2.2, .slice x.co.t.1 x.co.t.2.1 x.co.t.2.2] 43)).drew = W1 at *
       go_wp2_with fail
       go_meet
       exact ⟨w3.heap.size + 1, w3.heap.size, rfl, rfl, h2, h1, bx⟩
     case rest =>
      obtain ⟨gx, gy, rfl, rfl, hx, hy, bx⟩ := hcut
      clear p2 q2 g0 g1 g2 g3 g4 g5 g6 g7 g8 g9 hb hb' c0 e0 c1 e1 c2 e2 c3 e3 c4 e4 c5 e5 c6 e6 c7 e7 c8 e8 c9 e9 c10 e10 c11 e11 c12 e12
      have HX := hide hx
      have HY := hide hy
      have X2 := hide (X1.out.step bx)
      have Y2 := hide (Y1.out.step bx)
      have B1 := hide (Below.step B.out B.out.size bx)
      have PQ1 := hide (PQ.out.step bx)
      have PO1 := hide (PO.out.step bx)
      clear hx hy bx X1 Y1 B PQ PO
      have q_nm := Y2.out.1.1.trans X2.out.1.1.symm
      have q_w := Y2.out.1.2.1.trans X2.out.1.2.1.symm
      have q_a := Y2.out.1.2.2.1.trans X2.out.1.2.2.1.symm
      have q_b := Y2.out.1.2.2.2.trans X2.out.1.2.2.2.symm
      have x0 : wc.cell? ⟨gx, 0, none⟩ = some (.string x.nm) := cell_of_row wc gx 0 _ _ _ HX.out
      have y0 : wc.cell? ⟨gy, 0, none⟩ = some (.string y.nm) := cell_of_row wc gy 0 _ _ _ HY.out
      have x1 : wc.cell? ⟨gx, 1, none⟩ = some (.bool x.w) := cell_of_row wc gx 1 _ _ _ HX.out
      have y1 : wc.cell? ⟨gy, 1, none⟩ = some (.bool y.w) := cell_of_row wc gy 1 _ _ _ HY.out
      have x2 : wc.cell? ⟨gx, 2, none⟩ = some (.bool x.a) := cell_of_row wc gx 2 _ _ _ HX.out
      have y2 : wc.cell? ⟨gy, 2, none⟩ = some (.bool y.a) := cell_of_row wc gy 2 _ _ _ HY.out
      have x3 : wc.cell? ⟨gx, 3, none⟩ = some (.bool x.b) := cell_of_row wc gx 3 _ _ _ HX.out
      have y3 : wc.cell? ⟨gy, 3, none⟩ = some (.bool y.b) := cell_of_row wc gy 3 _ _ _ HY.out
      have x4 : wc.cell? ⟨gx, 4, none⟩ = some (.bool x.lo.s) := cell_of_row wc gx 4 _ _ _ HX.out
      have y4 : wc.cell? ⟨gy, 4, none⟩ = some (.bool y.lo.s) := cell_of_row wc gy 4 _ _ _ HY.out
      have x5 : wc.cell? ⟨gx, 5, none⟩ = some (.slice x.lo.u.1 x.lo.u.2.1 x.lo.u.2.2) := cell_of_row wc gx 5 _ _ _ HX.out
      have y5 : wc.cell? ⟨gy, 5, none⟩ = some (.slice y.lo.u.1 y.lo.u.2.1 y.lo.u.2.2) := cell_of_row wc gy 5 _ _ _ HY.out
      have x6 : wc.cell? ⟨gx, 6, none⟩ = some (.slice x.lo.t.1 x.lo.t.2.1 x.lo.t.2.2) := cell_of_row wc gx 6 _ _ _ HX.out
      have y6 : wc.cell? ⟨gy, 6, none⟩ = some (.slice y.lo.t.1 y.lo.t.2.1 y.lo.t.2.2) := cell_of_row wc gy 6 _ _ _ HY.out
      rw [q_nm] at y0
      rw [q_w] at y1
      rw [q_a] at y2
      rw [q_b] at y3
      go_wp2_with fail
      clear x0 y0 x1 y1 x2 y2 x3 y3 x4 y4 x5 y5 x6 y6
      go_at_call 19
      refine (rsame_l X2.out.2.1.rl Y2.out.2.1.rl).mono ?_
      rintro e V1 ⟨rfl, bx⟩
      replace HX := hide (HX.out.step bx)
      replace HY := hide (HY.out.step bx)
      replace X2 := hide (X2.out.step bx)
      replace Y2 := hide (Y2.out.step bx)
      replace B1 := hide (Below.step B1.out B1.out.size bx)
      replace PQ1 := hide (PQ1.out.step bx)
      replace PO1 := hide (PO1.out.step bx)
      clear bx
      have x7 : V1.cell? ⟨gx, 7, none⟩ = some (.bool x.hi.s) := cell_of_row V1 gx 7 _ _ _ HX.out
      have y7 : V1.cell? ⟨gy, 7, none⟩ = some (.bool y.hi.s) := cell_of_row V1 gy 7 _ _ _ HY.out
      have x8 : V1.cell? ⟨gx, 8, none⟩ = some (.slice x.hi.u.1 x.hi.u.2.1 x.hi.u.2.2) := cell_of_row V1 gx 8 _ _ _ HX.out
      have y8 : V1.cell? ⟨gy, 8, none⟩ = some (.slice y.hi.u.1 y.hi.u.2.1 y.hi.u.2.2) := cell_of_row V1 gy 8 _ _ _ HY.out
      have x9 : V1.cell? ⟨gx, 9, none⟩ = some (.slice x.hi.t.1 x.hi.t.2.1 x.hi.t.2.2) := cell_of_row V1 gx 9 _ _ _ HX.out
      have y9 : V1.cell? ⟨gy, 9, none⟩ = some (.slice y.hi.t.1 y.hi.t.2.1 y.hi.t.2.2) := cell_of_row V1 gy 9 _ _ _ HY.out
      go_wp2_with fail
      clear x7 y7 x8 y8 x9 y9
      go_at_call 19
      refine (rsame_l X2.out.2.2.1.rl Y2.out.2.2.1.rl).mono ?_
      rintro e V2 ⟨rfl, bx⟩
      replace HX := hide (HX.out.step bx)
      replace HY := hide (HY.out.step bx)
      replace X2 := hide (X2.out.step bx)
      replace Y2 := hide (Y2.out.step bx)
      replace B1 := hide (Below.step B1.out B1.out.size bx)
      replace PQ1 := hide (PQ1.out.step bx)
      replace PO1 := hide (PO1.out.step bx)
      clear bx
      have x10 : V2.cell? ⟨gx, 10, none⟩ = some (.bool x.co.s) := cell_of_row V2 gx 10 _ _ _ HX.out
      have y10 : V2.cell? ⟨gy, 10, none⟩ = some (.bool y.co.s) := cell_of_row V2 gy 10 _ _ _ HY.out
      have x11 : V2.cell? ⟨gx, 11, none⟩ = some (.slice x.co.u.1 x.co.u.2.1 x.co.u.2.2) := cell_of_row V2 gx 11 _ _ _ HX.out
      have y11 : V2.cell? ⟨gy, 11, none⟩ = some (.slice y.co.u.1 y.co.u.2.1 y.co.u.2.2) := cell_of_row V2 gy 11 _ _ _ HY.out
      have x12 : V2.cell? ⟨gx, 12, none⟩ = some (.slice x.co.t.1 x.co.t.2.1 x.co.t.2.2) := cell_of_row V2 gx 12 _ _ _ HX.out
      have y12 : V2.cell? ⟨gy, 12, none⟩ = some (.slice y.co.t.1 y.co.t.2.1 y.co.t.2.2) := cell_of_row V2 gy 12 _ _ _ HY.out
      go_wp2_with fail
      clear x10 y10 x11 y11 x12 y12
      go_at_call 19
      refine (rsame_l X2.out.2.2.2.rl Y2.out.2.2.2.rl).mono ?_
      rintro e V3 ⟨rfl, bx⟩
      replace HX := hide (HX.out.step bx)
      replace HY := hide (HY.out.step bx)
      replace X2 := hide (X2.out.step bx)
      replace Y2 := hide (Y2.out.step bx)
      replace B1 := hide (Below.step B1.out B1.out.size bx)
      replace PQ1 := hide (PQ1.out.step bx)
      replace PO1 := hide (PO1.out.step bx)
      clear bx
      go_wp2_with fail
      exact ⟨⟨k + 1, by omega, by go_num, B1, PQ1, PO1⟩, by simp [intOf]; omega⟩
    ·obtain rfl : n = k := by omega
     go_wp2_with fail
     go_ret
     exact ⟨rfl, B.out⟩
end Go.Proofs.YtnhlomphdighnaaGreat
