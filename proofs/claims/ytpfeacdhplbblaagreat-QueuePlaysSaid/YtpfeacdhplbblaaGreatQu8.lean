
/-
  The document's example of a queue: true.
-/
import Derived.Test.YtpfeacdhplbblaaGreatQu7
import Derived.Test.YtpfeacdhplbblaaGreatRsum1


namespace Go.Proofs.YtpfeacdhplbblaaGreat
open Go.RowKit Go.Proofs.YtpfeacdhplbblaaGreat.Num
set_option linter.unusedVariables false
set_option linter.unusedSimpArgs false
set_option maxRecDepth 100000
set_option maxHeartbeats 4000000 in
theorem whole20_g (w : World) (z : Int) (h1 : -9223372036854775808 ≤ z) (h2 : z ≤ 9223372036854775807) :
    Calls Tryz.prog 21 #[.int .i64 z] w fun e w' => ∃ y : Rx, e = .returned (rx y) ∧ y.r = (z : Rat) ∧ Rc w' (rx y) y.r 6 ∧ Below w.heap.size w w' := by
  have HB := hide (bal1 w rblk)
  have HZ := hide (Rb.new w)
  go_enter Tryz.func21, Tryz.ntmps21
  go_wp2_with fail
  refine (rqsmall_f (w.alloc rblk) z h1 h2).mono ?_
  rintro e w1 ⟨x, rfl, ex, fx, b1⟩
  have EX := hide ex
  have FX := hide fx
  have B1 := hide (Below.step HB.out HB.out.size b1)
  have Z1 := hide (HZ.out.step b1)
  clear ex fx b1 HB HZ
  go_wp2_with fail
  refine (rfto_f FX.out (by omega)).mono ?_
  rintro e w2 ⟨y, rfl, ey, cy, b2⟩
  have hz := Z1.out.step b2
  have k0 := hz.c0
  have k1 := hz.c1
  have k2 := hz.c2
  have f0 := hz.fz 0
  have f1 := hz.fz 1
  have f2 := hz.fz 2
  have F3 := hide (show (((w2.setCell ⟨w.heap.size, 0, none⟩ (.bool y.s)).setCell ⟨w.heap.size, 1, none⟩ (sv y.u)).setCell ⟨w.heap.size, 2, none⟩ (sv y.t)).heap[w.heap.size]? = _ from hz.set _ _ _)
  have F4 := hide (cy.grownU (only_put3 w2 w.heap.size (.bool y.s) (sv y.u) (sv y.t)) hz.nu)
  have F5 := hide (below_put3 (Below.step B1.out B1.out.size b2) (Nat.le_refl w.heap.size) (.bool y.s) (sv y.u) (sv y.t))
  have EY := hide (show y.r = (z : Rat) by rw [ey, EX.out])
  clear hz ey cy b2 B1 Z1 FX EX
  go_wp2_with fail
  refine bodyPost_ret (rret rfl _ _ _ #[.bool y.s, sv y.u, sv y.t] rfl rfl F3.out) rfl ?_
  exact ⟨y, rfl, EY.out, F4.out, F5.out⟩
theorem first_is {o : Int} {l L : List Nx} {x y : Nx} (h : Hn o l l.length) (h0 : l[0]? = some x) (p : l.Perm L) (hy : y ∈ L) (hf : ∀ z ∈ L, z ≠ y → ah o y z) : x = y := by
  apply Classical.byContradiction
  intro hne
  have hx : x ∈ L := p.mem_iff.1 (List.mem_of_getElem? h0)
  exact h.firstM h0 y (p.mem_iff.2 hy) (hf x hx hne)
theorem ak_less {p q : Ky} (h : p.2.2 < q.2.2) : ak 0 p q := .inr ⟨by decide, .inl h⟩
theorem ak_deep {p q : Ky} (h : p.2.2 = q.2.2) (h2 : q.2.1 < p.2.1) : ak 0 p q := .inr ⟨by decide, .inr ⟨h, .inl h2⟩⟩
set_option maxHeartbeats 16000000 in
theorem quspeaks_true (w : World) : Calls Tryz.prog 4 #[] w fun e w' => e = .returned (.bool true) ∧ Below w.heap.size w w' := by
  go_enter Tryz.func4, Tryz.ntmps4
  go_wp2_with fail
  refine (qnew_c w 0 (.inl rfl)).mono ?_
  rintro e w1 ⟨g, rfl, q1, b1⟩
  have Q := hide q1
  have B := hide b1
  have H := hide (show Hn 0 [] ([] : List Nx).length from Hn.zero _ _)
  clear q1 b1
  go_wp2_with fail
  refine (whole20_g w1 3 (by omega) (by omega)).mono ?_
  rintro e w2 ⟨y1, rfl, e1, c1, bx⟩
  have E1 := hide e1
  replace Q := hide (Q.out.step bx)
  replace B := hide (Below.step B.out B.out.size bx)
  go_wp2_with fail
  refine (qpush_c (n := ⟨1, 1, y1⟩) Q.out c1.ra (by simp) (by omega) (by omega)).mono ?_
  rintro e w3 ⟨rfl, v1, l1, z1, ez, rz, q1, p1, h1, ef⟩
  have Z1 := hide (ez.trans E1.out)
  have P1 := hide p1
  replace Q := hide q1
  replace H := hide (h1 H.out)
  replace B := hide (B.out.trans ef.1)
  clear e1 c1 bx ez rz q1 p1 h1 ef E1
  go_wp2_with fail
  refine (whole20_g w3 3 (by omega) (by omega)).mono ?_
  rintro e w4 ⟨y2, rfl, e1, c1, bx⟩
  have E1 := hide e1
  replace Q := hide (Q.out.step bx)
  replace B := hide (Below.step B.out B.out.size bx)
  go_wp2_with fail
  refine (qpush_c (n := ⟨2, 2, y2⟩) Q.out c1.ra (by have := P1.out.length_eq; simp at this; omega) (by omega) (by omega)).mono ?_
  rintro e w5 ⟨rfl, v2, l2, z2, ez, rz, q1, p1, h1, ef⟩
  have Z2 := hide (ez.trans E1.out)
  have P2 := hide (p1.trans (P1.out.cons _))
  replace Q := hide q1
  replace H := hide (h1 H.out)
  replace B := hide (B.out.trans ef.1)
  clear e1 c1 bx ez rz q1 p1 h1 ef E1 P1
  go_wp2_with fail
  refine (whole20_g w5 2 (by omega) (by omega)).mono ?_
  rintro e w6 ⟨y3, rfl, e1, c1, bx⟩
  have E1 := hide e1
  replace Q := hide (Q.out.step bx)
  replace B := hide (Below.step B.out B.out.size bx)
  go_wp2_with fail
  refine (qpush_c (n := ⟨3, 0, y3⟩) Q.out c1.ra (by have := P2.out.length_eq; simp at this; omega) (by omega) (by omega)).mono ?_
  rintro e w7 ⟨rfl, v3, l3, z3, ez, rz, q1, p1, h1, ef⟩
  have Z3 := hide (ez.trans E1.out)
  have P3 := hide (p1.trans (P2.out.cons _))
  replace Q := hide q1
  replace H := hide (h1 H.out)
  replace B := hide (B.out.trans ef.1)
  have L3 := hide (show l3.length = 3 from P3.out.length_eq)
  clear e1 c1 bx ez rz q1 p1 h1 ef E1 P2
  go_wp2_with fail
  refine (qpop_c (n := 2) Q.out L3.out (by have := L3.out; omega) (by omega) (by omega)).mono ?_
  rintro e w8 ⟨x, v4, l4, h0, rfl, q1, p1, h1, -, ef⟩
  have XE := hide (show x = ⟨3, 0, z3⟩ from first_is H.out h0 P3.out (by simp) (fun z hz hne => by
    simp at hz
    rcases hz with rfl | rfl | rfl
    · exact absurd rfl hne
    · exact ak_less (by show z3.r < z2.r; rw [Z3.out, Z2.out]; decide +kernel)
    · exact ak_less (by show z3.r < z1.r; rw [Z3.out, Z1.out]; decide +kernel)))
  have P4 := hide (show l4.Perm [⟨2, 2, z2⟩, ⟨1, 1, z1⟩] from by
    have := p1.trans P3.out
    rw [XE.out] at this
    exact this.cons_inv)
  replace Q := hide q1
  replace H := hide (h1 H.out)
  replace B := hide (B.out.trans ef.1)
  have L4 := hide (show l4.length = 2 from P4.out.length_eq)
  clear h0 q1 p1 h1 ef P3 L3
  obtain ⟨xi, xd, xr⟩ := x
  have XI := hide (show xi = 3 from by have := XE.out; injection this)
  clear XE
  have NB := hide (Nq.new w8 ⟨xi, xd, xr⟩)
  have LB := hide (And.intro Q.out.1.lt (fun b (h : (sv v4).ownBlock = some b) => (Q.out.2.2.1.lt h).2))
  have bx := bal1 w8 (nbox ⟨xi, xd, xr⟩)
  replace Q := hide (Q.out.step bx)
  replace B := hide (Below.step B.out B.out.size bx)
  clear bx
  go_wp2_with fail
  generalize (w8.alloc (nbox ⟨xi, xd, xr⟩)) = w9 at *
  generalize w8.heap.size = g9 at *
  refine (qpop_c (n := 1) Q.out L4.out (by have := L4.out; omega) (by omega) (by omega)).mono ?_
  rintro e w10 ⟨y, v5, l5, h0, rfl, q1, p1, h1, -, ef⟩
  have YE := hide (show y = ⟨2, 2, z2⟩ from first_is H.out h0 P4.out (by simp) (fun z hz hne => by
    simp at hz
    rcases hz with rfl | rfl
    · exact absurd rfl hne
    · exact ak_deep (by show z2.r = z1.r; rw [Z2.out, Z1.out]) (by show (1 : Int) < 2; decide)))
  have L5 := hide (show l5.length = 1 from by have := p1.length_eq; rw [L4.out] at this; simpa using this)
  have NC : Nq w10 g9 ⟨xi, xd, xr⟩ := (ef.2.1 g9 NB.out.lt (by have := LB.out.1; omega) (fun e => by have := LB.out.2 _ e; omega)).trans NB.out
  replace Q := hide q1
  replace B := hide (B.out.trans ef.1)
  obtain ⟨yi, yd, yr⟩ := y
  have YI := hide (show yi = 2 from by have := YE.out; injection this)
  have ND := hide (Nq.new w10 ⟨yi, yd, yr⟩)
  have by1 := bal1 w10 (nbox ⟨yi, yd, yr⟩)
  have NE := hide (NC.step by1)
  replace Q := hide (Q.out.step by1)
  replace B := hide (Below.step B.out B.out.size by1)
  clear by1 NC NB h0 q1 p1 h1 ef YE H P4 L4 LB
  have c0 : (w10.alloc (nbox ⟨yi, yd, yr⟩)).cell? ⟨g9, 0, none⟩ = some (.int .i64 3) := by rw [← XI.out]; exact NE.out.all.1
  have d0 : (w10.alloc (nbox ⟨yi, yd, yr⟩)).cell? ⟨w10.heap.size, 0, none⟩ = some (.int .i64 2) := by rw [← YI.out]; exact ND.out.all.1
  have t3 : ((3 : Int) == 3) = true := rfl
  have XI2 := XI.out
  have YI2 := YI.out
  subst XI2 YI2
  go_wp2_with fail
  refine (qlen_c Q.out).mono ?_
  rintro e w12 ⟨rfl, bx⟩
  rw [L5.out]
  replace B := hide (Below.step B.out B.out.size bx)
  clear bx c0 d0 ND NE Q
  go_wp2_with fail
  go_ret
  exact ⟨rfl, B.out⟩
end Go.Proofs.YtpfeacdhplbblaaGreat
