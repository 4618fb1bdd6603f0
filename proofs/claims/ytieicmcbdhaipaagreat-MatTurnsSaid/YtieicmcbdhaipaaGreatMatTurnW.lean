/-
  The walk of MatTurns: true.
-/
import Derived.Test.YtieicmcbdhaipaaGreatBundleJ
import Derived.Test.YtieicmcbdhaipaaGreatBundleK


namespace Go.Proofs.YtieicmcbdhaipaaGreat
open Go.RowKit Go.Proofs.YtieicmcbdhaipaaGreat.Num
set_option linter.unusedVariables false
set_option linter.unusedSimpArgs false
set_option maxRecDepth 100000

theorem Mg.keepC {W W' : World} {C P : Nat} {v : Value} {m : List Vx} (h : Mg W C v m P) (hk : ∀ b, C ≤ b → b < W.heap.size → W'.heap[b]? = W.heap[b]?) (hs : W.heap.size ≤ W'.heap.size) : Mc W' v m P := by
  refine ⟨Ow.rl (T := 47) (B := C) ?_ em_len, fun x hx => (h.2 x hx).keepC hk hs⟩
  obtain ⟨h1, h2⟩ := h.1
  refine ⟨h1, ?_⟩
  rcases h2 with h2 | ⟨g, cap, cur, e, hB, hh, r⟩
  · exact .inl h2
  · exact .inr ⟨g, cap, cur, e, hB, (hk g hB (Array.getElem?_eq_some_iff.1 hh).1).trans hh, r⟩
theorem un_at {u : List Vx} (h : Un u) (i : Int) (c : Int) : gsum (rwA u i) c = if 0 ≤ i ∧ i < (u.length : Int) ∧ i = c then 1 else 0 := by
  by_cases h0 : 0 ≤ i ∧ i < (u.length : Int)
  · obtain ⟨k, rfl⟩ : ∃ k : Nat, i = (k : Int) := ⟨i.toNat, by omega⟩
    obtain ⟨y, hy⟩ := len_of (d := u) (k := k) (by omega)
    rw [rwA_in hy, (h k y hy).2 c]
    by_cases e : (k : Int) = c
    · rw [if_pos e, if_pos ⟨h0.1, h0.2, e⟩]
    · rw [if_neg e, if_neg (fun h => e h.2.2)]
  · rw [rwA_out u i (by omega), if_neg (fun h => h0 ⟨h.1, h.2.1⟩)]
    rfl
theorem sm_un {u : List Vx} (h : Un u) (y : Int → Rat) (c : Int) : ∀ k : Nat, k ≤ u.length → sm k (fun i => y (i : Int) * gsum (rwA u (i : Int)) c) = if 0 ≤ c ∧ c < (k : Int) then y c else 0
  | 0, _ => by rw [if_neg (by omega)]; rfl
  | k + 1, hk => by
    have ih := sm_un h y c k (by omega)
    show sm k (fun i => y (i : Int) * gsum (rwA u (i : Int)) c) + y (k : Int) * gsum (rwA u (k : Int)) c = _
    rw [ih]
    by_cases e : (k : Int) = c
    · subst e
      rw [show gsum (rwA u (k : Int)) (k : Int) = 1 by rw [un_at h, if_pos ⟨by omega, by omega, rfl⟩], if_neg (by omega), if_pos (by omega), Rat.mul_one, Rat.zero_add]
    · rw [show gsum (rwA u (k : Int)) c = 0 by rw [un_at h, if_neg (fun h => e h.2.2)], Rat.mul_zero, Rat.add_zero]
      by_cases e2 : 0 ≤ c ∧ c < (k : Int)
      · rw [if_pos e2, if_pos (by omega)]
      · rw [if_neg e2, if_neg (by omega)]

set_option maxHeartbeats 32000000 in
theorem mturns_go (w : World) (v : Value) (m : List Vx) (n : Int) (hv : Mv w v m 17592186043904) (hn : (Lit.int .i64 n).wf = true) :
    Calls Tryz.prog 11 #[v, .int .i64 n] w fun e w' => e = .returned (.bool true) ∧ Below w.heap.size w w' := by
  obtain ⟨A1, n1, c1, rfl⟩ := rv_sl hv.1
  have V := hide hv
  clear hv
  go_enter Tryz.func11, Tryz.ntmps11
  go_wp2_with fail
  refine (mspeaks_true w).mono ?_
  rintro e w2 ⟨rfl, bx⟩
  replace V := hide (V.out.step bx)
  have B := hide bx
  clear bx
  go_wp2_with fail
  refine (great_m V.out (by omega)).mono ?_
  rintro e w3 ⟨bx, p, rfl, hp⟩
  replace V := hide (V.out.step bx)
  replace B := hide (Below.step B.out B.out.size bx)
  have HP := hide hp
  clear bx hp
  cases p with
  | true =>
    go_wp2_with fail
    go_ret
    exact ⟨rfl, B.out⟩
  | false =>
    obtain ⟨dl, dm⟩ := HP.out rfl
    replace V := hide (V.out.tight (fun x hx => (dm x hx).2))
    have VL := hide dl
    have VM := hide (fun x hx => (dm x hx).1 : ∀ x ∈ m, x.d.length ≤ 30)
    clear dl dm HP
    by_cases hmid : 100 < n ∧ n ≤ 65536
    · have q1 : decide ((100 : Int) < n) = true := decide_eq_true hmid.1
      have q2 : decide (n ≤ (65536 : Int)) = true := decide_eq_true hmid.2
      clear hmid
      go_wp2_with fail
      go_ret
      exact ⟨rfl, B.out⟩
    · have Q := hide (show 65536 < n ∨ n ≤ 100 by omega)
      obtain ⟨t1, hq1⟩ : ∃ t, decide ((100 : Int) < n) = t := ⟨_, rfl⟩
      obtain ⟨t2, hq2⟩ : ∃ t, decide (n ≤ (65536 : Int)) = t := ⟨_, rfl⟩
      have HQ := hide (show t1 = false ∨ t2 = false by
        rcases Q.out with h | h
        · right; rw [← hq2]; exact decide_eq_false (by omega)
        · left; rw [← hq1]; exact decide_eq_false (by omega))
      obtain ⟨zv, hzv⟩ := ml_of V.out
      have MV := hide hzv
      clear hzv V hmid
      cases t1 with
      | false =>
        have NQ := hide (And.intro hq1 hq2)
        go_wp2_with fail
        refine (copy_m MV.out (by omega) (by have := VL.out; omega) (fun x hx => by have := VM.out x hx; omega)).mono ?_
        rintro e wm ⟨v5, m5, rfl, t5, bx⟩
        obtain ⟨A5, n5, c5, rfl⟩ := rv_sl t5.ml.1
        replace MV := hide (MV.out.step bx)
        replace B := hide (Below.step B.out B.out.size bx)
        have MX := hide t5.ml
        have EM := hide (MX.out.rwA MV.out)
        have NM := hide (MV.out.lens MX.out VM.out)
        have NL := hide (show m5.length = m.length by have := MX.out.2.1; have := MV.out.2.1; omega)
        clear t5 bx hq1 hq2
        go_wp2_with fail
        refine (transpose_m (N := 30) (P := 211) (n := n) MX.out.mv NM.out (by omega) (by have := NL.out; have := VL.out; omega) (by omega) (by omega) (by omega)).mono ?_
        rintro e w6 ⟨bx, ht⟩
        have C := hide bx
        have RT := hide (rtranspose_m (N := 30) (L := 6) (M := 211) (n := n) (MV.out.step bx).mv VM.out (by omega) (by omega) (by omega) (by have := VL.out; omega) (by omega) (by have := Q.out; omega))
        have HT := hide ht
        clear bx ht
        rcases HT.out with ⟨bad, rfl⟩ | ⟨good, v6, m6, rfl, o6, l6, r6, d6⟩
        · have BAD := hide (show TrBad m n from by
            rcases bad with h | h
            · exact .inl (h.of EM.out)
            · exact .inr h)
          clear bad HT
          go_wp2_with fail
          refine RT.out.mono ?_
          rintro e w7 ⟨bx, (⟨-, v7, rfl, g7⟩ | ⟨good, -⟩)⟩
          · obtain ⟨A7, n7, c7, rfl⟩ := rv_sl (g7.1.rl em_len)
            have G7 := hide g7.mc
            replace C := hide (Below.step C.out C.out.size bx)
            clear bx g7 RT
            go_wp2_with fail
            refine (same_mt (m := []) (L := 211) ⟨Lr.nil _ _ _, fun x hx => by cases hx⟩ G7.out rfl (fun i x y hx => by simp at hx)).mono ?_
            rintro e w8 ⟨rfl, bx⟩
            replace C := hide (Below.step C.out C.out.size bx)
            clear bx
            go_wp2_with fail
            go_ret
            exact ⟨rfl, Below.step B.out B.out.size C.out⟩
          · exact absurd BAD.out good
        · have GOOD := hide (show ¬ TrBad m n from fun h => good (by
            rcases h with h | h
            · exact .inl (h.of EM.out.symm)
            · exact .inr h))
          obtain ⟨p, rfl⟩ : ∃ p : Nat, n = (p : Int) := ⟨m6.length, l6.symm⟩
          have L6 := hide (show m6.length = p by omega)
          have R6 := hide r6
          have PN := hide (show p ≤ 100 by
            have h1 : ¬ ((65536 : Int) < (p : Int)) := fun h => good (.inr (.inr h))
            have h2 := Q.out
            omega)
          have P6 := hide (show Mg w6 wm.heap.size v6 m6 211 from ⟨o6, fun y hy => by
            obtain ⟨c, hc⟩ := List.getElem?_of_mem hy
            exact (r6 c y hc).2.2.2⟩)
          have N6 := hide (show ∀ y ∈ m6, y.d.length ≤ 360 from fun y hy => by
            obtain ⟨c, hc⟩ := List.getElem?_of_mem hy
            have h1 := (r6 c y hc).2.2.1
            have h2 := NL.out
            have h3 := VL.out
            have h4 : m5.length * 30 ≤ 12 * 30 := Nat.mul_le_mul_right _ (by omega)
            omega)
          have S6 := hide (P6.out.spc (by omega) (fun y hy => by have := N6.out y hy; omega))
          have C6 := hide (show w6.heap.size = w6.heap.size from rfl)
          obtain ⟨A6, n6, c6, rfl⟩ := rv_sl (o6.rl em_len)
          obtain ⟨K6, hK6⟩ : ∃ K, K = w6.heap.size := ⟨_, rfl⟩
          rw [← hK6] at S6
          have HK := hide hK6
          clear good o6 l6 r6 d6 HT C6 hK6
          go_wp2_with fail
          refine RT.out.mono ?_
          rintro e w7 ⟨bx, (⟨bad, -⟩ | ⟨-, v7, m7, rfl, g7, l7, r7⟩)⟩
          · exact absurd bad GOOD.out
          · obtain ⟨A7, n7, c7, rfl⟩ := rv_sl (g7.1.rl em_len)
            have G7 := hide g7.mc
            have E7 := hide (show ∀ (i : Nat) x y, m6[i]? = some x → m7[i]? = some y → tms x.d = tms y.d from fun i x y hx hy => by
              have h1 := R6.out i x hx
              have h2 := r7 i y hy
              exact Fm.unique h1.1 h2.1 (fun c hc => by rw [h1.2.1 c hc, h2.2 c hc, EM.out]))
            have N7 := hide (show m7.length = m6.length by have := L6.out; omega)
            replace P6 := hide (P6.out.step bx)
            have S7 := hide (fun x hx => ⟨(S6.out x hx).1.step bx, (S6.out x hx).2⟩ : ∀ x ∈ m6, SpC w7 wm.heap.size K6 (sv x.a) x.d ∧ x.d.length ≤ 1000000)
            have K7 := hide (show K6 ≤ w7.heap.size by rw [HK.out]; exact bx.size)
            replace C := hide (Below.step C.out C.out.size bx)
            clear bx g7 l7 r7 RT S6 HK
            go_wp2_with fail
            refine (same_mt P6.out.mc G7.out N7.out E7.out).mono ?_
            rintro e w8 ⟨rfl, bx⟩
            replace P6 := hide (P6.out.step bx)
            have S8 := hide (fun x hx => ⟨(S7.out x hx).1.step bx, (S7.out x hx).2⟩ : ∀ x ∈ m6, SpC w8 wm.heap.size K6 (sv x.a) x.d ∧ x.d.length ≤ 1000000)
            have K8 := hide (Nat.le_trans K7.out bx.size)
            replace C := hide (Below.step C.out C.out.size bx)
            have HNL := hide (show (n1 : Int) = (m.length : Int) by
              obtain ⟨A', c', e, _⟩ := MV.out.1
              injection e with e1 e2 e3
              omega)
            clear bx G7 N7 E7 S7 K7
            go_wp2_with fail
            refine (transpose_m (N := 360) (P := 76321) (n := (n1 : Int)) P6.out.mc.mv' N6.out (by omega) (by have := L6.out; have := PN.out; omega) (by omega) (by omega) (by omega)).mono ?_
            rintro e w9 ⟨bx, (⟨bad, -⟩ | ⟨-, v9, m9, rfl, o9, l9, r9, -⟩)⟩
            · exfalso
              rcases bad with ⟨x, hx, c, h1, h2, h3⟩ | h | h
              · obtain ⟨k, hk⟩ := List.getElem?_of_mem hx
                rw [(R6.out k x hk).2.1 c h2, rwA_out m5 c (.inr (by have := NL.out; have := HNL.out; omega))] at h3
                exact h3 rfl
              · omega
              · have := HNL.out; have := VL.out; omega
            · obtain ⟨A9, n9, c9, rfl⟩ := rv_sl (o9.rl em_len)
              have P9 := hide ((show Mg w9 w8.heap.size (.slice A9 n9 c9) m9 76321 from ⟨o9, fun y hy => by
                obtain ⟨c, hc⟩ := List.getElem?_of_mem hy
                exact (r9 c y hc).2.2.2⟩).mono (B' := K6) K8.out)
              have L9 := hide (show m9.length = m.length by have := HNL.out; omega)
              have R9 := hide (show ∀ (i : Nat) y, m9[i]? = some y → Fm (tms y.d) ∧ ∀ c : Int, 0 ≤ c → gsum (tms y.d) c = gsum (rwA m6 c) (i : Int) from fun i y hy => ⟨(r9 i y hy).1, (r9 i y hy).2.1⟩)
              replace P6 := hide (P6.out.step bx)
              have S9 := hide (fun x hx => ⟨(S8.out x hx).1.step bx, (S8.out x hx).2⟩ : ∀ x ∈ m6, SpC w9 wm.heap.size K6 (sv x.a) x.d ∧ x.d.length ≤ 1000000)
              replace C := hide (Below.step C.out C.out.size bx)
              clear bx o9 l9 r9 S8 K8
              go_wp2_with fail
              refine (mspoil_m P6.out.1 S9.out C.out.size (by have := L6.out; have := PN.out; omega)).mono ?_
              rintro e w10 ⟨rfl, sp⟩
              have G9 := hide (P9.out.keepC sp.2.2.2.1 sp.2.1)
              replace C := hide (C.out.trans sp.1)
              clear sp P6 S9 P9
              go_wp2_with fail
              refine (same_mv (MX.out.step C.out) (MV.out.step C.out)).mono ?_
              rintro e w11 ⟨rfl, bx⟩
              replace C := hide (Below.step C.out C.out.size bx)
              replace G9 := hide (G9.out.step bx)
              clear bx
              go_wp2_with fail
              refine (unit_m (n := p) (by have := PN.out; omega)).mono ?_
              rintro e w12 ⟨v12, u, rfl, g12, l12, un, bx⟩
              obtain ⟨A12, n12, c12, rfl⟩ := rv_sl (g12.1.rl em_len)
              replace C := hide (Below.step C.out C.out.size bx)
              replace G9 := hide (G9.out.step bx)
              have U := hide g12.mc.mv'
              have UL := hide l12
              have UN := hide un
              have U1 := hide (show ∀ x ∈ u, x.d.length ≤ 1 from fun x hx => by
                obtain ⟨j, hj⟩ := List.getElem?_of_mem hx
                exact Nat.le_of_eq (un j x hj).1)
              clear g12 l12 un bx
              go_wp2_with fail
              refine (rproduct_m (L := 6) (K := 6) (N := 1) (N1 := 30) (M := 211) (R := 211) (MV.out.step C.out).mv U.out VM.out U1.out (by omega) (by omega) (by omega) (by omega) (by omega) (by have := VL.out; omega) (by have := UL.out; have := PN.out; omega) (by have := UL.out; have := PN.out; omega) (by omega) (by omega) (fun x hx k hk c => by
                rw [sm_un UN.out (gsum (tms x.d)) c k hk]
                split
                · exact col_sz MV.out.mv VM.out (by omega) (by omega) hx c
                · exact sz_zero Q_two (by omega)) (by omega) (by omega)).mono ?_
              rintro e w13 ⟨v13, m13, rfl, g13, l13, r13, bx⟩
              obtain ⟨A13, n13, c13, rfl⟩ := rv_sl (g13.1.rl em_len)
              have G13 := hide g13.mc
              have E13 := hide (show ∀ (i : Nat) x y, m9[i]? = some x → m13[i]? = some y → tms x.d = tms y.d from fun i x y hx hy => by
                obtain ⟨z, hz⟩ := len_of (d := m) (k := i) (by rw [← L9.out]; exact (List.getElem?_eq_some_iff.1 hx).1)
                have h1 := R9.out i x hx
                have h2 := r13 i y hy z hz
                refine Fm.unique h1.1 h2.1 (fun c hc => ?_)
                rw [h1.2 c hc, h2.2.1 c hc, dt_rows (y := gsum (tms z.d)) (fun _ _ => rfl), sm_un UN.out (gsum (tms z.d)) c u.length (Nat.le_refl _)]
                by_cases e : c < (p : Int)
                · rw [if_pos (by have := UL.out; omega)]
                  obtain ⟨cc, rfl⟩ : ∃ cc : Nat, c = (cc : Int) := ⟨c.toNat, by omega⟩
                  obtain ⟨y6, hy6⟩ := len_of (d := m6) (k := cc) (by have := L6.out; omega)
                  rw [rwA_in hy6, (R6.out cc y6 hy6).2.1 (i : Int) (by omega), EM.out, rwA_in hz]
                · rw [if_neg (by have := UL.out; omega), rwA_out m6 c (.inr (by have := L6.out; omega))]
                  by_cases e0 : gsum (tms z.d) c = 0
                  · rfl
                  · rfl)
              have N13 := hide (show m13.length = m9.length by rw [l13, L9.out])
              replace C := hide (Below.step C.out C.out.size bx)
              replace G9 := hide (G9.out.step bx)
              clear g13 l13 r13 bx
              go_wp2_with fail
              refine (same_mt G9.out G13.out N13.out E13.out).mono ?_
              rintro e w14 ⟨rfl, bx⟩
              replace C := hide (Below.step C.out C.out.size bx)
              clear bx
              go_wp2_with fail
              go_ret
              exact ⟨rfl, Below.step B.out B.out.size C.out⟩
      | true =>
        obtain rfl : t2 = false := by
          rcases HQ.out with h | h
          · cases h
          · exact h
        have NQ := hide (And.intro hq1 hq2)
        go_wp2_with fail
        refine (copy_m MV.out (by omega) (by have := VL.out; omega) (fun x hx => by have := VM.out x hx; omega)).mono ?_
        rintro e wm ⟨v5, m5, rfl, t5, bx⟩
        obtain ⟨A5, n5, c5, rfl⟩ := rv_sl t5.ml.1
        replace MV := hide (MV.out.step bx)
        replace B := hide (Below.step B.out B.out.size bx)
        have MX := hide t5.ml
        have EM := hide (MX.out.rwA MV.out)
        have NM := hide (MV.out.lens MX.out VM.out)
        have NL := hide (show m5.length = m.length by have := MX.out.2.1; have := MV.out.2.1; omega)
        clear t5 bx hq1 hq2
        go_wp2_with fail
        refine (transpose_m (N := 30) (P := 211) (n := n) MX.out.mv NM.out (by omega) (by have := NL.out; have := VL.out; omega) (by omega) (by omega) (by omega)).mono ?_
        rintro e w6 ⟨bx, ht⟩
        have C := hide bx
        have RT := hide (rtranspose_m (N := 30) (L := 6) (M := 211) (n := n) (MV.out.step bx).mv VM.out (by omega) (by omega) (by omega) (by have := VL.out; omega) (by omega) (by have := Q.out; omega))
        have HT := hide ht
        clear bx ht
        rcases HT.out with ⟨bad, rfl⟩ | ⟨good, v6, m6, rfl, o6, l6, r6, d6⟩
        · have BAD := hide (show TrBad m n from by
            rcases bad with h | h
            · exact .inl (h.of EM.out)
            · exact .inr h)
          clear bad HT
          go_wp2_with fail
          refine RT.out.mono ?_
          rintro e w7 ⟨bx, (⟨-, v7, rfl, g7⟩ | ⟨good, -⟩)⟩
          · obtain ⟨A7, n7, c7, rfl⟩ := rv_sl (g7.1.rl em_len)
            have G7 := hide g7.mc
            replace C := hide (Below.step C.out C.out.size bx)
            clear bx g7 RT
            go_wp2_with fail
            refine (same_mt (m := []) (L := 211) ⟨Lr.nil _ _ _, fun x hx => by cases hx⟩ G7.out rfl (fun i x y hx => by simp at hx)).mono ?_
            rintro e w8 ⟨rfl, bx⟩
            replace C := hide (Below.step C.out C.out.size bx)
            clear bx
            go_wp2_with fail
            go_ret
            exact ⟨rfl, Below.step B.out B.out.size C.out⟩
          · exact absurd BAD.out good
        · have GOOD := hide (show ¬ TrBad m n from fun h => good (by
            rcases h with h | h
            · exact .inl (h.of EM.out.symm)
            · exact .inr h))
          obtain ⟨p, rfl⟩ : ∃ p : Nat, n = (p : Int) := ⟨m6.length, l6.symm⟩
          have L6 := hide (show m6.length = p by omega)
          have R6 := hide r6
          have PN := hide (show p ≤ 100 by
            have h1 : ¬ ((65536 : Int) < (p : Int)) := fun h => good (.inr (.inr h))
            have h2 := Q.out
            omega)
          have P6 := hide (show Mg w6 wm.heap.size v6 m6 211 from ⟨o6, fun y hy => by
            obtain ⟨c, hc⟩ := List.getElem?_of_mem hy
            exact (r6 c y hc).2.2.2⟩)
          have N6 := hide (show ∀ y ∈ m6, y.d.length ≤ 360 from fun y hy => by
            obtain ⟨c, hc⟩ := List.getElem?_of_mem hy
            have h1 := (r6 c y hc).2.2.1
            have h2 := NL.out
            have h3 := VL.out
            have h4 : m5.length * 30 ≤ 12 * 30 := Nat.mul_le_mul_right _ (by omega)
            omega)
          have S6 := hide (P6.out.spc (by omega) (fun y hy => by have := N6.out y hy; omega))
          have C6 := hide (show w6.heap.size = w6.heap.size from rfl)
          obtain ⟨A6, n6, c6, rfl⟩ := rv_sl (o6.rl em_len)
          obtain ⟨K6, hK6⟩ : ∃ K, K = w6.heap.size := ⟨_, rfl⟩
          rw [← hK6] at S6
          have HK := hide hK6
          clear good o6 l6 r6 d6 HT C6 hK6
          go_wp2_with fail
          refine RT.out.mono ?_
          rintro e w7 ⟨bx, (⟨bad, -⟩ | ⟨-, v7, m7, rfl, g7, l7, r7⟩)⟩
          · exact absurd bad GOOD.out
          · obtain ⟨A7, n7, c7, rfl⟩ := rv_sl (g7.1.rl em_len)
            have G7 := hide g7.mc
            have E7 := hide (show ∀ (i : Nat) x y, m6[i]? = some x → m7[i]? = some y → tms x.d = tms y.d from fun i x y hx hy => by
              have h1 := R6.out i x hx
              have h2 := r7 i y hy
              exact Fm.unique h1.1 h2.1 (fun c hc => by rw [h1.2.1 c hc, h2.2 c hc, EM.out]))
            have N7 := hide (show m7.length = m6.length by have := L6.out; omega)
            replace P6 := hide (P6.out.step bx)
            have S7 := hide (fun x hx => ⟨(S6.out x hx).1.step bx, (S6.out x hx).2⟩ : ∀ x ∈ m6, SpC w7 wm.heap.size K6 (sv x.a) x.d ∧ x.d.length ≤ 1000000)
            have K7 := hide (show K6 ≤ w7.heap.size by rw [HK.out]; exact bx.size)
            replace C := hide (Below.step C.out C.out.size bx)
            clear bx g7 l7 r7 RT S6 HK
            go_wp2_with fail
            refine (same_mt P6.out.mc G7.out N7.out E7.out).mono ?_
            rintro e w8 ⟨rfl, bx⟩
            replace P6 := hide (P6.out.step bx)
            have S8 := hide (fun x hx => ⟨(S7.out x hx).1.step bx, (S7.out x hx).2⟩ : ∀ x ∈ m6, SpC w8 wm.heap.size K6 (sv x.a) x.d ∧ x.d.length ≤ 1000000)
            have K8 := hide (Nat.le_trans K7.out bx.size)
            replace C := hide (Below.step C.out C.out.size bx)
            have HNL := hide (show (n1 : Int) = (m.length : Int) by
              obtain ⟨A', c', e, _⟩ := MV.out.1
              injection e with e1 e2 e3
              omega)
            clear bx G7 N7 E7 S7 K7
            go_wp2_with fail
            refine (transpose_m (N := 360) (P := 76321) (n := (n1 : Int)) P6.out.mc.mv' N6.out (by omega) (by have := L6.out; have := PN.out; omega) (by omega) (by omega) (by omega)).mono ?_
            rintro e w9 ⟨bx, (⟨bad, -⟩ | ⟨-, v9, m9, rfl, o9, l9, r9, -⟩)⟩
            · exfalso
              rcases bad with ⟨x, hx, c, h1, h2, h3⟩ | h | h
              · obtain ⟨k, hk⟩ := List.getElem?_of_mem hx
                rw [(R6.out k x hk).2.1 c h2, rwA_out m5 c (.inr (by have := NL.out; have := HNL.out; omega))] at h3
                exact h3 rfl
              · omega
              · have := HNL.out; have := VL.out; omega
            · obtain ⟨A9, n9, c9, rfl⟩ := rv_sl (o9.rl em_len)
              have P9 := hide ((show Mg w9 w8.heap.size (.slice A9 n9 c9) m9 76321 from ⟨o9, fun y hy => by
                obtain ⟨c, hc⟩ := List.getElem?_of_mem hy
                exact (r9 c y hc).2.2.2⟩).mono (B' := K6) K8.out)
              have L9 := hide (show m9.length = m.length by have := HNL.out; omega)
              have R9 := hide (show ∀ (i : Nat) y, m9[i]? = some y → Fm (tms y.d) ∧ ∀ c : Int, 0 ≤ c → gsum (tms y.d) c = gsum (rwA m6 c) (i : Int) from fun i y hy => ⟨(r9 i y hy).1, (r9 i y hy).2.1⟩)
              replace P6 := hide (P6.out.step bx)
              have S9 := hide (fun x hx => ⟨(S8.out x hx).1.step bx, (S8.out x hx).2⟩ : ∀ x ∈ m6, SpC w9 wm.heap.size K6 (sv x.a) x.d ∧ x.d.length ≤ 1000000)
              replace C := hide (Below.step C.out C.out.size bx)
              clear bx o9 l9 r9 S8 K8
              go_wp2_with fail
              refine (mspoil_m P6.out.1 S9.out C.out.size (by have := L6.out; have := PN.out; omega)).mono ?_
              rintro e w10 ⟨rfl, sp⟩
              have G9 := hide (P9.out.keepC sp.2.2.2.1 sp.2.1)
              replace C := hide (C.out.trans sp.1)
              clear sp P6 S9 P9
              go_wp2_with fail
              refine (same_mv (MX.out.step C.out) (MV.out.step C.out)).mono ?_
              rintro e w11 ⟨rfl, bx⟩
              replace C := hide (Below.step C.out C.out.size bx)
              replace G9 := hide (G9.out.step bx)
              clear bx
              go_wp2_with fail
              refine (unit_m (n := p) (by have := PN.out; omega)).mono ?_
              rintro e w12 ⟨v12, u, rfl, g12, l12, un, bx⟩
              obtain ⟨A12, n12, c12, rfl⟩ := rv_sl (g12.1.rl em_len)
              replace C := hide (Below.step C.out C.out.size bx)
              replace G9 := hide (G9.out.step bx)
              have U := hide g12.mc.mv'
              have UL := hide l12
              have UN := hide un
              have U1 := hide (show ∀ x ∈ u, x.d.length ≤ 1 from fun x hx => by
                obtain ⟨j, hj⟩ := List.getElem?_of_mem hx
                exact Nat.le_of_eq (un j x hj).1)
              clear g12 l12 un bx
              go_wp2_with fail
              refine (rproduct_m (L := 6) (K := 6) (N := 1) (N1 := 30) (M := 211) (R := 211) (MV.out.step C.out).mv U.out VM.out U1.out (by omega) (by omega) (by omega) (by omega) (by omega) (by have := VL.out; omega) (by have := UL.out; have := PN.out; omega) (by have := UL.out; have := PN.out; omega) (by omega) (by omega) (fun x hx k hk c => by
                rw [sm_un UN.out (gsum (tms x.d)) c k hk]
                split
                · exact col_sz MV.out.mv VM.out (by omega) (by omega) hx c
                · exact sz_zero Q_two (by omega)) (by omega) (by omega)).mono ?_
              rintro e w13 ⟨v13, m13, rfl, g13, l13, r13, bx⟩
              obtain ⟨A13, n13, c13, rfl⟩ := rv_sl (g13.1.rl em_len)
              have G13 := hide g13.mc
              have E13 := hide (show ∀ (i : Nat) x y, m9[i]? = some x → m13[i]? = some y → tms x.d = tms y.d from fun i x y hx hy => by
                obtain ⟨z, hz⟩ := len_of (d := m) (k := i) (by rw [← L9.out]; exact (List.getElem?_eq_some_iff.1 hx).1)
                have h1 := R9.out i x hx
                have h2 := r13 i y hy z hz
                refine Fm.unique h1.1 h2.1 (fun c hc => ?_)
                rw [h1.2 c hc, h2.2.1 c hc, dt_rows (y := gsum (tms z.d)) (fun _ _ => rfl), sm_un UN.out (gsum (tms z.d)) c u.length (Nat.le_refl _)]
                by_cases e : c < (p : Int)
                · rw [if_pos (by have := UL.out; omega)]
                  obtain ⟨cc, rfl⟩ : ∃ cc : Nat, c = (cc : Int) := ⟨c.toNat, by omega⟩
                  obtain ⟨y6, hy6⟩ := len_of (d := m6) (k := cc) (by have := L6.out; omega)
                  rw [rwA_in hy6, (R6.out cc y6 hy6).2.1 (i : Int) (by omega), EM.out, rwA_in hz]
                · rw [if_neg (by have := UL.out; omega), rwA_out m6 c (.inr (by have := L6.out; omega))]
                  by_cases e0 : gsum (tms z.d) c = 0
                  · rfl
                  · rfl)
              have N13 := hide (show m13.length = m9.length by rw [l13, L9.out])
              replace C := hide (Below.step C.out C.out.size bx)
              replace G9 := hide (G9.out.step bx)
              clear g13 l13 r13 bx
              go_wp2_with fail
              refine (same_mt G9.out G13.out N13.out E13.out).mono ?_
              rintro e w14 ⟨rfl, bx⟩
              replace C := hide (Below.step C.out C.out.size bx)
              clear bx
              go_wp2_with fail
              go_ret
              exact ⟨rfl, Below.step B.out B.out.size C.out⟩
end Go.Proofs.YtieicmcbdhaipaaGreat
