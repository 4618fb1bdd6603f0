/-
  The walk of MatGroups: true.
-/
import Derived.Test.YtieicmcbdhaipaaGreatBundleJ
import Derived.Test.YtieicmcbdhaipaaGreatMat16


namespace Go.Proofs.YtieicmcbdhaipaaGreat
open Go.RowKit Go.Proofs.YtieicmcbdhaipaaGreat.Num
set_option linter.unusedVariables false
set_option linter.unusedSimpArgs false
set_option maxRecDepth 100000

set_option maxHeartbeats 16000000 in
theorem mgroups_go (w : World) (v : Value) (m : List Vx) (u : Value) (b : List Vx) (t : Value) (f : List Rx) (hv : Mv w v m 17592186043904) (hu : Mv w u b 17592186043904) (ht : Fv w t f 17592186043904) :
    Calls Tryz.prog 14 #[v, u, t] w fun e w' => e = .returned (.bool true) ∧ Below w.heap.size w w' := by
  obtain ⟨A1, n1, c1, rfl⟩ := rv_sl hv.1
  obtain ⟨A2, n2, c2, rfl⟩ := rv_sl hu.1
  obtain ⟨A3, n3, c3, rfl⟩ := rv_sl ht.1
  have V := hide hv
  have U := hide hu
  have T := hide ht
  clear hv hu ht
  go_enter Tryz.func14, Tryz.ntmps14
  go_wp2_with fail
  refine (mspeaks_true w).mono ?_
  rintro e w2 ⟨rfl, bx⟩
  replace V := hide (V.out.step bx)
  replace U := hide (U.out.step bx)
  replace T := hide (T.out.step bx)
  have B := hide bx
  clear bx
  go_wp2_with fail
  refine (great_m V.out (by omega)).mono ?_
  rintro e w3 ⟨bx, p, rfl, hp⟩
  replace V := hide (V.out.step bx)
  replace U := hide (U.out.step bx)
  replace T := hide (T.out.step bx)
  replace B := hide (Below.step B.out B.out.size bx)
  have HP := hide hp
  clear bx hp
  cases p with
  | true =>
    go_wp2_with fail
    go_ret
    exact ⟨rfl, B.out⟩
  | false =>
    obtain ⟨dl, dm⟩ := HP.out rfl
    replace V := hide (V.out.tight (fun x hx => (dm x hx).2))
    have VL := hide dl
    have VM := hide (fun x hx => (dm x hx).1 : ∀ x ∈ m, x.d.length ≤ 30)
    clear dl dm HP
    go_wp2_with fail
    refine (great_m U.out (by omega)).mono ?_
    rintro e w4 ⟨bx, p, rfl, hp⟩
    replace V := hide (V.out.step bx)
    replace U := hide (U.out.step bx)
    replace T := hide (T.out.step bx)
    replace B := hide (Below.step B.out B.out.size bx)
    have HP := hide hp
    clear bx hp
    cases p with
    | true =>
      go_wp2_with fail
      go_ret
      exact ⟨rfl, B.out⟩
    | false =>
      obtain ⟨dl, dm⟩ := HP.out rfl
      replace U := hide (U.out.tight (fun x hx => (dm x hx).2))
      have UL := hide dl
      have UM := hide (fun x hx => (dm x hx).1 : ∀ x ∈ b, x.d.length ≤ 30)
      clear dl dm HP
      go_wp2_with fail
      refine (greatall_c T.out (by omega)).mono ?_
      rintro e w5 ⟨bx, p, rfl, hp⟩
      replace V := hide (V.out.step bx)
      replace U := hide (U.out.step bx)
      replace T := hide (T.out.step bx)
      replace B := hide (Below.step B.out B.out.size bx)
      have HP := hide hp
      clear bx hp
      cases p with
      | true =>
        go_wp2_with fail
        go_ret
        exact ⟨rfl, B.out⟩
      | false =>
        obtain ⟨dl, dw⟩ := HP.out rfl
        replace T := hide (T.out.tight dw)
        have TL := hide dl
        clear dl dw HP
        go_wp2_with fail
        refine (product6 V.out U.out VM.out UM.out VL.out UL.out).mono ?_
        rintro e w6 ⟨A6, n6, c6, m6, rfl, g6, k6, N6, r6, bx⟩
        have P6 := hide g6.mc.mv
        have K6 := hide k6
        have N6 := hide N6
        have R6 := hide r6
        clear g6 k6 r6
        replace V := hide (V.out.step bx)
        replace U := hide (U.out.step bx)
        replace T := hide (T.out.step bx)
        replace B := hide (Below.step B.out B.out.size bx)
        clear bx
        go_wp2_with fail
        refine (times_m (N := 900) P6.out T.out (by have := K6.out; have := VL.out; omega) N6.out (by omega) (by omega) (by omega) (by omega) (by omega)).mono ?_
        rintro e w7 ⟨v7, l7, rfl, r7, k7, h7, bx⟩
        obtain ⟨A7, n7, c7, rfl⟩ := rv_sl r7.fv.1
        have F7 := hide r7.fc
        have K7 := hide k7
        have H7 := hide h7
        clear r7 k7 h7
        replace V := hide (V.out.step bx)
        replace U := hide (U.out.step bx)
        replace T := hide (T.out.step bx)
        replace B := hide (Below.step B.out B.out.size bx)
        clear bx
        go_wp2_with fail
        refine (times_m (N := 30) U.out T.out (by have := UL.out; omega) UM.out (by omega) (by omega) (by omega) (by omega) (by omega)).mono ?_
        rintro e w8 ⟨v8, l8, rfl, r8, k8, h8, bx⟩
        obtain ⟨A8, n8, c8, rfl⟩ := rv_sl r8.fv.1
        have F8 := hide r8.fv
        have K8 := hide k8
        have H8 := hide h8
        clear r8 k8 h8
        replace V := hide (V.out.step bx)
        replace U := hide (U.out.step bx)
        replace T := hide (T.out.step bx)
        replace F7 := hide (F7.out.step bx)
        replace B := hide (Below.step B.out B.out.size bx)
        clear bx
        go_wp2_with fail
        refine (times_m (N := 30) V.out F8.out (by have := VL.out; omega) VM.out (by omega) (by omega) (by omega) (by omega) (by omega)).mono ?_
        rintro e w9 ⟨v9, l9, rfl, r9, k9, h9, bx⟩
        obtain ⟨A9, n9, c9, rfl⟩ := rv_sl r9.fv.1
        have F9 := hide r9.fc
        have E9 := hide (groups_eq K6.out R6.out K7.out H7.out K8.out H8.out k9 h9)
        clear r9 k9 h9
        replace V := hide (V.out.step bx)
        replace U := hide (U.out.step bx)
        replace T := hide (T.out.step bx)
        replace F7 := hide (F7.out.step bx)
        replace B := hide (Below.step B.out B.out.size bx)
        clear bx
        clear F8 K7 H7 K8 H8 P6 K6 N6 R6
        go_wp2_with fail
        refine (sameall_t F7.out F9.out E9.out).mono ?_
        rintro e w10 ⟨rfl, bx⟩
        replace V := hide (V.out.step bx)
        replace U := hide (U.out.step bx)
        replace T := hide (T.out.step bx)
        replace B := hide (Below.step B.out B.out.size bx)
        clear bx F7 F9 E9
        have hn2 : n2 = b.length := by
          obtain ⟨_, _, e, _⟩ := U.out.1
          injection e
        subst hn2
        go_wp2_with fail
        refine (transpose_s (N := 30) (P := 211) (n := (b.length : Int)) V.out VM.out (by omega) (by have := VL.out; omega) (by omega) (by omega) (by omega)).mono ?_
        rintro e w11 ⟨A1s, k1s, c1s, z1, s, rfl, ts, bx⟩
        have S := hide ts
        clear ts
        replace V := hide (V.out.step bx)
        replace U := hide (U.out.step bx)
        replace T := hide (T.out.step bx)
        replace B := hide (Below.step B.out B.out.size bx)
        have C := hide bx
        clear bx
        go_wp2_with fail
        refine (transpose_s (N := 30) (P := 211) (n := 10) U.out UM.out (by omega) (by have := UL.out; omega) (by omega) (by omega) (by omega)).mono ?_
        rintro e w12 ⟨A1t, k1t, c1t, z2, t, rfl, tt, bx⟩
        have R := hide tt
        clear tt
        replace V := hide (V.out.step bx)
        replace U := hide (U.out.step bx)
        replace T := hide (T.out.step bx)
        replace B := hide (Below.step B.out B.out.size bx)
        have SB := hide bx
        clear bx C
        go_wp2_with fail
        refine (product6 V.out U.out VM.out UM.out VL.out UL.out).mono ?_
        rintro e w13 ⟨A6, n6, c6, p, rfl, g6, k6, N6, r6, bx⟩
        have P6 := hide g6.mc.mv
        have K6 := hide k6
        have N6 := hide N6
        have R6 := hide r6
        clear g6 k6 r6
        replace SB := hide (Below.step SB.out SB.out.size bx)
        have RB := hide bx
        replace V := hide (V.out.step bx)
        replace U := hide (U.out.step bx)
        replace T := hide (T.out.step bx)
        replace B := hide (Below.step B.out B.out.size bx)
        clear bx
        go_wp2_with fail
        refine (transpose_s (N := 900) (P := 4570201) (n := 10) P6.out N6.out (by omega) (by have := K6.out; have := VL.out; omega) (by omega) (by omega) (by omega)).mono ?_
        rintro e w14 ⟨A1u, k1u, c1u, z3, u, rfl, tu, bx⟩
        have X := hide tu
        clear tu
        replace SB := hide (Below.step SB.out SB.out.size bx)
        replace RB := hide (Below.step RB.out RB.out.size bx)
        replace V := hide (V.out.step bx)
        replace U := hide (U.out.step bx)
        replace T := hide (T.out.step bx)
        replace B := hide (Below.step B.out B.out.size bx)
        clear bx
        rcases S.out with ⟨rfl, h1⟩ | ⟨rfl, h1, sg, sl, sr⟩
        · clear S R X P6 K6 N6 R6 h1
          go_wp2_with fail
          go_ret
          exact ⟨rfl, B.out⟩
        · rcases R.out with ⟨rfl, h2⟩ | ⟨rfl, h2, tg, tl, tr⟩
          · clear S R X P6 K6 N6 R6 h1 h2 sg sl sr
            go_wp2_with fail
            go_ret
            exact ⟨rfl, B.out⟩
          · rcases X.out with ⟨rfl, h3⟩ | ⟨rfl, h3, ug, ul, ur⟩
            · exact absurd h3 (prod_bad K6.out R6.out h2)
            · have SG := hide (sg.mc.mv.step SB.out)
              have TG := hide (tg.mc.mv.step RB.out)
              have UG := hide ug.mc
              have SR := hide sr
              have TR := hide tr
              have UR := hide ur
              have SL := hide sl
              have TL := hide tl
              have UU := hide ul
              have SN := hide (show ∀ x ∈ s, x.d.length ≤ 12 from fun x hx => by
                obtain ⟨j, hj⟩ := List.getElem?_of_mem hx
                exact Nat.le_trans (sr j x hj).2.2 VL.out)
              have TN := hide (show ∀ x ∈ t, x.d.length ≤ 12 from fun x hx => by
                obtain ⟨j, hj⟩ := List.getElem?_of_mem hx
                exact Nat.le_trans (tr j x hj).2.2 UL.out)
              clear S R X P6 N6 h1 h2 h3 sg sl sr tg tl tr ug ul ur SB RB
              go_wp2_with fail
              refine (product_m (N1 := 12) (N := 12) (P := 5077) (Q := 731233) TG.out SG.out TN.out SN.out (fun q hq => by omega) (by omega) (by omega) (by omega) (by omega) (by omega) (by omega) (by omega) (by omega) (by have := TL.out; omega) (by omega)).mono ?_
              rintro e w15 ⟨v15, q, rfl, o, sq, bx⟩
              obtain ⟨A15, n15, c15, rfl⟩ := rv_sl (o.rl em_len)
              have QG := hide (sq.mg o).mc
              have QL := hide sq.1
              have QR := hide (show ∀ (j : Nat) x y, t[j]? = some x → q[j]? = some y → PrR s x y from fun j x y hx hy => ⟨(sq.rel hx hy).1, (sq.rel hx hy).2.1⟩)
              have EQ := hide (cols_eq K6.out R6.out SL.out SR.out TR.out UR.out QR.out QL.out)
              have EL := hide (show q.length = u.length by have := QL.out; have := TL.out; have := UU.out; omega)
              replace UG := hide (UG.out.step bx)
              replace B := hide (Below.step B.out B.out.size bx)
              clear o sq bx SG TG SR TR UR QR SN TN K6 R6
              go_wp2_with fail
              refine (same_mt UG.out QG.out EL.out EQ.out).mono ?_
              rintro e w16 ⟨rfl, bx⟩
              replace B := hide (Below.step B.out B.out.size bx)
              clear bx
              go_wp2_with fail
              go_ret
              exact ⟨rfl, B.out⟩
end Go.Proofs.YtieicmcbdhaipaaGreat
