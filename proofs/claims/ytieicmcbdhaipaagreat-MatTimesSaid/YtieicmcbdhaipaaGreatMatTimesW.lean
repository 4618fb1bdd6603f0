/-
  The walk of MatTimes: true.
-/
import Derived.Test.YtieicmcbdhaipaaGreatBundleJ
import Derived.Test.YtieicmcbdhaipaaGreatFl
import Derived.Test.YtieicmcbdhaipaaGreatBundleH


namespace Go.Proofs.YtieicmcbdhaipaaGreat
open Go.RowKit Go.Proofs.YtieicmcbdhaipaaGreat.Num
set_option linter.unusedVariables false
set_option linter.unusedSimpArgs false
set_option maxRecDepth 100000

theorem Ml.lens {W W' : World} {v v' : Value} {m f : List Vx} {zs : List (List Zt)} {L M N : Nat} (h : Ml W v m zs L) (k : Ml W' v' f zs M) (hb : ∀ x ∈ m, x.d.length ≤ N) : ∀ y ∈ f, y.d.length ≤ N := by
  intro y hy
  obtain ⟨i, hi⟩ := List.getElem?_of_mem hy
  obtain ⟨z, hz⟩ := zs_at k.2.1 hi
  have hlt : i < f.length := (List.getElem?_eq_some_iff.1 hi).1
  obtain ⟨x, hx⟩ := len_of (d := m) (k := i) (by have := h.2.1; have := k.2.1; omega)
  have := hb x (List.mem_of_getElem? hx)
  have := (h.2.2 i x z hx hz).2.1
  have := (k.2.2 i y z hi hz).2.1
  omega

set_option maxHeartbeats 16000000 in
theorem mtimes_go (w : World) (v : Value) (m : List Vx) (u : Value) (f : List Rx) (t : Value) (g : List Rx) (hv : Mv w v m 17592186043904) (hu : Fv w u f 17592186043904) (ht : Fv w t g 17592186043904) :
    Calls Tryz.prog 10 #[v, u, t] w fun e w' => e = .returned (.bool true) ∧ Below w.heap.size w w' := by
  obtain ⟨A1, n1, c1, rfl⟩ := rv_sl hv.1
  obtain ⟨A2, n2, c2, rfl⟩ := rv_sl hu.1
  obtain ⟨A3, n3, c3, rfl⟩ := rv_sl ht.1
  have V := hide hv
  have U := hide hu
  have T := hide ht
  clear hv hu ht
  go_enter Tryz.func10, Tryz.ntmps10
  go_wp2_with fail
  refine (mspeaks_true w).mono ?_
  rintro e w2 ⟨rfl, bx⟩
  replace V := hide (V.out.step bx)
  replace U := hide (U.out.step bx)
  replace T := hide (T.out.step bx)
  have B := hide bx
  clear bx
  go_wp2_with fail
  refine (great_m V.out (by omega)).mono ?_
  rintro e w3 ⟨bx, p, rfl, hp⟩
  replace V := hide (V.out.step bx)
  replace U := hide (U.out.step bx)
  replace T := hide (T.out.step bx)
  replace B := hide (Below.step B.out B.out.size bx)
  have HP := hide hp
  clear bx hp
  cases p with
  | true =>
    go_wp2_with fail
    go_ret
    exact ⟨rfl, B.out⟩
  | false =>
    obtain ⟨dl, dm⟩ := HP.out rfl
    replace V := hide (V.out.tight (fun x hx => (dm x hx).2))
    have DL := hide dl
    have DM := hide (fun x hx => (dm x hx).1 : ∀ x ∈ m, x.d.length ≤ 30)
    clear dl dm HP
    go_wp2_with fail
    refine (greatall_c U.out (by omega)).mono ?_
    rintro e w4 ⟨bx, p, rfl, hp⟩
    replace V := hide (V.out.step bx)
    replace U := hide (U.out.step bx)
    replace T := hide (T.out.step bx)
    replace B := hide (Below.step B.out B.out.size bx)
    have HP := hide hp
    clear bx hp
    cases p with
    | true =>
      go_wp2_with fail
      go_ret
      exact ⟨rfl, B.out⟩
    | false =>
      obtain ⟨dl, dw⟩ := HP.out rfl
      replace U := hide (U.out.tight dw)
      have FL := hide dl
      clear dl dw HP
      go_wp2_with fail
      refine (greatall_c T.out (by omega)).mono ?_
      rintro e w5 ⟨bx, p, rfl, hp⟩
      replace V := hide (V.out.step bx)
      replace U := hide (U.out.step bx)
      replace T := hide (T.out.step bx)
      replace B := hide (Below.step B.out B.out.size bx)
      have HP := hide hp
      clear bx hp
      cases p with
      | true =>
        go_wp2_with fail
        go_ret
        exact ⟨rfl, B.out⟩
      | false =>
        obtain ⟨dl, dw⟩ := HP.out rfl
        replace T := hide (T.out.tight dw)
        have GL := hide dl
        obtain ⟨zv, hzv⟩ := ml_of V.out
        obtain ⟨zu, hzu⟩ := fl_of U.out
        obtain ⟨zt, hzt⟩ := fl_of T.out
        have MV := hide hzv
        have FU := hide hzu
        have FT := hide hzt
        clear dl dw HP hzv hzu hzt V U T
        go_wp2_with fail
        refine (copy_m MV.out (by omega) (by have := DL.out; omega) (fun x hx => by have := DM.out x hx; omega)).mono ?_
        rintro e w6 ⟨v5, m5, rfl, t5, bx⟩
        obtain ⟨A5, n5, c5, rfl⟩ := rv_sl t5.ml.1
        replace MV := hide (MV.out.step bx)
        replace FU := hide (FU.out.step bx)
        replace FT := hide (FT.out.step bx)
        replace B := hide (Below.step B.out B.out.size bx)
        have MX := hide t5.ml
        clear t5 bx
        go_wp2_with fail
        refine (copyall_v FU.out (by omega) (by have := FL.out; omega)).mono ?_
        rintro e w7 ⟨v6, f6, rfl, t6, bx⟩
        obtain ⟨A6, n6, c6, rfl⟩ := rv_sl t6.fl.1
        replace MV := hide (MV.out.step bx)
        replace FU := hide (FU.out.step bx)
        replace FT := hide (FT.out.step bx)
        replace MX := hide (MX.out.step bx)
        replace B := hide (Below.step B.out B.out.size bx)
        have FX := hide t6.fl
        clear t6 bx
        go_wp2_with fail
        refine (copyall_v FT.out (by omega) (by have := GL.out; omega)).mono ?_
        rintro e wm ⟨v7, g7, rfl, t7, bx⟩
        obtain ⟨A7, n7, c7, rfl⟩ := rv_sl t7.fl.1
        replace MV := hide (MV.out.step bx)
        replace FU := hide (FU.out.step bx)
        replace FT := hide (FT.out.step bx)
        replace MX := hide (MX.out.step bx)
        replace FX := hide (FX.out.step bx)
        replace B := hide (Below.step B.out B.out.size bx)
        have GX := hide t7.fl
        have EM := hide (MX.out.rwA MV.out)
        have EF := hide (FX.out.xf FU.out)
        have EG := hide (GX.out.xf FT.out)
        have NM := hide (MV.out.lens MX.out DM.out)
        have NL := hide (show m5.length = m.length by have := MX.out.2.1; have := MV.out.2.1; omega)
        have NF := hide (show f6.length ≤ 30 by have := FL.out; have := FX.out.2.1; have := FU.out.2.1; omega)
        have NG := hide (show g7.length ≤ 30 by have := GL.out; have := GX.out.2.1; have := FT.out.2.1; omega)
        clear t7 bx
        go_wp2_with fail
        refine (times_m (N := 30) MX.out.mv FX.out.fv (by have := NL.out; have := DL.out; omega) NM.out (by omega) (by omega) (by omega) (by omega) (by omega)).mono ?_
        rintro e w8 ⟨v8, l8, rfl, r8, hl8, h8, bx⟩
        obtain ⟨A8, n8, c8, rfl⟩ := rv_sl r8.fv.1
        have C := hide bx
        have R8 := hide r8.fc
        have L8 := hide (hl8.trans NL.out)
        have H8 := hide (show ∀ (j : Nat) x, l8[j]? = some x → x.r = dt (rwA m (j : Int)) (xf f) by rw [← EM.out, ← EF.out]; exact h8)
        clear r8 hl8 h8 bx
        go_wp2_with fail
        refine (timest_m (N := 30) (P := 391) (GX.out.fv.step C.out) (MX.out.mv.step C.out) NM.out (fun q hq => by omega) (by omega) (by have := NG.out; omega) (by omega) (by omega) (by omega) (by omega) (by omega) (by have := NG.out; omega)).mono ?_
        rintro e w9 ⟨v9, d9, rfl, t9, f9, g9, n9, bx⟩
        obtain ⟨A9, n9', c9, rfl⟩ := rv_sl t9.tv.1
        have T9 := hide (t9.mono (B' := wm.heap.size) C.out.size)
        have F9 := hide f9
        have G9 := hide (show ∀ c, 0 ≤ c → gsum (tms d9) c = sm m.length (fun i => xf g (i : Int) * gsum (rwA m (i : Int)) c) by rw [← EM.out, ← EG.out, ← NL.out]; exact g9)
        have N9 := hide (show d9.length ≤ 900 by have := NG.out; omega)
        replace R8 := hide (R8.out.step bx)
        replace C := hide (Below.step C.out C.out.size bx)
        clear t9 f9 g9 n9 bx
        go_wp2_with fail
        refine (rtimes_f (N := 30) (MV.out.step C.out).mv (FU.out.step C.out).fv (by have := DL.out; omega) DM.out (by omega) (by omega) (by omega) (by omega) (by omega) (by have := FL.out; omega) (by omega) rfl (by have := FL.out; omega)).mono ?_
        rintro e w10 ⟨v10, l10, rfl, r10, hl10, h10, bx⟩
        obtain ⟨A10, n10, c10, rfl⟩ := rv_sl r10.fv.1
        have E10 := hide (show l8.map Rx.r = l10.map Rx.r by
          apply List.ext_getElem?
          intro j
          have ll : l8.length = l10.length := by rw [L8.out, hl10]
          by_cases hj : j < l8.length
          · obtain ⟨x, hx⟩ := len_of (d := l8) (k := j) hj
            obtain ⟨y, hy⟩ := len_of (d := l10) (k := j) (by omega)
            rw [List.getElem?_map, List.getElem?_map, hx, hy, Option.map_some, Option.map_some, H8.out j x hx, h10 j y hy]
          · rw [List.getElem?_eq_none (by simp; omega), List.getElem?_eq_none (by simp; omega)])
        have R10 := hide r10.fc
        replace R8 := hide (R8.out.step bx)
        replace T9 := hide (T9.out.step bx)
        replace C := hide (Below.step C.out C.out.size bx)
        clear r10 hl10 h10 bx L8 H8
        go_wp2_with fail
        refine (sameall_t R8.out R10.out E10.out).mono ?_
        rintro e w11 ⟨rfl, bx⟩
        replace T9 := hide (T9.out.step bx)
        replace C := hide (Below.step C.out C.out.size bx)
        clear bx R8 R10 E10
        go_wp2_with fail
        refine (rtimest_f (N := 30) (M := 3000) (FT.out.step C.out).fv (MV.out.step C.out).mv DM.out (by omega) (by omega) (by omega) (by omega) (by have := DL.out; omega) (by have := GL.out; omega) (by have := DL.out; omega) (by have := DL.out; omega) (by omega)).mono ?_
        rintro e w12 ⟨v12, l12, rfl, t12, f12, g12, -, bx⟩
        obtain ⟨A12, n12, c12, rfl⟩ := rv_sl t12.1
        have T12 := hide t12
        have E12 := hide (Fm.unique F9.out f12 (fun c hc => (G9.out c hc).trans (g12 c hc).symm))
        replace T9 := hide (T9.out.step bx)
        replace C := hide (Below.step C.out C.out.size bx)
        clear t12 f12 g12 bx
        go_wp2_with fail
        refine (same_t T9.out.tc T12.out E12.out).mono ?_
        rintro e w13 ⟨rfl, bx⟩
        replace T9 := hide (T9.out.step bx)
        replace C := hide (Below.step C.out C.out.size bx)
        clear bx T12 E12
        go_wp2_with fail
        refine (spoil_v (T9.out.sp (by have := NG.out; omega)) C.out.size (by have := N9.out; omega)).mono ?_
        rintro e w14 ⟨rfl, sp⟩
        replace C := hide (C.out.trans sp.1)
        clear sp T9
        go_wp2_with fail
        refine (same_mv (MX.out.step C.out) (MV.out.step C.out)).mono ?_
        rintro e w15 ⟨rfl, bx⟩
        replace C := hide (Below.step C.out C.out.size bx)
        clear bx
        go_wp2_with fail
        refine (sameall_v (FX.out.step C.out) (FU.out.step C.out)).mono ?_
        rintro e w16 ⟨rfl, bx⟩
        replace C := hide (Below.step C.out C.out.size bx)
        clear bx
        go_wp2_with fail
        refine (sameall_v (GX.out.step C.out) (FT.out.step C.out)).mono ?_
        rintro e w17 ⟨rfl, bx⟩
        replace C := hide (Below.step C.out C.out.size bx)
        clear bx
        go_wp2_with fail
        go_ret
        exact ⟨rfl, Below.step B.out B.out.size C.out⟩
end Go.Proofs.YtieicmcbdhaipaaGreat
