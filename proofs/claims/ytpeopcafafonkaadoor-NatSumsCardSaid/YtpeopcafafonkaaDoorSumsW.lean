/-
  The walks of NatProducts and NatSums: true.
-/
import Derived.Test.YtpeopcafafonkaaDoorLaw
namespace Go.Proofs.YtpeopcafafonkaaDoor
open Go.RowKit Go.Proofs.YtpeopcafafonkaaDoor.Num
set_option linter.unusedVariables false
set_option maxRecDepth 100000

set_option maxHeartbeats 8000000 in
theorem products_true (w : World) (u v : Value) (x y : Nat) (hu : Nw w u x 17592186043904) (hv : Nw w v y 17592186043904) :
    Calls Tryd.prog 5 #[u, v] w fun e w' => e = .returned (.bool true) ∧ Below w.heap.size w w' := by
  obtain ⟨xs, rfl, A, n, c, rfl, rx, dx, h1, h2, -⟩ := hu.lw
  obtain ⟨ys, rfl, D, m, d, rfl, ry, dy, h3, h4, -⟩ := hv.lw
  clear hu hv
  by_cases hg : 90 < n ∨ 90 < m
  · clear rx ry dx dy h1 h2 h3 h4
    go_enter Tryd.func5, Tryd.ntmps5
    go_wp2_with fail
    refine (speaks_true w).mono ?_
    rintro e w1 ⟨rfl, b⟩
    have B := hide b
    clear b
    go_wp2_with fail
    refine (great_yes A D n c m d w1 hg).mono ?_
    rintro e w_ ⟨rfl, rfl⟩
    go_wp2_with fail
    go_ret
    exact ⟨rfl, B.out⟩
  · have hn : n ≤ 90 := by omega
    have hm : m ≤ 90 := by omega
    have U : Hid (Lw w (.slice A n c) xs 90) := hide ⟨A, n, c, rfl, rx, dx, h1, h2, hn⟩
    have V : Hid (Lw w (.slice D m d) ys 90) := hide ⟨D, m, d, rfl, ry, dy, h3, h4, hm⟩
    clear rx ry dx dy h1 h2 h3 h4 hg
    obtain ⟨x, hx⟩ : ∃ x, vl Q xs = x := ⟨_, rfl⟩
    obtain ⟨y, hy⟩ : ∃ y, vl Q ys = y := ⟨_, rfl⟩
    have HX := hide hx
    have HY := hide hy
    clear hx hy
    go_enter Tryd.func5, Tryd.ntmps5
    go_wp2_with fail
    refine (speaks_true w).mono ?_
    rintro e w1 ⟨rfl, b⟩
    have U := hide (U.out.step b)
    have V := hide (V.out.step b)
    have B := hide b
    clear b
    go_wp2_with fail
    refine (great_no A D n c m d w1 hn hm).mono ?_
    rintro e w_ ⟨rfl, rfl⟩
    go_wp2_with fail
    refine (copy_l U.out (by omega)).mono ?_
    rintro e w2 ⟨r1, rfl, -, c1, b⟩
    have U := hide (U.out.step b)
    have V := hide (V.out.step b)
    have B := hide (Below.step B.out B.out.size b)
    have X := hide c1
    clear b c1
    go_wp2_with fail
    refine (copy_l V.out (by omega)).mono ?_
    rintro e w3 ⟨r2, rfl, -, c2, b⟩
    have U := hide (U.out.step b)
    have V := hide (V.out.step b)
    have X := hide (X.out.step b)
    have B := hide (Below.step B.out B.out.size b)
    have Y := hide c2
    clear b c2
    have M := hide (Below.refl w3.heap.size w3)
    have BM := B
    have UM := U
    have VM := V
    have XM := X
    have YM := Y
    go_wp2_with fail
    refine (mul_n X.out.nw Y.out.nw (by omega) (by omega)).mono ?_
    rintro e w4 ⟨pv, rfl, op, cp, b⟩
    have U := hide (U.out.step b)
    have V := hide (V.out.step b)
    have X := hide (X.out.step b)
    have Y := hide (Y.out.step b)
    have B := hide (Below.step B.out B.out.size b)
    have M := hide (Below.step M.out M.out.size b)
    have OP := hide op
    have CP := hide cp
    clear b op cp
    go_wp2_with fail
    refine (of_l U.out (by omega)).mono ?_
    rintro e w5 ⟨ma, rfl, -, ca, b⟩
    have U := hide (U.out.step b)
    have V := hide (V.out.step b)
    have X := hide (X.out.step b)
    have Y := hide (Y.out.step b)
    have OP := hide (OP.out.step b)
    have CP := hide (CP.out.step b)
    have B := hide (Below.step B.out B.out.size b)
    have M := hide (Below.step M.out M.out.size b)
    have MA := hide ca
    clear b ca
    go_wp2_with fail
    refine (of_l V.out (by omega)).mono ?_
    rintro e w6 ⟨mb, rfl, -, cb, b⟩
    have U := hide (U.out.step b)
    have V := hide (V.out.step b)
    have X := hide (X.out.step b)
    have Y := hide (Y.out.step b)
    have OP := hide (OP.out.step b)
    have CP := hide (CP.out.step b)
    have MA := hide (MA.out.step b)
    have B := hide (Below.step B.out B.out.size b)
    have M := hide (Below.step M.out M.out.size b)
    have MB := hide cb
    clear b cb
    go_wp2_with fail
    refine (imul MA.out.iw MB.out.iw (by omega) (by omega)).mono ?_
    rintro e w7 ⟨mc, rfl, -, cc, b⟩
    have U := hide (U.out.step b)
    have V := hide (V.out.step b)
    have X := hide (X.out.step b)
    have Y := hide (Y.out.step b)
    have OP := hide (OP.out.step b)
    have CP := hide (CP.out.step b)
    have B := hide (Below.step B.out B.out.size b)
    have M := hide (Below.step M.out M.out.size b)
    have MC := hide cc
    clear b cc
    go_wp2_with fail
    refine (to_l MC.out.iw (by omega)).mono ?_
    rintro e w8 ⟨tv, rfl, -, ct, b⟩
    have U := hide (U.out.step b)
    have V := hide (V.out.step b)
    have X := hide (X.out.step b)
    have Y := hide (Y.out.step b)
    have OP := hide (OP.out.step b)
    have CP := hide (CP.out.step b)
    have B := hide (Below.step B.out B.out.size b)
    have M := hide (Below.step M.out M.out.size b)
    have T := hide ct
    clear b ct
    go_wp2_with fail
    refine (same_c CP.out T.out rfl).mono ?_
    rintro e w9 ⟨rfl, b⟩
    have U := hide (U.out.step b)
    have V := hide (V.out.step b)
    have X := hide (X.out.step b)
    have Y := hide (Y.out.step b)
    have OP := hide (OP.out.step b)
    have B := hide (Below.step B.out B.out.size b)
    have M := hide (Below.step M.out M.out.size b)
    clear b
    go_wp2_with fail
    refine (spoil_b OP.out).mono ?_
    rintro e w10 ⟨rfl, hg⟩
    have b := push_below M.out OP.out hg M.out.size
    have B := hide (BM.out.trans (b.mono BM.out.size))
    have U := hide (UM.out.step b)
    have V := hide (VM.out.step b)
    have X := hide (XM.out.step b)
    have Y := hide (YM.out.step b)
    clear hg b
    go_wp2_with fail
    refine (same_l X.out U.out).mono ?_
    rintro e w11 ⟨rfl, b⟩
    have U := hide (U.out.step b)
    have V := hide (V.out.step b)
    have X := hide (X.out.step b)
    have Y := hide (Y.out.step b)
    have B := hide (Below.step B.out B.out.size b)
    clear b
    go_wp2_with fail
    refine (same_l Y.out V.out).mono ?_
    rintro e w12 ⟨rfl, b⟩
    have U := hide (U.out.step b)
    have V := hide (V.out.step b)
    have X := hide (X.out.step b)
    have Y := hide (Y.out.step b)
    have B := hide (Below.step B.out B.out.size b)
    clear b
    go_wp2_with fail
    go_ret
    exact ⟨rfl, B.out⟩
set_option maxHeartbeats 8000000 in
theorem sums_true (w : World) (u v : Value) (x y : Nat) (hu : Nw w u x 17592186043904) (hv : Nw w v y 17592186043904) :
    Calls Tryd.prog 4 #[u, v] w fun e w' => e = .returned (.bool true) ∧ Below w.heap.size w w' := by
  obtain ⟨xs, rfl, A, n, c, rfl, rx, dx, h1, h2, -⟩ := hu.lw
  obtain ⟨ys, rfl, D, m, d, rfl, ry, dy, h3, h4, -⟩ := hv.lw
  clear hu hv
  by_cases hg : 90 < n ∨ 90 < m
  · clear rx ry dx dy h1 h2 h3 h4
    go_enter Tryd.func4, Tryd.ntmps4
    go_wp2_with fail
    refine (speaks_true w).mono ?_
    rintro e w1 ⟨rfl, b⟩
    have B := hide b
    clear b
    go_wp2_with fail
    refine (great_yes A D n c m d w1 hg).mono ?_
    rintro e w_ ⟨rfl, rfl⟩
    go_wp2_with fail
    go_ret
    exact ⟨rfl, B.out⟩
  · have hn : n ≤ 90 := by omega
    have hm : m ≤ 90 := by omega
    have U : Hid (Lw w (.slice A n c) xs 90) := hide ⟨A, n, c, rfl, rx, dx, h1, h2, hn⟩
    have V : Hid (Lw w (.slice D m d) ys 90) := hide ⟨D, m, d, rfl, ry, dy, h3, h4, hm⟩
    clear rx ry dx dy h1 h2 h3 h4 hg
    obtain ⟨x, hx⟩ : ∃ x, vl Q xs = x := ⟨_, rfl⟩
    obtain ⟨y, hy⟩ : ∃ y, vl Q ys = y := ⟨_, rfl⟩
    have HX := hide hx
    have HY := hide hy
    clear hx hy
    have hcase : ∃ s : Int, Hid (cmpN x y = s) ∧ (((s != s) = false ∧ decide (s < 0) = true ∧ Hid (x < y)) ∨ ((s != s) = false ∧ decide (s < 0) = false ∧ Hid (y ≤ x))) := by
      refine ⟨cmpN x y, hide rfl, ?_⟩
      rcases Nat.lt_trichotomy x y with h | h | h
      · rw [cmpN_lt h]; exact .inl ⟨rfl, rfl, hide h⟩
      · subst h; rw [cmpN_eq]; exact .inr ⟨rfl, rfl, hide (Nat.le_refl _)⟩
      · rw [cmpN_gt h]; exact .inr ⟨rfl, rfl, hide (by omega)⟩
    obtain ⟨s, hs, hcase⟩ := hcase
    rcases hcase with ⟨hss, hd, hlt⟩ | ⟨hss, hd, hle⟩
    · go_enter Tryd.func4, Tryd.ntmps4
      go_wp2_with fail
      refine (speaks_true w).mono ?_
      rintro e w1 ⟨rfl, b⟩
      have U := hide (U.out.step b)
      have V := hide (V.out.step b)
      have B := hide b
      clear b
      go_wp2_with fail
      refine (great_no A D n c m d w1 hn hm).mono ?_
      rintro e w_ ⟨rfl, rfl⟩
      go_wp2_with fail
      refine (copy_l U.out (by omega)).mono ?_
      rintro e w2 ⟨r1, rfl, -, c1, b⟩
      have U := hide (U.out.step b)
      have V := hide (V.out.step b)
      have B := hide (Below.step B.out B.out.size b)
      have X := hide c1
      clear b c1
      go_wp2_with fail
      refine (copy_l V.out (by omega)).mono ?_
      rintro e w3 ⟨r2, rfl, -, c2, b⟩
      have U := hide (U.out.step b)
      have V := hide (V.out.step b)
      have X := hide (X.out.step b)
      have B := hide (Below.step B.out B.out.size b)
      have Y := hide c2
      clear b c2
      go_wp2_with fail
      refine (of_l U.out (by omega)).mono ?_
      rintro e w4 ⟨ma, rfl, -, ca, b⟩
      have U := hide (U.out.step b)
      have V := hide (V.out.step b)
      have X := hide (X.out.step b)
      have Y := hide (Y.out.step b)
      have B := hide (Below.step B.out B.out.size b)
      have MA := hide ca
      clear b ca
      go_wp2_with fail
      refine (of_l V.out (by omega)).mono ?_
      rintro e w5 ⟨mb, rfl, -, cb, b⟩
      have U := hide (U.out.step b)
      have V := hide (V.out.step b)
      have X := hide (X.out.step b)
      have Y := hide (Y.out.step b)
      have MA := hide (MA.out.step b)
      have B := hide (Below.step B.out B.out.size b)
      have MB := hide cb
      clear b cb
      have M := hide (Below.refl w5.heap.size w5)
      have BM := B
      have UM := U
      have VM := V
      have XM := X
      have YM := Y
      have MAM := MA
      have MBM := MB
      go_wp2_with fail
      refine (add_n (K := 90) X.out.nw Y.out.nw (by omega) (by omega) (by omega) (by omega)).mono ?_
      rintro e w6 ⟨sv, rfl, os, -, b⟩
      have U := hide (U.out.step b)
      have V := hide (V.out.step b)
      have X := hide (X.out.step b)
      have Y := hide (Y.out.step b)
      have MA := hide (MA.out.step b)
      have MB := hide (MB.out.step b)
      have B := hide (Below.step B.out B.out.size b)
      have M := hide (Below.step M.out M.out.size b)
      have OS := hide os
      clear b os
      have OS7 := OS
      go_wp2_with fail
      refine (add_n (K := 90) X.out.nw Y.out.nw (by omega) (by omega) (by omega) (by omega)).mono ?_
      rintro e w7 ⟨rv, rfl, orr, cr, b⟩
      have U := hide (U.out.step b)
      have V := hide (V.out.step b)
      have X := hide (X.out.step b)
      have Y := hide (Y.out.step b)
      have MA := hide (MA.out.step b)
      have MB := hide (MB.out.step b)
      have OS := hide (OS.out.step b)
      have B := hide (Below.step B.out B.out.size b)
      have M := hide (Below.step M.out M.out.size b)
      have OR := hide orr
      have CR := hide cr
      clear b orr cr
      have AP := hide (own_apart OS7.out OR.out (Nat.le_refl _))
      have LT := hide CR.out.nw.lt
      clear OS7 CR
      go_wp2_with fail
      refine (spoil_b OS.out).mono ?_
      rintro e w8 ⟨rfl, hg⟩
      have b := push_below M.out OS.out hg M.out.size
      have B := hide (BM.out.trans (b.mono BM.out.size))
      have U := hide (UM.out.step b)
      have V := hide (VM.out.step b)
      have X := hide (XM.out.step b)
      have Y := hide (YM.out.step b)
      have MA := hide (MAM.out.step b)
      have MB := hide (MBM.out.step b)
      have OR := hide (OR.out.grown hg AP.out)
      have CR := hide (Cw.of OR.out LT.out)
      clear OR AP LT
      clear hg b
      go_wp2_with fail
      refine (sub_less X.out.nw Y.out.nw (by omega) (by omega) (by rw [HX.out, HY.out]; exact hlt.out)).mono ?_
      rintro e w9 ⟨rfl, b⟩
      have U := hide (U.out.step b)
      have V := hide (V.out.step b)
      have X := hide (X.out.step b)
      have Y := hide (Y.out.step b)
      have MA := hide (MA.out.step b)
      have MB := hide (MB.out.step b)
      have CR := hide (CR.out.step b)
      have B := hide (Below.step B.out B.out.size b)
      clear b
      go_wp2_with fail
      refine (iadd (K := 450) MA.out.iw MB.out.iw (by omega) (by omega) (by omega)).mono ?_
      rintro e w10 ⟨mc, rfl, -, cc, b⟩
      have U := hide (U.out.step b)
      have V := hide (V.out.step b)
      have X := hide (X.out.step b)
      have Y := hide (Y.out.step b)
      have MA := hide (MA.out.step b)
      have MB := hide (MB.out.step b)
      have CR := hide (CR.out.step b)
      have B := hide (Below.step B.out B.out.size b)
      have MC := hide cc
      clear b cc
      go_wp2_with fail
      refine (to_l MC.out.iw (by omega)).mono ?_
      rintro e w11 ⟨tv, rfl, -, ct, b⟩
      have U := hide (U.out.step b)
      have V := hide (V.out.step b)
      have X := hide (X.out.step b)
      have Y := hide (Y.out.step b)
      have MA := hide (MA.out.step b)
      have MB := hide (MB.out.step b)
      have CR := hide (CR.out.step b)
      have B := hide (Below.step B.out B.out.size b)
      have T := hide ct
      clear b ct
      go_wp2_with fail
      refine (same_c CR.out T.out rfl).mono ?_
      rintro e w12 ⟨rfl, b⟩
      have U := hide (U.out.step b)
      have V := hide (V.out.step b)
      have X := hide (X.out.step b)
      have Y := hide (Y.out.step b)
      have MA := hide (MA.out.step b)
      have MB := hide (MB.out.step b)
      have B := hide (Below.step B.out B.out.size b)
      clear b
      go_wp2_with fail
      refine (cmp_n X.out.nw Y.out.nw (by omega) (by omega)).mono ?_
      rw [HX.out, HY.out, hs.out]
      rintro e w_ ⟨rfl, rfl⟩
      go_wp2_with fail
      refine (icmp MA.out.iw MB.out.iw (by omega) (by omega)).mono ?_
      rw [HX.out, HY.out, hs.out]
      rintro e w_ ⟨rfl, rfl⟩
      go_wp2_with fail
      refine (same_l X.out U.out).mono ?_
      rintro e w13 ⟨rfl, b⟩
      have U := hide (U.out.step b)
      have V := hide (V.out.step b)
      have X := hide (X.out.step b)
      have Y := hide (Y.out.step b)
      have MA := hide (MA.out.step b)
      have MB := hide (MB.out.step b)
      have B := hide (Below.step B.out B.out.size b)
      clear b
      go_wp2_with fail
      refine (same_l Y.out V.out).mono ?_
      rintro e w14 ⟨rfl, b⟩
      have U := hide (U.out.step b)
      have V := hide (V.out.step b)
      have X := hide (X.out.step b)
      have Y := hide (Y.out.step b)
      have MA := hide (MA.out.step b)
      have MB := hide (MB.out.step b)
      have B := hide (Below.step B.out B.out.size b)
      clear b
      go_wp2_with fail
      refine (icmp MA.out.iw MB.out.iw (by omega) (by omega)).mono ?_
      rw [HX.out, HY.out, hs.out]
      rintro e w_ ⟨rfl, rfl⟩
      go_wp2_with fail
      go_ret
      exact ⟨rfl, B.out⟩
    · go_enter Tryd.func4, Tryd.ntmps4
      go_wp2_with fail
      refine (speaks_true w).mono ?_
      rintro e w1 ⟨rfl, b⟩
      have U := hide (U.out.step b)
      have V := hide (V.out.step b)
      have B := hide b
      clear b
      go_wp2_with fail
      refine (great_no A D n c m d w1 hn hm).mono ?_
      rintro e w_ ⟨rfl, rfl⟩
      go_wp2_with fail
      refine (copy_l U.out (by omega)).mono ?_
      rintro e w2 ⟨r1, rfl, -, c1, b⟩
      have U := hide (U.out.step b)
      have V := hide (V.out.step b)
      have B := hide (Below.step B.out B.out.size b)
      have X := hide c1
      clear b c1
      go_wp2_with fail
      refine (copy_l V.out (by omega)).mono ?_
      rintro e w3 ⟨r2, rfl, -, c2, b⟩
      have U := hide (U.out.step b)
      have V := hide (V.out.step b)
      have X := hide (X.out.step b)
      have B := hide (Below.step B.out B.out.size b)
      have Y := hide c2
      clear b c2
      go_wp2_with fail
      refine (of_l U.out (by omega)).mono ?_
      rintro e w4 ⟨ma, rfl, -, ca, b⟩
      have U := hide (U.out.step b)
      have V := hide (V.out.step b)
      have X := hide (X.out.step b)
      have Y := hide (Y.out.step b)
      have B := hide (Below.step B.out B.out.size b)
      have MA := hide ca
      clear b ca
      go_wp2_with fail
      refine (of_l V.out (by omega)).mono ?_
      rintro e w5 ⟨mb, rfl, -, cb, b⟩
      have U := hide (U.out.step b)
      have V := hide (V.out.step b)
      have X := hide (X.out.step b)
      have Y := hide (Y.out.step b)
      have MA := hide (MA.out.step b)
      have B := hide (Below.step B.out B.out.size b)
      have MB := hide cb
      clear b cb
      have M := hide (Below.refl w5.heap.size w5)
      have BM := B
      have UM := U
      have VM := V
      have XM := X
      have YM := Y
      have MAM := MA
      have MBM := MB
      go_wp2_with fail
      refine (add_n (K := 90) X.out.nw Y.out.nw (by omega) (by omega) (by omega) (by omega)).mono ?_
      rintro e w6 ⟨sv, rfl, os, -, b⟩
      have U := hide (U.out.step b)
      have V := hide (V.out.step b)
      have X := hide (X.out.step b)
      have Y := hide (Y.out.step b)
      have MA := hide (MA.out.step b)
      have MB := hide (MB.out.step b)
      have B := hide (Below.step B.out B.out.size b)
      have M := hide (Below.step M.out M.out.size b)
      have OS := hide os
      clear b os
      have OS7 := OS
      go_wp2_with fail
      refine (add_n (K := 90) X.out.nw Y.out.nw (by omega) (by omega) (by omega) (by omega)).mono ?_
      rintro e w7 ⟨rv, rfl, orr, cr, b⟩
      have U := hide (U.out.step b)
      have V := hide (V.out.step b)
      have X := hide (X.out.step b)
      have Y := hide (Y.out.step b)
      have MA := hide (MA.out.step b)
      have MB := hide (MB.out.step b)
      have OS := hide (OS.out.step b)
      have B := hide (Below.step B.out B.out.size b)
      have M := hide (Below.step M.out M.out.size b)
      have OR := hide orr
      have CR := hide cr
      clear b orr cr
      have AP := hide (own_apart OS7.out OR.out (Nat.le_refl _))
      have LT := hide CR.out.nw.lt
      clear OS7 CR
      go_wp2_with fail
      refine (spoil_b OS.out).mono ?_
      rintro e w8 ⟨rfl, hg⟩
      have b := push_below M.out OS.out hg M.out.size
      have B := hide (BM.out.trans (b.mono BM.out.size))
      have U := hide (UM.out.step b)
      have V := hide (VM.out.step b)
      have X := hide (XM.out.step b)
      have Y := hide (YM.out.step b)
      have MA := hide (MAM.out.step b)
      have MB := hide (MBM.out.step b)
      have OR := hide (OR.out.grown hg AP.out)
      have CR := hide (Cw.of OR.out LT.out)
      clear OR AP LT
      clear hg b
      go_wp2_with fail
      refine (sub_n X.out.nw Y.out.nw (by omega) (by omega) (by rw [HX.out, HY.out]; exact hle.out)).mono ?_
      rintro e w9 ⟨dv, rfl, -, cd, b⟩
      have U := hide (U.out.step b)
      have V := hide (V.out.step b)
      have X := hide (X.out.step b)
      have Y := hide (Y.out.step b)
      have MA := hide (MA.out.step b)
      have MB := hide (MB.out.step b)
      have CR := hide (CR.out.step b)
      have B := hide (Below.step B.out B.out.size b)
      have CD := hide cd
      clear b cd
      go_wp2_with fail
      refine (iadd (K := 450) MA.out.iw MB.out.iw (by omega) (by omega) (by omega)).mono ?_
      rintro e w10 ⟨mc, rfl, -, cc, b⟩
      have U := hide (U.out.step b)
      have V := hide (V.out.step b)
      have X := hide (X.out.step b)
      have Y := hide (Y.out.step b)
      have MA := hide (MA.out.step b)
      have MB := hide (MB.out.step b)
      have CR := hide (CR.out.step b)
      have CD := hide (CD.out.step b)
      have B := hide (Below.step B.out B.out.size b)
      have MC := hide cc
      clear b cc
      go_wp2_with fail
      refine (to_l MC.out.iw (by omega)).mono ?_
      rintro e w11 ⟨tv, rfl, -, ct, b⟩
      have U := hide (U.out.step b)
      have V := hide (V.out.step b)
      have X := hide (X.out.step b)
      have Y := hide (Y.out.step b)
      have MA := hide (MA.out.step b)
      have MB := hide (MB.out.step b)
      have CR := hide (CR.out.step b)
      have CD := hide (CD.out.step b)
      have B := hide (Below.step B.out B.out.size b)
      have T := hide ct
      clear b ct
      go_wp2_with fail
      refine (same_c CR.out T.out rfl).mono ?_
      rintro e w12 ⟨rfl, b⟩
      have U := hide (U.out.step b)
      have V := hide (V.out.step b)
      have X := hide (X.out.step b)
      have Y := hide (Y.out.step b)
      have MA := hide (MA.out.step b)
      have MB := hide (MB.out.step b)
      have CD := hide (CD.out.step b)
      have B := hide (Below.step B.out B.out.size b)
      clear b
      go_wp2_with fail
      refine (cmp_n X.out.nw Y.out.nw (by omega) (by omega)).mono ?_
      rw [HX.out, HY.out, hs.out]
      rintro e w_ ⟨rfl, rfl⟩
      go_wp2_with fail
      refine (icmp MA.out.iw MB.out.iw (by omega) (by omega)).mono ?_
      rw [HX.out, HY.out, hs.out]
      rintro e w_ ⟨rfl, rfl⟩
      go_wp2_with fail
      refine (same_l X.out U.out).mono ?_
      rintro e w13 ⟨rfl, b⟩
      have U := hide (U.out.step b)
      have V := hide (V.out.step b)
      have X := hide (X.out.step b)
      have Y := hide (Y.out.step b)
      have MA := hide (MA.out.step b)
      have MB := hide (MB.out.step b)
      have CD := hide (CD.out.step b)
      have B := hide (Below.step B.out B.out.size b)
      clear b
      go_wp2_with fail
      refine (same_l Y.out V.out).mono ?_
      rintro e w14 ⟨rfl, b⟩
      have U := hide (U.out.step b)
      have V := hide (V.out.step b)
      have X := hide (X.out.step b)
      have Y := hide (Y.out.step b)
      have MA := hide (MA.out.step b)
      have MB := hide (MB.out.step b)
      have CD := hide (CD.out.step b)
      have B := hide (Below.step B.out B.out.size b)
      clear b
      go_wp2_with fail
      refine (icmp MA.out.iw MB.out.iw (by omega) (by omega)).mono ?_
      rw [HX.out, HY.out, hs.out]
      rintro e w_ ⟨rfl, rfl⟩
      go_wp2_with fail
      refine (isub MA.out.iw MB.out.iw (by omega) (by omega) (by rw [HX.out, HY.out]; exact hle.out)).mono ?_
      rintro e w15 ⟨ms, rfl, -, cs, b⟩
      have U := hide (U.out.step b)
      have V := hide (V.out.step b)
      have X := hide (X.out.step b)
      have Y := hide (Y.out.step b)
      have MA := hide (MA.out.step b)
      have MB := hide (MB.out.step b)
      have CD := hide (CD.out.step b)
      have B := hide (Below.step B.out B.out.size b)
      have MS := hide cs
      clear b cs
      go_wp2_with fail
      refine (to_l MS.out.iw (by omega)).mono ?_
      rintro e w16 ⟨tv2, rfl, -, ct, b⟩
      have U := hide (U.out.step b)
      have V := hide (V.out.step b)
      have X := hide (X.out.step b)
      have Y := hide (Y.out.step b)
      have MA := hide (MA.out.step b)
      have MB := hide (MB.out.step b)
      have CD := hide (CD.out.step b)
      have B := hide (Below.step B.out B.out.size b)
      have T := hide ct
      clear b ct
      go_wp2_with fail
      refine (same_c CD.out T.out rfl).mono ?_
      rintro e w17 ⟨rfl, b⟩
      have U := hide (U.out.step b)
      have V := hide (V.out.step b)
      have X := hide (X.out.step b)
      have Y := hide (Y.out.step b)
      have MA := hide (MA.out.step b)
      have MB := hide (MB.out.step b)
      have B := hide (Below.step B.out B.out.size b)
      clear b
      go_wp2_with fail
      go_ret
      exact ⟨rfl, B.out⟩
end Go.Proofs.YtpeopcafafonkaaDoor
