/-
  The walk of FieldsJoins: true.
-/
import Derived.Test.YtinbeodihhjfmaaFld8
namespace Go.Proofs.Ytinbeodihhjfmaa
open Go Go.RowKit Go.Shelf
set_option linter.unusedVariables false
set_option linter.unusedSimpArgs false
set_option maxRecDepth 100000

theorem ba_app (x y : Bs) : ba x ++ ba y = ba (x ++ y) := by
  apply ByteArray.ext
  show (ba x ++ ba y).data = (x ++ y).toArray
  rw [ByteArray.data_append]
  simp

set_option maxHeartbeats 16000000 in
theorem joins_go (w : World) (a b : ByteArray) (ha : a.data.toList.length ≤ 140737488351232) (hb : b.data.toList.length ≤ 140737488351232) :
    Calls Try.prog 4 #[.string a, .string b] w fun e w' => e = .returned (.bool true) ∧ Below w.heap.size w w' := by
  obtain ⟨x, hx⟩ : ∃ x, a.data.toList = x := ⟨_, rfl⟩
  obtain ⟨y, hy⟩ : ∃ y, b.data.toList = y := ⟨_, rfl⟩
  have ea : a = ba x := by rw [← hx]
  have eb : b = ba y := by rw [← hy]
  rw [hx] at ha
  rw [hy] at hb
  clear hx hy
  subst ea eb
  obtain ⟨S1, h1⟩ : ∃ S1, ba (x ++ [10]) = S1 := ⟨_, rfl⟩
  obtain ⟨S2, h2⟩ : ∃ S2, ba y = S2 := ⟨_, rfl⟩
  obtain ⟨S3, h3⟩ : ∃ S3, ba (x ++ 10 :: y) = S3 := ⟨_, rfl⟩
  have j1 : ba x ++ { data := #[10] } = S1 := by rw [← h1]; exact ba_app x [10]
  have j3 : S1 ++ S2 = S3 := by rw [← h1, ← h2, ← h3, ba_app]; congr 1; simp
  have z1 : S1.size = x.length + 1 := by rw [← h1, ba_size]; simp
  have z2 : S2.size = y.length := by rw [← h2, ba_size]
  have zx : (ba x).size = x.length := ba_size x
  have F1 := hide (fun W => flines_f (x ++ [10]) W (by simp; omega))
  have F2 := hide (fun W => flines_f y W (by omega))
  have F3 := hide (fun W => flines_f (x ++ 10 :: y) W (by simp; omega))
  rw [h1] at F1
  rw [h2] at F2 ⊢
  rw [h3] at F3
  have J := hide (And.intro j1 j3)
  have Z := hide (And.intro z1 z2)
  obtain ⟨X, hX⟩ : ∃ X, ba x = X := ⟨_, rfl⟩
  rw [hX] at j1 zx ⊢
  clear h1 h2 h3
  go_enter Try.func4, Try.ntmps4
  go_wp2_with fail
  refine (speaks8 w).mono ?_
  rintro e w2 ⟨rfl, bx⟩
  have B := hide bx
  clear bx
  go_wp2_with fail
  refine (F1.out w2).mono ?_
  rintro e w3 hf
  obtain ⟨A1, n1, c1, e1, k1, d1, rfl, t1, l1, bx⟩ := fl_form hf
  have T1 := hide t1
  have L1 := hide l1
  have B1 := hide (bstep B.out B.out.size bx)
  have E1 := hide (And.intro bx.size B.out.size)
  clear hf t1 l1 bx F1
  go_wp2_with fail
  refine (F2.out w3).mono ?_
  rintro e w4 hf
  obtain ⟨A2, n2, c2, e2, k2, d2, rfl, t2, l2, bx⟩ := fl_form hf
  have T2 := hide t2
  have L2 := hide l2
  have B2 := hide (bstep B1.out B1.out.size bx)
  have C4 := hide bx
  clear hf t2 l2 bx F2
  go_wp2_with fail
  refine (F3.out w4).mono ?_
  rintro e w5 hf
  obtain ⟨A3, n3, c3, e3, k3, d3, rfl, t3, l3, bx⟩ := fl_form hf
  have T3 := hide t3
  have L3 := hide l3
  have B3 := hide (bstep B2.out B2.out.size bx)
  have M5 := hide (L2.out.step bx)
  have C5 := hide (bstep C4.out C4.out.size bx)
  have D5 := hide bx.size
  clear hf t3 l3 bx F3 j1 j3 z1 z2 zx hX
  have hsl : (x ++ [10]).length = x.length + 1 := by simp
  have hs3 : (x ++ 10 :: y).length = x.length + 1 + y.length := by simp; omega
  have hj : lnsOf (x ++ 10 :: y) = lnsOf (x ++ [10]) ++ lnsOf y := lnsOf_join x y
  obtain ⟨z1, z2⟩ := Z.out
  by_cases hlong : 65536 < x.length + 1 + y.length
  · rcases T3.out with ⟨-, rfl, rfl, h4, h5⟩ | ⟨h, -⟩
    · injection h4 with _ h4 _
      subst h4
      have q1 : decide ((65536 : Int) - (S2.size : Int) < (S1.size : Int)) = true := decide_eq_true (by omega)
      have hb1 : S1.size ≤ 140737488351233 := by omega
      have hb2 : S2.size ≤ 140737488351232 := by omega
      clear z1 z2 hlong hsl hs3 hj T1 T2 T3 h5
      go_wp2_with fail
      go_ret
      exact ⟨rfl, B3.out⟩
    · rw [hs3] at h
      omega
  · have q1 : decide ((65536 : Int) - (S2.size : Int) < (S1.size : Int)) = false := decide_eq_false (by omega)
    have q2 : decide ((65536 : Int) < (S2.size : Int)) = false := decide_eq_false (by omega)
    have hb1 : S1.size ≤ 65536 := by omega
    have hb2 : S2.size ≤ 65536 := by omega
    rcases T1.out with ⟨h, -⟩ | ⟨g1, (⟨r, h, rfl, rfl, h4, h5⟩ | ⟨h, rfl, rfl, -, m1⟩)⟩
    · rw [hsl] at h
      omega
    · have hb3 := badAt_append_some 0 _ (lnsOf y) r h
      rw [← hj] at hb3
      rcases T3.out with ⟨h, -⟩ | ⟨-, (⟨r', h', rfl, rfl, -, -⟩ | ⟨h', -⟩)⟩
      · rw [hs3] at h
        omega
      · rw [hb3] at h'
        injection h' with h'
        subst h'
        clear z1 z2 hlong hsl hs3 hj T1 T2 T3 h4 h5
        go_wp2_with fail
        go_ret
        exact ⟨by simp, B3.out⟩
      · rw [hb3] at h'
        cases h'
    · have hlen1 : (lnsOf (x ++ [10])).length ≤ 65536 := Nat.le_trans (lnsOf_len _) g1
      rcases T2.out with ⟨h', -⟩ | ⟨g2, (⟨r, h', rfl, rfl, h4, h5⟩ | ⟨h', rfl, rfl, -, m2⟩)⟩
      · omega
      · have hb3 : badAt 0 (lnsOf (x ++ 10 :: y)) = some (r + (lnsOf (x ++ [10])).length) := by
          rw [hj, badAt_append 0 _ _ h, badAt_up 0, h']
          rfl
        rcases T3.out with ⟨h6, -⟩ | ⟨-, (⟨r', h6, rfl, rfl, -, -⟩ | ⟨h6, -⟩)⟩
        · rw [hs3] at h6
          omega
        · rw [hb3] at h6
          injection h6 with h6
          have hk : ((r' : Nat) : Int) = ((lnsOf (x ++ [10])).length : Int) + (r : Int) := by omega
          obtain ⟨N, hN⟩ : ∃ N, (lnsOf (x ++ [10])).length = N := ⟨_, rfl⟩
          have hr : r ≤ 65536 := by
            have h7 := badAt_le 0 _ r h'
            have h8 := lnsOf_len y
            omega
          rw [hN] at hk hlen1 ⊢
          clear z1 z2 hlong hsl hs3 hj T1 T2 T3 h4 h5 h6 hb3 hN
          go_wp2_with fail
          go_ret
          exact ⟨by simp [hk], B3.out⟩
        · rw [hb3] at h6
          cases h6
      · have hb3 : badAt 0 (lnsOf (x ++ 10 :: y)) = none := by
          rw [hj, badAt_append 0 _ _ h, badAt_up 0, h']
          rfl
        have hg3 : good 0 (lnsOf (x ++ 10 :: y)) = good 0 (lnsOf (x ++ [10])) ++ (good 0 (lnsOf y)).map (Ln.up (lnsOf (x ++ [10])).length) := by
          rw [hj, good_append, good_up 0]
        have hl3 : (lnsOf (x ++ 10 :: y)).length = (lnsOf (x ++ [10])).length + (lnsOf y).length := by rw [hj, List.length_append]
        have hlen2 : (lnsOf y).length ≤ 65536 := Nat.le_trans (lnsOf_len _) g2
        rcases T3.out with ⟨h6, -⟩ | ⟨-, (⟨r', h6, -⟩ | ⟨h6, rfl, rfl, -, m3⟩)⟩
        · rw [hs3] at h6
          omega
        · rw [hb3] at h6
          cases h6
        · rw [hl3]
          rw [hg3] at m3
          obtain ⟨N, hN⟩ : ∃ N, (lnsOf (x ++ [10])).length = N := ⟨_, rfl⟩
          obtain ⟨M, hM⟩ : ∃ M, (lnsOf y).length = M := ⟨_, rfl⟩
          have no2 := hide (show ∀ l ∈ d2, l.no ≤ 65536 from fun l hl => by
            have h7 := good_no 0 (lnsOf y) l.ln (by rw [← m2]; exact List.mem_map.2 ⟨l, hl, rfl⟩)
            have h8 : l.ln.no = l.no := rfl
            omega)
          have LN := hide (show d1.length + d2.length ≤ 1000000000000 by
            have h7 := congrArg List.length m1
            have h8 := congrArg List.length m2
            rw [List.length_map] at h7 h8
            have h9 := good_len 0 (lnsOf (x ++ [10]))
            have h10 := good_len 0 (lnsOf y)
            omega)
          rw [hN] at m3 hlen1 ⊢
          rw [hM] at hlen2 ⊢
          have G3 := hide m3
          have G1 := hide m1
          have G2 := hide m2
          have hn2 : n2 = d2.length := own_len8 M5.out.1
          have hd2 : d2.length ≤ 65536 := by
            have h8 := congrArg List.length m2
            rw [List.length_map] at h8
            have h10 := good_len 0 (lnsOf y)
            omega
          have HG := hide (fun g (h : (Value.slice A2 n2 c2).ownBlock = some g) => (L2.out.1.lt h))
          obtain ⟨i0, hi, hz0, hz1, hz2⟩ := info_parts info_line
          have U0 := hide (upTo.zero N d2)
          have hmax : n2 ≤ 65536 := by omega
          have HN2 := hide hn2
          clear z1 z2 hlong hsl hs3 hj T1 T2 T3 h6 hb3 hg3 hl3 m1 m2 m3 hN hM h h' hn2 hd2
          go_wp2_with fail
          go_loopw [81] (fun iv wr => ∃ (j : Nat) (dk : List Lx), j ≤ n2 ∧ iv = .int .i64 (j : Int) ∧ Hid (upTo N d2 j dk) ∧ Hid (Lg wr w3.heap.size (.slice A2 n2 c2) dk) ∧ Hid (Below w3.heap.size w3 wr) ∧ Hid (Lg wr w4.heap.size (.slice A3 n3 c3) d3)) (fun iv _ => n2 - (intOf iv).toNat)
          case atStart => exact ⟨0, d2, Nat.zero_le _, rfl, U0, M5, C5, L3⟩
          case round =>
            obtain ⟨j, dk, hj, rfl, U, X, C, Y⟩ := hrel
            by_cases hjt : j < n2
            · obtain ⟨z, hz⟩ := at8 (d := dk) (k := j) (by rw [U.out.1, ← HN2.out]; exact hjt)
              obtain ⟨z0, hz0'⟩ := at8 (d := d2) (k := j) (by rw [← HN2.out]; exact hjt)
              have hzn : z.no ≤ 65536 := by
                obtain ⟨z', h1, -, -, h4⟩ := U.out.2 j z0 hz0'
                rw [hz] at h1
                injection h1 with h1
                subst h1
                rw [if_neg (by omega)] at h4
                rw [h4]
                exact no2.out z0 (List.mem_of_getElem? hz0')
              have hA : ∃ g, A2 = some ⟨g, 0, none⟩ := by
                rcases X.out.1.form with ⟨_, e⟩ | ⟨g, cap, cur, e, _⟩
                · rw [e] at hz
                  cases hz
                · injection e with e
                  exact ⟨g, e⟩
              obtain ⟨g, rfl⟩ := hA
              obtain ⟨c0, f0⟩ := X.out.cells hz
              obtain ⟨hg3, hg4⟩ := HG.out g rfl
              have l0 : (0 : Int) ≤ (j : Int) := by omega
              have l1 : (j : Int) < (n2 : Int) := by omega
              have X2 := X.out.put hz (z.no + N)
              rw [show ((z.no + N : Nat) : Int) = (z.no : Int) + (N : Int) by simp] at X2
              have X3 := hide X2
              have U3 := hide (U.out.next hz)
              have C3 := hide (C.out.setCell (p := ⟨g, j * 3, none⟩) hg3 (.int .i64 ((z.no : Int) + (N : Int))))
              have Y3 := hide (Y.out.kept (only_set (p := ⟨g, j * 3, none⟩) (only_refl wr _) rfl (.int .i64 ((z.no : Int) + (N : Int)))) (fun r e => .inl (by
                have e : some g = some r := e
                injection e with e
                omega)))
              clear hz hz0' X2 X U C Y hg3 hg4
              go_wp2_with fail
              exact ⟨⟨j + 1, _, by omega, by go_num, U3, X3, C3, Y3⟩, by simp [intOf]; omega⟩
            · obtain rfl : j = n2 := by omega
              have UD := hide ((show upTo N d2 d2.length dk from by have h := U.out; rwa [HN2.out] at h).done)
              have L9 := hide (L1.out.step C.out)
              have B9 := hide (bstep B1.out B1.out.size C.out)
              have LN9 := hide (show d1.length + dk.length ≤ 1000000000000 by rw [U.out.1]; exact LN.out)
              have SC := hide (fun W v' (h1 : Lv W v' (d1 ++ dk)) (h2 : Lv W (.slice A3 n3 c3) d3) => same8 h2 h1 (by rw [List.map_append, G3.out, G1.out, UD.out, G2.out]))
              have BB := hide (Nat.le_trans E1.out.2 (Nat.le_refl _))
              have B2S := hide (show w2.heap.size ≤ wr.heap.size from Nat.le_trans E1.out.1 C.out.size)
              have E14 := hide (show w2.heap.size ≤ w3.heap.size ∧ w3.heap.size ≤ w4.heap.size from ⟨E1.out.1, C4.out.size⟩)
              go_wp2_with (first
                | (at_builtin; go_must (refine wpList_joinG (by rfl) (.tmp 105) (.tmp 106) 23 rfl Try.underlying23 hi hz0 hz1 hz2 rfl (by omega) el_len el_one wr w2.heap.size _ _ d1 dk X.out.lv.1 L9.out.1 rfl rfl LN9.out (by decide) B2S.out ?_); intro v' w' ho hg; obtain ⟨A9, n9, c9, rfl⟩ : ∃ A n c, v' = .slice A n c := (by rcases ho.form with ⟨rfl, _⟩ | ⟨g, cap, cur, rfl, _⟩; exact ⟨_, _, _, rfl⟩; exact ⟨_, _, _, rfl⟩); have J9 := hide (L9.out.join X.out ho hg); have K9 := hide (Y.out.kept hg (fun r e => .inl (by have := (L1.out.1.lt e).2; have := E14.out.2; omega))); have CF := hide (below_own (B9.out) (L9.out.1.mono (B' := w.heap.size) E1.out.2) hg B9.out.size); clear ho hg)
                | (go_at_call 7; refine (SC.out _ _ J9.out K9.out.lv).mono ?_; rintro e w9 ⟨rfl, bx⟩; have BF := hide (bstep CF.out CF.out.size bx)))
              go_ret
              exact ⟨rfl, BF.out⟩
end Go.Proofs.Ytinbeodihhjfmaa
