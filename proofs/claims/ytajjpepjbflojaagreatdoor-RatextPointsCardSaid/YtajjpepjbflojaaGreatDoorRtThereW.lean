/-
  The walk of RatextThere: true.
-/
import Derived.Test.YtajjpepjbflojaaGreatDoorRtShowsW
import Derived.SizedLaws


namespace Go.Proofs.YtajjpepjbflojaaGreatDoor
open Go.RowKit Go.Proofs.YtajjpepjbflojaaGreatDoor.Num
set_option linter.unusedVariables false
set_option linter.unusedSimpArgs false
set_option maxRecDepth 100000

theorem Ra.lts {w : World} {v : Value} {r : Rat} {L : Nat} (h : Ra w v r L) (h1 : 1 ≤ L) : r.num.natAbs < Q ^ L ∧ r.den < Q ^ L := by
  obtain ⟨s, A, n, c, D, m, d, x, y, rfl, hu, ht, rfl⟩ := h.parts
  obtain ⟨e1, e2⟩ := mk_num (s := s) (x := x) (dn_pos y)
  rw [e1, e2, zi_abs]
  exact ⟨Nat.lt_of_le_of_lt (Nat.div_le_self _ _) hu.lt, Nat.lt_of_le_of_lt (Nat.div_le_self _ _) (dn_lt ht.lt h1)⟩
theorem rtxt_len {r : Rat} {L : Nat} (h1 : r.num.natAbs < Q ^ L) (h2 : r.den < Q ^ L) : (rtxt r).length ≤ 40 * L + 4 := by
  have a := ztxt_len h1
  have b := dtext_len h2
  unfold rtxt
  rw [List.length_append]
  split
  · simp; omega
  · rw [List.length_cons]; omega
theorem rtxt_le {r : Rat} (h1 : r.num.natAbs < Q ^ 40) (h2 : r.den < Q ^ 40) : (rtxt r).length ≤ 100000 := Nat.le_trans (rtxt_len h1 h2) (by omega)
theorem rtxt_le2 {r : Rat} (h1 : r.num.natAbs < Q ^ 600) (h2 : r.den < Q ^ 600) : (rtxt r).length ≤ 100000 := Nat.le_trans (rtxt_len h1 h2) (by omega)

theorem reach_small {T : ByteArray} (hT : T.data.toList.length ≤ reachBytes) : T.size ≤ 1000000000000000000 := by
  have h2 := reachBytes_lt
  have e3 : (2 : Nat) ^ 47 = 140737488355328 := by decide
  rw [bsize]
  omega

set_option maxHeartbeats 8000000 in
theorem rthere_true (w : World) (s : Bool) (ua ta : Value) (T : ByteArray) (xa ya : Nat) (hua : Nw w ua xa 17592186043904) (hva : Nw w ta ya 17592186043904) (hT : T.data.toList.length ≤ reachBytes) (he : Ev w) :
    Calls Tryz.prog 4 #[rv s ua ta, .string T] w fun e w' => e = .returned (.bool true) ∧ Below w.heap.size w w' := by
  obtain ⟨A, n, c, rfl⟩ := hua.slice
  obtain ⟨D, m, d, rfl⟩ := hva.slice
  have b0 := wbox w s (.slice A n c) (.slice D m d)
  have E := hide (he.step b0)
  have K := hide (Rk.new w s (.slice A n c) (.slice D m d))
  have B := hide b0
  have WD := hide (fun W => rwords_any (w := W) (s := s) (A := A) (D := D) (c := c) (d := d) (Nat.le_trans hua.short (by omega)) (Nat.le_trans hva.short (by omega)))
  obtain ⟨xs, hxs, hx⟩ := hua.openL
  obtain ⟨ys, hys, hy⟩ := hva.openL
  have HL : Hid (¬ (40 < n + m) → Rl (w.alloc (rbox s (.slice A n c) (.slice D m d))) (rv s (.slice A n c) (.slice D m d)) s xs ys 40) := hide (fun h => ⟨_, _, rfl, (hx 40 (by omega)).step b0, (hy 40 (by omega)).step b0⟩)
  obtain ⟨k, hk⟩ : ∃ k, n + m = k := ⟨_, rfl⟩
  rw [hk] at WD HL
  have HT := hide (reach_small hT)
  clear hua hva he b0 hx hy hxs hys hk hT
  go_enter Tryz.func4, Tryz.ntmps4
  go_wp2_with fail
  refine (tspeaks_true _ E.out).mono ?_
  rintro e w1 ⟨rfl, bx⟩
  replace K := hide (K.out.step bx)
  replace E := hide (E.out.step bx)
  replace B := hide (Below.step B.out B.out.size bx)
  by_cases hg : 40 < k
  · have t1 : decide ((40 : Int) < (k : Int)) = true := decide_eq_true (by omega)
    clear bx hg HL E
    obtain ⟨p0, p1, p2, -, -, -⟩ := K.out.all
    go_wp2_with fail
    refine (WD.out _).mono ?_
    rintro e w2 ⟨rfl, bx⟩
    replace B := hide (Below.step B.out B.out.size bx)
    clear bx WD K p0 p1 p2
    go_wp2_with fail
    go_ret
    exact ⟨rfl, B.out⟩
  · have t1 : decide ((40 : Int) < (k : Int)) = false := decide_eq_false (by omega)
    have R := hide ((HL.out hg).step bx)
    clear bx hg HL
    obtain ⟨p0, p1, p2, -, -, -⟩ := K.out.all
    go_wp2_with fail
    refine (WD.out _).mono ?_
    rintro e w2 ⟨rfl, bx⟩
    replace K := hide (K.out.step bx)
    replace E := hide (E.out.step bx)
    replace R := hide (R.out.step bx)
    replace B := hide (Below.step B.out B.out.size bx)
    clear bx WD p0 p1 p2
    obtain ⟨p0, p1, p2, -, -, -⟩ := K.out.all
    have RA := hide R.out.ra
    clear R
    generalize mkRat (zi s (vl Q xs)) (dn (vl Q ys)) = r at *
    obtain ⟨hl1, hl2⟩ := RA.out.lts (by omega)
    have HZ := hide (rtxt_le hl1 hl2)
    clear hl1 hl2
    go_wp2_with fail
    refine (rtext_r RA.out (by omega) (by omega)).mono ?_
    rintro e w3 ⟨S1, rfl, hS1, bx⟩
    replace E := hide (E.out.step bx)
    replace B := hide (Below.step B.out B.out.size bx)
    clear bx RA K p0 p1 p2
    have s1 : S1.size ≤ 100000 := by rw [bsize, hS1.out]; exact HZ.out
    by_cases hd : 200 < rdigits r
    · have L1 := hide (show 200 < S1.size by rw [bsize, hS1.out]; exact Nat.lt_of_lt_of_le hd (rdigits_le r))
      have C := hide (show rcode S1.data.toList = 1 by rw [hS1.out]; exact rcode_rlong hd)
      clear hd HZ
      go_wp2_with fail
      refine (ps_err C.out (by omega) (by omega) E.out).mono ?_
      rintro e w4 ⟨rfl, bx⟩
      replace B := hide (Below.step B.out B.out.size bx)
      clear bx E C
      have b9 := wbox w4 false (.slice none 0 0) (.slice none 0 0)
      replace B := hide (Below.step B.out B.out.size b9)
      clear b9
      have t2 : decide ((200 : Int) < (S1.size : Int)) = true := decide_eq_true (by have := L1.out; omega)
      go_wp2_with fail
      go_ret
      exact ⟨rfl, B.out⟩
    · obtain ⟨hc1, hc2⟩ := rcode_rtxt (r := r) (by omega)
      have PS := hide (ps_ok (S := S1) (r := r) (w := w3) (by rw [hS1.out]; exact hc1) (by rw [hS1.out]; exact hc2) (by omega) E.out)
      clear hd HZ hc1 hc2
      go_wp2_with fail
      refine PS.out.mono ?_
      rintro e w4 ⟨vb, rfl, rb, bx⟩
      obtain ⟨sb, Ab, nb, cb, Db, mb, db, rfl, -, -, -⟩ := rb.lets
      have b9 := wbox w4 sb (.slice Ab nb cb) (.slice Db mb db)
      have bb := Below.step1 bx b9
      replace E := hide (E.out.step bb)
      replace B := hide (Below.step B.out B.out.size bb)
      have RB := hide (rb.step b9).ra
      have KB := hide (Rk.new w4 sb (.slice Ab nb cb) (.slice Db mb db))
      clear bx b9 bb rb PS
      obtain ⟨p0, p1, p2, -, -, -⟩ := KB.out.all
      go_wp2_with fail
      refine (rtext_r RB.out (by omega) (by omega)).mono ?_
      rintro e w5 ⟨S2, rfl, hS2, bx⟩
      replace E := hide (E.out.step bx)
      replace B := hide (Below.step B.out B.out.size bx)
      clear bx RB KB p0 p1 p2
      have t2 : (S2.toList == S1.toList) = true := by rw [toList_data, toList_data, hS1.out, hS2.out]; exact beq_self_eq_true _
      have t3 : (S2.toList != S1.toList) = false := by rw [bne, t2]; rfl
      go_wp2_with fail
      obtain ⟨l, hl⟩ : ∃ l, T.data.toList = l := ⟨_, rfl⟩
      have PT := hide (rparse_any T w5 HT.out E.out)
      rw [hl] at PT
      clear hl hS1 hS2
      by_cases hc : rcode l = 0
      · have HC := hide hc
        obtain ⟨r2, hr2⟩ : ∃ r2, (rtk l).1.val = r2 := ⟨_, rfl⟩
        have PT2 := hide (PT.out.mono (fun e w' h => show ∃ v, e = .returned (.tuple #[v, .int .i64 0]) ∧ Rc w' v r2 600 ∧ Below w5.heap.size w5 w' from by obtain ⟨v, h1, h2⟩ := h.2.1 hc; rw [hr2] at h2; exact ⟨v, h1, h2, h.2.2⟩))
        clear PT hc hr2 HC
        refine PT2.out.mono ?_
        rintro e w6 ⟨vc, rfl, rc, bx⟩
        obtain ⟨sc, Ac, nc, cc, Dc, mc, dc, rfl, -, -, -⟩ := rc.lets
        have b9 := wbox w6 sc (.slice Ac nc cc) (.slice Dc mc dc)
        have bb := Below.step1 bx b9
        replace E := hide (E.out.step bb)
        replace B := hide (Below.step B.out B.out.size bb)
        have RC := hide (rc.step b9)
        have KC := hide (Rk.new w6 sc (.slice Ac nc cc) (.slice Dc mc dc))
        clear bx b9 bb rc PT2
        obtain ⟨p0, p1, p2, -, -, -⟩ := KC.out.all
        obtain ⟨hl1, hl2⟩ := RC.out.ra.lts (by omega)
        have HZ := hide (rtxt_le2 hl1 hl2)
        clear hl1 hl2
        go_wp2_with fail
        refine (rtext_r RC.out.ra (by omega) (by omega)).mono ?_
        rintro e w7 ⟨S3, rfl, hS3, bx⟩
        replace E := hide (E.out.step bx)
        replace RC := hide (RC.out.step bx)
        replace KC := hide (KC.out.step bx)
        replace B := hide (Below.step B.out B.out.size bx)
        clear bx p0 p1 p2
        have s3 : S3.size ≤ 100000 := by rw [bsize, hS3.out]; exact HZ.out
        by_cases hd : 200 < rdigits r2
        · have C := hide (show rcode S3.data.toList = 1 by rw [hS3.out]; exact rcode_rlong hd)
          clear hd HZ RC KC
          go_wp2_with fail
          refine (ps_err C.out (by omega) (by omega) E.out).mono ?_
          rintro e w8 ⟨rfl, bx⟩
          replace B := hide (Below.step B.out B.out.size bx)
          clear bx E C
          have b9 := wbox w8 false (.slice none 0 0) (.slice none 0 0)
          replace B := hide (Below.step B.out B.out.size b9)
          clear b9
          go_wp2_with fail
          go_ret
          exact ⟨rfl, B.out⟩
        · obtain ⟨hc1, hc2⟩ := rcode_rtxt (r := r2) (by omega)
          have PS := hide (ps_ok (S := S3) (r := r2) (w := w7) (by rw [hS3.out]; exact hc1) (by rw [hS3.out]; exact hc2) (by omega) E.out)
          clear hd HZ hc1 hc2
          go_wp2_with fail
          refine PS.out.mono ?_
          rintro e w8 ⟨vd, rfl, rd, bx⟩
          obtain ⟨sd, Ad, nd, cd, Dd, md, dd, rfl, -, -, -⟩ := rd.lets
          have b9 := wbox w8 sd (.slice Ad nd cd) (.slice Dd md dd)
          have bb := Below.step1 bx b9
          replace RC := hide (RC.out.step bb)
          replace KC := hide (KC.out.step bb)
          replace B := hide (Below.step B.out B.out.size bb)
          have RD := hide (rd.step b9)
          have KD := hide (Rk.new w8 sd (.slice Ad nd cd) (.slice Dd md dd))
          clear bx b9 bb rd PS E
          obtain ⟨p0, p1, p2, -, -, -⟩ := KC.out.all
          obtain ⟨q0, q1, q2, -, -, -⟩ := KD.out.all
          go_wp2_with fail
          refine (rsame_c RC.out RD.out).mono ?_
          rintro e w9 ⟨rfl, bx⟩
          replace B := hide (Below.step B.out B.out.size bx)
          clear bx RC RD KC KD p0 p1 p2 q0 q1 q2
          go_wp2_with fail
          go_ret
          exact ⟨rfl, B.out⟩
      · obtain ⟨q, hq⟩ : ∃ q, rcode l = q := ⟨_, rfl⟩
        have PT2 := hide (PT.out.mono (fun e w' h => show e = .returned (.tuple #[rv false (.slice none 0 0) (.slice none 0 0), .int .i64 (q : Int)]) ∧ Below w5.heap.size w5 w' from ⟨by rw [← hq]; exact h.1 hc, h.2.2⟩))
        have t4 : ((q : Int) != 0) = true := by rw [bne_iff_ne]; omega
        have t5 : ((q : Int) == 0) = false := by rw [beq_eq_false_iff_ne]; omega
        clear PT hc hq E
        refine PT2.out.mono ?_
        rintro e w6 ⟨rfl, bx⟩
        replace B := hide (Below.step B.out B.out.size bx)
        have b9 := wbox w6 false (.slice none 0 0) (.slice none 0 0)
        replace B := hide (Below.step B.out B.out.size b9)
        have KC := hide (Rk.new w6 false (.slice none 0 0) (.slice none 0 0))
        clear bx b9 PT2
        obtain ⟨p0, p1, p2, -, -, -⟩ := KC.out.all
        go_wp2_with fail
        refine (rsame_zero _).mono ?_
        rintro e w7 ⟨rfl, bx⟩
        replace B := hide (Below.step B.out B.out.size bx)
        clear bx KC p0 p1 p2
        go_wp2_with fail
        go_ret
        exact ⟨rfl, B.out⟩
end Go.Proofs.YtajjpepjbflojaaGreatDoor
