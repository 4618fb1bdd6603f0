/-
  The number that parts tell.
-/
import Derived.Test.YtajjpepjbflojaaGreatDoorRtx5

namespace Go.Proofs.YtajjpepjbflojaaGreatDoor
open Go.RowKit Go.Proofs.YtajjpepjbflojaaGreatDoor.Num
set_option linter.unusedVariables false
set_option linter.unusedSimpArgs false
set_option maxRecDepth 100000

structure NumOk (p : Pts) : Prop where
  hs : p.sg = [] ∨ p.sg = [43] ∨ p.sg = [45]
  ha : allDig p.ah = true
  h0 : p.ah ≠ []
  hu : allDig p.un = true
  hb : allDig p.be = true
  hx : allDig p.ex = true
  hl : p.count ≤ 200
  h9 : dval p.ex ≤ 99

theorem zp_ok {S : ByteArray} {l : List UInt8} {z : Int} (hl : S.data.toList = l) (hm : S.size ≤ 1000) (hc : zpcode l = 0) (hz : zval l = z) (w : World) :
    Calls Tryz.prog 52 #[.string S] w fun e w' => ∃ v, e = .returned (.tuple #[v, .int .i64 0]) ∧ Zi w' v z 200 ∧ Below w.heap.size w w' := by
  refine (zparse_any S w (by omega)).mono fun e w' h => ?_
  rw [hl] at h
  obtain ⟨-, h2, h3⟩ := h
  obtain ⟨v, a, b⟩ := h2 hc
  exact ⟨v, a, by rw [← hz]; exact b, h3⟩
theorem allDig_app {a b : List UInt8} (ha : allDig a = true) (hb : allDig b = true) : allDig (a ++ b) = true := by
  unfold allDig at *
  rw [List.all_append, ha, hb]; rfl
theorem pcode_ok {d : List UInt8} (hd : allDig d = true) (h0 : d ≠ []) (hl : d.length ≤ 200) : pcode d = 0 := by
  unfold pcode
  rw [if_neg (by simp [h0, hd]), if_neg (by omega)]
theorem zdig {d : List UInt8} (hd : allDig d = true) (h0 : d ≠ []) : zrest d = d ∧ zsign d = false := by
  cases d with
  | nil => exact absurd rfl h0
  | cons c r =>
    have h1 := allDig_mem hd (List.mem_cons_self)
    have n1 : c ≠ 45 := by rintro rfl; exact absurd h1 (by decide)
    have n2 : c ≠ 43 := by rintro rfl; exact absurd h1 (by decide)
    constructor
    · unfold zrest; split <;> first | rfl | (rename_i e; injection e with e1 e2; exact absurd e1 (by assumption))
    · unfold zsign; split <;> first | rfl | (rename_i e; injection e with e1 e2; exact absurd e1 (by assumption))
theorem zp_sg {s d : List UInt8} (hs : s = [] ∨ s = [43] ∨ s = [45]) (hd : allDig d = true) (h0 : d ≠ []) (hl : d.length ≤ 200) : zpcode (s ++ d) = 0 ∧ zval (s ++ d) = zi (s == [45]) (dval d) := by
  unfold zpcode zval
  rcases hs with rfl | rfl | rfl
  · rw [List.nil_append, (zdig hd h0).1, (zdig hd h0).2]; exact ⟨pcode_ok hd h0 hl, rfl⟩
  · exact ⟨pcode_ok hd h0 hl, rfl⟩
  · exact ⟨pcode_ok hd h0 hl, rfl⟩
theorem cat_list (a b : ByteArray) : (a ++ b).data.toList = a.data.toList ++ b.data.toList := by
  rw [ByteArray.data_append]; simp
/-- Reading the sign and the digits. -/
theorem num_read {p : Pts} {a b d : ByteArray} (ok : NumOk p) (ha : a.data.toList = p.sg) (hb : b.data.toList = p.ah) (hd : d.data.toList = p.be) (w : World) :
    Calls Tryz.prog 52 #[.string (a ++ b ++ d)] w fun e w' => ∃ v, e = .returned (.tuple #[v, .int .i64 0]) ∧ Zi w' v p.num 200 ∧ Below w.heap.size w w' := by
  have hl : (a ++ b ++ d).data.toList = p.sg ++ (p.ah ++ p.be) := by rw [cat_list, cat_list, ha, hb, hd, List.append_assoc]
  have hc := ok.hl
  unfold Pts.count at hc
  have hsg : p.sg.length ≤ 1 := by rcases ok.hs with h | h | h <;> rw [h] <;> simp
  obtain ⟨h1, h2⟩ := zp_sg ok.hs (allDig_app ok.ha ok.hb) (by simp [ok.h0]) (by rw [List.length_append]; omega)
  exact zp_ok hl (by rw [bsize, hl, List.length_append, List.length_append]; omega) h1 h2 w
theorem PB.step {w w' : World} {g : Nat} {a b c d f x : ByteArray} (h : PB w g a b c d f x) (hb : Below w.heap.size w w') : PB w' g a b c d f x := (hb.block g h.lt).trans h
theorem nworld (w : World) (a b c d f x : ByteArray) : Below w.heap.size w ((w.alloc (pblk a b c d f x)).alloc rblk) ∧ PB ((w.alloc (pblk a b c d f x)).alloc rblk) w.heap.size a b c d f x ∧ Rb ((w.alloc (pblk a b c d f x)).alloc rblk) (w.heap.size + 1) := by
  refine ⟨((Below.refl _ _).alloc (Nat.le_refl _) _).alloc (by simp) _, (Below.heap_alloc _ _ _ (by simp)).trans (heap_alloc_new w _), ?_⟩
  have h := heap_alloc_new (w.alloc (pblk a b c d f x)) rblk
  rw [World.size_alloc] at h
  exact h

set_option maxHeartbeats 4000000 in
theorem number_over {w : World} {p : Pts} {v : Value} (hp : Pv p v) (ok : NumOk p) (hun : p.un ≠ []) (h0 : dval p.un ≠ 0) : Calls Tryz.prog 31 #[v] w (RqRet w p.val 200) := by
  obtain ⟨a, b, c, d, f, x, rfl, ha, hb, hc, hd, hf, hx⟩ := hp
  obtain ⟨b0, hP, hZ⟩ := nworld w a b c d f x
  have NR := hide (num_read ok ha hb hd)
  have hcnt := ok.hl
  unfold Pts.count at hcnt
  have hsg : p.sg.length ≤ 1 := by rcases ok.hs with h | h | h <;> rw [h] <;> simp
  have s0 : a.size ≤ 1000 := by rw [bsize, ha]; omega
  have s1 : b.size ≤ 1000 := by rw [bsize, hb]; omega
  have s2 : c.size ≤ 1000 := by rw [bsize, hc]; omega
  have s3 : d.size ≤ 1000 := by rw [bsize, hd]; omega
  have e1 : c.toList.isEmpty = false := by rw [toList_data, hc]; exact ne_emp hun
  have UR := hide (fun W => zp_ok (z := ((dval p.un : Nat) : Int)) hc s2 (by unfold zpcode; rw [(zdig ok.hu hun).1]; exact pcode_ok ok.hu hun (by omega)) (by unfold zval; rw [(zdig ok.hu hun).1, (zdig ok.hu hun).2]; rfl) W)
  have HV := hide (show ((p.num : Int) : Rat) / (((dval p.un : Nat) : Int) : Rat) = p.val by unfold Pts.val; rw [if_neg hun])
  have H0 := hide (show ((dval p.un : Nat) : Int) ≠ 0 by omega)
  have P := hide hP
  have Z := hide hZ
  have B := hide b0
  obtain ⟨p0, p1, p2, p3, p4, p5⟩ := hP.cells6
  clear hP hZ b0 ha hb hc hd hf hx hcnt hsg ok hun h0
  go_enter Tryz.func31, Tryz.ntmps31
  go_wp2_with fail
  refine (NR.out _).mono ?_
  rintro e w1 ⟨v1, rfl, z1, b1⟩
  obtain ⟨sa, Aa, na, ca, rfl⟩ := z1.lets
  obtain ⟨b2, y0, y1⟩ := boxT w1 24 sa Aa na ca
  have bb := Below.step1 b1 b2
  have V1 := hide (z1.step b2)
  have P := hide (P.out.step bb)
  have Z := hide (Z.out.step bb)
  have B := hide (Below.step B.out B.out.size bb)
  have K1 := hide (Zk.new w1 sa (.slice Aa na ca))
  clear b1 b2 bb z1 NR p0 p1 p2 p3 p4 p5 y0 y1
  obtain ⟨-, -, p2, -, -, -⟩ := P.out.cells6
  go_wp2_with fail
  refine (UR.out _).mono ?_
  rintro e w2 ⟨v2, rfl, z2, b1⟩
  obtain ⟨sb, Ab, nb, cb, rfl⟩ := z2.lets
  obtain ⟨b2, y0, y1⟩ := boxT w2 24 sb Ab nb cb
  have bb := Below.step1 b1 b2
  have V2 := hide (z2.step b2)
  have V1 := hide (V1.out.step bb)
  have Z := hide (Z.out.step bb)
  have B := hide (Below.step B.out B.out.size bb)
  have K1 := hide (K1.out.step bb)
  obtain ⟨q0, q1, -, -⟩ := K1.out.all
  clear b1 b2 bb z2 UR p2 P
  go_wp2_with fail
  refine (make_r V1.out.za V2.out.za H0.out (by omega) (by omega) rfl).mono ?_
  rintro e w3 ⟨r, rfl, c2, b2⟩
  rw [HV.out] at c2
  obtain ⟨sg, A1, n1, c1', D1, m1, d1, rfl, k0, k1, k2, f0, f1, f2, fin⟩ := rret_fit (w0 := w) c2 (Z.out.step b2) (by omega) (Below.step B.out B.out.size b2)
  have F := hide fin
  clear fin c2 b2 Z B V1 V2 HV H0 K1 q0 q1 y0 y1
  go_wp2_with fail
  refine bodyPost_ret (rret2 rfl _ _ _ #[.bool sg, .slice A1 n1 c1', .slice D1 m1 d1] rfl rfl F.out.1) rfl ?_
  obtain ⟨-, v, e, h1, h2⟩ := F.out
  injection e with e
  subst e
  exact ⟨_, rfl, h1, h2⟩
set_option maxHeartbeats 4000000 in
theorem number_zero {w : World} {p : Pts} {v : Value} (hp : Pv p v) (ok : NumOk p) (hun : p.un ≠ []) (h0 : dval p.un = 0) : Calls Tryz.prog 31 #[v] w (RzRet w) := by
  obtain ⟨a, b, c, d, f, x, rfl, ha, hb, hc, hd, hf, hx⟩ := hp
  obtain ⟨b0, hP, hZ⟩ := nworld w a b c d f x
  have NR := hide (num_read ok ha hb hd)
  have hcnt := ok.hl
  unfold Pts.count at hcnt
  have hsg : p.sg.length ≤ 1 := by rcases ok.hs with h | h | h <;> rw [h] <;> simp
  have s0 : a.size ≤ 1000 := by rw [bsize, ha]; omega
  have s1 : b.size ≤ 1000 := by rw [bsize, hb]; omega
  have s2 : c.size ≤ 1000 := by rw [bsize, hc]; omega
  have s3 : d.size ≤ 1000 := by rw [bsize, hd]; omega
  have e1 : c.toList.isEmpty = false := by rw [toList_data, hc]; exact ne_emp hun
  have UR := hide (fun W => zp_ok (z := ((dval p.un : Nat) : Int)) hc s2 (by unfold zpcode; rw [(zdig ok.hu hun).1]; exact pcode_ok ok.hu hun (by omega)) (by unfold zval; rw [(zdig ok.hu hun).1, (zdig ok.hu hun).2]; rfl) W)
  have H0 := hide (show ((dval p.un : Nat) : Int) = 0 by omega)
  have P := hide hP
  have Z := hide hZ
  have B := hide b0
  obtain ⟨p0, p1, p2, p3, p4, p5⟩ := hP.cells6
  clear hP hZ b0 ha hb hc hd hf hx hcnt hsg ok hun h0
  go_enter Tryz.func31, Tryz.ntmps31
  go_wp2_with fail
  refine (NR.out _).mono ?_
  rintro e w1 ⟨v1, rfl, z1, b1⟩
  obtain ⟨sa, Aa, na, ca, rfl⟩ := z1.lets
  obtain ⟨b2, y0, y1⟩ := boxT w1 24 sa Aa na ca
  have bb := Below.step1 b1 b2
  have V1 := hide (z1.step b2)
  have P := hide (P.out.step bb)
  have Z := hide (Z.out.step bb)
  have B := hide (Below.step B.out B.out.size bb)
  have K1 := hide (Zk.new w1 sa (.slice Aa na ca))
  clear b1 b2 bb z1 NR p0 p1 p2 p3 p4 p5 y0 y1
  obtain ⟨-, -, p2, -, -, -⟩ := P.out.cells6
  go_wp2_with fail
  refine (UR.out _).mono ?_
  rintro e w2 ⟨v2, rfl, z2, b1⟩
  obtain ⟨sb, Ab, nb, cb, rfl⟩ := z2.lets
  obtain ⟨b2, y0, y1⟩ := boxT w2 24 sb Ab nb cb
  have bb := Below.step1 b1 b2
  have V2 := hide (z2.step b2)
  have V1 := hide (V1.out.step bb)
  have Z := hide (Z.out.step bb)
  have B := hide (Below.step B.out B.out.size bb)
  have K1 := hide (K1.out.step bb)
  obtain ⟨q0, q1, -, -⟩ := K1.out.all
  clear b1 b2 bb z2 UR p2 P
  go_wp2_with fail
  refine (make_zero V1.out.za (by have h := V2.out.za; rw [H0.out] at h; exact h) (by omega)).mono ?_
  rintro e w3 ⟨rfl, b2⟩
  obtain ⟨k0, k1, k2, f0, f1, f2, fin⟩ := zret_fit (w0 := w) (Z.out.step b2) (by omega) (Below.step B.out B.out.size b2)
  have F := hide fin
  clear fin b2 Z B V1 V2 H0 K1 q0 q1 y0 y1
  go_wp2_with fail
  exact bodyPost_ret (rret2 rfl _ _ _ #[.bool false, .slice none 0 0, .slice none 0 0] rfl rfl F.out.1) rfl ⟨rfl, F.out.2⟩
theorem num_lt {z sh : Int} {A M K : Nat} (hK : K = A + M) (hM : 1 ≤ M) (h2 : sh ≤ M) (hz : z.natAbs < Q ^ A) : (z * 10 ^ sh.toNat).natAbs < Q ^ K := by
  have h3 : (10 ^ sh.toNat : Nat) < Q ^ M := ten_lt (by omega) hM
  have h4 : ((10 : Int) ^ sh.toNat).natAbs = 10 ^ sh.toNat := by rw [Int.natAbs_pow]; rfl
  rw [Int.natAbs_mul, h4, hK, Nat.pow_add]
  exact Nat.mul_lt_mul'' hz h3

set_option maxHeartbeats 4000000 in
theorem number_shift {w : World} {p : Pts} {v : Value} (hp : Pv p v) (ok : NumOk p) (hun : p.un = []) (he : Ev w) : Calls Tryz.prog 31 #[v] w (RqRet w p.val 600) := by
  obtain ⟨a, b, c, d, f, x, rfl, ha, hb, hc, hd, hf, hx⟩ := hp
  obtain ⟨b0, hP, hZ⟩ := nworld w a b c d f x
  have NR := hide (num_read ok ha hb hd)
  have hcnt := ok.hl
  unfold Pts.count at hcnt
  have hsg : p.sg.length ≤ 1 := by rcases ok.hs with h | h | h <;> rw [h] <;> simp
  have s0 : a.size ≤ 1000 := by rw [bsize, ha]; omega
  have s1 : b.size ≤ 1000 := by rw [bsize, hb]; omega
  have s2 : c.size ≤ 1000 := by rw [bsize, hc]; omega
  have s3 : d.size ≤ 1000 := by rw [bsize, hd]; omega
  have e1 : c.toList.isEmpty = true := by rw [toList_data, hc, hun]; rfl
  have hxl : p.ex.length ≤ 200 := by omega
  have PW := hide (fun W (hE : Ev W) => power_any (w := W) (p := p) (v := pv a b c d f x) ⟨a, b, c, d, f, x, rfl, ha, hb, hc, hd, hf, hx⟩ ok.hx hxl hE)
  obtain ⟨n, hn⟩ : ∃ n : Nat, dval p.ex = n := ⟨_, rfl⟩
  have hn9 : n ≤ 99 := by rw [← hn]; exact ok.h9
  rw [pw_small ok.h9, hn] at PW
  obtain ⟨k, hk⟩ : ∃ k, d.size = k := ⟨_, rfl⟩
  have hk2 : p.be.length = k := by rw [← hk, bsize, hd]
  have hk9 : k ≤ 200 := by omega
  obtain ⟨sh, hsh⟩ : ∃ sh, p.sh = sh := ⟨_, rfl⟩
  have hsm : sh = (if f.toList = [45] then -(n : Int) else (n : Int)) - k := by rw [← hsh]; unfold Pts.sh; rw [hn, hk2, toList_data, hf]
  have HV := hide (show ((p.num * 10 ^ sh.toNat : Int) : Rat) / ((10 ^ (-sh).toNat : Int) : Rat) = p.val by unfold Pts.val; rw [if_pos hun, hsh])
  have HE := hide (he.step b0)
  have P := hide hP
  have Z := hide hZ
  have B := hide b0
  obtain ⟨p0, p1, p2, p3, p4, p5⟩ := hP.cells6
  have HK := hide hk
  have HSM := hide hsm
  clear hP hZ b0 ha hb hc hd hf hx hcnt hsg ok hun hk hsm hk2 hsh hn hxl he
  go_enter Tryz.func31, Tryz.ntmps31
  go_wp2_with fail
  refine (NR.out _).mono ?_
  rintro e w1 ⟨v1, rfl, z1, b1⟩
  obtain ⟨sa, Aa, na, ca, rfl⟩ := z1.lets
  have HN := hide (Nat.ne_of_gt (Z.out.step b1).lt)
  obtain ⟨b2, y0, y1⟩ := boxT w1 24 sa Aa na ca
  have bb := Below.step1 b1 b2
  have V1 := hide (z1.step b2)
  have P := hide (P.out.step bb)
  have Z := hide (Z.out.step bb)
  have B := hide (Below.step B.out B.out.size bb)
  have HE := hide (HE.out.step bb)
  have K1 := hide (Zk.new w1 sa (.slice Aa na ca))
  clear b1 b2 bb z1 NR p0 p1 p2 p3 p4 p5 y0 y1
  obtain ⟨p0, p1, p2, p3, p4, p5⟩ := P.out.cells6
  go_wp2_with fail
  refine (PW.out _ HE.out).mono ?_
  rintro e w2 ⟨rfl, bb⟩
  have V1 := hide (V1.out.step bb)
  have P := hide (P.out.step bb)
  have Z := hide (Z.out.step bb)
  have B := hide (Below.step B.out B.out.size bb)
  have K1 := hide (K1.out.step bb)
  clear bb HE PW p0 p1 p2 p3 p4 p5
  obtain ⟨p0, p1, p2, p3, p4, p5⟩ := P.out.cells6
  obtain ⟨q0, q1, -, -⟩ := K1.out.all
  have hcase : ∃ tg : Bool, (f.toList == [45]) = tg ∧ (tg = true → -(n : Int) - (d.size : Int) = sh) ∧ (tg = false → (n : Int) - (d.size : Int) = sh) := by
    have h1 := HSM.out
    have h2 := HK.out
    by_cases hg : f.toList = [45]
    · rw [if_pos hg] at h1
      exact ⟨true, by rw [hg]; rfl, (fun _ => by omega), fun h => by cases h⟩
    · rw [if_neg hg] at h1
      exact ⟨false, beq_eq_false_iff_ne.2 hg, (fun h => by cases h), fun _ => by omega⟩
  have hs1 : -299 ≤ sh := by have h1 := HSM.out; split at h1 <;> omega
  have hs2 : sh ≤ 99 := by have h1 := HSM.out; split at h1 <;> omega
  have hw := (show IntKind.i64.wrap (-sh) = -sh from IntWalk.i64_in _ (by omega))
  obtain ⟨tg, htg, hy, hn⟩ := hcase
  have T1 := hide (fun W => tento_z (M := 300) (by omega) (by omega) sh (by omega) (by omega) W)
  have T2 := hide (fun W => tento_z (M := 300) (by omega) (by omega) (-sh) (by omega) (by omega) W)
  clear HSM HK
  cases tg
  all_goals
    first | have e8 := hn rfl | have e8 := hy rfl
    clear hn hy
    go_wp2_with fail
    have bx := Below.drew (Below.refl w2.heap.size w2)
    replace q0 := cell_keep q0 bx
    replace q1 := cell_keep q1 bx
    have V1 := hide (V1.out.step bx)
    have Z := hide (Z.out.step bx)
    have B := hide (Below.step B.out B.out.size bx)
    have zV := V1.out.za
    clear bx p0 p1 p2 p3 p4 p5 P K1
    have KM := hide (num_lt (sh := sh) (A := 200) (M := 300) (K := 500) rfl (by omega) (by omega) zV.lt)
    have KB := hide (show (10 : Int) ^ (-sh).toNat ≠ 0 from Int.ne_of_gt (Int.pow_pos (by omega)))
    go_region_held3 (fun W => W.cell? ⟨w1.heap.size, 0, none⟩ = some (.bool sa) ∧ W.cell? ⟨w1.heap.size, 1, none⟩ = some (.slice Aa na ca))
      (first | with_reducible exact ⟨q0, q1⟩ | (refine ⟨?_, ?_⟩ <;> (repeat (first | (with_reducible assumption) | (with_reducible refine cell_keep ?_ (by with_reducible assumption)) | (with_reducible refine cell_rset ?_ (by exact HN.out) _ _ _)))))
      (first
        | (go_at_call 55; (with_reducible refine Calls.mono (T1.out _) ?_); rintro e wx ⟨v3, rfl, t3, bx⟩; replace t3 := t3.za)
        | (go_at_call 54; refine Calls.mono (zmul_a (a := p.num) (b := 10 ^ sh.toNat) (L := 200) (M := 300) (K := 500) ?_ ?_ (by omega) (by omega) KM.out) ?_; (focus ((repeat (first | (with_reducible assumption) | (with_reducible refine Za.step ?_ (by with_reducible assumption)))); done)); (focus ((repeat (first | (with_reducible assumption) | (with_reducible refine Za.step ?_ (by with_reducible assumption)))); done)); rintro e wx ⟨v4, rfl, t4, bx⟩; replace t4 := (t4.more (show 500 ≤ 600 by omega)).za)
        | (go_at_call 55; (with_reducible refine Calls.mono (T2.out _) ?_); rintro e wx ⟨v5, rfl, t5, bx⟩; replace t5 := (t5.more (show 300 ≤ 600 by omega)).za)
        | (go_at_call 53; refine Calls.mono (make_r (a := p.num * 10 ^ sh.toNat) (b := 10 ^ (-sh).toNat) (L := 600) (M := 600) ?_ ?_ KB.out (by omega) (by omega) rfl) ?_; (focus ((repeat (first | (with_reducible assumption) | (with_reducible refine Za.step ?_ (by with_reducible assumption)))); done)); (focus ((repeat (first | (with_reducible assumption) | (with_reducible refine Za.step ?_ (by with_reducible assumption)))); done)); rintro e wx ⟨v6, rfl, t6, bx⟩; rw [HV.out] at t6; have st : Below w2.drew.heap.size w2.drew wx := (by (repeat (first | (with_reducible assumption) | (with_reducible refine Below.step1 ?_ (by with_reducible assumption))))); obtain ⟨sg, A9, n9, c9, D9, m9, d9, rfl, k0, k1, k2, f0, f1, f2, fin⟩ := rret_fit (w0 := w) t6 (Z.out.step st) (by omega) (Below.step B.out B.out.size st)))
    all_goals
      have F := hide fin
      clear fin
      go_wp2_with fail
      refine bodyPost_ret (rret2 rfl _ _ _ #[.bool sg, .slice A9 n9 c9, .slice D9 m9 d9] rfl rfl F.out.1) rfl ?_
      obtain ⟨-, v, e, h1, h2⟩ := F.out
      injection e with e
      subst e
      exact ⟨_, rfl, h1, h2⟩
end Go.Proofs.YtajjpepjbflojaaGreatDoor
