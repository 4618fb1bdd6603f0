/-
  nat.addTimes and nat.Mul: exact, for all lists of words.
-/
import Derived.Test.YtkonakjchimniaaDoorSub
namespace Go.Proofs.YtkonakjchimniaaDoor
open Go.RowKit Go.Proofs.YtkonakjchimniaaDoor.Num
set_option linter.unusedVariables false
set_option maxRecDepth 100000

theorem at_step {k v wv z ov : Nat} {us zs ys : List Nat} (hu : us.length = k) (hz : zs.getD k 0 = z) (hy : ys.getD k 0 = v)
    (h : vl Q us + Q ^ k * ov = vl Q (zs.take k) + wv * vl Q (ys.take k)) :
    vl Q (us ++ [addLo z (addLo (mulLo v wv) ov 0) 0]) + Q ^ (k + 1) * (mulHi v wv + addCy (mulLo v wv) ov 0 + addCy z (addLo (mulLo v wv) ov 0) 0)
      = vl Q (zs.take (k + 1)) + wv * vl Q (ys.take (k + 1)) := by
  rw [vl_snoc, hu, take_next zs k z hz, take_next ys k v hy, Nat.pow_succ]
  have e1 := mul_spec v wv
  have e2 := add_spec (mulLo v wv) ov 0
  have e3 := add_spec z (addLo (mulLo v wv) ov 0) 0
  generalize addLo (mulLo v wv) ov 0 = l1 at *
  generalize addCy (mulLo v wv) ov 0 = c1 at *
  generalize addLo z l1 0 = l2 at *
  generalize addCy z l1 0 = c2 at *
  generalize mulHi v wv = hi at *
  generalize mulLo v wv = lo at *
  have key : l2 + Q * (hi + c1 + c2) = z + ov + v * wv := by
    rw [Nat.mul_add, Nat.mul_add]; omega
  have e4 : Q ^ k * l2 + Q ^ k * Q * (hi + c1 + c2) = Q ^ k * z + Q ^ k * ov + wv * (Q ^ k * v) := by
    rw [Nat.mul_assoc, ← Nat.mul_add, key, Nat.mul_add, Nat.mul_add, Nat.mul_comm v wv, Nat.mul_left_comm wv]
  rw [Nat.mul_add wv]
  omega
theorem at_bound {v wv z ov : Nat} (hv : v < Q) (hw : wv < Q) (hz : z < Q) (ho : ov < Q) :
    mulHi v wv + addCy (mulLo v wv) ov 0 + addCy z (addLo (mulLo v wv) ov 0) 0 < Q := by
  have e1 := mul_spec v wv
  have e2 := add_spec (mulLo v wv) ov 0
  have e3 := add_spec z (addLo (mulLo v wv) ov 0) 0
  have h := mul_add_two hv hw hz ho
  have key : Q * (mulHi v wv + addCy (mulLo v wv) ov 0 + addCy z (addLo (mulLo v wv) ov 0) 0) ≤ v * wv + z + ov := by
    rw [Nat.mul_add, Nat.mul_add]; omega
  exact Nat.lt_of_mul_lt_mul_left (Nat.lt_of_le_of_lt key h)

/-- What addTimes leaves: in the block g at off the sum's words, and what is carried over their end. -/
def AtRet (t : TypeId) (w : World) (g off : Nat) (C : Array Value) (n S : Nat) (e : Ending) (w' : World) : Prop :=
  ∃ (ov : Nat) (us : List Nat), e = .returned (.int .u64 (ov : Int)) ∧ ov < Q ∧ us.length = n ∧ Dg Q us ∧ vl Q us + Q ^ n * ov = S ∧ Row .u64 t w' g off C us ∧ w.grownBy w' (some g)

def AtRel (w : World) (g off n wv : Nat) (C : Array Value) (zs ys : List Nat) (cv iv : Value) (wr : World) : Prop :=
  ∃ (k ov : Nat) (us : List Nat), k ≤ n ∧ iv = .int .i64 (k : Int) ∧ cv = .int .u64 (ov : Int) ∧ ov < Q ∧ us.length = k ∧ Dg Q us ∧
    Hid (vl Q us + Q ^ k * ov = vl Q (zs.take k) + wv * vl Q (ys.take k)) ∧ Row .u64 71 wr g off C (us ++ zs.drop k) ∧ w.grownBy wr (some g)

theorem drop_set (us zs : List Nat) {k : Nat} (hu : us.length = k) (hk : k < zs.length) (x : Nat) : (us ++ zs.drop k).set k x = us ++ [x] ++ zs.drop (k + 1) := by
  subst hu
  rw [List.drop_eq_getElem_cons hk, List.set_append_right _ _ (Nat.le_refl _), Nat.sub_self, List.set_cons_zero]
  simp
theorem drop_getD (us zs : List Nat) {k : Nat} (hu : us.length = k) : (us ++ zs.drop k).getD k 0 = zs.getD k 0 := by
  simp only [List.getD_eq_getElem?_getD]
  rw [List.getElem?_append_right (by omega), List.getElem?_drop, hu]
  simp

set_option maxHeartbeats 2000000 in
theorem addTimes_any (B g off n c d wv : Nat) (D : Option Addr) (C : Array Value) (zs ys : List Nat) (w : World)
    (hr : Row .u64 71 w g off C zs) (hzn : zs.length = n) (hy : Rd .u64 w B D n ys) (hB : B ≤ w.heap.size) (hD : 0 < n → ∀ a, D = some a → a.block ≠ g)
    (dz : Dg Q zs) (dy : Dg Q ys) (hw : wv < Q) (hn : n ≤ 9223372036854775807) :
    Calls Tryd.prog 66 #[.slice (some ⟨g, off, none⟩) n c, .slice D n d, .int .u64 (wv : Int)] w (AtRet 71 w g off C n (vl Q zs + wv * vl Q ys)) := by
  have e0 : Hid (vl Q ([] : List Nat) + Q ^ 0 * 0 = vl Q (zs.take 0) + wv * vl Q (ys.take 0)) := hide (by simp [vl])
  have hzn' := hide hzn
  clear hzn
  go_enter Tryd.func66, Tryd.ntmps66
  go_wp2_with fail
  go_loopw [7, 15] (fun cv iv wr => AtRel w g off n wv C zs ys cv iv wr) (fun _ iv _ => n - (intOf iv).toNat)
  case atStart => exact ⟨0, 0, [], by omega, rfl, rfl, Q_pos, rfl, Dg.nil, e0, by simpa using hr, only_refl _ _⟩
  case round =>
    obtain ⟨k, ov, us, hk, rfl, rfl, hov, hu, du, hv, hrow, hg⟩ := hrel
    by_cases hlt : k < n
    · have hkz : k < zs.length := by rw [hzn'.out]; exact hlt
      obtain ⟨z, ez⟩ : ∃ z, Hid (zs.getD k 0 = z) := ⟨_, hide rfl⟩
      obtain ⟨v, ev⟩ : ∃ v, Hid (ys.getD k 0 = v) := ⟨_, hide rfl⟩
      have hy2 := hy.grownOff hg hB (hD (by omega))
      obtain ⟨bb, bo, rfl, _, hcy⟩ := hy2.at_ hlt
      rw [ev.out] at hcy
      have hll : k < (us ++ zs.drop k).length := by simp; omega
      have hcell := hrow.cell hll
      rw [drop_getD us zs hu, ez.out] at hcell
      have hfr := hrow.frozen (off + k)
      have bz : z < Q := by rw [← ez.out]; exact dz.getD Q_pos k
      have bv : v < Q := by rw [← ev.out]; exact dy.getD Q_pos k
      have hst := hrow.set_ hll (addLo z (addLo (mulLo v wv) ov 0) 0)
      rw [drop_set us zs hu hkz] at hst
      have hv2 := hide (at_step hu ez.out ev.out hv.out)
      have hbd := at_bound bv hw bz hov
      have hg2 := only_set (p := ⟨g, off + k, none⟩) hg rfl (.int .u64 ((addLo z (addLo (mulLo v wv) ov 0) 0 : Nat) : Int))
      have fin : AtRel w g off n wv C zs ys (.int .u64 ((mulHi v wv + addCy (mulLo v wv) ov 0 + addCy z (addLo (mulLo v wv) ov 0) 0 : Nat) : Int)) (.int .i64 ((k + 1 : Nat) : Int))
          (wr.setCell ⟨g, off + k, none⟩ (.int .u64 ((addLo z (addLo (mulLo v wv) ov 0) 0 : Nat) : Int))) :=
        ⟨k + 1, _, _, by omega, rfl, rfl, hbd, by simp [hu], du.append (Dg.cons (addLo_lt _ _ _) Dg.nil), hv2, hst, hg2⟩
      have hm := mul64 v wv bv hw wr
      have a1 := add64_0 (mulLo v wv) ov
      have a2 := add64_0 z (addLo (mulLo v wv) ov 0)
      generalize addLo z (addLo (mulLo v wv) ov 0) 0 = l2 at *
      generalize addCy z (addLo (mulLo v wv) ov 0) 0 = c2 at *
      generalize addLo (mulLo v wv) ov 0 = l1 at *
      generalize addCy (mulLo v wv) ov 0 = c1 at *
      generalize mulLo v wv = lo at *
      generalize mulHi v wv = hi at *
      have b1 : (hi : Int) + (c1 : Int) + (c2 : Int) ≤ 18446744073709551615 := by unfold Q at hbd; omega
      clear hst hv2 hg2 hbd hu du hv hrow hg hll hkz bz bv hy hy2 hB hD dz dy hw hr e0 hzn' hov ez ev
      go_wp2_with (go_at_call 94; refine hm.mono ?_; rintro e w' ⟨rfl, rfl⟩)
      go_roundw
      case rel => exact fin
      case measure => simp [intOf]; omega
    · obtain rfl : k = n := by omega
      have e := hv.out
      rw [List.take_of_length_le (by rw [hzn'.out]; exact Nat.le_refl _), List.take_of_length_le (by rw [hy.1]; exact Nat.le_refl _)] at e
      rw [List.drop_eq_nil_of_le (by rw [hzn'.out]; exact Nat.le_refl _), List.append_nil] at hrow
      have fin : AtRet 71 w g off C k (vl Q zs + wv * vl Q ys) (.returned (.int .u64 (ov : Int))) wr := ⟨ov, us, rfl, hov, hu, du, e, hrow, hg⟩
      clear e hrow hv hu du hg hy hB hD dz dy hw hr e0 hzn' hov
      go_wp2_with fail
      go_ret
      exact fin

/-- The first words of a list, as a slice of its own. -/
theorem clip_get (B : Nat) (A : Option Addr) (n c : Nat) (xs : List Nat) (w : World) (h : Rd .u64 w B A n xs) (hnc : n ≤ c) (hc : c ≤ maxLen) :
    ∃ A' c', (tz xs).length ≤ c' ∧ c' ≤ maxLen ∧ Rd .u64 w B A' (tz xs).length (tz xs) ∧ (∀ a, A' = some a → A = some a) ∧
      Calls Tryd.prog 50 #[.slice A n c] w fun e w' => e = .returned (.slice A' (tz xs).length c') ∧ w = w' := by
  have hcl := clip_any B A n c xs w h hnc hc
  have hl := tz_length_le xs
  have hn := h.1
  rcases Nat.eq_zero_or_pos (tz xs).length with h0 | h0
  · rw [h0, clipV_zero] at hcl
    rw [h0, List.eq_nil_of_length_eq_zero h0]
    exact ⟨none, 0, Nat.le_refl _, by simp [maxLen], Rd.nil, (fun a h => by cases h), hcl⟩
  · rw [clipV_pos _ _ h0] at hcl
    refine ⟨A, c, by omega, hc, ?_, fun a h => h, hcl⟩
    have h1 := h.first (m := (tz xs).length) (by omega)
    rw [← tz_take] at h1
    exact h1

def MulRel (w : World) (p q bv : Nat) (xs : List Nat) (iv : Value) (wr : World) : Prop :=
  ∃ (k : Nat) (us : List Nat), k ≤ p ∧ iv = .int .i64 (k : Int) ∧ us.length = k + q ∧ Dg Q us ∧ Hid (vl Q us = vl Q (xs.take k) * bv) ∧
    Row .u64 71 wr w.heap.size 0 (madeCells #[.int .u64 0] (p + q)) (us ++ List.replicate (p - k) 0) ∧ Below w.heap.size w wr

theorem mul_step {k q x bv ov : Nat} {us vs xs ys : List Nat} (hu : us.length = k + q) (hv : vs.length = q) (hx : xs.getD k 0 = x) (hb : bv = vl Q ys)
    (h : vl Q us = vl Q (xs.take k) * bv) (ha : vl Q vs + Q ^ q * ov = vl Q (us.drop k) + x * vl Q ys) :
    vl Q (us.take k ++ vs ++ [ov]) = vl Q (xs.take (k + 1)) * bv := by
  have hl : (us.take k).length = k := by rw [List.length_take]; omega
  rw [take_next xs k x hx, vl_snoc, vl_append, List.length_append, hl, hv]
  have e1 := vl_split Q us k (by omega)
  have e2 : Q ^ k * vl Q vs + Q ^ (k + q) * ov = Q ^ k * vl Q (us.drop k) + Q ^ k * x * bv := by
    rw [Nat.pow_add, Nat.mul_assoc, ← Nat.mul_add, ha, Nat.mul_add, hb, Nat.mul_assoc]
  rw [Nat.add_mul, ← h]
  omega

set_option maxHeartbeats 2000000 in
theorem mul_any (A D : Option Addr) (n c m d : Nat) (xs ys : List Nat) (w : World) (hx : Rd .u64 w w.heap.size A n xs) (hy : Rd .u64 w w.heap.size D m ys)
    (dx : Dg Q xs) (dy : Dg Q ys) (hnc : n ≤ c) (hc : c ≤ maxLen) (hmd : m ≤ d) (hd : d ≤ maxLen) (hn : n ≤ 17592186044416) (hm : m ≤ 17592186044416) :
    Calls Tryd.prog 22 #[.slice A n c, .slice D m d] w (OwnRet .u64 71 w (cn Q (vl Q xs * vl Q ys))) := by
  obtain ⟨A', c', hpc, hcm, hx', -, cx⟩ := clip_get _ A n c xs w hx hnc hc
  obtain ⟨D', d', hqd, hdm, hy', -, cy⟩ := clip_get _ D m d ys w hy hmd hd
  rw [← tz_vl Q xs, ← tz_vl Q ys]
  have lx := tz_length_le xs
  have ly := tz_length_le ys
  have hx1 := hx.1
  have hy1 := hy.1
  have dx := tz_dg dx
  have dy := tz_dg dy
  generalize tz xs = xs at *
  generalize tz ys = ys at *
  obtain ⟨p, hp⟩ : ∃ p, p = xs.length := ⟨_, rfl⟩
  obtain ⟨q, hq⟩ : ∃ q, q = ys.length := ⟨_, rfl⟩
  rw [← hp] at cx hpc hx' lx
  rw [← hq] at cy hqd hy' ly
  have bp : p ≤ 17592186044416 := by omega
  have bq : q ≤ 17592186044416 := by omega
  have hmk := make_u64 (p + q) (by omega)
  rw [Int.natCast_add] at hmk
  have Hp := hide hp
  have Hq := hide hq
  clear hp hq
  have e0 : Hid (vl Q (List.replicate q 0) = vl Q (xs.take 0) * vl Q ys) := hide (by rw [vl_replicate]; simp [vl])
  clear hx1 hy1 hx hy lx ly hn hm hnc hmd hc hd
  unfold maxLen at hcm hdm
  go_enter Tryd.func22, Tryd.ntmps22
  go_wp2_with (first
    | (go_at_call 50; (with_reducible refine cx.mono ?_); rintro e w' ⟨rfl, rfl⟩)
    | (go_at_call 50; (with_reducible refine cy.mono ?_); rintro e w' ⟨rfl, rfl⟩))
  go_loopw [20] (fun iv wr => MulRel w p q (vl Q ys) xs iv wr) (fun iv _ => p - (intOf iv).toNat)
  case atStart =>
    refine ⟨0, List.replicate q 0, Nat.zero_le _, rfl, by simp, Dg.replicate Q_pos q, e0, ?_, (Below.refl _ _).alloc (Nat.le_refl _) _⟩
    have h := Row.made w .u64 71 (p + q)
    rw [List.replicate_append_replicate, show q + (p - 0) = p + q by omega]
    exact h
  case round =>
    obtain ⟨k, us, hk, rfl, hu, du, hv, hrow, hbel⟩ := hrel
    clear cx cy hmk e0
    by_cases hlt : k < p
    · obtain ⟨r, hr⟩ : ∃ r, p - k = r + 1 := ⟨p - k - 1, by omega⟩
      obtain ⟨x, ex⟩ : ∃ x, Hid (xs.getD k 0 = x) := ⟨_, hide rfl⟩
      have bx : x < Q := by rw [← ex.out]; exact dx.getD Q_pos k
      have hx2 := hx'.below hbel (Nat.le_refl _)
      have hy2 := hy'.below hbel (Nat.le_refl _)
      obtain ⟨bb, bo, rfl, _, hcx⟩ := hx2.at_ hlt
      rw [ex.out] at hcx
      rw [hr] at hrow
      obtain ⟨C', hwin, hback⟩ := hrow.window k q (by rw [fill_len]; omega)
      have ew : ((us ++ List.replicate (r + 1) 0).drop k).take q = us.drop k := by
        rw [List.drop_append_of_le_length (by omega), List.take_append_of_le_length (by simp; omega), List.take_of_length_le (by simp; omega)]
      rw [ew] at hwin
      have ht := addTimes_any w.heap.size w.heap.size k q (p + q - k) d' x D' C' (us.drop k) ys wr hwin (by simp; omega) hy2 hbel.size
        (fun h0 a ha => by
          obtain ⟨b1, o1, h1, h2, _⟩ := hy2.at_ h0
          rw [ha] at h1
          cases h1
          simp; omega)
        (du.drop k) dy bx (by omega)
      have hfr := hrow.frozen (k + q)
      have hback2 : ∀ (W : World) (vs : List Nat) (ov : Nat), AtRet 71 wr w.heap.size k C' q (vl Q (us.drop k) + x * vl Q ys) (.returned (.int .u64 (ov : Int))) W →
          (∃ v0 : Int, W.cell? ⟨w.heap.size, k + q, none⟩ = some (.int .u64 v0)) ∧ W.frozen? ⟨w.heap.size, k + q, none⟩ = false ∧
            MulRel w p q (vl Q ys) xs (.int .i64 ((k + 1 : Nat) : Int)) (W.setCell ⟨w.heap.size, k + q, none⟩ (.int .u64 (ov : Int))) := by
        rintro W _ ov ⟨ov', vs, he, hov, hvl, dv, hsum, hrw, hgr⟩
        have : ov = ov' := by injection he with he; injection he with _ he; omega
        subst this
        have hj := hback W vs hvl hrw
        have ej : (us ++ List.replicate (r + 1) 0).take k ++ vs ++ (us ++ List.replicate (r + 1) 0).drop (k + q) = (us.take k ++ vs) ++ List.replicate (r + 1) 0 := by
          rw [List.take_append_of_le_length (by omega), List.drop_append_of_le_length (by omega), List.drop_eq_nil_of_le (by omega)]; simp
        rw [ej] at hj
        have hlen : (us.take k ++ vs).length = k + q := by simp; omega
        have hjl : k + q < ((us.take k ++ vs) ++ List.replicate (r + 1) 0).length := by rw [fill_len]; omega
        have hc := hj.cell hjl
        have hs := hj.set_ hjl ov
        rw [Nat.zero_add] at hc hs
        have es : ((us.take k ++ vs) ++ List.replicate (r + 1) 0).set (k + q) ov = (us.take k ++ vs ++ [ov]) ++ List.replicate (p - (k + 1)) 0 := by
          rw [← hlen, fill_set]; congr 2; omega
        rw [es] at hs
        refine ⟨⟨_, hc⟩, hj.frozen _, k + 1, us.take k ++ vs ++ [ov], by omega, rfl, by simp; omega, ((du.take k).append dv).append (Dg.cons hov Dg.nil), hide (mul_step hu hvl ex.out rfl hv.out hsum), hs, ?_⟩
        exact (below_only hbel hgr hbel.size (Nat.le_refl _)).setCell (Nat.le_refl _) _
      have hbig : (k : Int) + (q : Int) ≤ (p : Int) + (q : Int) := by omega
      clear hwin hback ew hrow hv hu du hbel ex bx hx2 hy2 dx dy hx' hy' hr Hp Hq hpc hqd
      go_wp2_with (go_at_call 66; refine ht.mono ?_; rintro e W hret; obtain ⟨ov, vs, rfl, hov, hr2⟩ := hret; obtain ⟨⟨v0, hc0⟩, hf0, hrel2⟩ := hback2 W vs ov ⟨ov, vs, rfl, hov, hr2⟩; clear hr2 hov hback2)
      go_roundw
      case rel => exact hrel2
      case measure => simp [intOf]; omega
    · obtain rfl : k = p := by omega
      simp only [Nat.sub_self, List.replicate_zero, List.append_nil] at hrow
      have hcl := clip_any (w.heap.size + 1) (some ⟨w.heap.size, 0, none⟩) (k + q) (k + q) us wr ⟨hu, fun _ => ⟨_, _, rfl, by omega, fun j hj => hrow.cell (by omega)⟩⟩ (Nat.le_refl _) (by unfold maxLen; omega)
      have e := hv.out
      rw [List.take_of_length_le (by rw [← Hp.out]; exact Nat.le_refl _)] at e
      have fin : OwnRet .u64 71 w (cn Q (vl Q xs * vl Q ys)) (.returned (clipV (some ⟨w.heap.size, 0, none⟩) (tz us).length (k + q))) wr := by
        rw [← e, cn_vl Q_two du]
        exact ⟨_, rfl, own_clip hrow (Nat.le_refl _) (by rw [size_madeCells]) (by unfold maxLen; omega), hbel⟩
      clear e hrow hv hu du hbel dx dy hx' hy' Hp Hq hpc hqd
      go_wp2_with (go_at_call 50; refine hcl.mono ?_; rintro e w' ⟨rfl, rfl⟩)
      go_ret
      exact fin
end Go.Proofs.YtkonakjchimniaaDoor
