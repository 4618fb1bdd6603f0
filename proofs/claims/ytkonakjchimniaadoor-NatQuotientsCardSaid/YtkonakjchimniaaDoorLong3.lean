/-
  nat.divLong: as it is done by hand.
-/
import Derived.Test.YtkonakjchimniaaDoorLong2
import Derived.Test.YtkonakjchimniaaDoorBit
namespace Go.Proofs.YtkonakjchimniaaDoor
open Go.RowKit Go.Proofs.YtkonakjchimniaaDoor.Num
set_option linter.unusedVariables false
set_option maxRecDepth 100000

theorem lz_more {t s : Nat} (hs : s ≤ 63) (h : t * 2 ^ s < Q) : (t + 1) * 2 ^ s ≤ Q := by
  have hQ : Q = 2 ^ (64 - s) * 2 ^ s := by rw [← Nat.pow_add, show 64 - s + s = 64 by omega]; rfl
  rw [hQ] at h ⊢
  have := Nat.lt_of_mul_lt_mul_right h
  exact Nat.mul_le_mul_right _ this
theorem dl_top {p t s : Nat} {ys : List Nat} (hs : s ≤ 63) (hy : ys.length = p + 1) (dy : Dg Q ys) (ht : ys.getD p 0 = t) (h : t * 2 ^ s < Q) (h63 : 9223372036854775808 ≤ t * 2 ^ s) :
    2 ^ s * vl Q ys < Q ^ (p + 1) ∧ 9223372036854775808 * Q ^ p ≤ 2 ^ s * vl Q ys := by
  have e0 := take_next ys p t ht
  rw [List.take_of_length_le (by omega)] at e0
  have hl := vl_take_lt Q_pos dy p
  have hm := lz_more hs h
  constructor
  · have h1 : vl Q ys < (t + 1) * Q ^ p := by rw [e0, Nat.add_mul, Nat.one_mul, Nat.mul_comm t]; omega
    have h2 : 2 ^ s * vl Q ys < 2 ^ s * ((t + 1) * Q ^ p) := Nat.mul_lt_mul_of_pos_left h1 (Nat.pow_pos (by omega))
    have h3 : (t + 1) * 2 ^ s * Q ^ p ≤ Q * Q ^ p := Nat.mul_le_mul_right _ hm
    rw [Nat.pow_succ, Nat.mul_comm (Q ^ p)]
    refine Nat.lt_of_lt_of_le h2 (Nat.le_trans (Nat.le_of_eq ?_) h3)
    rw [← Nat.mul_assoc, Nat.mul_comm (2 ^ s)]
  · have h1 : t * Q ^ p ≤ vl Q ys := by rw [e0, Nat.mul_comm t]; omega
    have h2 : 2 ^ s * (t * Q ^ p) ≤ 2 ^ s * vl Q ys := Nat.mul_le_mul_left _ h1
    refine Nat.le_trans (Nat.le_trans (Nat.mul_le_mul_right _ h63) (Nat.le_of_eq ?_)) h2
    rw [← Nat.mul_assoc, Nat.mul_comm (2 ^ s)]

/-- The stretch that is divided is all that is left from there on. -/
theorem dl_part {i lb Yp : Nat} {rs : List Nat} (dr : Dg Q rs) (hY : Yp < Q ^ lb) (hR : vl Q (rs.drop (i + 1)) < Yp) :
    vl Q ((rs.drop i).take (lb + 1)) = vl Q (rs.drop i) ∧ vl Q (rs.drop i) < Yp * Q ∧ vl Q (rs.drop (i + (lb + 1))) = 0 := by
  have h1 := vl_drop Q rs i
  have hx : rs.getD i 0 < Q := dr.getD Q_pos i
  have h2 : vl Q (rs.drop i) < Yp * Q := by
    rw [h1]
    have h3 : Q * (vl Q (rs.drop (i + 1)) + 1) ≤ Q * Yp := Nat.mul_le_mul_left _ hR
    rw [Nat.mul_add, Nat.mul_comm Q Yp] at h3
    omega
  have h4 := vl_cut Q (rs.drop i) (lb + 1)
  rw [List.drop_drop] at h4
  have h5 : vl Q (rs.drop (i + (lb + 1))) = 0 := by
    rcases Nat.eq_zero_or_pos (vl Q (rs.drop (i + (lb + 1)))) with h | h
    · exact h
    · have h6 : Q ^ (lb + 1) * 1 ≤ Q ^ (lb + 1) * vl Q (rs.drop (i + (lb + 1))) := Nat.mul_le_mul_left _ h
      have h7 : Yp * Q ≤ Q ^ lb * Q := Nat.mul_le_mul_right _ (Nat.le_of_lt hY)
      have h8 : Q ^ (lb + 1) = Q ^ lb * Q := Nat.pow_succ ..
      omega
  rw [h5, Nat.mul_zero, Nat.add_zero] at h4
  exact ⟨h4.symm, h2, h5⟩
/-- One word of the quotient more. -/
theorem dl_step {i lb Yp S q : Nat} {rs qs us : List Nat} (hi : i ≤ rs.length) (hu : us.length = lb + 1) (h0 : vl Q (rs.drop (i + (lb + 1))) = 0)
    (hv : vl Q us + q * Yp = vl Q (rs.drop i)) (h : vl Q rs + Yp * Q ^ (i + 1) * vl Q qs = S) :
    vl Q (rs.take i ++ us ++ rs.drop (i + (lb + 1))) + Yp * Q ^ i * vl Q (q :: qs) = S ∧ vl Q ((rs.take i ++ us ++ rs.drop (i + (lb + 1))).drop i) = vl Q us := by
  have hl : (rs.take i).length = i := by rw [List.length_take]; omega
  constructor
  · rw [vl_append, vl_append, h0, Nat.mul_zero, Nat.add_zero, hl, ← h, vl_split Q rs i hi, ← hv, Nat.pow_succ]
    simp only [vl]
    rw [Nat.mul_add (Q ^ i), Nat.mul_add (Yp * Q ^ i)]
    have e1 : Yp * Q ^ i * q = Q ^ i * (q * Yp) := by ac_rfl
    have e2 : Yp * Q ^ i * (Q * vl Q qs) = Yp * (Q ^ i * Q) * vl Q qs := by ac_rfl
    omega
  · rw [List.append_assoc, List.drop_append_of_le_length (by omega), List.drop_of_length_le (by omega), List.nil_append, vl_append, h0, Nat.mul_zero, Nat.add_zero]

def DlOut (t : TypeId) (w : World) (G2 G3 la lb M Yp S : Nat) (bs : List Nat) (iv : Value) (wr : World) : Prop :=
  ∃ (k : Nat) (rs qs : List Nat), k ≤ M ∧ iv = .int .i64 ((k : Int) - 1) ∧ Hid (rs.length = la + 1) ∧ Hid (Dg Q rs) ∧ Hid (qs.length + k = M) ∧ Hid (Dg Q qs) ∧
    Hid (vl Q rs + Yp * Q ^ k * vl Q qs = S) ∧ Hid (vl Q (rs.drop k) < Yp) ∧ Rd .u64 wr (w.heap.size + 1) (some ⟨w.heap.size, 0, none⟩) lb bs ∧
    Row .u64 t wr G2 0 (madeCells #[.int .u64 0] (la + 1)) rs ∧ Row .u64 t wr G3 0 (madeCells #[.int .u64 0] M) (List.replicate k 0 ++ qs) ∧ Below w.heap.size w wr
def DlIn (t : TypeId) (wo : World) (G2 i lb V Yp : Nat) (C : Array Value) (wv ov : Value) (wr : World) : Prop :=
  ∃ (q : Nat) (o : Bool) (us : List Nat), wv = .int .u64 (q : Int) ∧ ov = .bool o ∧ q < Q ∧ Hid (V / Yp ≤ q) ∧ Hid (us.length = lb + 1) ∧ Hid (Dg Q us) ∧
    Hid (vl Q us + q * Yp = V + (if o then Q ^ (lb + 1) else 0)) ∧ Row .u64 t wr G2 i C us ∧ wo.grownBy wr (some G2)
/-- What it leaves: two lists of words, the quotient's and the rest's. -/
def DlRet (t : TypeId) (w : World) (M N X Y : Nat) (e : Ending) (w' : World) : Prop :=
  ∃ (g h : Nat) (us vs : List Nat), e = .returned (.tuple #[.slice (some ⟨g, 0, none⟩) M M, .slice (some ⟨h, 0, none⟩) N N]) ∧ w.heap.size ≤ g ∧ g < h ∧ us.length = M ∧ vs.length = N ∧ Dg Q us ∧ Dg Q vs ∧
    vl Q us = X / Y ∧ vl Q vs = X % Y ∧ Row .u64 t w' g 0 (madeCells #[.int .u64 0] M) us ∧ Row .u64 t w' h 0 (madeCells #[.int .u64 0] N) vs ∧ Below w.heap.size w w'

theorem dl_quo {V Yp q u : Nat} (hq : V / Yp ≤ q) (h : u + q * Yp = V) (hY : 0 < Yp) : u < Yp := by
  have h1 : q ≤ V / Yp := (Nat.le_div_iff_mul_le hY).2 (by omega)
  have h2 : q = V / Yp := Nat.le_antisymm h1 hq
  have h3 := Nat.div_add_mod' V Yp
  rw [← h2] at h3
  have h4 := Nat.mod_lt V hY
  omega

theorem dl_take {wo W : World} {G1 G2 j n cap d q V Yp : Nat} {C' : Array Value} {zs bs : List Nat} (hbase : ∀ w', W.grownBy w' (some G2) → wo.grownBy w' (some G2))
    (hwin : Row .u64 71 W G2 j C' zs) (hzl : zs.length = n + 1) (hrb : Rd .u64 W (G1 + 1) (some ⟨G1, 0, none⟩) n bs) (hB : G1 + 1 ≤ W.heap.size)
    (hne : ∀ a, (some ⟨G1, 0, none⟩ : Option Addr) = some a → a.block ≠ G2) (dz : Dg Q zs) (dbs : Dg Q bs) (hq : q < Q) (hn : n ≤ 4611686018427387904) (e1 : vl Q zs = V) (hbv : vl Q bs = Yp) (hle : V / Yp ≤ q) :
    Calls Tryd.prog 87 #[.slice (some ⟨G2, j, none⟩) (n + 1) cap, .slice (some ⟨G1, 0, none⟩) n d, .int .u64 (q : Int)] W
      (fun e w' => ∃ o : Bool, e = .returned (.bool o) ∧ DlIn 71 wo G2 j n V Yp C' (.int .u64 (q : Int)) (.bool o) w') := by
  have h := takeTimes_any (G1 + 1) G2 j n cap d q (some ⟨G1, 0, none⟩) C' zs bs W hwin hzl hrb hB (fun _ => hne) dz dbs hq hn
  rw [e1, hbv] at h
  refine h.mono ?_
  rintro e w' ⟨bw, us, he, hbw, hul, du, hsum, hrw, hgr⟩
  refine ⟨decide (bw = 1), he, q, decide (bw = 1), us, rfl, rfl, hq, hide hle, hide hul, hide du, hide ?_, hrw, hbase w' hgr⟩
  rw [hsum]
  rcases Nat.eq_zero_or_pos bw with h0 | h0
  · subst h0; rw [Nat.mul_zero]; rfl
  · have h1 : bw = 1 := Nat.le_antisymm hbw h0
    subst h1; rw [Nat.mul_one]; rfl

set_option maxHeartbeats 8000000 in
theorem divLong_any (A D : Option Addr) (la c p d : Nat) (xs ys : List Nat) (w : World) (hx : Rd .u64 w w.heap.size A la xs) (hy : Rd .u64 w w.heap.size D (p + 1) ys) (dx : Dg Q xs) (dy : Dg Q ys)
    (hp : 1 ≤ p) (hlb : p + 1 ≤ la) (hla : la ≤ 17592186044000) (htop : ys.getD p 0 ≠ 0) :
    Calls Tryd.prog 52 #[.slice A la c, .slice D (p + 1) d] w (DlRet 71 w (la - p) (la + 1) (vl Q xs) (vl Q ys)) := by
  obtain ⟨t, ht⟩ : ∃ t, ys.getD p 0 = t := ⟨_, rfl⟩
  rw [ht] at htop
  have htQ : t < Q := by rw [← ht]; exact dy.getD Q_pos p
  have hz := Tryd.bits_LeadingZeros64 (t : Int) w (by omega) (by unfold Q at htQ; omega)
  rw [Int.toNat_natCast] at hz
  obtain ⟨es, hs63, hYQ, hY63⟩ := lz_spec (y := t) htop htQ
  rw [es] at hz
  clear es
  have hz := hz.mono (fun _ _ h => (⟨h.1, h.2.symm⟩ : _ ∧ w = _))
  obtain ⟨s, hs⟩ : ∃ s, lz t = s := ⟨_, rfl⟩
  rw [hs] at hz hs63 hYQ hY63
  obtain ⟨hfitY, htopY⟩ := dl_top hs63 hy.1 dy ht hYQ hY63
  have hupY := up_any D (p + 1) d s (p + 1) ys w hy dy (by omega) (by omega) (by omega) (by omega) hfitY
  have hfitX : 2 ^ s * vl Q xs < Q ^ (la + 1) := by
    have h1 := vl_lt dx
    rw [hx.1] at h1
    have h2 : 2 ^ s ≤ Q := by
      have := lz_more hs63 hYQ
      rw [Nat.add_mul, Nat.one_mul] at this
      omega
    rw [Nat.pow_succ, Nat.mul_comm (Q ^ la)]
    exact Nat.lt_of_lt_of_le (Nat.mul_lt_mul_of_pos_left h1 (Nat.pow_pos (by omega))) (Nat.mul_le_mul_right _ h2)
  have hupX : Hid (∀ W, Below w.heap.size w W → Calls Tryd.prog 85 #[.slice A la c, .int .i64 (s : Int), .int .i64 ((la : Int) + 1)] W (WordsRet 71 W (la + 1) (2 ^ s * vl Q xs))) := hide (fun W hb => by
    have h := up_any A la c s (la + 1) xs W ((hx.below hb (Nat.le_refl _)).more hb.size) dx (by omega) (by omega) (by omega) (by omega) hfitX
    rwa [Int.natCast_succ] at h)
  have hstart : Hid (2 ^ s * vl Q xs < 2 ^ s * vl Q ys * Q ^ (la - p)) := hide (by
    have h1 := vl_lt dx
    rw [hx.1] at h1
    have h2 : 2 ^ s ≤ 9223372036854775808 := by
      have := Nat.pow_le_pow_right (show 0 < 2 by omega) hs63
      exact this
    have h3 : 2 ^ s * vl Q xs < 2 ^ s * Q ^ la := Nat.mul_lt_mul_of_pos_left h1 (Nat.pow_pos (by omega))
    have h4 : 2 ^ s * Q ^ la ≤ 9223372036854775808 * Q ^ la := Nat.mul_le_mul_right _ h2
    have h5 : 9223372036854775808 * Q ^ p * Q ^ (la - p) ≤ 2 ^ s * vl Q ys * Q ^ (la - p) := Nat.mul_le_mul_right _ htopY
    rw [Nat.mul_assoc, ← Nat.pow_add, show p + (la - p) = la by omega] at h5
    omega)
  have hposY : Hid (0 < 2 ^ s * vl Q ys) := hide (Nat.lt_of_lt_of_le (Nat.mul_pos (by omega) (Nat.pow_pos Q_pos)) htopY)
  obtain ⟨bb, ob, hD, _, hcell⟩ := hy.at_ (show p < p + 1 by omega)
  subst hD
  rw [ht] at hcell
  obtain ⟨M, hM⟩ : ∃ M, la - p = M := ⟨_, rfl⟩
  have hmk := make_u64 M (by omega)
  have eM : (la : Int) - ((p : Int) + 1) + 1 = (M : Int) := by omega
  obtain ⟨X, hX⟩ : ∃ X, Hid (vl Q xs = X) := ⟨_, hide rfl⟩
  obtain ⟨Y, hY⟩ : ∃ Y, Hid (vl Q ys = Y) := ⟨_, hide rfl⟩
  obtain ⟨Yp, hYp⟩ : ∃ Yp, Hid (2 ^ s * Y = Yp) := ⟨_, hide rfl⟩
  obtain ⟨Xp, hXp⟩ : ∃ Xp, Hid (2 ^ s * X = Xp) := ⟨_, hide rfl⟩
  rw [hX.out, hXp.out] at hupX
  rw [hY.out, hYp.out] at hupY
  rw [hX.out, hY.out, hXp.out, hYp.out, hM] at hstart
  rw [hY.out, hYp.out] at hposY hfitY
  rw [hX.out, hY.out, hM]
  rw [hY.out, hYp.out] at htopY
  have HtopY := hide htopY
  have HfitY := hide hfitY
  rw [Int.natCast_succ] at hupY
  have HupY := hide hupY
  clear hx hy dx dy ht htop htQ hYQ hY63 hfitY htopY hfitX hupY hs
  go_enter Tryd.func52, Tryd.ntmps52
  go_wp2_with (go_at_call 84; refine hz.mono ?_; rintro e w' ⟨rfl, rfl⟩)
  refine HupY.out.mono ?_
  rintro e w1 ⟨bs, rfl, hbl, dbs, hbv, hrb, hb1⟩
  have hg1 := hrb.lt
  have RB : Hid (Rd .u64 w1 (w.heap.size + 1) (some ⟨w.heap.size, 0, none⟩) (p + 1) bs) := hide ⟨hbl, fun _ => ⟨_, 0, rfl, by omega, fun j hj => hrb.cell (by omega)⟩⟩
  have HupX := hide (hupX.out w1 hb1)
  have B1 := hide hb1
  have DBS := hide dbs
  have BV := hide hbv
  have HG1 := hide hg1
  clear hbl dbs hbv hrb hb1 hg1 HupY hupX hz hcell
  go_wp2_with fail
  refine HupX.out.mono ?_
  rintro e w2 ⟨rs, rfl, hrl, drs, hrv, hrr, hb2⟩
  have hrM : vl Q (rs.drop M) < Yp := by
    have h1 := vl_cut Q rs M
    have h2 := hstart.out
    rw [← hrv, h1] at h2
    rcases Nat.lt_or_ge (vl Q (rs.drop M)) Yp with h | h
    · exact h
    · have h3 : Yp * Q ^ M ≤ vl Q (rs.drop M) * Q ^ M := Nat.mul_le_mul_right _ h
      rw [Nat.mul_comm (vl Q (rs.drop M))] at h3
      omega
  have start : DlOut 71 w w1.heap.size w2.heap.size la (p + 1) M Yp Xp bs (.int .i64 ((M : Int) - 1)) (w2.alloc (.cells (madeCells #[.int .u64 0] M) 71)) := by
    refine ⟨M, rs, [], Nat.le_refl _, rfl, hide hrl, hide drs, hide (by simp), hide Dg.nil, hide (by simp [vl, hrv]), hide hrM, ?_, hrr.alloc _, ?_, ?_⟩
    · exact (RB.out.below hb2 HG1.out).alloc (Nat.le_trans HG1.out hb2.size) _
    · rw [List.append_nil]; exact Row.made w2 .u64 71 M
    · exact (B1.out.trans (hb2.mono B1.out.size)).alloc (Nat.le_trans B1.out.size hb2.size) _
  have HG2 : Hid (w1.heap.size < w2.heap.size) := hide hrr.lt
  have Start := hide start
  clear HupX hrl drs hrv hrr hb2 hrM start RB hstart
  go_wp2_with fail
  go_loopw [7] (fun iv wr => DlOut 71 w w1.heap.size w2.heap.size la (p + 1) M Yp Xp bs iv wr) (fun iv _ => (intOf iv + 1).toNat)
  case atStart => exact Start.out
  case round =>
    clear Start hmk eM
    obtain ⟨k, rs, qs, hk, rfl, hrl, drs, hql, dqs, hv, hR, hrb, hrow, hrow3, hbel⟩ := hrel
    rcases Nat.eq_zero_or_pos k with h0 | h0
    · subst h0
      have hv0 := hv.out
      have hR0 := hR.out
      rw [Nat.pow_zero, Nat.mul_one] at hv0
      rw [List.drop_zero] at hR0
      rw [List.replicate_zero, List.nil_append] at hrow3
      have hpos := hposY.out
      have eq1 : vl Q qs = X / Y := by
        have h1 : Xp / Yp = vl Q qs := by
          rw [← hv0, Nat.add_mul_div_left _ _ hpos, Nat.div_eq_of_lt hR0, Nat.zero_add]
        rw [← h1, ← hXp.out, ← hYp.out, Nat.mul_div_mul_left _ _ (Nat.pow_pos (by omega))]
      have er1 : vl Q rs / 2 ^ s = X % Y := by
        have h1 : Xp % Yp = vl Q rs := by
          rw [← hv0, Nat.add_mul_mod_self_left, Nat.mod_eq_of_lt hR0]
        rw [← h1, ← hXp.out, ← hYp.out, Nat.mul_mod_mul_left, Nat.mul_div_cancel_left _ (Nat.pow_pos (by omega))]
      have hrd : Rd .u64 wr wr.heap.size (some ⟨w1.heap.size, 0, none⟩) (la + 1) rs := ⟨hrl.out, fun _ => ⟨_, 0, rfl, hrow.lt, fun j hj => hrow.cell (by rw [hrl.out]; exact hj)⟩⟩
      have hdn := down_any (some ⟨w1.heap.size, 0, none⟩) (la + 1) (la + 1) s rs wr hrd drs.out (by omega) (by omega)
      rw [er1, show s / 64 = 0 by omega, Nat.sub_zero] at hdn
      have Hdn := hide hdn
      have fin : Hid (∀ W vs, vs.length = la + 1 → Dg Q vs → vl Q vs = X % Y → Row .u64 71 W wr.heap.size 0 (madeCells #[.int .u64 0] (la + 1)) vs → Below wr.heap.size wr W →
          DlRet 71 w M (la + 1) X Y (.returned (.tuple #[.slice (some ⟨w2.heap.size, 0, none⟩) M M, .slice (some ⟨wr.heap.size, 0, none⟩) (la + 1) (la + 1)])) W) := hide (by
        intro W vs h1 h2 h3 h4 h5
        refine ⟨w2.heap.size, wr.heap.size, qs, vs, rfl, ?_, hrow3.lt, by have := hql.out; omega, h1, dqs.out, h2, eq1, h3, hrow3.below h5 hrow3.lt, h4, hbel.trans (h5.mono hbel.size)⟩
        have := HG1.out
        have := HG2.out
        omega)
      clear hv0 hR0 hpos eq1 er1 hrd hdn hv hR hrb hrow hrow3 hbel drs dqs hql hrl
      go_wp2_with fail
      refine Hdn.out.mono ?_
      rintro e w3 ⟨vs, rfl, h1, h2, h3, h4, h5⟩
      have fin2 := fin.out _ vs h1 h2 h3 h4 h5
      clear h1 h2 h3 h4 h5
      go_wp2_with fail
      go_ret2
      exact fin2
    · obtain ⟨j, rfl⟩ : ∃ j, k = j + 1 := ⟨k - 1, by omega⟩
      have ej : ((j + 1 : Nat) : Int) - 1 = (j : Int) := by omega
      rw [ej]
      have hjM : j + 1 ≤ la - p := by omega
      have hjla : j + (p + 1) ≤ la := by omega
      have hjb : j ≤ 17592186044000 := by omega
      obtain ⟨e1, e2, e3⟩ := dl_part drs.out HfitY.out hR.out
      obtain ⟨wo, hwo⟩ : ∃ wo, wo = wr := ⟨_, rfl⟩
      subst hwo
      obtain ⟨V, hV⟩ : ∃ V, Hid (vl Q (rs.drop j) = V) := ⟨_, hide rfl⟩
      rw [hV.out] at e1 e2
      have hzl : ((rs.drop j).take (p + 1 + 1)).length = p + 1 + 1 := by rw [List.length_take, List.length_drop, hrl.out]; omega
      obtain ⟨C', hwin, hback⟩ := hrow.window j (p + 1 + 1) (by rw [hrl.out]; omega)
      have dz : Dg Q ((rs.drop j).take (p + 1 + 1)) := (drs.out.drop j).take _
      obtain ⟨zs, hzs⟩ : ∃ zs, (rs.drop j).take (p + 1 + 1) = zs := ⟨_, rfl⟩
      rw [hzs] at e1 hzl hwin dz
      obtain ⟨cap, hcap⟩ : ∃ cap, la + 1 - j = cap := ⟨_, rfl⟩
      have hbtop : 0 < bs.getD (p + 1 - 1) 0 := by
        rw [Nat.add_sub_cancel]
        rcases Nat.eq_zero_or_pos (bs.getD p 0) with h | h
        · have h1 := take_next bs p 0 h
          rw [List.take_of_length_le (by rw [hrb.1]; exact Nat.le_refl _), Nat.mul_zero, Nat.add_zero, BV.out] at h1
          have h2 := vl_take_lt Q_pos DBS.out p
          have h3 := HtopY.out
          have h4 : 1 * Q ^ p ≤ 9223372036854775808 * Q ^ p := Nat.mul_le_mul_right _ (by omega)
          omega
        · exact h
      have hrb1 := hrb.more (show w.heap.size + 1 ≤ wo.heap.size by have := HG1.out; have := hwin.lt; omega)
      have hgs := guess_any wo.heap.size (some ⟨w1.heap.size, j, none⟩) (some ⟨w.heap.size, 0, none⟩) (p + 1) cap (p + 1) zs bs wo
        ⟨hzl, fun _ => ⟨_, j, rfl, hwin.lt, fun i hi => hwin.cell (by rw [hzl]; exact hi)⟩⟩ hrb1 dz DBS.out (by omega) (by omega) hbtop (by rw [e1, BV.out]; exact e2)
      rw [e1, BV.out] at hgs
      have hne : ∀ a, (some ⟨w.heap.size, 0, none⟩ : Option Addr) = some a → a.block ≠ w1.heap.size := by
        intro a h
        cases h
        have := HG1.out
        simp; omega
      have hB1 : w.heap.size + 1 ≤ wo.heap.size := by have h1 := HG1.out; have h2 := hwin.lt; omega
      have htk : Hid (∀ q m, q < Q → V / Yp ≤ q → Calls Tryd.prog 87 #[.slice (some ⟨w1.heap.size, j, none⟩) (p + 1 + 1) cap, .slice (some ⟨w.heap.size, 0, none⟩) (p + 1) (p + 1), .int .u64 (q : Int)] (wo.drewN m)
          (fun e w' => ∃ o : Bool, e = .returned (.bool o) ∧ DlIn 71 wo w1.heap.size j (p + 1) V Yp C' (.int .u64 (q : Int)) (.bool o) w')) := hide (by
        intro q m hq hle
        exact dl_take (fun w' h => ⟨h.os, h.tape, h.output, h.size, h.block⟩) (hwin.drewN m) hzl (hrb.drewN m) hB1 hne dz DBS.out hq (by omega) e1 BV.out hle)
      have hpb : Hid (∀ q us wr, DlIn 71 wo w1.heap.size j (p + 1) V Yp C' (.int .u64 (q : Int)) (.bool true) wr → Row .u64 71 wr w1.heap.size j C' us → True) := hide (fun _ _ _ _ _ => trivial)
      have hpos := hposY
      have hbk : Hid (∀ q us wr, q < Q → us.length = p + 1 + 1 → Dg Q us → V / Yp ≤ q → vl Q us + q * Yp = V → Row .u64 71 wr w1.heap.size j C' us → wo.grownBy wr (some w1.heap.size) →
          (∃ v0 : Int, wr.cell? ⟨w2.heap.size, j, none⟩ = some (.int .u64 v0)) ∧ wr.frozen? ⟨w2.heap.size, j, none⟩ = false ∧
          DlOut 71 w w1.heap.size w2.heap.size la (p + 1) M Yp Xp bs (.int .i64 ((j : Int) - 1)) (wr.setCell ⟨w2.heap.size, j, none⟩ (.int .u64 (q : Int)))) := hide (by
        intro q us wr hq hul du hle hsum hrw hgr
        have hr3 := hrow3.grown hgr (by have := HG2.out; intro h; injection h with h; omega)
        have hjl : j < (List.replicate (j + 1) 0 ++ qs).length := by simp; omega
        have hc := hr3.cell hjl
        rw [Nat.zero_add] at hc
        have hst := hr3.set_ hjl q
        rw [Nat.zero_add] at hst
        have ef : (List.replicate (j + 1) 0 ++ qs).set j q = List.replicate j 0 ++ q :: qs := by
          rw [List.replicate_succ', List.append_assoc, List.set_append_right _ _ (by simp)]
          simp
        rw [ef] at hst
        rw [← hV.out] at hsum
        obtain ⟨s1, s2⟩ := dl_step (i := j) (by rw [hrl.out]; omega) hul e3 hsum hv.out
        have hlt := dl_quo (V := V) (by exact hle) (by rw [← hV.out]; exact hsum) hposY.out
        have hrs := hback wr us hul hrw
        refine ⟨⟨_, hc⟩, hr3.frozen _, j, _, q :: qs, by omega, rfl, hide ?_, hide ((drs.out.take j).append du |>.append (drs.out.drop _)), hide ?_, hide (Dg.cons hq dqs.out), hide s1, hide (by rw [s2]; exact hlt), ?_, ?_, hst, ?_⟩
        · simp only [List.length_append, List.length_take, List.length_drop, hul, hrl.out]; omega
        · have := hql.out; simp only [List.length_cons]; omega
        · exact (hrb.grownOff hgr (by have := HG1.out; have := hwin.lt; omega) hne).setCell (by have := HG1.out; have := HG2.out; simp; omega) _
        · exact hrs.far (by have := HG2.out; simp; omega) _
        · exact (below_only hbel hgr hbel.size (by have := HG1.out; omega)).setCell (by have := HG1.out; have := HG2.out; simp; omega) _)
      have hput : Hid (∀ q us wr, q + 1 < Q → us.length = p + 1 + 1 → Dg Q us → V / Yp ≤ q + 1 → vl Q us + (q + 1) * Yp = V + Q ^ (p + 1 + 1) → Row .u64 71 wr w1.heap.size j C' us → wo.grownBy wr (some w1.heap.size) →
          Calls Tryd.prog 88 #[.slice (some ⟨w1.heap.size, j, none⟩) (p + 1 + 1) cap, .slice (some ⟨w.heap.size, 0, none⟩) (p + 1) (p + 1)] wr
            (fun e w' => ∃ o : Bool, e = .returned (.bool o) ∧ DlIn 71 wo w1.heap.size j (p + 1) V Yp C' (.int .u64 (q : Int)) (.bool (!o)) w')) := hide (by
        intro q us wr hq hul du hle hsum hrw hgr
        have hB : w.heap.size + 1 ≤ wr.heap.size := by have := HG1.out; have := hrw.lt; omega
        refine (putBack_any (w.heap.size + 1) w1.heap.size j (p + 1) cap (p + 1) (some ⟨w.heap.size, 0, none⟩) C' us bs wr hrw hul (hrb.grownOff hgr (by have := HG1.out; have := hwin.lt; omega) hne) hB (fun _ => hne) du DBS.out (by omega)).mono ?_
        rintro e w' ⟨cy, us', he, hcy, hul', du', hs', hrw', hgr'⟩
        have hlt := vl_lt du
        rw [hul] at hlt
        have hVq : V < (q + 1) * Yp := by omega
        have hle2 : V / Yp ≤ q := by
          have := (Nat.div_lt_iff_lt_mul hposY.out).2 hVq
          omega
        rw [BV.out] at hs'
        refine ⟨_, he, q, _, us', rfl, rfl, by omega, hide hle2, hide hul', hide du', hide ?_, hrw', only_trans hgr hgr'⟩
        rw [Nat.add_mul, Nat.one_mul] at hsum
        rcases Nat.eq_zero_or_pos cy with h | h
        · subst h
          rw [Nat.mul_zero, Nat.add_zero] at hs'
          show vl Q us' + q * Yp = V + Q ^ (p + 1 + 1)
          omega
        · have h1 : cy = 1 := Nat.le_antisymm hcy h
          subst h1
          rw [Nat.mul_one] at hs'
          show vl Q us' + q * Yp = V + 0
          omega)
      have Hgs := hide hgs
      have i1 : (j : Int) + ((p : Int) + 1) + 1 ≤ (la : Int) + 1 := by omega
      have ejl : j + (p + 1) + 1 - j = p + 1 + 1 := by omega
      clear hwin hback hzs dz hzl hrb1 hrb hrow hrow3 hbel hgs hne e1 e2 e3 hv hR hrl drs hql dqs hV hbtop hpb
      go_wp2_with fail
      refine Hgs.out.mono ?_
      rintro e w3 ⟨q, rfl, hqQ, hqle, m, rfl⟩
      have Htk := hide (htk.out q m hqQ hqle)
      clear htk hqQ hqle Hgs
      go_wp2_with fail
      refine Htk.out.mono ?_
      rintro e w4 ⟨o, rfl, st⟩
      have St := hide st
      clear st Htk
      go_wp2_with fail
      go_loopw [9, 10] (fun wv ov wr => DlIn 71 wo w1.heap.size j (p + 1) V Yp C' wv ov wr) (fun wv _ _ => (intOf wv).toNat)
      case atStart => exact St.out
      case round =>
        clear St
        obtain ⟨q, o, us, rfl, rfl, hq, hle, hul, du, hsum, hrw, hgr⟩ := hrel
        cases o with
        | true =>
          have hs0 := hsum.out
          simp only [if_true] at hs0
          have hlt := vl_lt du.out
          rw [hul.out] at hlt
          obtain ⟨q', hq'⟩ : ∃ q', q = q' + 1 := by
            rcases Nat.eq_zero_or_pos q with h | h
            · subst h
              rw [Nat.zero_mul] at hs0
              omega
            · exact ⟨q - 1, by omega⟩
          have hp2 := hide (hput.out q' us wr (by omega) hul.out du.out (by rw [← hq']; exact hle.out) (by rw [← hq']; exact hs0) hrw hgr)
          have eq1 : (q : Int) - 1 = (q' : Int) := by omega
          have eq2 : IntKind.u64.wrap (q' : Int) = (q' : Int) := wrapN q' (by omega)
          have hqq : q' < q := by omega
          clear hs0 hlt hle hul du hsum hrw hgr hbk hput
          go_wp2_with (go_at_call 88; refine hp2.out.mono ?_; rintro e w5 ⟨o2, rfl, rel2⟩)
          go_roundw
          case rel => exact rel2
          case measure => simp [intOf]; omega
        | false =>
          have hs0 := hsum.out
          simp only [Bool.false_eq_true, if_false, Nat.add_zero] at hs0
          obtain ⟨⟨v0, hc0⟩, hf0, fin⟩ := hbk.out q us wr hq hul.out du.out hle.out hs0 hrw hgr
          have Fin := hide fin
          have i2 : (j : Int) < (M : Int) := by omega
          clear hs0 hle hul du hsum hrw hgr hbk hput fin
          go_wp2_with fail
          go_roundw
          case rel => exact Fin.out
          case measure => simp [intOf]
end Go.Proofs.YtkonakjchimniaaDoor
