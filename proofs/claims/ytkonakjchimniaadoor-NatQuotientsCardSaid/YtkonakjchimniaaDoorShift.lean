/-
  nat.up and nat.down: words shifted.
-/
import Derived.Test.YtkonakjchimniaaDoorWords
import Derived.Test.YtkonakjchimniaaDoorDiv64
import Derived.Deep.RegionHeld3
import Derived.IntWalk
namespace Go.Proofs.YtkonakjchimniaaDoor
open Go.RowKit Go.Proofs.YtkonakjchimniaaDoor.Num
set_option linter.unusedVariables false
set_option maxRecDepth 100000

/-! ### One word of it -/
theorem up_word (x c s : Nat) (hs : s ≤ 63) (hc : c < 2 ^ s) : bits .or .u64 ((x * 2 ^ s % Q : Nat) : Int) (c : Int) = ((x * 2 ^ s % Q + c : Nat) : Int) ∧ x * 2 ^ s % Q + c < Q := by
  have hQ : Q = 2 ^ (64 - s) * 2 ^ s := by rw [← Nat.pow_add, show 64 - s + s = 64 by omega]; rfl
  have h1 : x * 2 ^ s % Q = x % 2 ^ (64 - s) * 2 ^ s := by rw [hQ, Nat.mul_mod_mul_right]
  have h2 : x % 2 ^ (64 - s) < 2 ^ (64 - s) := Nat.mod_lt _ (Nat.pow_pos (by omega))
  have h3 : x * 2 ^ s % Q + c < Q := by
    have h4 : (x % 2 ^ (64 - s) + 1) * 2 ^ s ≤ 2 ^ (64 - s) * 2 ^ s := Nat.mul_le_mul_right _ h2
    rw [Nat.add_mul, ← hQ] at h4
    rw [h1]
    omega
  refine ⟨?_, h3⟩
  have hb1 : x * 2 ^ s % Q < 18446744073709551616 := by have := h3; unfold Q at this ⊢; omega
  have hb2 : c < 18446744073709551616 := by have := h3; unfold Q at this; omega
  rw [bits_or_u64_nat _ _ hb1 hb2, h1, Nat.mul_comm (x % 2 ^ (64 - s)), ← Nat.two_pow_add_eq_or_of_lt hc]
theorem carry_lt (z s : Nat) (hs : s ≤ 63) (hz : z < Q) : z / 2 ^ (64 - s) < 2 ^ s := by
  rw [Nat.div_lt_iff_lt_mul (Nat.pow_pos (by omega)), ← Nat.pow_add, show s + (64 - s) = 64 by omega]
  exact hz
theorem over_word (x s : Nat) (hs : s ≤ 63) : x * 2 ^ s / Q = x / 2 ^ (64 - s) := by
  have e : Q = 2 ^ (64 - s) * 2 ^ s := by rw [← Nat.pow_add, show 64 - s + s = 64 by omega]; rfl
  rw [e, Nat.mul_div_mul_right _ _ (Nat.pow_pos (by omega))]

theorem atN_lt {xs : List Nat} (dx : Dg Q xs) (i : Int) : atN xs i < Q := by
  unfold atN
  split
  · exact Q_pos
  · exact dx.getD Q_pos _

theorem up_step {k far s x c : Nat} {us xs : List Nat} (hs : s ≤ 63) (hu : us.length = k) (hx : atN xs ((k : Int) - (far : Int)) = x)
    (h : vl Q us + Q ^ k * c = 2 ^ s * Q ^ far * vl Q (xs.take (k - far))) :
    vl Q (us ++ [x * 2 ^ s % Q + c]) + Q ^ (k + 1) * (x / 2 ^ (64 - s)) = 2 ^ s * Q ^ far * vl Q (xs.take (k + 1 - far)) := by
  rw [vl_snoc, hu, ← over_word x s hs, Nat.pow_succ]
  have e1 : Q ^ k * (x * 2 ^ s % Q + c) + Q ^ k * Q * (x * 2 ^ s / Q) = Q ^ k * c + Q ^ k * (x * 2 ^ s) := by
    rw [Nat.mul_assoc, ← Nat.mul_add, ← Nat.mul_add]
    congr 1
    have := Nat.mod_add_div (x * 2 ^ s) Q
    omega
  have e2 : 2 ^ s * Q ^ far * vl Q (xs.take (k + 1 - far)) = 2 ^ s * Q ^ far * vl Q (xs.take (k - far)) + Q ^ k * (x * 2 ^ s) := by
    rcases Nat.lt_or_ge k far with hf | hf
    · have hx0 : x = 0 := by rw [← hx]; unfold atN; rw [if_pos (by omega)]
      rw [hx0, show k + 1 - far = 0 by omega, show k - far = 0 by omega]
      simp
    · have hx1 : xs.getD (k - far) 0 = x := by
        rw [← hx]; unfold atN; rw [if_neg (by omega)]
        congr 1; omega
      rw [show k + 1 - far = (k - far) + 1 by omega, vl_take_succ, hx1, Nat.mul_add]
      congr 1
      have hp : Q ^ k = Q ^ far * Q ^ (k - far) := by rw [← Nat.pow_add]; congr 1; omega
      rw [hp]
      generalize Q ^ far = F
      generalize Q ^ (k - far) = G
      generalize 2 ^ s = T
      rw [Nat.mul_comm T F, Nat.mul_assoc, Nat.mul_assoc]
      congr 1
      rw [Nat.mul_comm x T, ← Nat.mul_assoc, ← Nat.mul_assoc, Nat.mul_comm T G]
  rw [e2]
  omega

def UpRel (t : TypeId) (w : World) (size far s : Nat) (xs : List Nat) (iv : Value) (wr : World) : Prop :=
  ∃ (k : Nat) (us : List Nat), k ≤ size ∧ iv = .int .i64 (k : Int) ∧ Hid (us.length = k) ∧ Dg Q us ∧
    Hid (vl Q us + Q ^ k * (atN xs ((k : Int) - (far : Int) - 1) / 2 ^ (64 - s)) = 2 ^ s * Q ^ far * vl Q (xs.take (k - far))) ∧
    Row .u64 t wr w.heap.size 0 (madeCells #[.int .u64 0] size) (us ++ List.replicate (size - k) 0) ∧ Below w.heap.size w wr

/-- What it leaves: a list of just that many words. -/
def WordsRet (t : TypeId) (w : World) (size x : Nat) (e : Ending) (w' : World) : Prop :=
  ∃ us : List Nat, e = .returned (.slice (some ⟨w.heap.size, 0, none⟩) size size) ∧ us.length = size ∧ Dg Q us ∧ vl Q us = x ∧ Row .u64 t w' w.heap.size 0 (madeCells #[.int .u64 0] size) us ∧ Below w.heap.size w w'

set_option maxHeartbeats 4000000 in
theorem up_any (A : Option Addr) (n c sh size : Nat) (xs : List Nat) (w : World) (hx : Rd .u64 w w.heap.size A n xs) (dx : Dg Q xs) (hn : n ≤ 17592186044416) (hsh : sh ≤ 65536) (hsz : size ≤ 35184372088832)
    (hfit : n + sh / 64 ≤ size) (hlt : 2 ^ sh * vl Q xs < Q ^ size) :
    Calls Tryd.prog 85 #[.slice A n c, .int .i64 (sh : Int), .int .i64 (size : Int)] w (WordsRet 71 w size (2 ^ sh * vl Q xs)) := by
  have hmk := make_u64 size hsz
  obtain ⟨far, hfar⟩ : ∃ far, sh / 64 = far := ⟨_, rfl⟩
  obtain ⟨s, hs⟩ : ∃ s, sh % 64 = s := ⟨_, rfl⟩
  have eq : Int.tdiv (sh : Int) 64 = (far : Int) := by rw [← hfar]; exact (Int.ofNat_tdiv sh 64).symm
  have er : Int.tmod (sh : Int) 64 = (s : Int) := by rw [← hs]; exact (Int.ofNat_tmod sh 64).symm
  have hs63 : s ≤ 63 := by omega
  have hfb : far ≤ 1024 := by omega
  have hpow : Hid (2 ^ sh = 2 ^ s * Q ^ far) := hide (by
    rw [show Q = 2 ^ 64 from rfl, ← Nat.pow_mul, ← Nat.pow_add]; congr 1; omega)
  rw [hfar] at hfit
  have Dx := hide dx
  have Hlt := hide hlt
  have Hx := hide hx
  obtain ⟨V, hV⟩ : ∃ V, Hid (2 ^ sh * vl Q xs = V) := ⟨_, hide rfl⟩
  rw [hV.out] at Hlt ⊢
  have e0 : Hid (vl Q ([] : List Nat) + Q ^ 0 * (atN xs ((0 : Int) - (far : Int) - 1) / 2 ^ (64 - s)) = 2 ^ s * Q ^ far * vl Q (xs.take (0 - far))) := hide (by
    unfold atN; rw [if_pos (by omega)]; simp [vl])
  have e3 : IntKind.i64.wrap (64 - (s : Int)) = 64 - (s : Int) := IntWalk.i64_in _ (by omega)
  clear hfar hs dx hlt hx
  go_enter Tryd.func85, Tryd.ntmps85
  go_wp2_with fail
  go_loopw [19] (fun iv wr => UpRel 71 w size far s xs iv wr) (fun iv _ => size - (intOf iv).toNat)
  case atStart => exact ⟨0, [], Nat.zero_le _, rfl, hide rfl, Dg.nil, e0, by simpa using Row.made w .u64 71 size, (Below.refl _ _).alloc (Nat.le_refl _) _⟩
  case round =>
    obtain ⟨k, us, hk, rfl, hu, du, hv, hrow, hbel⟩ := hrel
    clear hmk e0
    by_cases hlt : k < size
    · obtain ⟨r, hr⟩ : ∃ r, size - k = r + 1 := ⟨size - k - 1, by omega⟩
      obtain ⟨x, ex⟩ : ∃ x, Hid (atN xs ((k : Int) - (far : Int)) = x) := ⟨_, hide rfl⟩
      obtain ⟨z, ez⟩ : ∃ z, Hid (atN xs ((k : Int) - (far : Int) - 1) = z) := ⟨_, hide rfl⟩
      have bz : z < Q := by rw [← ez.out]; exact atN_lt Dx.out _
      obtain ⟨cc, hcc⟩ : ∃ cc, z / 2 ^ (64 - s) = cc := ⟨_, rfl⟩
      have bcc : cc < 2 ^ s := by rw [← hcc]; exact carry_lt z s hs63 bz
      obtain ⟨eo, bo⟩ := up_word x cc s hs63 bcc
      obtain ⟨y, hy⟩ : ∃ y, x * 2 ^ s % Q = y := ⟨_, rfl⟩
      obtain ⟨o, ho⟩ : ∃ o, y + cc = o := ⟨_, rfl⟩
      have eS : IntKind.u64.wrap ((x : Int) * 2 ^ s) = (y : Int) := by rw [shlN, wrapM, hy]
      have eR : (z : Int) / 2 ^ (64 - s) = (cc : Int) := by rw [shrN, hcc]
      have hv0 := hv.out
      rw [ez.out, hcc] at hv0
      have hv1 := up_step hs63 hu.out ex.out hv0
      rw [hy, ho] at eo bo hv1
      have e1 : IntKind.i64.wrap ((k : Int) - (far : Int)) = (k : Int) - (far : Int) := IntWalk.i64_in _ (by omega)
      have e2 : IntKind.i64.wrap ((k : Int) - (far : Int) - 1) = (k : Int) - (far : Int) - 1 := IntWalk.i64_in _ (by omega)
      have hx2 := Hx.out.below hbel (Nat.le_refl _)
      have atx : Hid (Calls Tryd.prog 76 #[.slice A n c, .int .i64 ((k : Int) - (far : Int))] wr.drew fun e w' => e = .returned (.int .u64 (x : Int)) ∧ wr.drew = w') := hide (by
        have h := at_any w.heap.size A n c xs ((k : Int) - (far : Int)) wr.drew hx2.drew (by unfold maxLen; omega)
        rwa [ex.out] at h)
      have atz : Hid (Calls Tryd.prog 76 #[.slice A n c, .int .i64 ((k : Int) - (far : Int) - 1)] wr.drew fun e w' => e = .returned (.int .u64 (z : Int)) ∧ wr.drew = w') := hide (by
        have h := at_any w.heap.size A n c xs ((k : Int) - (far : Int) - 1) wr.drew hx2.drew (by unfold maxLen; omega)
        rwa [ez.out] at h)
      rw [hr] at hrow
      have hjl : k < (us ++ List.replicate (r + 1) 0).length := by rw [fill_len, hu.out]; omega
      obtain ⟨v0, hc0⟩ : ∃ v0 : Int, wr.drew.cell? ⟨w.heap.size, k, none⟩ = some (.int .u64 v0) := ⟨_, by have h := hrow.drew.cell hjl; rw [Nat.zero_add] at h; exact h⟩
      have hfr := hrow.drew.frozen k
      have hst := hrow.drew.set_ hjl o
      have es : (us ++ List.replicate (r + 1) 0).set k o = (us ++ [o]) ++ List.replicate (size - (k + 1)) 0 := by
        have h := fill_set us r o
        rw [hu.out] at h
        rw [h]; congr 2; omega
      rw [es, Nat.zero_add] at hst
      have ek : ((k + 1 : Nat) : Int) - (far : Int) - 1 = (k : Int) - (far : Int) := by omega
      have fin : UpRel 71 w size far s xs (.int .i64 ((k + 1 : Nat) : Int)) (wr.drew.setCell ⟨w.heap.size, k, none⟩ (.int .u64 (o : Int))) :=
        ⟨k + 1, us ++ [o], by omega, rfl, hide (by simp [hu.out]), du.append (Dg.cons bo Dg.nil), hide (by rw [ek, ex.out]; exact hv1), hst, (below_drewN hbel 1).setCell (Nat.le_refl _) _⟩
      have i1 : (k : Int) < (size : Int) := by omega
      clear hst es hv hv0 hv1 hu du hrow hbel hx2 ex ez bz hcc bcc bo hy ho hr hjl ek Hx Dx hpow Hlt hV
      go_wp2_with fail
      go_region_held3 (fun _ => True) (first | trivial | exact True.intro)
        (first
          | (go_at_call 76; (with_reducible refine atx.out.mono ?_); rintro e w' ⟨rfl, rfl⟩)
          | (go_at_call 76; (with_reducible refine atz.out.mono ?_); rintro e w' ⟨rfl, rfl⟩))
      all_goals
        go_wp2_with fail
        go_roundw
        case rel => exact fin
        case measure => simp [intOf]; omega
    · obtain rfl : k = size := by omega
      simp only [Nat.sub_self, List.replicate_zero, List.append_nil] at hrow
      have e := hv.out
      rw [List.take_of_length_le (by have := Hx.out.1; omega), ← hpow.out, hV.out] at e
      have fin : WordsRet 71 w k V (.returned (.slice (some ⟨w.heap.size, 0, none⟩) k k)) wr := by
        refine ⟨us, rfl, hu.out, du, ?_, hrow, hbel⟩
        have h1 := Hlt.out
        generalize atN xs ((k : Int) - (far : Int) - 1) / 2 ^ (64 - s) = cc at *
        rcases Nat.eq_zero_or_pos cc with h | h
        · rw [h, Nat.mul_zero, Nat.add_zero] at e; exact e
        · have h2 : Q ^ k * 1 ≤ Q ^ k * cc := Nat.mul_le_mul_left _ h
          omega
      clear e hrow hv hu du hbel Hx Dx hpow Hlt hV
      go_wp2_with fail
      go_ret
      exact fin

/-! ### Down -/
theorem down_word (x z s : Nat) (hs : s ≤ 63) (hx : x < Q) : bits .or .u64 ((x / 2 ^ s : Nat) : Int) ((z * 2 ^ (64 - s) % Q : Nat) : Int) = ((x / 2 ^ s + z * 2 ^ (64 - s) % Q : Nat) : Int) ∧ x / 2 ^ s + z * 2 ^ (64 - s) % Q < Q ∧
    z * 2 ^ (64 - s) % Q * 2 ^ s = Q * (z % 2 ^ s) := by
  have hQ : Q = 2 ^ s * 2 ^ (64 - s) := by rw [← Nat.pow_add, show s + (64 - s) = 64 by omega]; rfl
  have h1 : z * 2 ^ (64 - s) % Q = z % 2 ^ s * 2 ^ (64 - s) := by rw [hQ, Nat.mul_mod_mul_right]
  have h2 : z % 2 ^ s < 2 ^ s := Nat.mod_lt _ (Nat.pow_pos (by omega))
  have h5 : x / 2 ^ s < 2 ^ (64 - s) := by
    rw [Nat.div_lt_iff_lt_mul (Nat.pow_pos (by omega)), Nat.mul_comm, ← hQ]
    exact hx
  have h3 : x / 2 ^ s + z * 2 ^ (64 - s) % Q < Q := by
    have h4 : (z % 2 ^ s + 1) * 2 ^ (64 - s) ≤ 2 ^ s * 2 ^ (64 - s) := Nat.mul_le_mul_right _ h2
    rw [Nat.add_mul, ← hQ] at h4
    rw [h1]
    omega
  refine ⟨?_, h3, ?_⟩
  · have hb1 : x / 2 ^ s < 18446744073709551616 := by have := h3; unfold Q at this; omega
    have hb2 : z * 2 ^ (64 - s) % Q < 18446744073709551616 := by have := h3; unfold Q at this ⊢; omega
    rw [bits_or_u64_nat _ _ hb1 hb2, h1, Nat.mul_comm (z % 2 ^ s), Nat.or_comm, ← Nat.two_pow_add_eq_or_of_lt h5, Nat.add_comm]
  · rw [h1, Nat.mul_assoc, Nat.mul_comm (2 ^ (64 - s)), ← hQ, Nat.mul_comm]

theorem down_step {k far s x z e0 : Nat} {us xs : List Nat} (hs : s ≤ 63) (hu : us.length = k) (hx : atN xs ((k : Int) + (far : Int)) = x) (hxQ : x < Q)
    (h : vl Q us * 2 ^ s + e0 = vl Q ((xs.drop far).take k) + Q ^ k * (x % 2 ^ s)) :
    vl Q (us ++ [x / 2 ^ s + z * 2 ^ (64 - s) % Q]) * 2 ^ s + e0 = vl Q ((xs.drop far).take (k + 1)) + Q ^ (k + 1) * (z % 2 ^ s) := by
  obtain ⟨-, -, h3⟩ := down_word x z s hs hxQ
  have hx1 : (xs.drop far).getD k 0 = x := by
    rw [← hx]; unfold atN; rw [if_neg (by omega)]
    have : ((k : Int) + (far : Int)).toNat = far + k := by omega
    rw [this]
    simp [List.getD_eq_getElem?_getD]
  rw [vl_snoc, hu, vl_take_succ, hx1, Nat.add_mul, Nat.mul_assoc, Nat.add_mul, h3, Nat.pow_succ, Nat.mul_add, Nat.mul_assoc]
  have e1 : Q ^ k * x = Q ^ k * (x / 2 ^ s * 2 ^ s) + Q ^ k * (x % 2 ^ s) := by
    rw [← Nat.mul_add]
    congr 1
    have := Nat.mod_add_div x (2 ^ s)
    rw [Nat.mul_comm] at this
    omega
  omega

def DnRel (t : TypeId) (w : World) (size far s e0 : Nat) (xs : List Nat) (iv : Value) (wr : World) : Prop :=
  ∃ (k : Nat) (us : List Nat), k ≤ size ∧ iv = .int .i64 (k : Int) ∧ Hid (us.length = k) ∧ Dg Q us ∧
    Hid (vl Q us * 2 ^ s + e0 = vl Q ((xs.drop far).take k) + Q ^ k * (atN xs ((k : Int) + (far : Int)) % 2 ^ s)) ∧
    Row .u64 t wr w.heap.size 0 (madeCells #[.int .u64 0] size) (us ++ List.replicate (size - k) 0) ∧ Below w.heap.size w wr

set_option maxHeartbeats 4000000 in
theorem down_any (A : Option Addr) (n c sh : Nat) (xs : List Nat) (w : World) (hx : Rd .u64 w w.heap.size A n xs) (dx : Dg Q xs) (hn : n ≤ 17592186044416) (hsh : sh ≤ 65536) :
    Calls Tryd.prog 89 #[.slice A n c, .int .i64 (sh : Int)] w (WordsRet 71 w (n - sh / 64) (vl Q xs / 2 ^ sh)) := by
  obtain ⟨far, hfar⟩ : ∃ far, sh / 64 = far := ⟨_, rfl⟩
  obtain ⟨s, hs⟩ : ∃ s, sh % 64 = s := ⟨_, rfl⟩
  have eq : Int.tdiv (sh : Int) 64 = (far : Int) := by rw [← hfar]; exact (Int.ofNat_tdiv sh 64).symm
  have er : Int.tmod (sh : Int) 64 = (s : Int) := by rw [← hs]; exact (Int.ofNat_tmod sh 64).symm
  have hs63 : s ≤ 63 := by omega
  have hfb : far ≤ 1024 := by omega
  obtain ⟨size, hsize⟩ : ∃ size, n - far = size := ⟨_, rfl⟩
  have hmk := make_u64 size (by omega)
  have hpow : Hid (vl Q xs / 2 ^ sh = vl Q (xs.drop far) / 2 ^ s) := hide (by
    have h1 : 2 ^ sh = Q ^ far * 2 ^ s := by
      rw [show Q = 2 ^ 64 from rfl, ← Nat.pow_mul, ← Nat.pow_add]; congr 1; omega
    rw [h1, ← Nat.div_div_eq_div_mul]
    congr 1
    have h2 := vl_cut Q xs far
    have h3 : vl Q (xs.take far) < Q ^ far := by
      have h4 := vl_lt (dx.take far)
      exact Nat.lt_of_lt_of_le h4 (Nat.pow_le_pow_right Q_pos (by rw [List.length_take]; omega))
    rw [h2, Nat.add_mul_div_left _ _ (Nat.pow_pos Q_pos), Nat.div_eq_of_lt h3, Nat.zero_add])
  rw [hfar, hsize]
  have Dx := hide dx
  have Hx := hide hx
  obtain ⟨V, hV⟩ : ∃ V, Hid (vl Q xs / 2 ^ sh = V) := ⟨_, hide rfl⟩
  rw [hV.out]
  obtain ⟨r0, hr0⟩ : ∃ r0, Hid (atN xs ((0 : Int) + (far : Int)) % 2 ^ s = r0) := ⟨_, hide rfl⟩
  have e0 : Hid (vl Q ([] : List Nat) * 2 ^ s + r0 = vl Q ((xs.drop far).take 0) + Q ^ 0 * (atN xs ((0 : Int) + (far : Int)) % 2 ^ s)) := hide (by
    rw [hr0.out]; simp [vl])
  have e3 : IntKind.i64.wrap (64 - (s : Int)) = 64 - (s : Int) := IntWalk.i64_in _ (by omega)
  clear hfar hs dx hx
  have em : max ((n : Int) - (far : Int)) 0 = (size : Int) := by omega
  go_enter Tryd.func89, Tryd.ntmps89
  go_wp2_with fail
  go_loopw [21] (fun iv wr => DnRel 71 w size far s r0 xs iv wr) (fun iv _ => size - (intOf iv).toNat)
  case atStart => exact ⟨0, [], Nat.zero_le _, rfl, hide rfl, Dg.nil, e0, by simpa using Row.made w .u64 71 size, (Below.refl _ _).alloc (Nat.le_refl _) _⟩
  case round =>
    obtain ⟨k, us, hk, rfl, hu, du, hv, hrow, hbel⟩ := hrel
    clear hmk e0 em
    by_cases hlt : k < size
    · obtain ⟨r, hr⟩ : ∃ r, size - k = r + 1 := ⟨size - k - 1, by omega⟩
      obtain ⟨x, ex⟩ : ∃ x, Hid (atN xs ((k : Int) + (far : Int)) = x) := ⟨_, hide rfl⟩
      obtain ⟨z, ez⟩ : ∃ z, Hid (atN xs ((k : Int) + (far : Int) + 1) = z) := ⟨_, hide rfl⟩
      have bx : x < Q := by rw [← ex.out]; exact atN_lt Dx.out _
      obtain ⟨eo, bo, -⟩ := down_word x z s hs63 bx
      have hv0 := hv.out
      rw [ex.out] at hv0
      have hv1 := down_step (z := z) hs63 hu.out ex.out bx hv0
      obtain ⟨y, hy⟩ : ∃ y, z * 2 ^ (64 - s) % Q = y := ⟨_, rfl⟩
      obtain ⟨cc, hcc⟩ : ∃ cc, x / 2 ^ s = cc := ⟨_, rfl⟩
      obtain ⟨o, ho⟩ : ∃ o, cc + y = o := ⟨_, rfl⟩
      have eS : IntKind.u64.wrap ((z : Int) * 2 ^ (64 - s)) = (y : Int) := by rw [shlN, wrapM, hy]
      have eR : (x : Int) / 2 ^ s = (cc : Int) := by rw [shrN, hcc]
      rw [hy, hcc, ho] at eo bo hv1
      have e1 : IntKind.i64.wrap ((k : Int) + (far : Int)) = (k : Int) + (far : Int) := IntWalk.i64_in _ (by omega)
      have e2 : IntKind.i64.wrap ((k : Int) + (far : Int) + 1) = (k : Int) + (far : Int) + 1 := IntWalk.i64_in _ (by omega)
      have hx2 := Hx.out.below hbel (Nat.le_refl _)
      have atx : Hid (Calls Tryd.prog 76 #[.slice A n c, .int .i64 ((k : Int) + (far : Int))] wr.drew fun e w' => e = .returned (.int .u64 (x : Int)) ∧ wr.drew = w') := hide (by
        have h := at_any w.heap.size A n c xs ((k : Int) + (far : Int)) wr.drew hx2.drew (by unfold maxLen; omega)
        rwa [ex.out] at h)
      have atz : Hid (Calls Tryd.prog 76 #[.slice A n c, .int .i64 ((k : Int) + (far : Int) + 1)] wr.drew fun e w' => e = .returned (.int .u64 (z : Int)) ∧ wr.drew = w') := hide (by
        have h := at_any w.heap.size A n c xs ((k : Int) + (far : Int) + 1) wr.drew hx2.drew (by unfold maxLen; omega)
        rwa [ez.out] at h)
      rw [hr] at hrow
      have hjl : k < (us ++ List.replicate (r + 1) 0).length := by rw [fill_len, hu.out]; omega
      obtain ⟨v0, hc0⟩ : ∃ v0 : Int, wr.drew.cell? ⟨w.heap.size, k, none⟩ = some (.int .u64 v0) := ⟨_, by have h := hrow.drew.cell hjl; rw [Nat.zero_add] at h; exact h⟩
      have hfr := hrow.drew.frozen k
      have hst := hrow.drew.set_ hjl o
      have es : (us ++ List.replicate (r + 1) 0).set k o = (us ++ [o]) ++ List.replicate (size - (k + 1)) 0 := by
        have h := fill_set us r o
        rw [hu.out] at h
        rw [h]; congr 2; omega
      rw [es, Nat.zero_add] at hst
      have ek : ((k + 1 : Nat) : Int) + (far : Int) = (k : Int) + (far : Int) + 1 := by omega
      have fin : DnRel 71 w size far s r0 xs (.int .i64 ((k + 1 : Nat) : Int)) (wr.drew.setCell ⟨w.heap.size, k, none⟩ (.int .u64 (o : Int))) :=
        ⟨k + 1, us ++ [o], by omega, rfl, hide (by simp [hu.out]), du.append (Dg.cons bo Dg.nil), hide (by rw [ek, ez.out]; exact hv1), hst, (below_drewN hbel 1).setCell (Nat.le_refl _) _⟩
      have i1 : (k : Int) < (size : Int) := by omega
      clear hst es hv hv0 hv1 hu du hrow hbel hx2 ex ez bx hcc bo hy ho hr hjl ek Hx Dx hpow hV hr0
      go_wp2_with fail
      go_region_held3 (fun _ => True) (first | trivial | exact True.intro)
        (first
          | (go_at_call 76; (with_reducible refine atx.out.mono ?_); rintro e w' ⟨rfl, rfl⟩)
          | (go_at_call 76; (with_reducible refine atz.out.mono ?_); rintro e w' ⟨rfl, rfl⟩))
      all_goals
        go_wp2_with fail
        go_roundw
        case rel => exact fin
        case measure => simp [intOf]; omega
    · obtain rfl : k = size := by omega
      simp only [Nat.sub_self, List.replicate_zero, List.append_nil] at hrow
      have e := hv.out
      have hn1 := Hx.out.1
      have ez0 : atN xs ((k : Int) + (far : Int)) = 0 := by
        unfold atN
        rw [if_neg (by omega)]
        have h9 : xs.length ≤ ((k : Int) + (far : Int)).toNat := by omega
        simp [List.getD_eq_getElem?_getD, List.getElem?_eq_none h9]
      rw [ez0, Nat.zero_mod, Nat.mul_zero, Nat.add_zero, List.take_of_length_le (by rw [List.length_drop]; omega)] at e
      have hr1 : r0 < 2 ^ s := by rw [← hr0.out]; exact Nat.mod_lt _ (Nat.pow_pos (by omega))
      have fin : WordsRet 71 w k V (.returned (.slice (some ⟨w.heap.size, 0, none⟩) k k)) wr := by
        refine ⟨us, rfl, hu.out, du, ?_, hrow, hbel⟩
        rw [← hV.out, hpow.out, ← e, Nat.add_comm, Nat.add_mul_div_right _ _ (Nat.pow_pos (by omega)), Nat.div_eq_of_lt hr1, Nat.zero_add]
      clear e hrow hv hu du hbel Hx Dx hpow hV hr0 hr1 ez0 hn1
      go_wp2_with fail
      go_ret
      exact fin
end Go.Proofs.YtkonakjchimniaaDoor
