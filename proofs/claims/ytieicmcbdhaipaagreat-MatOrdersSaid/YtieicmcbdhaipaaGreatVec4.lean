/-
  Lists of terms: sorted by their places; the terms that count, by their places.
-/
import Derived.Test.YtieicmcbdhaipaaGreatVec3

namespace Go.Proofs.YtieicmcbdhaipaaGreat
open Go.RowKit Go.Proofs.YtieicmcbdhaipaaGreat.Num
set_option linter.unusedVariables false
set_option linter.unusedSimpArgs false
set_option maxRecDepth 100000

theorem lt_c (x y : Tx) : Go.Proofs.ltOf (fun x y : Tx => Go.Lib.compareInt x.c y.c) x y = decide (x.c < y.c) := by
  unfold Go.Proofs.ltOf Go.Lib.compareInt
  by_cases h1 : x.c < y.c
  · simp [h1]
  · by_cases h2 : y.c < x.c <;> simp [h1, h2]
theorem swo_c : Go.Sort.SWO (Go.Proofs.ltOf fun x y : Tx => Go.Lib.compareInt x.c y.c) where
  irrefl x := by rw [lt_c]; simp
  trans x y z h1 h2 := by rw [lt_c] at *; simp at *; omega
  ntrans x y z h1 h2 := by rw [lt_c] at *; simp at *; omega
theorem enter_low : ∀ args w, (callFunc 169 args).run Tryz.prog w = .ok (.enter 169 args) w := Go.Proofs.enters_of Tryz.func169 (by kernel_rfl) rfl
theorem enter_ord : ∀ args w, (callFunc 171 args).run Tryz.prog w = .ok (.enter 171 args) w := Go.Proofs.enters_of Tryz.func171 (by kernel_rfl) rfl
theorem enter_nil : ∀ args w, (callFunc 119 args).run Tryz.prog w = .ok (.enter 119 args) w := Go.Proofs.enters_of Tryz.func119 (by kernel_rfl) rfl
theorem ins_nil (w : World) (f : Value) : Calls Tryz.prog 211 #[.slice none 0 0, .int .i64 0, .int .i64 0, f] w fun e w' => e = .returned (.tuple #[]) ∧ w' = w := by
  go_enter Tryz.func211, Tryz.ntmps211
  go_wp2_with fail
  go_loop [8] (fun iv => iv = .int .i64 1) (fun _ => 0)
  case atStart => rfl
  case round =>
    subst hrel
    go_wp2_with fail
    go_end0
    exact ⟨rfl, rfl⟩
theorem pdq_nil (w : World) (z : Int) (f : Value) : Calls Tryz.prog 194 #[.slice none 0 0, .int .i64 0, .int .i64 0, .int .i64 z, f] w fun e w' => e = .returned (.tuple #[]) ∧ w' = w := by
  go_enter Tryz.func194, Tryz.ntmps194
  go_wp2_with fail
  go_loop [1, 2] (fun iv jv => iv = .int .i64 0 ∧ jv = .int .i64 0) (fun _ _ => 0)
  case atStart => exact ⟨rfl, rfl⟩
  case round =>
    obtain ⟨rfl, rfl⟩ := hrel
    go_wp2_with fail
    refine (ins_nil w f).mono ?_
    rintro e _ ⟨rfl, rfl⟩
    go_wp2_with fail
    exact bodyPost_ret (results_none rfl _ _ _) rfl ⟨rfl, rfl⟩
theorem PermIn.perm {d d' : Array Tx} (h : Go.Sort.PermIn 0 d.size d d') : d'.size = d.size ∧ d'.toList.Perm d.toList := by
  refine ⟨h.1, ?_⟩
  have h2 := h.2.2
  have e1 : d.extract 0 d.size = d := by simp
  have e2 : d'.extract 0 d.size = d' := by rw [← h.1]; simp
  rwa [e1, e2] at h2
theorem SortedIn.pair {d' : Array Tx} {n : Nat} (hs : d'.size = n) (h : Go.Sort.SortedIn (Go.Proofs.ltOf fun x y : Tx => Go.Lib.compareInt x.c y.c) 0 n d') : d'.toList.Pairwise (fun a b => a.c ≤ b.c) := by
  rw [List.pairwise_iff_getElem]
  intro i j hi hj hij
  have h1 := h i j (Nat.zero_le _) hij (by rw [← hs]; simpa using hj)
  rw [lt_c] at h1
  have hi2 : i < d'.size := by simpa using hi
  have hj2 : j < d'.size := by simpa using hj
  rw [getElem!_pos d' i hi2, getElem!_pos d' j hj2] at h1
  simp at h1 ⊢
  exact h1

set_option maxHeartbeats 2000000 in
theorem sort_t {w : World} {B : Nat} {v : Value} {d : List Tx} (hv : Ow 63 et 4 w B v d) (hn : d.length ≤ 100000000) :
    Calls Tryz.prog 170 #[v, .func (.func 171) #[] #[]] w fun e w' => e = .returned (.tuple #[]) ∧ ∃ d', d'.Perm d ∧ d'.Pairwise (fun a b => a.c ≤ b.c) ∧ Ow 63 et 4 w' B v d' ∧ w.grownBy w' v.ownBlock := by
  rcases hv.form with ⟨rfl, rfl⟩ | ⟨g, cap, cur, rfl, hB, hlt, hh, hcap, hm, -, -⟩
  · have wr : IntKind.u64.wrap 0 = 0 := by rfl
    have hl : Calls Tryz.prog 195 #[.int .u64 0] w fun e w' => (∃ l : Int, e = .returned (.int .i64 l)) ∧ w' = w := by
      have h := Go.Proofs.Any.bits_Len (Go.Proofs.SlLaysF0.n15.bits (P := Tryz.prog) (ρ := Go.Proofs.Tryz.sortTm_ren) { Go.Proofs.Tryz.sortTm with }) 0 w (by omega) (by omega)
      exact h.mono fun e w' ⟨h1, h2⟩ => ⟨⟨_, h1⟩, h2⟩
    clear hv
    go_enter Tryz.func170, Tryz.ntmps170
    go_wp2_with fail
    refine hl.mono ?_
    rintro e _ ⟨⟨l, rfl⟩, rfl⟩
    go_wp2_with fail
    refine (pdq_nil _ l _).mono ?_
    rintro e _ ⟨rfl, rfl⟩
    go_wp2_with fail
    go_end0
    exact ⟨rfl, [], List.Perm.refl _, List.Pairwise.nil, Ow.nil _ _ _ _ _, only_refl _ _⟩
  · have hcmp : Go.Proofs.CmpLays Tryz.prog 171 #[] et 4 (fun x y => Go.Lib.compareInt x.c y.c) g 0 d.toArray.size w := fun _ _ _ _ x y => ord_c x y _
    have hcon := Go.Proofs.AnyQ.slices_SortFunc Go.Proofs.Tryz.sortTm 4 (fun w => by rfl) (fun w => by rfl) et et_len et_one (fun x y : Tx => Go.Lib.compareInt x.c y.c) swo_c 171 #[] g 0 cap d.toArray w enter_ord hcmp (hv.holdsK et_len (by omega)) hlt (by simp; omega)
    have e0 : d.toArray.size = d.length := by simp
    rw [e0] at hcon
    change Calls Tryz.prog 170 _ _ _ at hcon
    refine hcon.mono ?_
    rintro e w' ⟨he, d', n, os, hp, hs, rfl⟩
    rw [← e0] at hp
    obtain ⟨h1, h2⟩ := PermIn.perm hp
    have h3 : d'.size = d.length := by rw [h1, e0]
    obtain ⟨k1, k2⟩ := hv.sorted et_len (by omega) h3 n os
    refine ⟨he, d'.toList, h2, SortedIn.pair h3 hs, ?_, k2⟩
    rw [show d'.toList.length = d.length by simpa using h3] at k1
    exact k1
/-! ### The terms that count, by their places -/
set_option maxHeartbeats 2000000 in
theorem rising_t {w : World} {v : Value} {d : List Tx} (hv : Lr et 4 w v d) (hn : d.length ≤ 100000000) :
    Calls Tryz.prog 117 #[v] w fun e w' => ∃ v' d', e = .returned v' ∧ Lr et 4 w' v' d' ∧ d'.Perm (d.filter fun x => !decide (x.c < 0)) ∧ d'.Pairwise (fun a b => a.c ≤ b.c) ∧ Below w.heap.size w w' := by
  have HC := hide (clone_t hv hn)
  have hvs : ∃ A n c, v = .slice A n c := by
    obtain ⟨A, c, rfl, _⟩ := hv
    exact ⟨_, _, _, rfl⟩
  obtain ⟨A, n, c, rfl⟩ := hvs
  clear hv
  go_enter Tryz.func117, Tryz.ntmps117
  go_wp2_with fail
  refine HC.out.mono ?_
  rintro e w1 ⟨v1, rfl, o1, b1⟩
  have HD := hide (delete_f (fun x => decide (x.c < 0)) enter_low o1 hn (fun W _ x _ => low_c x W))
  have O1 := hide o1
  have B1 := hide b1
  clear o1 b1 HC
  go_wp2_with fail
  refine HD.out.mono ?_
  rintro e w2 ⟨v2, rfl, o2, g2⟩
  have B2 := hide (below_own B1.out O1.out g2 B1.out.size)
  have HS := hide (sort_t o2 (Nat.le_trans (List.length_filter_le _ _) hn))
  have O2 := hide o2
  clear o2 g2 HD O1 B1
  go_wp2_with fail
  refine HS.out.mono ?_
  rintro e w3 ⟨rfl, d', hp, hs, o3, g3⟩
  have F := hide (And.intro (o3.rl et_len) (And.intro hp (And.intro hs (below_own B2.out O2.out g3 B2.out.size))))
  clear o3 g3 hp hs HS O2 B2
  go_wp2_with fail
  go_ret
  exact ⟨_, d', rfl, F.out⟩
end Go.Proofs.YtieicmcbdhaipaaGreat
