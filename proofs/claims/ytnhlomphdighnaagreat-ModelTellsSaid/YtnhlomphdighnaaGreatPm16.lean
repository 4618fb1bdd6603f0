
/-
 Two lists of constraints in their one form, the same: the document's Same.
-/
import Derived.Test.YtnhlomphdighnaaGreatBundleU
import Derived.Test.YtnhlomphdighnaaGreatBundleN
import Derived.Test.YtnhlomphdighnaaGreatBundleQ
import Derived.Test.YtnhlomphdighnaaGreatKref8


namespace Go.Proofs.YtnhlomphdighnaaGreat
open Go.RowKit Go.Proofs.YtnhlomphdighnaaGreat.Num
set_option linter.unusedVariables false
set_option linter.unusedSimpArgs false
set_option maxRecDepth 100000
set_option maxHeartbeats 8000000 in
theorem csame_c {w : World} {u v : Value} {d f : List Kx} {L M : Nat} (hu : Lr ek 5 w u d) (hv : Lr ek 5 w v f) (hku : ∀ k ∈ d, Kc w k L) (hkv : ∀ k ∈ f, Kc w k M) (hl : f.length = d.length) (he : ∀ (i : Nat) x y, d[i]? = some x → f[i]? = some y → x.s = y.s ∧ tms x.d = tms y.d ∧ x.x.r = y.x.r) :
  Calls Tryz.prog 10 #[u, v] w fun e w' => e = .returned (.bool true) ∧ Below w.heap.size w w' := by
 obtain ⟨A, c, e1, hc1, hc2, hc3⟩ := id hu
 obtain ⟨D, m, e2, hd1, hd2, hd3⟩ := id hv
 obtain ⟨n, hlen⟩ : ∃ n, n = d.length := ⟨_, rfl⟩
 rw [hl] at e2 hd1
 rw [← hlen] at e1 e2 hc1 hd1
 subst e1 e2
 have HU := hide hu
 have KU := hide hku
 have KV := hide hkv
 have HE := hide he
 have HV := hide hv
 have HN := hide hlen
 have HL := hide hl
 unfold maxLen at hc2
 have t0 : ((n : Int) != (n : Int)) = false := by simp
 clear hu hv hku hkv he hc3 hd3 hl hlen
 go_enter Tryz.func10, Tryz.ntmps10
 go_wp2_with fail
 go_loopw [5] (fun iv wr => ∃ k : Nat, k ≤ n ∧ iv = .int .i64 (k : Int) ∧ Hid (Below w.heap.size w wr)) (fun iv _ => n - (intOf iv).toNat)
 case atStart => exact ⟨0, Nat.zero_le _, rfl, hide (Below.refl _ _)⟩
 case round =>
  obtain ⟨k, hk, rfl, B⟩ := hrel
  by_cases hlt : k < n
  ·obtain ⟨x, hx⟩ := len_of (d := d) (k := k) (by rw [← HN.out]; exact hlt)
   obtain ⟨y, hy⟩ := len_of (d := f) (k := k) (by rw [HL.out, ← HN.out]; exact hlt)
   have b8 := (Below.refl wr.heap.size wr).drew
   have B8 := hide (Below.step B.out B.out.size b8)
   have RX := hide (((KU.out x (List.mem_of_getElem? hx)).step B.out).step b8)
   have RY := hide (((KV.out y (List.mem_of_getElem? hy)).step B.out).step b8)
   have EC := hide (HE.out k x y hx hy)
   obtain ⟨b, off, rfl, hb, hc⟩ := ((HU.out.step B.out).step b8).get hx
   obtain ⟨b', off', rfl, hb', hc'⟩ := ((HV.out.step B.out).step b8).get hy
   have c0 := hc 0 _ rfl
   have c1 := hc 1 _ rfl
   have c2 := hc 2 _ rfl
   have c3 := hc 3 _ rfl
   have c4 := hc 4 _ rfl
   have e0 := hc' 0 _ rfl
   have e1 := hc' 1 _ rfl
   have e2 := hc' 2 _ rfl
   have e3 := hc' 3 _ rfl
   have e4 := hc' 4 _ rfl
   rw [Nat.add_zero] at c0 e0
   have l0 : (0 : Int) ≤ (k : Int) := by omega
   have l1 : (k : Int) < (n : Int) := by omega
   have P := hide (And.intro (And.intro c0 (And.intro c1 (And.intro c2 (And.intro c3 c4)))) (And.intro e0 (And.intro e1 (And.intro e2 (And.intro e3 e4)))))
   clear hc hc' hb hb' hx hy b8
   go_wp2_with fail
   go_region_held3 (fun W => (W.cell? ⟨b, off + k * 5, none⟩ = some (.int .i64 x.s) ∧ W.cell? ⟨b, off + k * 5 + 1, none⟩ = some (sv x.v) ∧ W.cell? ⟨b, off + k * 5 + 2, none⟩ = some (.bool x.x.s) ∧ W.cell? ⟨b, off + k * 5 + 3, none⟩ = some (sv x.x.u) ∧ W.cell? ⟨b, off + k * 5 + 4, none⟩ = some (sv x.x.t)) ∧ W.cell? ⟨b', off' + k * 5, none⟩ = some (.int .i64 y.s) ∧ W.cell? ⟨b', off' + k * 5 + 1, none⟩ = some (sv y.v) ∧ W.cell? ⟨b', off' + k * 5 + 2, none⟩ = some (.bool y.x.s) ∧ W.cell? ⟨b', off' + k * 5 + 3, none⟩ = some (sv y.x.u) ∧ W.cell? ⟨b', off' + k * 5 + 4, none⟩ = some (sv y.x.t))
    (with_reducible exact P.out)
    (first
     | (go_at_call 36; refine Calls.mono (samecons_x RX.out RY.out) ?_; rintro e wx ⟨hbr, bx⟩; obtain rfl := hbr.tr EC.out; clear hbr; have P9 := hide (And.intro (And.intro (cell_keep P.out.1.1 bx) (And.intro (cell_keep P.out.1.2.1 bx) (And.intro (cell_keep P.out.1.2.2.1 bx) (And.intro (cell_keep P.out.1.2.2.2.1 bx) (cell_keep P.out.1.2.2.2.2 bx))))) (And.intro (cell_keep P.out.2.1 bx) (And.intro (cell_keep P.out.2.2.1 bx) (And.intro (cell_keep P.out.2.2.2.1 bx) (And.intro (cell_keep P.out.2.2.2.2.1 bx) (cell_keep P.out.2.2.2.2.2 bx)))))); replace P := P9; have B9 := hide (Below.step B8.out B8.out.size bx)))
   all_goals
    clear P c0 c1 c2 c3 c4 e0 e1 e2 e3 e4
    go_wp2_with fail
    exact ⟨⟨k + 1, by omega, by go_num, B9⟩, by simp [intOf]; omega⟩
  ·obtain rfl : k = n := by omega
   go_wp2_with fail
   go_ret
   exact ⟨rfl, B.out⟩
theorem Crs.same {l m : List Kx} {ts : List Cr} (h : Crs l ts) (k : Crs m ts) : ∀ (i : Nat) x y, l[i]? = some x → m[i]? = some y → x.s = y.s ∧ tms x.d = tms y.d ∧ x.x.r = y.x.r := by
 induction l generalizing m ts with
 | nil => intro i x y hx; simp at hx
 | cons a l ih => cases ts with
  | nil => exact h.elim
  | cons t ts => cases m with
   | nil => exact k.elim
   | cons b m =>
    intro i x y hx hy
    cases i with
    | zero =>
     simp at hx hy
     subst hx hy
     exact ⟨h.1.1.trans k.1.1.symm, Fm.unique h.1.2.1 k.1.2.1 (fun c hc => (h.1.2.2.1 c hc).trans (k.1.2.2.1 c hc).symm), h.1.2.2.2.trans k.1.2.2.2.symm⟩
    | succ i => exact ih h.2 k.2 i x y (by simpa using hx) (by simpa using hy)
end Go.Proofs.YtnhlomphdighnaaGreat
