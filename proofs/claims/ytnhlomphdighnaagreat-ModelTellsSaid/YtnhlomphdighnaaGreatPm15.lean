
/-
 The document's Objective of a problem.
-/
import Derived.Test.YtnhlomphdighnaaGreatPm13
import Derived.Test.YtnhlomphdighnaaGreatBundleU
import Derived.Test.YtnhlomphdighnaaGreatVecDotsW
import Derived.Test.YtnhlomphdighnaaGreatBundleI
import Derived.Test.YtnhlomphdighnaaGreatBundleQ


namespace Go.Proofs.YtnhlomphdighnaaGreat
open Go.RowKit Go.Proofs.YtnhlomphdighnaaGreat.Num
set_option linter.unusedVariables false
set_option linter.unusedSimpArgs false
set_option maxRecDepth 100000
set_option maxHeartbeats 8000000 in
theorem robj_c {w : World} {p : Px} {L : Nat} (hp : Pv w p L) (hn : p.vars.length ≤ 1000) (h1 : 1 ≤ L) (hL : L ≤ 100000) :
  Calls Tryz.prog 13 #[px p] w (VRet w (xf (p.vars.map (·.co))) p.vars.length (p.vars.length * (5 * L + 1) + 6)) := by
 obtain ⟨i0, hi, hz0, hz1, hz2⟩ := info_parts info_tm
 obtain ⟨nm, ob, ⟨RA, rn, rc⟩, rows, ⟨VA, vn, vc⟩, vars⟩ := p
 obtain ⟨VA', vc', ev, hc1, hc2, hc3⟩ := id hp.2.1
 dsimp only at ev hc1 hc2 hn
 injection ev with e1 e2 e3
 subst e1 e2 e3
 obtain ⟨n, hlen⟩ : ∃ n, n = vars.length := ⟨_, rfl⟩
 rw [← hlen] at hp hc1 hn ⊢
 have b2 := alloc_below w (.cells #[.string nm, .string ob, .slice RA rn rc, .slice VA n vc] 25)
 have PQ := hide (show Pq (w.alloc (.cells #[.string nm, .string ob, .slice RA rn rc, .slice VA n vc] 25)) w.heap.size ⟨nm, ob, (RA, rn, rc), rows, (VA, n, vc), vars⟩ from heap_alloc_new w _)
 have HP := hide hp.2.1
 have HC := hide (show ∀ x ∈ vars, Ra w (rx x.co) x.co.r L from fun x hx => (hp.2.2 x hx).2.2)
 have HN := hide hlen
 have B := hide b2
 unfold maxLen at hc2
 clear hp b2 hc3 hlen
 obtain ⟨p0, p1, p2, p3⟩ := PQ.out.alls
 go_enter Tryz.func13, Tryz.ntmps13
 have hsz : (w.alloc (.cells #[.string nm, .string ob, .slice RA rn rc, .slice VA n vc] 25)).heap.size = w.heap.size + 1 := by simp
 have BA := hide (alloc_below (w.alloc (.cells #[.string nm, .string ob, .slice RA rn rc, .slice VA n vc] 25)) (.cells #[] 51))
 have O1 := hide (show Ow 51 et 4 ((w.alloc (.cells #[.string nm, .string ob, .slice RA rn rc, .slice VA n vc] 25)).alloc (.cells #[] 51)) (w.heap.size + 1) (.slice (some ⟨w.heap.size + 1, 0, none⟩) 0 0) ([] : List Tx) from by
  have h := Ow.lit (B := (w.alloc (.cells #[.string nm, .string ob, .slice RA rn rc, .slice VA n vc] 25)).heap.size) et_len (w.alloc (.cells #[.string nm, .string ob, .slice RA rn rc, .slice VA n vc] 25)) 51 ([] : List Tx) #[] rfl (Nat.le_refl _) (by simp [maxLen])
  rw [hsz] at h
  exact h)
 have PQ2 := hide (PQ.out.step BA.out)
 have B2 := hide (Below.step B.out B.out.size BA.out)
 go_wp2_with fail
 clear hsz p0 p1 p2 p3
 generalize ((w.alloc (.cells #[.string nm, .string ob, .slice RA rn rc, .slice VA n vc] 25)).alloc (.cells #[] 51)) = w2 at *
 clear PQ B BA
 go_loopw [3, 4] (fun ov iv wr => ∃ (k : Nat) (os : List Tx), k ≤ n ∧ iv = .int .i64 (k : Int) ∧ Hid (tms os = gal (xf (vars.map (·.co))) k) ∧ Hid (os.length = k) ∧ Hid (Below w.heap.size w wr) ∧ Hid (Pq wr w.heap.size ⟨nm, ob, (RA, rn, rc), rows, (VA, n, vc), vars⟩) ∧ Hid (Ow 51 et 4 wr (w.heap.size + 1) ov os) ∧ Hid (∀ y ∈ os, Ra w (rx y.x) y.x.r L)) (fun _ iv _ => n - (intOf iv).toNat)
 case atStart => exact ⟨0, [], Nat.zero_le _, rfl, hide rfl, hide rfl, B2, PQ2, O1, hide (fun y hy => by cases hy)⟩
 case round =>
  clear PQ2 B2 O1
  obtain ⟨k, os, hk, rfl, E, GL, B, PQ, O, R⟩ := hrel
  obtain ⟨p0, p1, p2, p3⟩ := PQ.out.alls
  by_cases hlt : k < n
  ·obtain ⟨x, hx⟩ := len_of (d := vars) (k := k) (by rw [← HN.out]; exact hlt)
   have XF := hide (show xf (vars.map (·.co)) (k : Int) = x.co.r from xf_in (by rw [List.getElem?_map, hx]; rfl))
   have RX := hide (HC.out x (List.mem_of_getElem? hx))
   have HLEN := hide (show os.length + 1 ≤ 1000000000000 by have := GL.out; omega)
   have l0 : (0 : Int) ≤ (k : Int) := by omega
   have l1 : (k : Int) < (n : Int) := by omega
   obtain ⟨b, off, rfl, hb, hc⟩ := (HP.out.step B.out).get hx
   have c0 := hc 10 _ rfl
   have c1 := hc 11 _ rfl
   have c2 := hc 12 _ rfl
   clear hc hb hx
   go_wp2_with (at_builtin; go_must (refine wpList_pushE rfl (.tmp 13) (.tmp 22) 31 rfl Tryz.underlying31 hi hz0 hz1 hz2 rfl (by omega) et_len et_one wr (w.heap.size + 1) _ os ⟨(k : Int), x.co⟩ _ rfl O.out rfl rfl HLEN.out (by decide) (by have := PQ.out.lt; omega) ?_); intro v' w' ho hg; have OF := hide ho; have PF := hide (PQ.out.off O.out (by decide) hg.1); have DF := hide (below_own B.out (O.out.mono (B' := w.heap.size) (by omega)) hg.1 B.out.size); clear ho hg)
   have E2 := hide (show tms (os ++ [⟨(k : Int), x.co⟩]) = gal (xf (vars.map (·.co))) (k + 1) by rw [gal, XF.out, tms_append, E.out]; rfl)
   have K2 := hide (show (os ++ [(⟨(k : Int), x.co⟩ : Tx)]).length = k + 1 by have := GL.out; simp; omega)
   have R2 := hide (show ∀ y ∈ os ++ [(⟨(k : Int), x.co⟩ : Tx)], Ra w (rx y.x) y.x.r L from fun y hy => by
    rcases List.mem_append.1 hy with hy | hy
    ·exact R.out y hy
    ·simp at hy; subst hy; exact RX.out)
   exact ⟨⟨k + 1, os ++ [⟨(k : Int), x.co⟩], by omega, by go_num, E2, K2, DF, PF, OF, R2⟩, by simp [intOf]; omega⟩
  ·obtain rfl : k = n := by omega
   have TT := hide (show Tv wr _ os L from ⟨O.out.rl et_len, fun x hx => (R.out x hx).step B.out⟩)
   have GT := hide (show ∀ c, 0 ≤ c → gsum (tms os) c = xf (vars.map (·.co)) c from fun c hc => by
    rw [E.out, gal_sum]
    by_cases h : c < (k : Int)
    ·rw [if_pos ⟨hc, h⟩]
    ·rw [if_neg (fun e => h e.2), xf_out _ c (.inr (by rw [List.length_map, ← HN.out]; omega))])
   have NT := hide GL.out
   obtain ⟨A10, n10, c10, rfl⟩ := rv_sl TT.out.1
   clear E O R
   go_wp2_with fail
   refine (vmake_fl TT.out (by have := NT.out; omega) h1 hL).mono ?_
   rintro e w' ⟨v', d', rfl, t1, f1, g1, l1, bx⟩
   have T1 := hide (t1.mono B.out.size)
   have L1 := hide l1
   have F1 := hide f1
   have G1 := hide g1
   have B1 := hide (Below.step B.out B.out.size bx)
   have NT2 := NT
   go_wp2_with fail
   go_ret
   exact ⟨_, d', rfl, by have h := NT2.out; rw [h] at T1; exact T1.out, F1.out, fun c hc => (G1.out c hc).trans (GT.out c hc), by have := NT2.out; have := L1.out; omega, B1.out⟩
end Go.Proofs.YtnhlomphdighnaaGreat
