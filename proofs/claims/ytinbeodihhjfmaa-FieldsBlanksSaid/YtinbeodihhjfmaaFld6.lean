/-
  Two lists of lines are one.
-/
import Derived.Test.YtinbeodihhjfmaaFld4
import Derived.Deep.DeepCutAuto
import Derived.Deep.CutBlock
import Derived.BigGuardPart
import Derived.Deep.QuietTactic
import Derived.BigQuiet
import Derived.Deep.RegionHeld3
namespace Go.Proofs.Ytinbeodihhjfmaa
open Go Go.RowKit Go.Shelf
set_option linter.unusedVariables false
set_option linter.unusedSimpArgs false
set_option maxRecDepth 100000

theorem at8 {α : Type} {d : List α} {k : Nat} (h : k < d.length) : ∃ x, d[k]? = some x := ⟨d[k], List.getElem?_eq_getElem h⟩
/-- Lines as they are read. -/
def Lv (W : World) (v : Value) (d : List Lx) : Prop := Lr el 3 W v d ∧ ∀ x ∈ d, Lr es 1 W (sv x.wv) x.ws
theorem Lv.step {W W' : World} {v : Value} {d : List Lx} (h : Lv W v d) (hb : Below W.heap.size W W') : Lv W' v d := ⟨h.1.step hb, fun x hx => (h.2 x hx).step hb⟩
theorem Lg.lv {W : World} {B : Nat} {v : Value} {d : List Lx} (h : Lg W B v d) : Lv W v d := ⟨h.1.rl el_len, fun x hx => (h.2 x hx).rl es_len⟩
theorem ln_at {d f : List Lx} (h : d.map Lx.ln = f.map Lx.ln) {k : Nat} {x y : Lx} (hx : d[k]? = some x) (hy : f[k]? = some y) : x.no = y.no ∧ x.hd = y.hd ∧ x.ws = y.ws := by
  have e : (d.map Lx.ln)[k]? = (f.map Lx.ln)[k]? := by rw [h]
  rw [List.getElem?_map, List.getElem?_map, hx, hy] at e
  simp only [Option.map_some, Option.some.injEq, Lx.ln, Ln.mk.injEq] at e
  exact e

set_option maxHeartbeats 8000000 in
theorem same8 {w : World} {u v : Value} {d f : List Lx} (hu : Lv w u d) (hv : Lv w v f) (he : d.map Lx.ln = f.map Lx.ln) :
    Calls Try.prog 7 #[u, v] w fun e w' => e = .returned (.bool true) ∧ Below w.heap.size w w' := by
  obtain ⟨A, c, e1, hc1, hc2, hc3⟩ := id hu.1
  obtain ⟨D, m, e2, hd1, hd2, hd3⟩ := id hv.1
  have hl : f.length = d.length := by have := congrArg List.length he; simpa using this.symm
  obtain ⟨n, hlen⟩ : ∃ n, n = d.length := ⟨_, rfl⟩
  rw [hl] at e2 hd1
  rw [← hlen] at e1 e2 hc1 hd1
  subst e1 e2
  have HU := hide hu
  have HV := hide hv
  have HN := hide hlen
  have HL := hide hl
  have HE := hide he
  unfold maxLen at hc2
  have t0 : ((n : Int) != (n : Int)) = false := by simp
  clear hu hv hc3 hd3 hl hlen he
  go_enter Try.func7, Try.ntmps7
  go_wp2_with fail
  go_loopw [5] (fun iv wr => ∃ k : Nat, k ≤ n ∧ iv = .int .i64 (k : Int) ∧ Hid (Below w.heap.size w wr)) (fun iv _ => n - (intOf iv).toNat)
  case atStart => exact ⟨0, Nat.zero_le _, rfl, hide (Below.refl _ _)⟩
  case round =>
    obtain ⟨k, hk, rfl, B⟩ := hrel
    by_cases hlt : k < n
    · obtain ⟨x, hx⟩ := at8 (d := d) (k := k) (by rw [← HN.out]; exact hlt)
      obtain ⟨y, hy⟩ := at8 (d := f) (k := k) (by rw [HL.out, ← HN.out]; exact hlt)
      obtain ⟨g1, g2, g3⟩ := ln_at HE.out hx hy
      have WX := hide (HU.out.2 x (List.mem_of_getElem? hx))
      have WY := hide (HV.out.2 y (List.mem_of_getElem? hy))
      rw [← g3] at WY
      have HC := hide (show ∀ W, Below w.heap.size w W → ∃ b off, A = some ⟨b, off, none⟩ ∧ W.cell? ⟨b, off + k * 3, none⟩ = some (.int .i64 (x.no : Int)) ∧ W.cell? ⟨b, off + k * 3 + 1, none⟩ = some (.bool x.hd) ∧ W.cell? ⟨b, off + k * 3 + 2, none⟩ = some (sv x.wv) from fun W h => by
        obtain ⟨b, off, e, hb, hcs⟩ := (HU.out.1.step h).get hx
        exact ⟨b, off, e, by have := hcs 0 _ rfl; rwa [Nat.add_zero] at this, hcs 1 _ rfl, hcs 2 _ rfl⟩)
      have HD := hide (show ∀ W, Below w.heap.size w W → ∃ b off, D = some ⟨b, off, none⟩ ∧ W.cell? ⟨b, off + k * 3, none⟩ = some (.int .i64 (x.no : Int)) ∧ W.cell? ⟨b, off + k * 3 + 1, none⟩ = some (.bool x.hd) ∧ W.cell? ⟨b, off + k * 3 + 2, none⟩ = some (sv y.wv) from fun W h => by
        obtain ⟨b, off, e, hb, hcs⟩ := (HV.out.1.step h).get hy
        exact ⟨b, off, e, by have := hcs 0 _ rfl; rw [Nat.add_zero] at this; rw [g1]; exact this, by rw [g2]; exact hcs 1 _ rfl, hcs 2 _ rfl⟩)
      obtain ⟨⟨A1, n1, c1⟩, hwx⟩ : ∃ z, x.wv = z := ⟨_, rfl⟩
      obtain ⟨⟨A2, n2, d2⟩, hwy⟩ : ∃ z, y.wv = z := ⟨_, rfl⟩
      rw [hwx] at WX HC
      rw [hwy] at WY HD
      have N1 : n1 = x.ws.length := by
        obtain ⟨A', c', e, _⟩ := WX.out
        injection e
      have N2 : n2 = n1 := by
        obtain ⟨A', c', e, _⟩ := WY.out
        injection e with e1 e2 e3
        have e2 : n2 = x.ws.length := e2
        omega
      subst N2
      have hm1 : n2 ≤ 9223372036854775807 := by
        have := WX.out.len
        unfold maxLen at this
        omega
      have HN1 := hide N1
      have b8 := (Below.refl wr.heap.size wr).drew
      have B8 := hide (bstep B.out B.out.size b8)
      obtain ⟨b, off, rfl, c0, c1', c2'⟩ := HC.out _ B.out
      obtain ⟨b', off', rfl, e0, e1', e2'⟩ := HD.out _ B.out
      have l0 : (0 : Int) ≤ (k : Int) := by omega
      have l1 : (k : Int) < (n : Int) := by omega
      have t1 : ((x.no : Int) != (x.no : Int)) = false := by simp
      have t2 : (x.hd != x.hd) = false := by simp
      have t3 : ((n2 : Int) != (n2 : Int)) = false := by simp
      clear hx hy g1 g2 g3 N1 b8 hwx hwy
      go_wp2_with fail
      go_quiet (fail)
      obtain ⟨wo, hwo⟩ : ∃ wo, wr.drewN nq = wo := ⟨_, rfl⟩
      have B9 := hide (show Below w.heap.size w wo from by rw [← hwo]; exact bstep B.out B.out.size (below_drewNg wr nq))
      rw [hwo]
      clear hwo c0 c1' c2' e0 e1' e2' B8 B
      go_wp2_with fail
      go_loopw [6] (fun iv wr => ∃ j : Nat, j ≤ n2 ∧ iv = .int .i64 (j : Int) ∧ Hid (Below w.heap.size w wr)) (fun iv _ => n2 - (intOf iv).toNat)
      case atStart => exact ⟨0, Nat.zero_le _, rfl, B9⟩
      case round =>
        obtain ⟨j, hj, rfl, Z⟩ := hrel
        obtain ⟨b3, o3, r1, c0, c1', c2'⟩ := HC.out _ Z.out
        obtain ⟨b4, o4, r2, e0, e1', e2'⟩ := HD.out _ Z.out
        injection r1 with r1
        injection r1 with r11 r12
        injection r2 with r2
        injection r2 with r21 r22
        subst r11 r12 r21 r22
        by_cases hjt : j < n2
        · obtain ⟨s, hs⟩ := at8 (d := x.ws) (k := j) (by rw [← HN1.out]; exact hjt)
          obtain ⟨p1, q1, rfl, hp1, hc1⟩ := (WX.out.step Z.out).get hs
          obtain ⟨p2, q2, rfl, hp2, hc2⟩ := (WY.out.step Z.out).get hs
          have s1 := hc1 0 _ rfl
          have s2 := hc2 0 _ rfl
          rw [Nat.add_zero, Nat.mul_one] at s1 s2
          have m0 : (0 : Int) ≤ (j : Int) := by omega
          have m1 : (j : Int) < (n2 : Int) := by omega
          have c2 : wr.cell? ⟨b, off + k * 3 + 2, none⟩ = some (.slice (some ⟨p1, q1, none⟩) n2 c1) := c2'
          have e2 : wr.cell? ⟨b', off' + k * 3 + 2, none⟩ = some (.slice (some ⟨p2, q2, none⟩) n2 d2) := e2'
          clear hc1 hc2 hp1 hp2 hs c2' e2'
          go_wp2_with fail
          go_quiet (fail)
          have Z9 := hide (show Below w.heap.size w (wr.drewN nq) from bstep Z.out Z.out.size (below_drewNg wr nq))
          go_wp2_with fail
          exact ⟨⟨j + 1, by omega, by go_num, Z9⟩, by simp [intOf]; omega⟩
        · obtain rfl : j = n2 := by omega
          go_wp2_with fail
          exact ⟨⟨k + 1, by omega, by go_num, Z⟩, by simp [intOf]; omega⟩
    · obtain rfl : k = n := by omega
      go_wp2_with fail
      go_ret
      exact ⟨rfl, B.out⟩
end Go.Proofs.Ytinbeodihhjfmaa
