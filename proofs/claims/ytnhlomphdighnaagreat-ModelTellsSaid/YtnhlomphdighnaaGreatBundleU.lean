/-
  Shared texts, one behind the other: Pm8, Pm9, Pm10, Pm11.
-/
import Derived.Test.YtnhlomphdighnaaGreatBundleT
import Derived.Test.YtnhlomphdighnaaGreatBundleR
import Derived.Deep.DeepCutAuto
import Derived.Test.YtnhlomphdighnaaGreatFl

namespace Go.Proofs.YtnhlomphdighnaaGreat
open Go.RowKit Go.Proofs.YtnhlomphdighnaaGreat.Num
set_option linter.unusedVariables false
set_option linter.unusedSimpArgs false
set_option maxRecDepth 100000
theorem unbound_f (nm : ByteArray) (o a b : Bool) (lo hi co : Rx) (w : World) : Calls Tryz.prog 52 #[.agg #[.string nm, .bool o, .bool a, .bool b, .bool lo.s, sv lo.u, sv lo.t, .bool hi.s, sv hi.u, sv hi.t, .bool co.s, sv co.u, sv co.t]] w fun e w' => BRet (¬ (a = true ∧ b = true)) e ∧ Below w.heap.size w w' := by
 have B := hide (alloc_below w (.cells #[.string nm, .bool o, .bool a, .bool b, .bool lo.s, sv lo.u, sv lo.t, .bool hi.s, sv hi.u, sv hi.t, .bool co.s, sv co.u, sv co.t] 43))
 cases a <;> cases b
 all_goals
  go_enter Tryz.func52, Tryz.ntmps52
  go_wp2_with fail
  go_ret
  exact ⟨⟨_, rfl, by simp⟩, B.out⟩
theorem unbound_c (x : Ux) (w : World) : Calls Tryz.prog 52 #[.agg (eu x).toArray] w fun e w' => BRet (¬ (x.a = true ∧ x.b = true)) e ∧ Below w.heap.size w w' := unbound_f x.nm x.w x.a x.b x.lo x.hi x.co w
theorem enter_unbound : ∀ args w, (callFunc 52 args).run Tryz.prog w = .ok (.enter 52 args) w := Go.Proofs.enters_of Tryz.func52 (by kernel_rfl) rfl
theorem mfinite_c {w : World} {p : Px} {L : Nat} (hp : Pv w p L) : Calls Tryz.prog 21 #[px p] w fun e w' => BRet (∀ x ∈ p.vars, x.a = true ∧ x.b = true) e ∧ Below w.heap.size w w' := by
 have b2 := alloc_below w (pbox p)
 have P := hide (Pq.new w p)
 have C := hide (contains_u (fun x => ¬ (x.a = true ∧ x.b = true)) enter_unbound (hp.2.1.step b2) (fun W hW x hx => unbound_c x W))
 have B := hide b2
 obtain ⟨nm, ob, ⟨RA, rn, rc⟩, rows, ⟨VA, vn, vc⟩, vars⟩ := p
 obtain ⟨p0, p1, p2, p3⟩ := P.out.alls
 clear hp b2
 go_enter Tryz.func21, Tryz.ntmps21
 go_wp2_with fail
 refine C.out.mono ?_
 rintro e w1 ⟨⟨b9, rfl, hb9⟩, bx⟩
 have H9 := hide hb9
 have B9 := hide (Below.step B.out B.out.size bx)
 clear hb9 bx C p0 p1 p2 p3
 go_wp2_with fail
 go_ret
 refine ⟨⟨_, rfl, ?_⟩, B9.out⟩
 have h := H9.out
 constructor
 ·intro hb x hx
  refine Classical.byContradiction fun hc => ?_
  have := h.2 ⟨x, hx, hc⟩
  rw [this] at hb
  cases hb
 ·intro hh
  cases b9
  ·rfl
  ·obtain ⟨x, hx, hc⟩ := h.1 rfl
   exact absurd (hh x hx) hc
theorem info_bl : (Tryz.prog.info? 4).map (fun i => (i.zero, i.size, i.bytes)) = some (some (.bool false), 1, 1) := by kernel_rfl
theorem make_bl (n : Nat) (hn : n ≤ 100000000) (W : World) : (Instr.makeSlice 33 (.int .i64 (n : Int)) (.int .i64 (n : Int))).run Tryz.prog W = .ok (.slice (some ⟨W.heap.size, 0, none⟩) n n) (W.alloc (.cells (madeCells #[.bool false] n) 4)) := by
 obtain ⟨i, hi, hz0, hz1, hz2⟩ := info_parts info_bl
 have h := run_make (P := Tryz.prog) W 33 4 i _ Tryz.underlying33 hi hz0 .i64 .i64 (n : Int) (n : Int) (by omega) (Int.le_refl _) (by rw [hz2]; omega) (by omega)
 rw [hz1, Int.toNat_natCast, Nat.mul_one] at h
 exact h
theorem made1 (w : World) (B n : Nat) (hB : B ≤ w.heap.size) (hn : n ≤ 100000000) :
  Ow 4 eb1 1 (w.alloc (.cells (madeCells #[.bool false] n) 4)) B (.slice (some ⟨w.heap.size, 0, none⟩) n n) (List.replicate n false) := by
 have h := Ow.lit (B := B) eb1_len w 4 (List.replicate n false) (madeCells #[.bool false] n) (by have h := made_flat (enc := eb1) eb1_len (by omega) false n; rw [Nat.mul_one] at h; exact h) hB (by simp [maxLen]; omega)
 simpa using h
theorem flat_set1b : ∀ (d : List Bool) (i : Nat) (x : Bool), i < d.length → (flat eb1 d).set i (.bool x) = flat eb1 (d.set i x)
 | [], i, x, h => by simp at h
 | y :: d, 0, x, _ => by simp [flat, eb1]
 | y :: d, i + 1, x, h => by
  have ih := flat_set1b d i x (by simpa using h)
  rw [List.set_cons_succ, flat, flat, ← ih]
  simp [eb1]
theorem Ow.putB {W : World} {B g n c i : Nat} {d : List Bool} (h : Ow 4 eb1 1 W B (.slice (some ⟨g, 0, none⟩) n c) d) (hn : n = d.length) (hi : i < d.length) (x : Bool) :
  Ow 4 eb1 1 (W.setCell ⟨g, i, none⟩ (.bool x)) B (.slice (some ⟨g, 0, none⟩) n c) (d.set i x) := by
 subst hn
 have h1 := World.ownsRow.stored (show W.ownsRow B _ 1 _ d.length _ from h) i (.bool x)
 have h2 := h1.1
 rw [flat_set1b d i x hi] at h2
 unfold Ow
 rw [List.length_set]
 exact h2
theorem Ow.cellB {W : World} {B g n c i : Nat} {d : List Bool} {x : Bool} (h : Ow 4 eb1 1 W B (.slice (some ⟨g, 0, none⟩) n c) d) (hi : d[i]? = some x) :
  W.cell? ⟨g, i, none⟩ = some (.bool x) ∧ W.frozen? ⟨g, i, none⟩ = false := by
 obtain ⟨b, off, e, hb, hc⟩ := (h.rl eb1_len).get hi
 injection e with e
 injection e with e1 e2
 subst e1 e2
 have c0 := hc 0 _ rfl
 rw [Nat.zero_add, Nat.mul_one, Nat.add_zero] at c0
 exact ⟨c0, h.frozen rfl _⟩
theorem take_setM {α β : Type} {cur : List α} {d : List β} {f : β → α} {k : Nat} {x : β} (h : cur.take k = (d.take k).map f) (hk : k < cur.length) (hx : d[k]? = some x) : (cur.set k (f x)).take (k + 1) = (d.take (k + 1)).map f := by
 have hl : k < (cur.set k (f x)).length := by rw [List.length_set]; exact hk
 rw [List.take_succ_eq_append_getElem hl, List.take_set_of_le (Nat.le_refl k), h, List.take_add_one, hx]
 simp
theorem below_made {w W : World} {B g n c : Nat} {α : Type} {T : TypeId} {enc : α → List Value} {k : Nat} {d : List α} (hb : Below B w W) (h : Ow T enc k W B (.slice (some ⟨g, 0, none⟩) n c) d) {W' : World} (hg : W.grownBy W' (some g)) (hs : B ≤ W.heap.size) : Below B w W' :=
 hb.grown hg hs (fun g' e => by injection e with e; subst e; exact (h.lt rfl).1)
set_option maxHeartbeats 4000000 in
theorem mwhole_c {w : World} {p : Px} {L : Nat} (hp : Pv w p L) (hn : p.vars.length ≤ 100000) :
  Calls Tryz.prog 9 #[px p] w fun e w' => ∃ v', e = .returned v' ∧ Lr eb1 1 w' v' (p.vars.map (·.w)) ∧ Below w.heap.size w w' := by
 obtain ⟨nm, ob, ⟨RA, rn, rc⟩, rows, ⟨VA, vn, vc⟩, vars⟩ := p
 obtain ⟨VA', vc', ev, hc1, hc2, hc3⟩ := id hp.2.1
 dsimp only at ev hc1 hc2 hn
 injection ev with e1 e2 e3
 subst e1 e2 e3
 obtain ⟨n, hlen⟩ : ∃ n, n = vars.length := ⟨_, rfl⟩
 rw [← hlen] at hp hc1 hn ⊢
 have b2 := alloc_below w (.cells #[.string nm, .string ob, .slice RA rn rc, .slice VA n vc] 25)
 have PQ := hide (show Pq (w.alloc (.cells #[.string nm, .string ob, .slice RA rn rc, .slice VA n vc] 25)) w.heap.size ⟨nm, ob, (RA, rn, rc), rows, (VA, n, vc), vars⟩ from heap_alloc_new w _)
 have HP := hide hp.2.1
 have HN := hide hlen
 have B := hide b2
 have SZ := hide (show w.heap.size < (w.alloc (.cells #[.string nm, .string ob, .slice RA rn rc, .slice VA n vc] 25)).heap.size by simp)
 unfold maxLen at hc2
 clear hp b2 hc3 hlen
 obtain ⟨p0, p1, p2, p3⟩ := PQ.out.alls
 go_enter Tryz.func9, Tryz.ntmps9
 have hsz : (w.alloc (.cells #[.string nm, .string ob, .slice RA rn rc, .slice VA n vc] 25)).heap.size = w.heap.size + 1 := by simp
 have hmk := make_bl n (by omega) (w.alloc (.cells #[.string nm, .string ob, .slice RA rn rc, .slice VA n vc] 25))
 rw [hsz] at hmk
 have O1 := hide (made1 (w.alloc (.cells #[.string nm, .string ob, .slice RA rn rc, .slice VA n vc] 25)) (w.heap.size + 1) n (by simp) (by omega))
 rw [hsz] at O1
 have BA := hide (alloc_below (w.alloc (.cells #[.string nm, .string ob, .slice RA rn rc, .slice VA n vc] 25)) (.cells (madeCells #[.bool false] n) 4))
 generalize madeCells #[.bool false] n = Z at *
 have hpx : n ≤ 9223372036854775807 := by omega
 have hpz : (0 : Int) ≤ (n : Int) := by omega
 have PQ2 := hide (PQ.out.step BA.out)
 have B2 := hide (Below.step B.out B.out.size BA.out)
 obtain ⟨r0, r1, r2, r3⟩ := PQ2.out.alls
 go_wp2_with fail
 clear hmk hsz p0 p1 p2 p3 r0 r1 r2 r3
 generalize ((w.alloc (.cells #[.string nm, .string ob, .slice RA rn rc, .slice VA n vc] 25)).alloc (.cells Z 4)) = w2 at *
 go_loopw [13] (fun iv wr => ∃ (k : Nat) (cur : List Bool), k ≤ n ∧ iv = .int .i64 (k : Int) ∧ Hid (Below w.heap.size w wr) ∧ Hid (Ow 4 eb1 1 wr (w.heap.size + 1) (.slice (some ⟨w.heap.size + 1, 0, none⟩) n n) cur) ∧ Hid (cur.length = n ∧ cur.take k = (vars.take k).map (·.w))) (fun iv _ => n - (intOf iv).toNat)
 case atStart => exact ⟨0, _, Nat.zero_le _, rfl, B2, O1, hide ⟨by simp, by simp⟩⟩
 case round =>
  obtain ⟨k, cur, hk, rfl, BR, O, C⟩ := hrel
  by_cases hlt : k < n
  ·obtain ⟨x, hx⟩ := len_of (d := vars) (k := k) (by rw [← HN.out]; exact hlt)
   have HX := hide hx
   obtain ⟨b, off, rfl, hb, hc⟩ := (HP.out.step BR.out).get hx
   have c0 := hc 0 _ rfl
   have c1 := hc 1 _ rfl
   have c2 := hc 2 _ rfl
   have c3 := hc 3 _ rfl
   have c4 := hc 4 _ rfl
   have c5 := hc 5 _ rfl
   have c6 := hc 6 _ rfl
   have c7 := hc 7 _ rfl
   have c8 := hc 8 _ rfl
   have c9 := hc 9 _ rfl
   have c10 := hc 10 _ rfl
   have c11 := hc 11 _ rfl
   have c12 := hc 12 _ rfl
   rw [Nat.add_zero] at c0
   have l0 : (0 : Int) ≤ (k : Int) := by omega
   have l1 : (k : Int) < (n : Int) := by omega
   have UQ := hide (show Uq (wr.alloc (ubox x)) wr.heap.size x from heap_alloc_new wr _)
   obtain ⟨u0, u1, -⟩ := UQ.out.all
   have b8 := alloc_below wr (ubox x)
   have O5 := hide (O.out.step b8)
   have B5 := hide (Below.step BR.out BR.out.size b8)
   obtain ⟨y, hy⟩ := len_of (d := cur) (k := k) (by rw [C.out.1]; exact hlt)
   obtain ⟨e0, f0⟩ := O5.out.cellB hy
   have hg := only_set (p := ⟨w.heap.size + 1, k, none⟩) (only_refl (wr.alloc (ubox x)) (some (w.heap.size + 1))) rfl (.bool x.w)
   have O6 := hide (O5.out.putB C.out.1.symm (i := k) (by rw [C.out.1]; exact hlt) x.w)
   have B6 := hide (below_made B5.out (O5.out.mono (B' := w.heap.size) (by omega)) hg B5.out.size)
   have C6 := hide (show (cur.set k x.w).length = n ∧ (cur.set k x.w).take (k + 1) = (vars.take (k + 1)).map (·.w) from ⟨by rw [List.length_set]; exact C.out.1, take_setM (f := fun x : Ux => x.w) C.out.2 (by rw [C.out.1]; exact hlt) HX.out⟩)
   clear hc hb hx hy hg b8 O5 B5 O BR C UQ
   go_wp2_with fail
   exact ⟨⟨k + 1, _, by omega, by go_num, B6, O6, C6⟩, by simp [intOf]; omega⟩
  ·obtain rfl : k = n := by omega
   have F := hide (show Lr eb1 1 wr (.slice (some ⟨w.heap.size + 1, 0, none⟩) k k) (vars.map (·.w)) by
    have h := O.out.rl eb1_len
    have e : cur = vars.map (·.w) := by
     have h2 := C.out.2
     rw [List.take_of_length_le (by rw [C.out.1]; exact Nat.le_refl _), List.take_of_length_le (by rw [← HN.out]; exact Nat.le_refl _)] at h2
     exact h2
    rw [e] at h
    exact h)
   clear O C
   go_wp2_with fail
   go_ret
   exact ⟨_, rfl, F.out, BR.out⟩
set_option maxHeartbeats 4000000 in
theorem mobj_c {w : World} {p : Px} {L : Nat} (hp : Pv w p L) (hn : p.vars.length ≤ 100000) (h1 : 1 ≤ L) (hL : L ≤ 1000000) :
  Calls Tryz.prog 8 #[px p] w (VRet w (xf (p.vars.map (·.co))) p.vars.length L) := by
 obtain ⟨nm, ob, ⟨RA, rn, rc⟩, rows, ⟨VA, vn, vc⟩, vars⟩ := p
 obtain ⟨VA', vc', ev, hc1, hc2, hc3⟩ := id hp.2.1
 dsimp only at ev hc1 hc2 hn
 injection ev with e1 e2 e3
 subst e1 e2 e3
 obtain ⟨n, hlen⟩ : ∃ n, n = vars.length := ⟨_, rfl⟩
 rw [← hlen] at hp hc1 hn ⊢
 have b2 := alloc_below w (.cells #[.string nm, .string ob, .slice RA rn rc, .slice VA n vc] 25)
 have PQ := hide (show Pq (w.alloc (.cells #[.string nm, .string ob, .slice RA rn rc, .slice VA n vc] 25)) w.heap.size ⟨nm, ob, (RA, rn, rc), rows, (VA, n, vc), vars⟩ from heap_alloc_new w _)
 have HP := hide hp.2.1
 have HC := hide (show ∀ x ∈ vars, Ra w (rx x.co) x.co.r L from fun x hx => (hp.2.2 x hx).2.2)
 have HN := hide hlen
 have B := hide b2
 have SZ := hide (show w.heap.size < (w.alloc (.cells #[.string nm, .string ob, .slice RA rn rc, .slice VA n vc] 25)).heap.size by simp)
 unfold maxLen at hc2
 clear hp b2 hc3 hlen
 obtain ⟨p0, p1, p2, p3⟩ := PQ.out.alls
 go_enter Tryz.func8, Tryz.ntmps8
 have hsz : (w.alloc (.cells #[.string nm, .string ob, .slice RA rn rc, .slice VA n vc] 25)).heap.size = w.heap.size + 1 := by simp
 have hmk := make_rt n (by omega) (w.alloc (.cells #[.string nm, .string ob, .slice RA rn rc, .slice VA n vc] 25))
 rw [hsz] at hmk
 have O1 := hide (made3 (w.alloc (.cells #[.string nm, .string ob, .slice RA rn rc, .slice VA n vc] 25)) (w.heap.size + 1) n (by simp) (by omega))
 rw [hsz] at O1
 have BA := hide (alloc_below (w.alloc (.cells #[.string nm, .string ob, .slice RA rn rc, .slice VA n vc] 25)) (.cells (madeCells #[.bool false, .slice none 0 0, .slice none 0 0] (n * 3)) 41))
 generalize madeCells #[.bool false, .slice none 0 0, .slice none 0 0] (n * 3) = Z at *
 have hpx : n ≤ 9223372036854775807 := by omega
 have hpz : (0 : Int) ≤ (n : Int) := by omega
 have PQ2 := hide (PQ.out.step BA.out)
 have B2 := hide (Below.step B.out B.out.size BA.out)
 obtain ⟨r0, r1, r2, r3⟩ := PQ2.out.alls
 go_wp2_with fail
 clear hmk hsz p0 p1 p2 p3 r0 r1 r2 r3
 generalize ((w.alloc (.cells #[.string nm, .string ob, .slice RA rn rc, .slice VA n vc] 25)).alloc (.cells Z 41)) = w2 at *
 go_loopw [13] (fun iv wr => ∃ (k : Nat) (cur : List Rx), k ≤ n ∧ iv = .int .i64 (k : Int) ∧ Hid (Below w.heap.size w wr) ∧ Hid (Ow 41 er 3 wr (w.heap.size + 1) (.slice (some ⟨w.heap.size + 1, 0, none⟩) n n) cur) ∧ Hid (cur.length = n ∧ cur.take k = (vars.take k).map (·.co))) (fun iv _ => n - (intOf iv).toNat)
 case atStart => exact ⟨0, _, Nat.zero_le _, rfl, B2, O1, hide ⟨by simp, by simp⟩⟩
 case round =>
  obtain ⟨k, cur, hk, rfl, BR, O, C⟩ := hrel
  by_cases hlt : k < n
  ·obtain ⟨x, hx⟩ := len_of (d := vars) (k := k) (by rw [← HN.out]; exact hlt)
   have HX := hide hx
   obtain ⟨b, off, rfl, hb, hc⟩ := (HP.out.step BR.out).get hx
   have c0 := hc 0 _ rfl
   have c1 := hc 1 _ rfl
   have c2 := hc 2 _ rfl
   have c3 := hc 3 _ rfl
   have c4 := hc 4 _ rfl
   have c5 := hc 5 _ rfl
   have c6 := hc 6 _ rfl
   have c7 := hc 7 _ rfl
   have c8 := hc 8 _ rfl
   have c9 := hc 9 _ rfl
   have c10 := hc 10 _ rfl
   have c11 := hc 11 _ rfl
   have c12 := hc 12 _ rfl
   rw [Nat.add_zero] at c0
   have l0 : (0 : Int) ≤ (k : Int) := by omega
   have l1 : (k : Int) < (n : Int) := by omega
   have UQ := hide (show Uq (wr.alloc (ubox x)) wr.heap.size x from heap_alloc_new wr _)
   obtain ⟨-, -, -, -, -, -, -, -, -, -, u0, u1, u2⟩ := UQ.out.all
   have b8 := alloc_below wr (ubox x)
   have O5 := hide (O.out.step b8)
   have B5 := hide (Below.step BR.out BR.out.size b8)
   obtain ⟨y, hy⟩ := len_of (d := cur) (k := k) (by rw [C.out.1]; exact hlt)
   obtain ⟨⟨e0, e1, e2⟩, f0, f1, f2⟩ := O5.out.cellsR hy
   have hg := only_putR (wr.alloc (ubox x)) (w.heap.size + 1) (k * 3) (k * 3 + 1) (k * 3 + 2) (.bool x.co.s) (sv x.co.u) (sv x.co.t)
   have O6 := hide (O5.out.putR (i := k) (by rw [C.out.1]; exact hlt) x.co)
   have B6 := hide (below_made B5.out (O5.out.mono (B' := w.heap.size) (by omega)) hg B5.out.size)
   have C6 := hide (show (cur.set k x.co).length = n ∧ (cur.set k x.co).take (k + 1) = (vars.take (k + 1)).map (·.co) from ⟨by rw [List.length_set]; exact C.out.1, take_setM (f := fun x : Ux => x.co) C.out.2 (by rw [C.out.1]; exact hlt) HX.out⟩)
   clear hc hb hx hy hg b8 O5 B5 O BR C UQ
   go_wp2_with fail
   exact ⟨⟨k + 1, _, by omega, by go_num, B6, O6, C6⟩, by simp [intOf]; omega⟩
  ·obtain rfl : k = n := by omega
   have F := hide (show Fv wr (.slice (some ⟨w.heap.size + 1, 0, none⟩) k k) (vars.map (·.co)) L by
    have h := O.out.rl er_len
    have e : cur = vars.map (·.co) := by
     have h2 := C.out.2
     rw [List.take_of_length_le (by rw [C.out.1]; exact Nat.le_refl _), List.take_of_length_le (by rw [← HN.out]; exact Nat.le_refl _)] at h2
     exact h2
    rw [e] at h
    refine ⟨h, fun y hy => ?_⟩
    obtain ⟨x, hx, rfl⟩ := List.mem_map.1 hy
    exact (HC.out x hx).step BR.out)
   clear O C
   have LM := hide (show (vars.map (·.co)).length = k by rw [List.length_map]; exact HN.out.symm)
   go_wp2_with fail
   refine (gather_g F.out (by rw [LM.out]; exact hn) h1 hL).mono ?_
   intro e w5 hv
   have V := hide (hv.later BR.out (fun c _ => rfl) (Nat.le_of_eq LM.out) (Nat.le_refl _))
   clear hv
   obtain ⟨v', d', rfl, hv⟩ := V.out
   obtain ⟨A5, n5, c5, rfl⟩ := rv_sl hv.1.tv.1
   have HV := hide hv
   clear hv
   go_wp2_with fail
   go_ret
   exact ⟨_, d', rfl, HV.out⟩
def cst (p : Px) (f : List Rx) : Rat := sm f.length (fun i => xf (p.vars.map (·.co)) (i : Int) * xf f (i : Int))
set_option maxHeartbeats 4000000 in
theorem mcost_c {w : World} {p : Px} {u : Value} {f : List Rx} {L K : Nat} (hp : Pv w p L) (hu : Fv w u f K) (hn : p.vars.length ≤ 1000) (h1 : 1 ≤ L) (hL : L ≤ 10000) (h2 : 1 ≤ K) (hK : K ≤ 10000) :
  Calls Tryz.prog 20 #[px p, u] w (RgRet w (cst p f) (1000 * (L + K + 1) + 1)) := by
 obtain ⟨A6, n6, c6, rfl⟩ := rv_sl hu.1
 have b2 : Below w.heap.size w ((w.alloc (pbox p)).alloc rblk) := ((Below.refl _ _).alloc (Nat.le_refl _) _).alloc (by simp) _
 have PQ := hide (show Pq ((w.alloc (pbox p)).alloc rblk) w.heap.size p from (Pq.new w p).step (alloc_below _ _))
 have Z := hide (show Rb ((w.alloc (pbox p)).alloc rblk) (w.heap.size + 1) by have h := Rb.new (w.alloc (pbox p)); simpa using h)
 have HP := hide (hp.step b2)
 have HU := hide (hu.step b2)
 have B := hide b2
 have HN := hide hn
 clear hp hu b2 hn
 obtain ⟨p0, p1, p2, p3⟩ := PQ.out.all
 go_enter Tryz.func20, Tryz.ntmps20
 go_wp2_with fail
 refine (mobj_c HP.out (by have := HN.out; omega) h1 (by omega)).mono ?_
 rintro e w1 ⟨v1, d1, rfl, t1, f1, g1, n1, bx⟩
 have T1 := hide t1.tv
 have G1 := hide g1
 have N1 := hide (show d1.length ≤ 1000 from Nat.le_trans n1 HN.out)
 obtain ⟨A7, n7, c7, rfl⟩ := rv_sl t1.tv.1
 replace HU := hide (HU.out.step bx)
 replace Z := hide (Z.out.step bx)
 replace B := hide (Below.step B.out B.out.size bx)
 clear t1 f1 g1 n1 bx p0 p1 p2 p3
 go_wp2_with fail
 refine (dot_g T1.out HU.out N1.out h1 (by omega) h2 (by omega)).mono ?_
 rintro e w2 ⟨x, rfl, hx, rx2, bx⟩
 have EX := hide (show x.r = cst p f by
  rw [hx, dt_sum _ f.length (xf f) (fun c hc => xf_out f c hc)]
  exact sm_congr (fun i hi => by
   have e : gt (tms d1) (i : Int) = xf (p.vars.map (·.co)) (i : Int) := by
    unfold gt
    rw [if_pos (by omega)]
    exact G1.out _ (by omega)
   rw [e]))
 obtain ⟨⟨k0, k1, k2, f0, f1, f2⟩, fin⟩ := rg_put (w0 := w) ((rx2.mono (B' := w.heap.size) B.out.size).more (M := 1000 * (L + K + 1) + 1) (by have := Nat.mul_le_mul_right (L + K + 1) N1.out; omega)) (Z.out.step bx) (by omega) (Below.step B.out B.out.size bx)
 have F := hide fin
 clear fin T1 HU Z B hx rx2 bx
 go_wp2_with fail
 exact bodyPost_ret (rret rfl _ _ _ #[.bool x.s, sv x.u, sv x.t] rfl rfl F.out.1) rfl (by rw [← EX.out]; exact F.out.2)
abbrev bzero : Obj := .cells #[.bool false, .bool false, .bool false, .slice none 0 0, .slice none 0 0, .bool false, .slice none 0 0, .slice none 0 0] 66
theorem Ow.offT {α : Type} {T T' : TypeId} {enc : α → List Value} {k B g : Nat} {W : World} {v : Value} {d : List α} {cs : Array Value} {fz : Nat × Nat} (h : Ow T enc k W B v d) (hg : W.heap[g]? = some (.cells cs T' fz)) (hT : T ≠ T') : v.ownBlock = none ∨ v.ownBlock ≠ some g := by
 rcases h.form with ⟨rfl, _⟩ | ⟨g', cap, cur, rfl, _, _, hh, _⟩
 ·exact .inl rfl
 ·refine .inr (fun e => ?_)
  have e : g' = g := by simpa [Value.ownBlock] using e
  subst e
  rw [hg] at hh
  injection hh with hh
  injection hh with _ e2 _
  exact hT e2.symm
def bput (W : World) (g : Nat) (a b : Bool) (lo hi : Rx) : World := (((((((W.setCell ⟨g, 0, none⟩ (.bool a)).setCell ⟨g, 1, none⟩ (.bool b)).setCell ⟨g, 2, none⟩ (.bool lo.s)).setCell ⟨g, 3, none⟩ (sv lo.u)).setCell ⟨g, 4, none⟩ (sv lo.t)).setCell ⟨g, 5, none⟩ (.bool hi.s)).setCell ⟨g, 6, none⟩ (sv hi.u)).setCell ⟨g, 7, none⟩ (sv hi.t)
theorem bput_eq (W : World) (g : Nat) (a b : Bool) (lo hi : Rx) : (((((((W.setCell ⟨g, 0, none⟩ (.bool a)).setCell ⟨g, 1, none⟩ (.bool b)).setCell ⟨g, 2, none⟩ (.bool lo.s)).setCell ⟨g, 3, none⟩ (sv lo.u)).setCell ⟨g, 4, none⟩ (sv lo.t)).setCell ⟨g, 5, none⟩ (.bool hi.s)).setCell ⟨g, 6, none⟩ (sv hi.u)).setCell ⟨g, 7, none⟩ (sv hi.t) = bput W g a b lo hi := rfl
theorem bput_bb {W : World} {g : Nat} {a b : Bool} {lo hi : Rx} (h : W.heap[g]? = some bzero) : Bb (bput W g a b lo hi) g a b lo hi := by
 have h0 : (W.setCell ⟨g, 0, none⟩ (.bool a)).heap[g]? = some (.cells #[.bool a, .bool false, .bool false, .slice none 0 0, .slice none 0 0, .bool false, .slice none 0 0, .slice none 0 0] 66 (0, 0)) := heap_setCell_same _ g 0 _ _ _ h
 have h1 : ((W.setCell ⟨g, 0, none⟩ (.bool a)).setCell ⟨g, 1, none⟩ (.bool b)).heap[g]? = some (.cells #[.bool a, .bool b, .bool false, .slice none 0 0, .slice none 0 0, .bool false, .slice none 0 0, .slice none 0 0] 66 (0, 0)) := heap_setCell_same _ g 1 _ _ _ h0
 have h2 : (((W.setCell ⟨g, 0, none⟩ (.bool a)).setCell ⟨g, 1, none⟩ (.bool b)).setCell ⟨g, 2, none⟩ (.bool lo.s)).heap[g]? = some (.cells #[.bool a, .bool b, .bool lo.s, .slice none 0 0, .slice none 0 0, .bool false, .slice none 0 0, .slice none 0 0] 66 (0, 0)) := heap_setCell_same _ g 2 _ _ _ h1
 have h3 : ((((W.setCell ⟨g, 0, none⟩ (.bool a)).setCell ⟨g, 1, none⟩ (.bool b)).setCell ⟨g, 2, none⟩ (.bool lo.s)).setCell ⟨g, 3, none⟩ (sv lo.u)).heap[g]? = some (.cells #[.bool a, .bool b, .bool lo.s, sv lo.u, .slice none 0 0, .bool false, .slice none 0 0, .slice none 0 0] 66 (0, 0)) := heap_setCell_same _ g 3 _ _ _ h2
 have h4 : (((((W.setCell ⟨g, 0, none⟩ (.bool a)).setCell ⟨g, 1, none⟩ (.bool b)).setCell ⟨g, 2, none⟩ (.bool lo.s)).setCell ⟨g, 3, none⟩ (sv lo.u)).setCell ⟨g, 4, none⟩ (sv lo.t)).heap[g]? = some (.cells #[.bool a, .bool b, .bool lo.s, sv lo.u, sv lo.t, .bool false, .slice none 0 0, .slice none 0 0] 66 (0, 0)) := heap_setCell_same _ g 4 _ _ _ h3
 have h5 : ((((((W.setCell ⟨g, 0, none⟩ (.bool a)).setCell ⟨g, 1, none⟩ (.bool b)).setCell ⟨g, 2, none⟩ (.bool lo.s)).setCell ⟨g, 3, none⟩ (sv lo.u)).setCell ⟨g, 4, none⟩ (sv lo.t)).setCell ⟨g, 5, none⟩ (.bool hi.s)).heap[g]? = some (.cells #[.bool a, .bool b, .bool lo.s, sv lo.u, sv lo.t, .bool hi.s, .slice none 0 0, .slice none 0 0] 66 (0, 0)) := heap_setCell_same _ g 5 _ _ _ h4
 have h6 : (((((((W.setCell ⟨g, 0, none⟩ (.bool a)).setCell ⟨g, 1, none⟩ (.bool b)).setCell ⟨g, 2, none⟩ (.bool lo.s)).setCell ⟨g, 3, none⟩ (sv lo.u)).setCell ⟨g, 4, none⟩ (sv lo.t)).setCell ⟨g, 5, none⟩ (.bool hi.s)).setCell ⟨g, 6, none⟩ (sv hi.u)).heap[g]? = some (.cells #[.bool a, .bool b, .bool lo.s, sv lo.u, sv lo.t, .bool hi.s, sv hi.u, .slice none 0 0] 66 (0, 0)) := heap_setCell_same _ g 6 _ _ _ h5
 have h7 : ((((((((W.setCell ⟨g, 0, none⟩ (.bool a)).setCell ⟨g, 1, none⟩ (.bool b)).setCell ⟨g, 2, none⟩ (.bool lo.s)).setCell ⟨g, 3, none⟩ (sv lo.u)).setCell ⟨g, 4, none⟩ (sv lo.t)).setCell ⟨g, 5, none⟩ (.bool hi.s)).setCell ⟨g, 6, none⟩ (sv hi.u)).setCell ⟨g, 7, none⟩ (sv hi.t)).heap[g]? = some (.cells #[.bool a, .bool b, .bool lo.s, sv lo.u, sv lo.t, .bool hi.s, sv hi.u, sv hi.t] 66 (0, 0)) := heap_setCell_same _ g 7 _ _ _ h6
 exact h7
theorem bput_only (W : World) (g : Nat) (a b : Bool) (lo hi : Rx) : W.grownBy (bput W g a b lo hi) (some g) :=
 only_set (p := ⟨g, 7, none⟩) (only_set (p := ⟨g, 6, none⟩) (only_set (p := ⟨g, 5, none⟩) (only_set (p := ⟨g, 4, none⟩) (only_set (p := ⟨g, 3, none⟩) (only_set (p := ⟨g, 2, none⟩) (only_set (p := ⟨g, 1, none⟩) (only_set (p := ⟨g, 0, none⟩) (only_refl W (some g)) rfl _) rfl _) rfl _) rfl _) rfl _) rfl _) rfl _) rfl _
theorem bput_below {B : Nat} {w W : World} {g : Nat} (h : Below B w W) (hg : B ≤ g) (a b : Bool) (lo hi : Rx) : Below B w (bput W g a b lo hi) :=
 (((((((h.setCell hg _).setCell hg _).setCell hg _).setCell hg _).setCell hg _).setCell hg _).setCell hg _).setCell hg _
def RSt (W0 : World) (d : List Tx) (v : Option Value) (g : Option Nat) (V : World) : Prop :=
 Below W0.heap.size W0 V ∧ (∀ u, v = some u → Ow 51 et 4 V W0.heap.size u d) ∧ ∀ i, g = some i → W0.heap.size ≤ i ∧ V.heap[i]? = some bzero
theorem RSt.start (W : World) (d : List Tx) : RSt W d none none W.drew := ⟨(Below.refl _ _).drew, (fun u h => by cases h), (fun i h => by cases h)⟩
theorem RSt.step {W0 V V' : World} {d : List Tx} {v : Option Value} {g : Option Nat} (h : RSt W0 d v g V) (bx : Below V.heap.size V V') : RSt W0 d v g V' :=
 ⟨Below.step h.1 h.1.size bx, fun u e => (h.2.1 u e).step bx, fun i e => ⟨(h.2.2 i e).1, (bx.block i (Array.getElem?_eq_some_iff.1 (h.2.2 i e).2).1).trans (h.2.2 i e).2⟩⟩
theorem RSt.terms {W0 V V' : World} {d : List Tx} {g : Option Nat} {u : Value} (h : RSt W0 d none g V) (bx : Below V.heap.size V V') (ho : Ow 51 et 4 V' V.heap.size u d) : RSt W0 d (some u) g V' :=
 ⟨(h.step bx).1, fun u' e => by injection e with e; subst e; exact ho.mono h.1.size, (h.step bx).2.2⟩
theorem RSt.al {W0 V : World} {d : List Tx} {v : Option Value} (h : RSt W0 d v none V) : RSt W0 d v (some V.heap.size) (V.alloc bzero) :=
 ⟨(h.step (alloc_below V bzero)).1, (h.step (alloc_below V bzero)).2.1, fun i e => by injection e with e; subst e; exact ⟨h.1.size, heap_alloc_new V bzero⟩⟩
def REnd (W0 : World) (d : List Tx) (a b : Bool) (lo hi : Rx) (s6 s7 : Value) (V : World) : Prop :=
 ∃ g, s7 = .pointer (some ⟨g, 0, none⟩) ∧ Ow 51 et 4 V W0.heap.size s6 d ∧ Bb V g a b lo hi ∧ Below W0.heap.size W0 V
theorem RSt.fin {W0 V : World} {d : List Tx} {u : Value} {g : Nat} (h : RSt W0 d (some u) (some g) V) (a b : Bool) (lo hi : Rx) :
  (V.cell? ⟨g, 0, none⟩ = some (.bool false) ∧ V.cell? ⟨g, 1, none⟩ = some (.bool false) ∧ V.cell? ⟨g, 2, none⟩ = some (.bool false) ∧ V.cell? ⟨g, 3, none⟩ = some (.slice none 0 0) ∧ V.cell? ⟨g, 4, none⟩ = some (.slice none 0 0) ∧ V.cell? ⟨g, 5, none⟩ = some (.bool false) ∧ V.cell? ⟨g, 6, none⟩ = some (.slice none 0 0) ∧ V.cell? ⟨g, 7, none⟩ = some (.slice none 0 0)) ∧
  (V.frozen? ⟨g, 0, none⟩ = false ∧ V.frozen? ⟨g, 1, none⟩ = false ∧ V.frozen? ⟨g, 2, none⟩ = false ∧ V.frozen? ⟨g, 3, none⟩ = false ∧ V.frozen? ⟨g, 4, none⟩ = false ∧ V.frozen? ⟨g, 5, none⟩ = false ∧ V.frozen? ⟨g, 6, none⟩ = false ∧ V.frozen? ⟨g, 7, none⟩ = false) ∧
  REnd W0 d a b lo hi u (.pointer (some ⟨g, 0, none⟩)) (bput V g a b lo hi) := by
 obtain ⟨h1, h2⟩ := h.2.2 g rfl
 have o := h.2.1 u rfl
 refine ⟨⟨cell_of_row V g 0 _ _ _ h2, cell_of_row V g 1 _ _ _ h2, cell_of_row V g 2 _ _ _ h2, cell_of_row V g 3 _ _ _ h2, cell_of_row V g 4 _ _ _ h2, cell_of_row V g 5 _ _ _ h2, cell_of_row V g 6 _ _ _ h2, cell_of_row V g 7 _ _ _ h2⟩,
  ⟨frozen_of_row V g 0 _ _ h2, frozen_of_row V g 1 _ _ h2, frozen_of_row V g 2 _ _ h2, frozen_of_row V g 3 _ _ h2, frozen_of_row V g 4 _ _ h2, frozen_of_row V g 5 _ _ h2, frozen_of_row V g 6 _ _ h2, frozen_of_row V g 7 _ _ h2⟩, g, rfl, ?_, bput_bb h2, bput_below h.1 h1 _ _ _ _⟩
 exact o.kept (bput_only V g a b lo hi) (o.offT h2 (by decide))
theorem bAtl {W : World} {g : Nat} {x : Wx} (h : Wq W g x) : W.cell? ⟨g, 0, none⟩ = some (.string x.nm) ∧ W.cell? ⟨g, 1, none⟩ = some (.bool x.a) ∧ W.cell? ⟨g, 2, none⟩ = some (.bool x.b) ∧ W.cell? ⟨g, 3, none⟩ = some (.bool x.lo.s) ∧ W.cell? ⟨g, 4, none⟩ = some (sv x.lo.u) ∧ W.cell? ⟨g, 5, none⟩ = some (sv x.lo.t) ∧ W.cell? ⟨g, 6, none⟩ = some (.bool x.hi.s) ∧ W.cell? ⟨g, 7, none⟩ = some (sv x.hi.u) ∧ W.cell? ⟨g, 8, none⟩ = some (sv x.hi.t) ∧ W.cell? ⟨g, 9, none⟩ = some (sv x.v) := h.all
def KsRet (w : World) (p : Px) (e : Ending) (w' : World) : Prop :=
 ∃ v' l, e = .returned v' ∧ Kgl w' w.heap.size v' l 217 ∧ Crs l (cprob p) ∧ (∀ k ∈ l, k.d.length ≤ 30) ∧ Below w.heap.size w w'
theorem crows_len (n : Nat) (rs : List Wx) (k : Nat) : (crows n rs k).length ≤ 2 * k := by
 unfold crows
 have h : ∀ l : List Wx, (l.flatMap (crow n)).length ≤ 2 * l.length := by
  intro l
  induction l with
  | nil => simp
  | cons x l ih => have := crow_len n x; simp only [List.flatMap_cons, List.length_append, List.length_cons]; omega
 have := h (rs.take k)
 have := List.length_take_le k rs
 omega
theorem cvars_len (xs : List Ux) (k : Nat) : (cvars xs k).length ≤ 2 * k := by
 induction k with
 | zero => simp [cvars]
 | succ k ih =>
  unfold cvars at ih ⊢
  rw [List.range_succ, List.flatMap_append, List.length_append]
  have h : (cvar k (xs.getD k default)).length ≤ 2 := crb_len _ _ _ _ _
  simp only [List.flatMap_cons, List.flatMap_nil, List.append_nil]
  omega
set_option maxHeartbeats 16000000 in
theorem mconstraints_c {w : World} {p : Px} (hp : Pv w p 6) (hk : PsLen p) :
  Calls Tryz.prog 7 #[px p] w (KsRet w p) := by
 obtain ⟨i0, hi0, hz0, hz1, hz2⟩ := info_parts info_kc
 obtain ⟨nm, ob, ⟨RA, rn, rc⟩, rows, ⟨VA, vn, vc⟩, vars⟩ := p
 obtain ⟨RA', rc', er, hr1, hr2, hr3⟩ := id hp.1.1
 obtain ⟨VA', vc', ev, hc1, hc2, hc3⟩ := id hp.2.1
 dsimp only at er ev hc1 hc2 hr1 hr2
 injection er with e1 e2 e3
 subst e1 e2 e3
 injection ev with e1 e2 e3
 subst e1 e2 e3
 obtain ⟨n, hlen⟩ : ∃ n, n = vars.length := ⟨_, rfl⟩
 obtain ⟨m, hlr⟩ : ∃ m, m = rows.length := ⟨_, rfl⟩
 have HK := hide hk
 have HN := hide hlen
 have HM := hide hlr
 have CP := hide (show cprob ⟨nm, ob, (RA, rows.length, rc), rows, (VA, vars.length, vc), vars⟩ = crows n rows m ++ cvars vars n by unfold cprob; rw [hlen, hlr])
 rw [← hlen] at hp hc1 CP ⊢
 rw [← hlr] at hp hr1 CP ⊢
 have KN := hide (show m ≤ 70 ∧ n ≤ 50 from ⟨by rw [hlr]; exact hk.1, by rw [hlen]; exact hk.2.1⟩)
 have b2 := alloc_below w (.cells #[.string nm, .string ob, .slice RA m rc, .slice VA n vc] 25)
 have PQ := hide (show Pq (w.alloc (.cells #[.string nm, .string ob, .slice RA m rc, .slice VA n vc] 25)) w.heap.size ⟨nm, ob, (RA, m, rc), rows, (VA, n, vc), vars⟩ from heap_alloc_new w _)
 have HP := hide (hp.step b2)
 have B0 := hide b2
 unfold maxLen at hc2 hr2
 clear hp b2 hk hr3 hc3 hlen hlr
 obtain ⟨p0, p1, p2, p3⟩ := PQ.out.alls
 go_enter Tryz.func7, Tryz.ntmps7
 go_wp2_with fail
 clear p0 p1 p2 p3
 generalize (w.alloc (.cells #[.string nm, .string ob, .slice RA m rc, .slice VA n vc] 25)) = w0 at *
 go_loopw [3, 13] (fun ov iv wr => ∃ (k : Nat) (l : List Kx), k ≤ m ∧ iv = .int .i64 (k : Int) ∧ Hid (Below w0.heap.size w0 wr) ∧ Hid (Kgl wr w0.heap.size ov l 217) ∧ Hid (Crs l (crows n rows k)) ∧ Hid (∀ x ∈ l, x.d.length ≤ 30)) (fun _ iv _ => m - (intOf iv).toNat)
 case atStart => exact ⟨0, [], Nat.zero_le _, rfl, hide (Below.refl _ _), hide ⟨Ow.nil _ _ _ _ _, fun k hk => by cases hk⟩, hide trivial, hide (fun x hx => by cases hx)⟩
 case round =>
  obtain ⟨k, l, hk, rfl, B, T, CR, LN⟩ := hrel
  obtain ⟨A1, n1, c1, rfl⟩ := rv_sl (T.out.1.rl ek_len)
  by_cases hlt : k < m
  ·obtain ⟨r, hr⟩ := len_of (d := rows) (k := k) (by rw [← HM.out]; exact hlt)
   have HR := hide hr
   have RV := hide (HP.out.1.2 r (List.mem_of_getElem? hr))
   have DN := hide (show r.d.length ≤ 30 from HK.out.2.2 r (List.mem_of_getElem? hr))
   have LL := hide (show l.length ≤ 140 by rw [CR.out.len]; have := crows_len n rows k; have := KN.out; omega)
   obtain ⟨b, off, rfl, hb, hc⟩ := (HP.out.1.1.step B.out).get hr
   have c0 := hc 0 _ rfl
   have c1' := hc 1 _ rfl
   have c2 := hc 2 _ rfl
   have c3 := hc 3 _ rfl
   have c4 := hc 4 _ rfl
   have c5 := hc 5 _ rfl
   have c6 := hc 6 _ rfl
   have c7 := hc 7 _ rfl
   have c8 := hc 8 _ rfl
   have c9 := hc 9 _ rfl
   rw [Nat.add_zero] at c0
   have l0 : (0 : Int) ≤ (k : Int) := by omega
   have l1 : (k : Int) < (m : Int) := by omega
   have WQ := hide (show Wq (wr.alloc (wbox r)) wr.heap.size r from heap_alloc_new wr _)
   have b8 := alloc_below wr (wbox r)
   replace T := hide (T.out.step b8)
   replace B := hide (Below.step B.out B.out.size b8)
   have TV := hide (RV.out.1.step B.out)
   clear hc hb hr b8
   go_wp2_with fail
   clear c0 c1' c2 c3 c4 c5 c6 c7 c8 c9
   generalize (wr.alloc (wbox r)) = w3 at *
   generalize wr.heap.size = gx at *
   have KP := hide (show ∀ V, Below w3.heap.size w3 V → _ ∧ _ from fun V h => And.intro (bAtl (WQ.out.step h)) (PQ.out.step (Below.step B.out B.out.size h)).alls.2.2.2)
   go_cut [6, 7] from 17 to 24 (fun s6 s7 wx => REnd w3 (r.d.filter fun x => !decide ((n : Int) ≤ x.c)) r.a r.b r.lo r.hi s6 s7 wx)
   case first =>
    have st := hide (RSt.start w3 (r.d.filter fun x => !decide ((n : Int) ≤ x.c)))
    refine wp_region_held_drew (S := fun W => (W.cell? ⟨gx, 0, none⟩ = some (.string r.nm) ∧ W.cell? ⟨gx, 1, none⟩ = some (.bool r.a) ∧ W.cell? ⟨gx, 2, none⟩ = some (.bool r.b) ∧ W.cell? ⟨gx, 3, none⟩ = some (.bool r.lo.s) ∧ W.cell? ⟨gx, 4, none⟩ = some (sv r.lo.u) ∧ W.cell? ⟨gx, 5, none⟩ = some (sv r.lo.t) ∧ W.cell? ⟨gx, 6, none⟩ = some (.bool r.hi.s) ∧ W.cell? ⟨gx, 7, none⟩ = some (sv r.hi.u) ∧ W.cell? ⟨gx, 8, none⟩ = some (sv r.hi.t) ∧ W.cell? ⟨gx, 9, none⟩ = some (sv r.v)) ∧ W.cell? ⟨w.heap.size, 3, none⟩ = some (.slice VA n vc)) (by kernel_rfl) ?_ (fun hHeld => ?_)
    ·try dsimp only
     exact KP.out _ (Below.refl _ _).drew
    generalize w3.drew = V0 at *
    refine tp 0 hHeld ?_
    refine tp 2 hHeld ?_
    refine tk 6 (v := ?_) hHeld ?_ ?_; rotate_left; (focus (intro w hSw; (try dsimp only at hSw); go_simp; (try with_reducible rfl)))
    try simp only [Act.put, s1, s2, s3, s4, s5, s6]
    refine tk 1 (v := ?_) hHeld ?_ ?_; rotate_left; (focus (intro w hSw; (try dsimp only at hSw); go_simp; (try with_reducible rfl)))
    refine tk 3 (v := ?_) hHeld ?_ ?_; rotate_left; (focus (intro w hSw; (try dsimp only at hSw); go_simp; (try with_reducible rfl)))
    try simp only [Act.put, s1, s2, s3, s4, s5, s6]
    refine tk 4 (v := ?_) hHeld ?_ ?_; rotate_left; (focus (intro w hSw; (try dsimp only at hSw); go_simp; (try with_reducible rfl)))
    try simp only [Act.put, s1, s2, s3, s4, s5, s6]
    refine r2 5 8 (fun K hK => ?_) (fun K hK => ?_)
    ·go_simp; go_at_call 28; refine Calls.mono (below_c (n : Int) (TV.out.step st.out.1).1 (by have := DN.out; omega)) ?_; rintro e V1 ⟨v5, rfl, o5, bx⟩; obtain ⟨A5, n5, c5, rfl⟩ := rv_sl (o5.rl et_len); replace st := hide (st.out.terms bx o5); clear o5 bx; (try dsimp only); refine hK.out _ _ ?_ (fun hHeld => ?_); (focus ((try dsimp only); exact KP.out _ st.out.1)); clear hK K
     try simp only [Act.put, s1, s2, s3, s4, s5, s6]
     refine r2 7 8 (fun K hK => ?_) (fun K hK => ?_)
     ·go_simp; go_at_call 29; refine Calls.mono (ofrow_c r _) ?_; rintro e V2 ⟨rfl, bx⟩; replace st := hide (st.out.step bx); clear bx; (try dsimp only); refine hK.out _ _ ?_ (fun hHeld => ?_); (focus ((try dsimp only); exact KP.out _ st.out.1)); clear hK K
      try simp only [Act.put, s1, s2, s3, s4, s5, s6]
      refine r1 8 (fun K hK => ?_)
      go_simp; replace st := hide st.out.al; generalize (V2.alloc bzero) = V3 at *; generalize V2.heap.size = g7 at *; (try dsimp only); refine hK.out _ _ ?_ (fun hHeld => ?_); (focus ((try dsimp only); exact KP.out _ st.out.1)); clear hK K
      refine tp 9 hHeld ?_
      try simp only [Act.put, s1, s2, s3, s4, s5, s6]
      refine r1 10 (fun K hK => ?_)
      obtain ⟨⟨k0, k1, k2, k3, k4, k5, k6, k7⟩, ⟨f0, f1, f2, f3, f4, f5, f6, f7⟩, fin⟩ := st.out.fin r.a r.b r.lo r.hi; have FN := hide fin; clear fin; go_simp; rw [bput_eq]; clear k0 k1 k2 k3 k4 k5 k6 k7 f0 f1 f2 f3 f4 f5 f6 f7; have FB := hide (FN.out.choose_spec.2.2.2); generalize bput V3 g7 r.a r.b r.lo r.hi = V4 at *; (try dsimp only); refine hK.out _ _ ?_ (fun hHeld => ?_); (focus ((try dsimp only); exact KP.out _ FB.out)); clear hK K
      refine wpAnyH_done (by kernel_rfl) ?_ _
      go_wp2_with fail; go_meet; exact FN.out
     ·go_simp; replace st := hide st.out.al; generalize (V1.alloc bzero) = V2 at *; generalize V1.heap.size = g7 at *; (try dsimp only); refine hK.out _ _ ?_ (fun hHeld => ?_); (focus ((try dsimp only); exact KP.out _ st.out.1)); clear hK K
      try simp only [Act.put, s1, s2, s3, s4, s5, s6]
      refine r1 7 (fun K hK => ?_)
      go_simp; go_at_call 29; refine Calls.mono (ofrow_c r _) ?_; rintro e V3 ⟨rfl, bx⟩; replace st := hide (st.out.step bx); clear bx; (try dsimp only); refine hK.out _ _ ?_ (fun hHeld => ?_); (focus ((try dsimp only); exact KP.out _ st.out.1)); clear hK K
      refine tp 9 hHeld ?_
      try simp only [Act.put, s1, s2, s3, s4, s5, s6]
      refine r1 10 (fun K hK => ?_)
      obtain ⟨⟨k0, k1, k2, k3, k4, k5, k6, k7⟩, ⟨f0, f1, f2, f3, f4, f5, f6, f7⟩, fin⟩ := st.out.fin r.a r.b r.lo r.hi; have FN := hide fin; clear fin; go_simp; rw [bput_eq]; clear k0 k1 k2 k3 k4 k5 k6 k7 f0 f1 f2 f3 f4 f5 f6 f7; have FB := hide (FN.out.choose_spec.2.2.2); generalize bput V3 g7 r.a r.b r.lo r.hi = V4 at *; (try dsimp only); refine hK.out _ _ ?_ (fun hHeld => ?_); (focus ((try dsimp only); exact KP.out _ FB.out)); clear hK K
      refine wpAnyH_done (by kernel_rfl) ?_ _
      go_wp2_with fail; go_meet; exact FN.out
    ·go_simp; replace st := hide st.out.al; generalize (V0.alloc bzero) = V1 at *; generalize V0.heap.size = g7 at *; (try dsimp only); refine hK.out _ _ ?_ (fun hHeld => ?_); (focus ((try dsimp only); exact KP.out _ st.out.1)); clear hK K
     try simp only [Act.put, s1, s2, s3, s4, s5, s6]
     refine r1 5 (fun K hK => ?_)
     go_simp; go_at_call 28; refine Calls.mono (below_c (n : Int) (TV.out.step st.out.1).1 (by have := DN.out; omega)) ?_; rintro e V2 ⟨v5, rfl, o5, bx⟩; obtain ⟨A5, n5, c5, rfl⟩ := rv_sl (o5.rl et_len); replace st := hide (st.out.terms bx o5); clear o5 bx; (try dsimp only); refine hK.out _ _ ?_ (fun hHeld => ?_); (focus ((try dsimp only); exact KP.out _ st.out.1)); clear hK K
     try simp only [Act.put, s1, s2, s3, s4, s5, s6]
     refine r1 7 (fun K hK => ?_)
     go_simp; go_at_call 29; refine Calls.mono (ofrow_c r _) ?_; rintro e V3 ⟨rfl, bx⟩; replace st := hide (st.out.step bx); clear bx; (try dsimp only); refine hK.out _ _ ?_ (fun hHeld => ?_); (focus ((try dsimp only); exact KP.out _ st.out.1)); clear hK K
     refine tp 9 hHeld ?_
     try simp only [Act.put, s1, s2, s3, s4, s5, s6]
     refine r1 10 (fun K hK => ?_)
     obtain ⟨⟨k0, k1, k2, k3, k4, k5, k6, k7⟩, ⟨f0, f1, f2, f3, f4, f5, f6, f7⟩, fin⟩ := st.out.fin r.a r.b r.lo r.hi; have FN := hide fin; clear fin; go_simp; rw [bput_eq]; clear k0 k1 k2 k3 k4 k5 k6 k7 f0 f1 f2 f3 f4 f5 f6 f7; have FB := hide (FN.out.choose_spec.2.2.2); generalize bput V3 g7 r.a r.b r.lo r.hi = V4 at *; (try dsimp only); refine hK.out _ _ ?_ (fun hHeld => ?_); (focus ((try dsimp only); exact KP.out _ FB.out)); clear hK K
     refine wpAnyH_done (by kernel_rfl) ?_ _
     go_wp2_with fail; go_meet; exact FN.out
   case rest =>
    obtain ⟨g7, rfl, o6, bb, bx⟩ := hcut
    obtain ⟨A5, n5, c5, rfl⟩ := rv_sl (o6.rl et_len)
    have BQ := hide bb
    have O6 := hide o6
    have EL := hide (show ∀ x ∈ (r.d.filter fun x => !decide ((n : Int) ≤ x.c)), x ∈ r.d from fun x hx => (List.mem_filter.1 hx).1)
    have FL := hide (show (r.d.filter fun x => !decide ((n : Int) ≤ x.c)).length ≤ 30 from Nat.le_trans (List.length_filter_le _ _) DN.out)
    have FG := hide (show ∀ c, 0 ≤ c → gsum (tms (r.d.filter fun x => !decide ((n : Int) ≤ x.c))) c = grow n r c from fun c _ => gsum_below r.d n c)
    generalize (r.d.filter fun x => !decide ((n : Int) ≤ x.c)) = df at *
    replace T := hide (T.out.step bx)
    have S3 := hide B.out.size
    replace B := hide (Below.step B.out B.out.size bx)
    clear o6 bb bx KP TV WQ
    obtain ⟨p0, p1, p2, p3, p4, p5, p6, p7⟩ := BQ.out.all
    go_wp2_with fail
    refine Calls.mono (meet_c (L := 6) ((RV.out.step B.out).2.1) ((RV.out.step B.out).2.2) (by omega) (by omega)) ?_
    rintro e w5 ⟨hb9, bx⟩
    replace BQ := hide (BQ.out.step bx)
    replace T := hide (T.out.step bx)
    replace O6 := hide (O6.out.step bx)
    replace B := hide (Below.step B.out B.out.size bx)
    clear bx p0 p1 p2 p3 p4 p5 p6 p7
    obtain ⟨p0, p1, p2, p3, p4, p5, p6, p7⟩ := BQ.out.all
    have HF := hide (show ∀ W, w5.grownBy W (Value.slice A1 n1 c1).ownBlock → Below w0.heap.size w0 W ∧ Ra W (rx r.lo) r.lo.r 6 ∧ Ra W (rx r.hi) r.hi.r 6 ∧ Tv W (.slice A5 n5 c5) df 6 from fun W hg => by
     have hB := below_own B.out T.out.1 hg B.out.size
     exact ⟨hB, (RV.out.step hB).2.1, (RV.out.step hB).2.2, (O6.out.kept hg (ow_tk O6.out T.out.1 (by decide))).rl et_len, fun x hx => ((RV.out.step hB).1.2 x (EL.out x hx))⟩)
    by_cases hm : r.a = true ∧ r.b = true ∧ r.lo.r = r.hi.r
    case pos =>
     obtain rfl := hb9.tr hm
     have CW := hide (show crow n r = [(3, grow n r, r.lo.r)] from by unfold crow; rw [if_pos hm])
     clear hm hb9
     go_wp2_with fail
     obtain ⟨-, h2, h3, h4⟩ := HF.out w5 (only_refl _ _)
     refine (mcon_c (s := 3) h4 h2 (by have := FL.out; omega) (by omega) (by omega)).mono ?_
     rintro e w6 ⟨kk, rfl, kg, ks, kt, kr, kn, bx⟩
     have CN := hide (show Crs (l ++ [kk]) (crows n rows (k + 1)) from by
      rw [crows_next HR.out, CW.out]
      exact CR.out.append ⟨⟨ks, kg.2.2, fun c hc => (kt c hc).trans (FG.out c hc), kr⟩, trivial⟩)
     have K2 := hide (show Kg w6 w0.heap.size kk 217 from by
      have h := kg.mono (B' := w0.heap.size) B.out.size
      have hq : df.length * (6 + 1) + 1 + 6 ≤ 217 := by have := FL.out; omega
      exact ⟨h.1.more hq, h.2.1.more hq, h.2.2⟩)
     have KL := hide (show kk.d.length ≤ 30 from Nat.le_trans kn FL.out)
     have T1 := hide (T.out.step bx)
     have B1 := hide (Below.step B.out B.out.size bx)
     clear h2 h3 h4 kg ks kt kr kn bx p0 p1 p2 p3 p4 p5 p6 p7
     go_wp2_with (at_builtin; (refine wpList_pushE rfl (.tmp 27) (.tmp 32) 29 rfl Tryz.underlying29 hi0 hz0 hz1 hz2 rfl (by omega) ek_len ek_one w6 w0.heap.size _ l kk _ rfl T1.out.1 rfl rfl (by have := LL.out; omega) (by decide) B1.out.size ?_; intro v' w' ho hg; have TF := hide (T1.out.push ho hg.1 K2.out); have CF := hide (below_own B1.out T1.out.1 hg.1 B1.out.size); clear ho hg))
     exact ⟨⟨k + 1, l ++ [kk], by omega, by go_num, CF, TF, CN, hide (fun x hx => by rcases List.mem_append.1 hx with h | h; exact LN.out x h; simp at h; subst h; exact KL.out)⟩, by simp [intOf]; omega⟩
    case neg =>
     obtain rfl := hb9.fa hm
     have CW := hide (show crow n r = crb r.a r.b (grow n r) r.lo.r r.hi.r from by unfold crow; rw [if_neg hm])
     clear hm hb9
     go_wp2_with fail
     refine Calls.mono (appendto_c (L := 6) (M := 217) (g := grow n r) T.out B.out.size (fun W hg => (HF.out W hg).2) (by have := LL.out; omega) (by have := FL.out; omega) (by omega) (by omega) (by have := FL.out; omega) FG.out) ?_
     rintro e w6 ⟨v', l', rfl, t6, cr6, ln6, g6, o6⟩
     have CN := hide (show Crs (l ++ l') (crows n rows (k + 1)) from by
      rw [crows_next HR.out, CW.out]
      exact CR.out.append cr6)
     have TF := hide t6
     have CF := hide (HF.out w6 g6).1
     have KL := hide (fun x hx => Nat.le_trans (ln6 x hx) FL.out)
     clear t6 cr6 ln6 g6 o6 p0 p1 p2 p3 p4 p5 p6 p7
     obtain ⟨A9, n9, c9, rfl⟩ := rv_sl (TF.out.1.rl ek_len)
     go_wp2_with fail
     exact ⟨⟨k + 1, l ++ l', by omega, by go_num, CF, TF, CN, hide (fun x hx => by rcases List.mem_append.1 hx with h | h; exact LN.out x h; exact KL.out x h)⟩, by simp [intOf]; omega⟩
  ·obtain rfl : k = m := by omega
   have T0 := hide T.out
   have BB := hide B.out
   have CR0 := hide CR.out
   have LN0 := hide LN.out
   clear T B CR LN
   obtain ⟨p0, p1, p2, p3⟩ := (PQ.out.step BB.out).alls
   go_wp2_with fail
   clear p0 p1 p2 p3
   obtain ⟨wo, hwo⟩ : ∃ wo, wo = wr := ⟨_, rfl⟩
   subst hwo
   go_loopw [3, 42] (fun ov iv wr => ∃ (q : Nat) (l : List Kx), q ≤ n ∧ iv = .int .i64 (q : Int) ∧ Hid (Below w0.heap.size w0 wr) ∧ Hid (Kgl wr w0.heap.size ov l 217) ∧ Hid (Crs l (crows n rows k ++ cvars vars q)) ∧ Hid (∀ x ∈ l, x.d.length ≤ 30)) (fun _ iv _ => n - (intOf iv).toNat)
   case atStart => exact ⟨0, l, Nat.zero_le _, rfl, BB, T0, hide (by have h := CR0.out; rw [show cvars vars 0 = [] from rfl, List.append_nil]; exact h), LN0⟩
   case round =>
    clear BB T0 CR0 LN0
    obtain ⟨q, l, hq, rfl, B, T, CR, LN⟩ := hrel
    obtain ⟨A1, n1, c1, rfl⟩ := rv_sl (T.out.1.rl ek_len)
    by_cases hlt2 : q < n
    ·obtain ⟨x, hx⟩ := len_of (d := vars) (k := q) (by rw [← HN.out]; exact hlt2)
     have HX := hide hx
     have UV := hide (HP.out.2.2 x (List.mem_of_getElem? hx))
     have LL := hide (show l.length ≤ 240 by rw [CR.out.len, List.length_append]; have := crows_len n rows k; have := cvars_len vars q; have := KN.out; omega)
     obtain ⟨b, off, rfl, hb, hc⟩ := (HP.out.2.1.step B.out).get hx
     have c0 := hc 0 _ rfl
     have c1' := hc 1 _ rfl
     have c2 := hc 2 _ rfl
     have c3 := hc 3 _ rfl
     have c4 := hc 4 _ rfl
     have c5 := hc 5 _ rfl
     have c6 := hc 6 _ rfl
     have c7 := hc 7 _ rfl
     have c8 := hc 8 _ rfl
     have c9 := hc 9 _ rfl
     have c10 := hc 10 _ rfl
     have c11 := hc 11 _ rfl
     have c12 := hc 12 _ rfl
     rw [Nat.add_zero] at c0
     have l0 : (0 : Int) ≤ (q : Int) := by omega
     have l1 : (q : Int) < (n : Int) := by omega
     have UQ := hide (show Uq (wr.alloc (ubox x)) wr.heap.size x from heap_alloc_new wr _)
     obtain ⟨u0, u1, u2, u3, u4, u5, u6, u7, u8, u9, u10, u11, u12⟩ := UQ.out.all
     have b8 := alloc_below wr (ubox x)
     replace T := hide (T.out.step b8)
     replace B := hide (Below.step B.out B.out.size b8)
     clear hc hb hx b8
     go_wp2_with fail
     clear c0 c1' c2 c3 c4 c5 c6 c7 c8 c9 c10 c11 c12 u0 u1 u2 u3 u4 u5 u6 u7 u8 u9 u10 u11 u12
     generalize (wr.alloc (ubox x)) = w3 at *
     generalize wr.heap.size = gx at *
     refine (ofvar_c x w3).mono ?_
     rintro e w4 ⟨rfl, bx⟩
     replace T := hide (T.out.step bx)
     replace B := hide (Below.step B.out B.out.size bx)
     clear bx UQ
     go_wp2_with fail
     refine (whole_o w4 1 (by omega) (by omega)).mono ?_
     rintro e w5 ⟨y, rfl, hy, ry, b1⟩
     have bx := alloc_below w5 (.cells #[.int .i64 (q : Int), .bool y.s, sv y.u, sv y.t] 51)
     have OT := hide (show Ow 51 et 4 (w5.alloc (.cells #[.int .i64 (q : Int), .bool y.s, sv y.u, sv y.t] 51)) w0.heap.size (.slice (some ⟨w5.heap.size, 0, none⟩) 1 1) [⟨(q : Int), y⟩] from Ow.lit et_len w5 51 [⟨(q : Int), y⟩] _ rfl (Nat.le_trans B.out.size b1.size) (by simp [maxLen]))
     have RY := hide ((ry.mono (B' := w0.heap.size) B.out.size).step bx)
     have EY := hide hy
     replace T := hide ((T.out.step b1).step bx)
     replace B := hide (Below.step (Below.step B.out B.out.size b1) (Below.step B.out B.out.size b1).size bx)
     clear hy ry b1 bx
     go_wp2_with fail
     generalize (w5.alloc (.cells #[.int .i64 (q : Int), .bool y.s, sv y.u, sv y.t] 51)) = w6 at *
     generalize w5.heap.size = gt5 at *
     have HF := hide (show ∀ W, w6.grownBy W (Value.slice A1 n1 c1).ownBlock → Below w0.heap.size w0 W ∧ Ra W (rx x.lo) x.lo.r 6 ∧ Ra W (rx x.hi) x.hi.r 6 ∧ Tv W (.slice (some ⟨gt5, 0, none⟩) 1 1) [⟨(q : Int), y⟩] 6 from fun W hg => by
      have hB := below_own B.out T.out.1 hg B.out.size
      refine ⟨hB, (UV.out.step hB).1, (UV.out.step hB).2.1, (OT.out.kept hg (ow_tk OT.out T.out.1 (by decide))).rl et_len, fun z hz => ?_⟩
      simp at hz
      subst hz
      exact ((RY.out.grownT hg (fun g e => T.out.1.otK g e)).more (M := 6) (by omega)).ra)
     have FG := hide (show ∀ c, 0 ≤ c → gsum (tms [(⟨(q : Int), y⟩ : Tx)]) c = gone q c from fun c _ => by
      show gsum [((q : Int), y.r)] c = _
      rw [EY.out]
      unfold gone
      simp only [gsum]
      by_cases h : c = (q : Int)
      ·rw [if_pos h, if_pos h.symm, Rat.add_zero]; rfl
      ·rw [if_neg h, if_neg (fun e => h e.symm), Rat.add_zero])
     refine Calls.mono (appendto_c (L := 6) (M := 217) (g := gone q) T.out B.out.size (fun W hg => (HF.out W hg).2) (by have := LL.out; omega) (by simp) (by omega) (by omega) (by simp) FG.out) ?_
     rintro e w7 ⟨v', l', rfl, t6, cr6, ln6, g6, o6⟩
     have CN := hide (show Crs (l ++ l') (crows n rows k ++ cvars vars (q + 1)) from by
      rw [cvars_next HX.out, ← List.append_assoc]
      exact CR.out.append cr6)
     have TF := hide t6
     have CF := hide (HF.out w7 g6).1
     have KL := hide (show ∀ z ∈ l', z.d.length ≤ 30 from fun z hz => by have := ln6 z hz; simp at this; omega)
     clear t6 cr6 ln6 g6 o6
     obtain ⟨A9, n9, c9, rfl⟩ := rv_sl (TF.out.1.rl ek_len)
     go_wp2_with fail
     exact ⟨⟨q + 1, l ++ l', by omega, by go_num, CF, TF, CN, hide (fun z hz => by rcases List.mem_append.1 hz with h | h; exact LN.out z h; exact KL.out z h)⟩, by simp [intOf]; omega⟩
    ·obtain rfl : q = n := by omega
     go_wp2_with fail
     go_ret
     refine ⟨_, l, rfl, ⟨T.out.1.mono B0.out.size, fun z hz => (T.out.2 z hz).mono B0.out.size⟩, ?_, LN.out, Below.step B0.out B0.out.size B.out⟩
     rw [CP.out]
     exact CR.out
set_option maxHeartbeats 4000000 in
theorem whole10_g (w : World) (z : Int) (h1 : -9223372036854775808 ≤ z) (h2 : z ≤ 9223372036854775807) :
  Calls Tryz.prog 17 #[.int .i64 z] w (RgRet w (z : Rat) 6) := by
 have HB := hide ((Below.refl w.heap.size w).alloc (Nat.le_refl _) rblk)
 have HZ := hide (Rb.new w)
 go_enter Tryz.func17, Tryz.ntmps17
 go_wp2_with fail
 refine (rqsmall_any (w.alloc rblk) z h1 h2).mono ?_
 rintro e w1 ⟨v, rfl, c1, b1⟩
 have B1 := hide (Below.step HB.out HB.out.size b1)
 have Z1 := hide (HZ.out.step b1)
 have TC := hide (rfto_g c1 (by omega))
 clear b1 c1 HB HZ
 go_wp2_with fail
 refine TC.out.mono ?_
 rintro e w4 ⟨x, rfl, hx, r2, b2⟩
 obtain ⟨⟨k0, k1, k2, f0, f1, f2⟩, fin⟩ := rg_put (w0 := w) (r2.mono (B' := w.heap.size) B1.out.size) (Z1.out.step b2) (by omega) (Below.step B1.out B1.out.size b2)
 have F := hide fin
 have X := hide hx
 clear fin TC r2 b2 Z1 B1 hx
 go_wp2_with fail
 exact bodyPost_ret (rret rfl _ _ _ #[.bool x.s, sv x.u, sv x.t] rfl rfl F.out.1) rfl (by rw [← X.out]; exact F.out.2)
theorem fv2 {W : World} {a b : Rx} {L : Nat} (ha : Ra W (rx a) a.r L) (hb : Ra W (rx b) b.r L) : Fv (W.alloc (.cells #[.bool a.s, sv a.u, sv a.t, .bool b.s, sv b.u, sv b.t] 41)) (.slice (some ⟨W.heap.size, 0, none⟩) 2 2) [a, b] L :=
 ⟨(Ow.lit (B := W.heap.size) er_len W 41 [a, b] _ rfl (Nat.le_refl _) (by simp [maxLen])).rl er_len, fun y hy => by
  simp at hy
  rcases hy with rfl | rfl
  ·exact ha.step (alloc_below _ _)
  ·exact hb.step (alloc_below _ _)⟩
theorem fv3 {W : World} {a b c : Rx} {L : Nat} (ha : Ra W (rx a) a.r L) (hb : Ra W (rx b) b.r L) (hc : Ra W (rx c) c.r L) : Fv (W.alloc (.cells #[.bool a.s, sv a.u, sv a.t, .bool b.s, sv b.u, sv b.t, .bool c.s, sv c.u, sv c.t] 41)) (.slice (some ⟨W.heap.size, 0, none⟩) 3 3) [a, b, c] L :=
 ⟨(Ow.lit (B := W.heap.size) er_len W 41 [a, b, c] _ rfl (Nat.le_refl _) (by simp [maxLen])).rl er_len, fun y hy => by
  simp at hy
  rcases hy with rfl | rfl | rfl
  ·exact ha.step (alloc_below _ _)
  ·exact hb.step (alloc_below _ _)
  ·exact hc.step (alloc_below _ _)⟩
theorem rcells_at {w W : World} {b o : Nat} {r : Wx} (h : b < w.heap.size ∧ w.cell? ⟨b, o + 3, none⟩ = some (.bool r.lo.s) ∧ w.cell? ⟨b, o + 4, none⟩ = some (sv r.lo.u) ∧ w.cell? ⟨b, o + 5, none⟩ = some (sv r.lo.t) ∧ w.cell? ⟨b, o + 6, none⟩ = some (.bool r.hi.s) ∧ w.cell? ⟨b, o + 7, none⟩ = some (sv r.hi.u) ∧ w.cell? ⟨b, o + 8, none⟩ = some (sv r.hi.t) ∧ w.cell? ⟨b, o + 9, none⟩ = some (sv r.v)) (B : Below w.heap.size w W) :
  W.cell? ⟨b, o + 3, none⟩ = some (.bool r.lo.s) ∧ W.cell? ⟨b, o + 4, none⟩ = some (sv r.lo.u) ∧ W.cell? ⟨b, o + 5, none⟩ = some (sv r.lo.t) ∧ W.cell? ⟨b, o + 6, none⟩ = some (.bool r.hi.s) ∧ W.cell? ⟨b, o + 7, none⟩ = some (sv r.hi.u) ∧ W.cell? ⟨b, o + 8, none⟩ = some (sv r.hi.t) ∧ W.cell? ⟨b, o + 9, none⟩ = some (sv r.v) :=
 ⟨(B.cell h.1).trans h.2.1, (B.cell h.1).trans h.2.2.1, (B.cell h.1).trans h.2.2.2.1, (B.cell h.1).trans h.2.2.2.2.1, (B.cell h.1).trans h.2.2.2.2.2.1, (B.cell h.1).trans h.2.2.2.2.2.2.1, (B.cell h.1).trans h.2.2.2.2.2.2.2⟩
theorem ucells_at {w W : World} {b o : Nat} {x : Ux} (h : b < w.heap.size ∧ w.cell? ⟨b, o + 4, none⟩ = some (.bool x.lo.s) ∧ w.cell? ⟨b, o + 5, none⟩ = some (sv x.lo.u) ∧ w.cell? ⟨b, o + 6, none⟩ = some (sv x.lo.t) ∧ w.cell? ⟨b, o + 7, none⟩ = some (.bool x.hi.s) ∧ w.cell? ⟨b, o + 8, none⟩ = some (sv x.hi.u) ∧ w.cell? ⟨b, o + 9, none⟩ = some (sv x.hi.t) ∧ w.cell? ⟨b, o + 10, none⟩ = some (.bool x.co.s) ∧ w.cell? ⟨b, o + 11, none⟩ = some (sv x.co.u) ∧ w.cell? ⟨b, o + 12, none⟩ = some (sv x.co.t)) (B : Below w.heap.size w W) :
  W.cell? ⟨b, o + 4, none⟩ = some (.bool x.lo.s) ∧ W.cell? ⟨b, o + 5, none⟩ = some (sv x.lo.u) ∧ W.cell? ⟨b, o + 6, none⟩ = some (sv x.lo.t) ∧ W.cell? ⟨b, o + 7, none⟩ = some (.bool x.hi.s) ∧ W.cell? ⟨b, o + 8, none⟩ = some (sv x.hi.u) ∧ W.cell? ⟨b, o + 9, none⟩ = some (sv x.hi.t) ∧ W.cell? ⟨b, o + 10, none⟩ = some (.bool x.co.s) ∧ W.cell? ⟨b, o + 11, none⟩ = some (sv x.co.u) ∧ W.cell? ⟨b, o + 12, none⟩ = some (sv x.co.t) :=
 ⟨(B.cell h.1).trans h.2.1, (B.cell h.1).trans h.2.2.1, (B.cell h.1).trans h.2.2.2.1, (B.cell h.1).trans h.2.2.2.2.1, (B.cell h.1).trans h.2.2.2.2.2.1, (B.cell h.1).trans h.2.2.2.2.2.2.1, (B.cell h.1).trans h.2.2.2.2.2.2.2.1, (B.cell h.1).trans h.2.2.2.2.2.2.2.2.1, (B.cell h.1).trans h.2.2.2.2.2.2.2.2.2⟩
def PgRet (p : Px) (e : Ending) : Prop := ∃ b : Bool, e = .returned (.bool b) ∧ (b = false → PsOk p)
set_option maxHeartbeats 16000000 in
theorem pgreat_c {w : World} {p : Px} {L : Nat} (hp : Pv w p L) (hL : L ≤ 17592186044000) :
  Calls Tryz.prog 5 #[px p] w fun e w' => Below w.heap.size w w' ∧ PgRet p e := by
 obtain ⟨nm, ob, ⟨RA, rn, rc⟩, rows, ⟨VA, vn, vc⟩, vars⟩ := p
 obtain ⟨RA', rc', er, hr1, hr2, hr3⟩ := id hp.1.1
 obtain ⟨VA', vc', ev, hc1, hc2, hc3⟩ := id hp.2.1
 dsimp only at er ev hc1 hc2 hr1 hr2
 injection er with e1 e2 e3
 subst e1 e2 e3
 injection ev with e1 e2 e3
 subst e1 e2 e3
 obtain ⟨n, hlen⟩ : ∃ n, n = vars.length := ⟨_, rfl⟩
 obtain ⟨m, hlr⟩ : ∃ m, m = rows.length := ⟨_, rfl⟩
 have HN := hide hlen
 have HM := hide hlr
 rw [← hlen] at hp hc1 ⊢
 rw [← hlr] at hp hr1 ⊢
 have b2 := alloc_below w (.cells #[.string nm, .string ob, .slice RA m rc, .slice VA n vc] 25)
 have PQ := hide (show Pq (w.alloc (.cells #[.string nm, .string ob, .slice RA m rc, .slice VA n vc] 25)) w.heap.size ⟨nm, ob, (RA, m, rc), rows, (VA, n, vc), vars⟩ from heap_alloc_new w _)
 have HP := hide (hp.step b2)
 have B0 := hide b2
 unfold maxLen at hc2 hr2
 clear hp b2 hr3 hc3 hlen hlr
 obtain ⟨p0, p1, p2, p3⟩ := PQ.out.alls
 go_enter Tryz.func5, Tryz.ntmps5
 go_wp2_with fail
 clear p0 p1 p2 p3
 generalize (w.alloc (.cells #[.string nm, .string ob, .slice RA m rc, .slice VA n vc] 25)) = w0 at *
 go_loopw [3, 4] (fun sv0 iv wr => ∃ (k : Nat) (z : Int), k ≤ m ∧ sv0 = .int .i64 z ∧ iv = .int .i64 (k : Int) ∧ Hid (Below w0.heap.size w0 wr) ∧ Hid (∀ (j : Nat) x, j < k → rows[j]? = some x → WsOk x)) (fun _ iv _ => m - (intOf iv).toNat)
 case atStart => exact ⟨0, 0, Nat.zero_le _, rfl, rfl, hide (Below.refl _ _), hide (fun j x h => by omega)⟩
 case round =>
  obtain ⟨k, z, hk, rfl, rfl, B, PR⟩ := hrel
  obtain ⟨p0, p1, p2, p3⟩ := (PQ.out.step B.out).alls
  by_cases hlt : k < m
  ·obtain ⟨r, hr⟩ := len_of (d := rows) (k := k) (by rw [← HM.out]; exact hlt)
   have HX := hide hr
   have RV := hide (HP.out.1.2 r (List.mem_of_getElem? hr))
   obtain ⟨b, off, rfl, hb, hc⟩ := HP.out.1.1.get hr
   have QW := hide (And.intro hb (And.intro (hc 3 _ rfl) (And.intro (hc 4 _ rfl) (And.intro (hc 5 _ rfl) (And.intro (hc 6 _ rfl) (And.intro (hc 7 _ rfl) (And.intro (hc 8 _ rfl) (hc 9 _ rfl))))))))
   have l0 : (0 : Int) ≤ (k : Int) := by omega
   have l1 : (k : Int) < (m : Int) := by omega
   clear hc hb hr
   go_wp2_with fail
   clear p0 p1 p2 p3
   replace B := hide (Below.step B.out B.out.size (Below.refl wr.heap.size wr).drew)
   refine wp_region_held_drew (S := fun W => W.cell? ⟨w.heap.size, 2, none⟩ = some (.slice (some ⟨b, off, none⟩) m rc) ∧ W.cell? ⟨b, off + k * 10 + 3, none⟩ = some (.bool r.lo.s) ∧ W.cell? ⟨b, off + k * 10 + 4, none⟩ = some (sv r.lo.u) ∧ W.cell? ⟨b, off + k * 10 + 5, none⟩ = some (sv r.lo.t) ∧ W.cell? ⟨b, off + k * 10 + 6, none⟩ = some (.bool r.hi.s) ∧ W.cell? ⟨b, off + k * 10 + 7, none⟩ = some (sv r.hi.u) ∧ W.cell? ⟨b, off + k * 10 + 8, none⟩ = some (sv r.hi.t) ∧ W.cell? ⟨b, off + k * 10 + 9, none⟩ = some (sv r.v)) (by kernel_rfl) ?_ (fun hHeld => ?_)
   ·try dsimp only
    exact And.intro (PQ.out.step B.out).alls.2.2.1 (rcells_at QW.out B.out)
   generalize wr.drew = V0 at *
   refine tk 0 (v := ?_) hHeld ?_ ?_; rotate_left; (focus (intro w hSw; (try dsimp only at hSw); go_simp; (try with_reducible rfl)))
   try simp only [Act.put, s1, s2, s3, s4, s5, s6]
   refine tk 1 (v := ?_) hHeld ?_ ?_; rotate_left; (focus (intro w hSw; (try dsimp only at hSw); go_simp; (try with_reducible rfl)))
   try simp only [Act.put, s1, s2, s3, s4, s5, s6]
   refine tp 2 hHeld ?_
   try simp only [Act.put, s1, s2, s3, s4, s5, s6]
   refine tk 3 (v := ?_) hHeld ?_ ?_; rotate_left; (focus (intro w hSw; (try dsimp only at hSw); go_simp; (try with_reducible rfl)))
   try simp only [Act.put, s1, s2, s3, s4, s5, s6]
   refine tk 4 (v := ?_) hHeld ?_ ?_; rotate_left; (focus (intro w hSw; (try dsimp only at hSw); go_simp; (try with_reducible rfl)))
   try simp only [Act.put, s1, s2, s3, s4, s5, s6]
   refine tk 5 (v := ?_) hHeld ?_ ?_; rotate_left; (focus (intro w hSw; (try dsimp only at hSw); go_simp; (try with_reducible rfl)))
   try simp only [Act.put, s1, s2, s3, s4, s5, s6]
   refine tk 6 (v := ?_) hHeld ?_ ?_; rotate_left; (focus (intro w hSw; (try dsimp only at hSw); go_simp; (try with_reducible rfl)))
   try simp only [Act.put, s1, s2, s3, s4, s5, s6]
   refine tk 7 (v := ?_) hHeld ?_ ?_; rotate_left; (focus (intro w hSw; (try dsimp only at hSw); go_simp; (try with_reducible rfl)))
   try simp only [Act.put, s1, s2, s3, s4, s5, s6]
   refine tp 8 hHeld ?_
   try simp only [Act.put, s1, s2, s3, s4, s5, s6]
   refine tk 9 (v := ?_) hHeld ?_ ?_; rotate_left; (focus (intro w hSw; (try dsimp only at hSw); go_simp; (try with_reducible rfl)))
   try simp only [Act.put, s1, s2, s3, s4, s5, s6]
   refine tk 10 (v := ?_) hHeld ?_ ?_; rotate_left; (focus (intro w hSw; (try dsimp only at hSw); go_simp; (try with_reducible rfl)))
   try simp only [Act.put, s1, s2, s3, s4, s5, s6]
   refine tk 11 (v := ?_) hHeld ?_ ?_; rotate_left; (focus (intro w hSw; (try dsimp only at hSw); go_simp; (try with_reducible rfl)))
   try simp only [Act.put, s1, s2, s3, s4, s5, s6]
   refine r1 12 (fun K hK => ?_)
   go_simp; have bx := alloc_below V0 (.cells #[.bool r.lo.s, sv r.lo.u, sv r.lo.t, .bool r.hi.s, sv r.hi.u, sv r.hi.t] 41); have FL := hide (fv2 (RV.out.step B.out).2.1 (RV.out.step B.out).2.2); replace B := hide (Below.step B.out B.out.size bx); clear bx; generalize (V0.alloc (.cells #[.bool r.lo.s, sv r.lo.u, sv r.lo.t, .bool r.hi.s, sv r.hi.u, sv r.hi.t] 41)) = V1 at *; generalize V0.heap.size = gl at *; (try dsimp only); refine hK.out _ _ ?_ (fun hHeld => ?_); (focus ((try dsimp only); exact And.intro (PQ.out.step B.out).alls.2.2.1 (rcells_at QW.out B.out))); clear hK K
   try simp only [Act.put, s1, s2, s3, s4, s5, s6]
   refine r1 13 (fun K hK => ?_)
   go_simp; go_at_call 22; refine Calls.mono (greatall_c FL.out hL) ?_; rintro e V2 ⟨bx, o, rfl, ho⟩; have HO := hide ho; replace B := hide (Below.step B.out B.out.size bx); clear bx; clear ho FL; (try dsimp only); refine hK.out _ _ ?_ (fun hHeld => ?_); (focus ((try dsimp only); exact And.intro (PQ.out.step B.out).alls.2.2.1 (rcells_at QW.out B.out))); clear hK K
   try simp only [Act.put, s1, s2, s3, s4, s5, s6]
   cases o
   case true =>
    refine tp 14 hHeld ?_
    try simp only [Act.put, s1, s2, s3, s4, s5, s6]
    refine sh 15 hHeld ?_
    try simp only [Act.put, s1, s2, s3, s4, s5, s6]
    refine sh 16 hHeld ?_
    try simp only [Act.put, s1, s2, s3, s4, s5, s6]
    refine sh 17 hHeld ?_
    try simp only [Act.put, s1, s2, s3, s4, s5, s6]
    refine sh 18 hHeld ?_
    try simp only [Act.put, s1, s2, s3, s4, s5, s6]
    refine sh 19 hHeld ?_
    try simp only [Act.put, s1, s2, s3, s4, s5, s6]
    refine sh 20 hHeld ?_
    try simp only [Act.put, s1, s2, s3, s4, s5, s6]
    refine sh 21 hHeld ?_
    try simp only [Act.put, s1, s2, s3, s4, s5, s6]
    refine tp 22 hHeld ?_
    try simp only [Act.put, s1, s2, s3, s4, s5, s6]
    refine wpAnyH_done (by kernel_rfl) ?_ _
    go_wp2_with fail
    go_ret
    exact ⟨Below.step B0.out B0.out.size B.out, true, rfl, fun h => by cases h⟩
   case false =>
    refine tp 14 hHeld ?_
    try simp only [Act.put, s1, s2, s3, s4, s5, s6]
    refine tk 15 (v := ?_) hHeld ?_ ?_; rotate_left; (focus (intro w hSw; (try dsimp only at hSw); go_simp; (try with_reducible rfl)))
    try simp only [Act.put, s1, s2, s3, s4, s5, s6]
    refine tk 16 (v := ?_) hHeld ?_ ?_; rotate_left; (focus (intro w hSw; (try dsimp only at hSw); go_simp; (try with_reducible rfl)))
    try simp only [Act.put, s1, s2, s3, s4, s5, s6]
    refine tp 17 hHeld ?_
    try simp only [Act.put, s1, s2, s3, s4, s5, s6]
    refine tk 18 (v := ?_) hHeld ?_ ?_; rotate_left; (focus (intro w hSw; (try dsimp only at hSw); go_simp; (try with_reducible rfl)))
    try simp only [Act.put, s1, s2, s3, s4, s5, s6]
    refine tk 19 (v := ?_) hHeld ?_ ?_; rotate_left; (focus (intro w hSw; (try dsimp only at hSw); go_simp; (try with_reducible rfl)))
    try simp only [Act.put, s1, s2, s3, s4, s5, s6]
    refine tk 20 (v := ?_) hHeld ?_ ?_; rotate_left; (focus (intro w hSw; (try dsimp only at hSw); go_simp; (try with_reducible rfl)))
    try simp only [Act.put, s1, s2, s3, s4, s5, s6]
    refine r1 21 (fun K hK => ?_)
    go_simp; go_at_call 23; refine Calls.mono (great_c (RV.out.step B.out).1 hL) ?_; rintro e V3 ⟨bx, o2, rfl, ho2⟩; have HO2 := hide ho2; replace B := hide (Below.step B.out B.out.size bx); clear bx; clear ho2; (try dsimp only); refine hK.out _ _ ?_ (fun hHeld => ?_); (focus ((try dsimp only); exact And.intro (PQ.out.step B.out).alls.2.2.1 (rcells_at QW.out B.out))); clear hK K
    try simp only [Act.put, s1, s2, s3, s4, s5, s6]
    cases o2
    case true =>
     refine tp 22 hHeld ?_
     try simp only [Act.put, s1, s2, s3, s4, s5, s6]
     refine wpAnyH_done (by kernel_rfl) ?_ _
     go_wp2_with fail
     go_ret
     exact ⟨Below.step B0.out B0.out.size B.out, true, rfl, fun h => by cases h⟩
    case false =>
     refine tp 22 hHeld ?_
     try simp only [Act.put, s1, s2, s3, s4, s5, s6]
     refine wpAnyH_done (by kernel_rfl) ?_ _
     go_wp2_with fail
     have Q1 := hide (HO.out (by trivial))
     have Q2 := hide (HO2.out (by trivial))
     have DN := hide Q2.out.1
     have P3 := hide (show ∀ (j : Nat) y, j < k + 1 → rows[j]? = some y → WsOk y from fun j y hj hy => by
      by_cases h : j = k
      ·subst h
       rw [HX.out] at hy
       injection hy with hy
       subst hy
       exact ⟨Q2.out.1, Q2.out.2, Q1.out.2 r.lo (by simp), Q1.out.2 r.hi (by simp)⟩
      ·exact PR.out j y (by omega) hy)
     replace B := hide (Below.step B.out B.out.size (Below.refl V3.heap.size V3).drew)
     refine wp_region_held_drew (S := fun W => W.cell? ⟨w.heap.size, 2, none⟩ = some (.slice (some ⟨b, off, none⟩) m rc) ∧ W.cell? ⟨b, off + k * 10 + 3, none⟩ = some (.bool r.lo.s) ∧ W.cell? ⟨b, off + k * 10 + 4, none⟩ = some (sv r.lo.u) ∧ W.cell? ⟨b, off + k * 10 + 5, none⟩ = some (sv r.lo.t) ∧ W.cell? ⟨b, off + k * 10 + 6, none⟩ = some (.bool r.hi.s) ∧ W.cell? ⟨b, off + k * 10 + 7, none⟩ = some (sv r.hi.u) ∧ W.cell? ⟨b, off + k * 10 + 8, none⟩ = some (sv r.hi.t) ∧ W.cell? ⟨b, off + k * 10 + 9, none⟩ = some (sv r.v)) (by kernel_rfl) ?_ (fun hHeld => ?_)
     ·try dsimp only
      exact And.intro (PQ.out.step B.out).alls.2.2.1 (rcells_at QW.out B.out)
     generalize V3.drew = U0 at *
     refine tp 0 hHeld ?_
     try simp only [Act.put, s1, s2, s3, s4, s5, s6]
     refine tk 1 (v := ?_) hHeld ?_ ?_; rotate_left; (focus (intro w hSw; (try dsimp only at hSw); go_simp; (try with_reducible rfl)))
     try simp only [Act.put, s1, s2, s3, s4, s5, s6]
     refine tk 2 (v := ?_) hHeld ?_ ?_; rotate_left; (focus (intro w hSw; (try dsimp only at hSw); go_simp; (try with_reducible rfl)))
     try simp only [Act.put, s1, s2, s3, s4, s5, s6]
     refine tp 3 hHeld ?_
     try simp only [Act.put, s1, s2, s3, s4, s5, s6]
     refine tk 4 (v := ?_) hHeld ?_ ?_; rotate_left; (focus (intro w hSw; (try dsimp only at hSw); go_simp; (try with_reducible rfl)))
     try simp only [Act.put, s1, s2, s3, s4, s5, s6]
     refine tk 5 (v := ?_) hHeld ?_ ?_; rotate_left; (focus (intro w hSw; (try dsimp only at hSw); go_simp; (try with_reducible rfl)))
     try simp only [Act.put, s1, s2, s3, s4, s5, s6]
     refine tk 6 (v := ?_) hHeld ?_ ?_; rotate_left; (focus (intro w hSw; (try dsimp only at hSw); go_simp; (try with_reducible rfl)))
     try simp only [Act.put, s1, s2, s3, s4, s5, s6]
     refine tk 7 (v := ?_) hHeld ?_ ?_; rotate_left; (focus (intro w hSw; (try dsimp only at hSw); go_simp; (try with_reducible rfl)))
     try simp only [Act.put, s1, s2, s3, s4, s5, s6]
     refine tk 8 (v := ?_) hHeld ?_ ?_; rotate_left; (focus (intro w hSw; (try dsimp only at hSw); go_simp; (try with_reducible rfl)))
     try simp only [Act.put, s1, s2, s3, s4, s5, s6]
     refine tp 9 hHeld ?_
     try simp only [Act.put, s1, s2, s3, s4, s5, s6]
     refine tk 10 (v := ?_) hHeld ?_ ?_; rotate_left; (focus (intro w hSw; (try dsimp only at hSw); go_simp; (try with_reducible rfl)))
     try simp only [Act.put, s1, s2, s3, s4, s5, s6]
     refine tk 11 (v := ?_) hHeld ?_ ?_; rotate_left; (focus (intro w hSw; (try dsimp only at hSw); go_simp; (try with_reducible rfl)))
     try simp only [Act.put, s1, s2, s3, s4, s5, s6]
     refine tk 12 (v := ?_) hHeld ?_ ?_; rotate_left; (focus (intro w hSw; (try dsimp only at hSw); go_simp; (try with_reducible rfl)))
     try simp only [Act.put, s1, s2, s3, s4, s5, s6]
     refine tk 16 (v := ?_) hHeld ?_ ?_; rotate_left; (focus (intro w hSw; (try dsimp only at hSw); go_simp; (try with_reducible rfl)))
     try simp only [Act.put, s1, s2, s3, s4, s5, s6]
     refine tk 17 (v := ?_) hHeld ?_ ?_; rotate_left; (focus (intro w hSw; (try dsimp only at hSw); go_simp; (try with_reducible rfl)))
     try simp only [Act.put, s1, s2, s3, s4, s5, s6]
     refine tp 18 hHeld ?_
     try simp only [Act.put, s1, s2, s3, s4, s5, s6]
     refine tk 19 (v := ?_) hHeld ?_ ?_; rotate_left; (focus (intro w hSw; (try dsimp only at hSw); go_simp; (try with_reducible rfl)))
     try simp only [Act.put, s1, s2, s3, s4, s5, s6]
     refine tk 20 (v := ?_) hHeld ?_ ?_; rotate_left; (focus (intro w hSw; (try dsimp only at hSw); go_simp; (try with_reducible rfl)))
     try simp only [Act.put, s1, s2, s3, s4, s5, s6]
     refine tk 21 (v := ?_) hHeld ?_ ?_; rotate_left; (focus (intro w hSw; (try dsimp only at hSw); go_simp; (try with_reducible rfl)))
     try simp only [Act.put, s1, s2, s3, s4, s5, s6]
     refine r1 13 (fun K hK => ?_)
     go_simp; have bx := alloc_below U0 (.cells #[.bool r.lo.s, sv r.lo.u, sv r.lo.t, .bool r.hi.s, sv r.hi.u, sv r.hi.t] 41); have FL := hide (fv2 (RV.out.step B.out).2.1 (RV.out.step B.out).2.2); replace B := hide (Below.step B.out B.out.size bx); clear bx; generalize (U0.alloc (.cells #[.bool r.lo.s, sv r.lo.u, sv r.lo.t, .bool r.hi.s, sv r.hi.u, sv r.hi.t] 41)) = U1 at *; generalize U0.heap.size = gl at *; (try dsimp only); refine hK.out _ _ ?_ (fun hHeld => ?_); (focus ((try dsimp only); exact And.intro (PQ.out.step B.out).alls.2.2.1 (rcells_at QW.out B.out))); clear hK K
     try simp only [Act.put, s1, s2, s3, s4, s5, s6]
     refine r1 14 (fun K hK => ?_)
     go_simp; go_at_call 24; refine Calls.mono (weight_c FL.out hL) ?_; rintro e U2 ⟨z2, rfl, bx⟩; replace B := hide (Below.step B.out B.out.size bx); clear bx; clear FL; (try dsimp only); refine hK.out _ _ ?_ (fun hHeld => ?_); (focus ((try dsimp only); exact And.intro (PQ.out.step B.out).alls.2.2.1 (rcells_at QW.out B.out))); clear hK K
     try simp only [Act.put, s1, s2, s3, s4, s5, s6]
     refine tk 15 (v := ?_) hHeld ?_ ?_; rotate_left; (focus (intro w hSw; (try dsimp only at hSw); go_simp; (try with_reducible rfl)))
     try simp only [Act.put, s1, s2, s3, s4, s5, s6]
     refine r1 22 (fun K hK => ?_)
     go_simp; go_at_call 25; refine Calls.mono (weights_c (RV.out.step B.out).1 hL (by have := DN.out; omega)) ?_; rintro e U3 ⟨z3, rfl, bx⟩; replace B := hide (Below.step B.out B.out.size bx); clear bx; (try dsimp only); refine hK.out _ _ ?_ (fun hHeld => ?_); (focus ((try dsimp only); exact And.intro (PQ.out.step B.out).alls.2.2.1 (rcells_at QW.out B.out))); clear hK K
     try simp only [Act.put, s1, s2, s3, s4, s5, s6]
     refine tk 23 (v := ?_) hHeld ?_ ?_; rotate_left; (focus (intro w hSw; (try dsimp only at hSw); go_simp; (try with_reducible rfl)))
     try simp only [Act.put, s1, s2, s3, s4, s5, s6]
     refine tp 24 hHeld ?_
     try simp only [Act.put, s1, s2, s3, s4, s5, s6]
     refine wpAnyH_done (by kernel_rfl) ?_ _
     go_wp2_with fail
     exact ⟨⟨k + 1, _, by omega, rfl, by go_num, B, P3⟩, by simp [intOf]; omega⟩
  ·obtain rfl : k = m := by omega
   have RS := hide (show ∀ x ∈ rows, WsOk x from fun x hx => by
    obtain ⟨j, hj, e⟩ := List.getElem_of_mem hx
    exact PR.out j x (by rw [HM.out]; exact hj) (by rw [List.getElem?_eq_getElem hj, e]))
   have BB := hide B.out
   clear PR B
   go_wp2_with fail
   clear p0 p1 p2 p3
   obtain ⟨wo, hwo⟩ : ∃ wo, wo = wr := ⟨_, rfl⟩
   subst hwo
   go_loopw [3, 5] (fun sv0 iv wr => ∃ (q : Nat) (z : Int), q ≤ n ∧ sv0 = .int .i64 z ∧ iv = .int .i64 (q : Int) ∧ Hid (Below w0.heap.size w0 wr) ∧ Hid (∀ (j : Nat) x, j < q → vars[j]? = some x → UsOk x)) (fun _ iv _ => n - (intOf iv).toNat)
   case atStart => exact ⟨0, z, Nat.zero_le _, rfl, rfl, BB, hide (fun j x h => by omega)⟩
   case round =>
    obtain ⟨q, z, hq, rfl, rfl, B, PR⟩ := hrel
    obtain ⟨p0, p1, p2, p3⟩ := (PQ.out.step B.out).alls
    by_cases hlt2 : q < n
    ·obtain ⟨x, hx⟩ := len_of (d := vars) (k := q) (by rw [← HN.out]; exact hlt2)
     have HX := hide hx
     have RV := hide (HP.out.2.2 x (List.mem_of_getElem? hx))
     obtain ⟨b, off, rfl, hb, hc⟩ := HP.out.2.1.get hx
     have QW := hide (And.intro hb (And.intro (hc 4 _ rfl) (And.intro (hc 5 _ rfl) (And.intro (hc 6 _ rfl) (And.intro (hc 7 _ rfl) (And.intro (hc 8 _ rfl) (And.intro (hc 9 _ rfl) (And.intro (hc 10 _ rfl) (And.intro (hc 11 _ rfl) (hc 12 _ rfl))))))))))
     have l0 : (0 : Int) ≤ (q : Int) := by omega
     have l1 : (q : Int) < (n : Int) := by omega
     clear hc hb hx
     go_wp2_with fail
     clear p0 p1 p2 p3
     replace B := hide (Below.step B.out B.out.size (Below.refl wr.heap.size wr).drew)
     refine wp_region_held_drew (S := fun W => W.cell? ⟨w.heap.size, 3, none⟩ = some (.slice (some ⟨b, off, none⟩) n vc) ∧ W.cell? ⟨b, off + q * 13 + 4, none⟩ = some (.bool x.lo.s) ∧ W.cell? ⟨b, off + q * 13 + 5, none⟩ = some (sv x.lo.u) ∧ W.cell? ⟨b, off + q * 13 + 6, none⟩ = some (sv x.lo.t) ∧ W.cell? ⟨b, off + q * 13 + 7, none⟩ = some (.bool x.hi.s) ∧ W.cell? ⟨b, off + q * 13 + 8, none⟩ = some (sv x.hi.u) ∧ W.cell? ⟨b, off + q * 13 + 9, none⟩ = some (sv x.hi.t) ∧ W.cell? ⟨b, off + q * 13 + 10, none⟩ = some (.bool x.co.s) ∧ W.cell? ⟨b, off + q * 13 + 11, none⟩ = some (sv x.co.u) ∧ W.cell? ⟨b, off + q * 13 + 12, none⟩ = some (sv x.co.t)) (by kernel_rfl) ?_ (fun hHeld => ?_)
     ·try dsimp only
      exact And.intro (PQ.out.step B.out).alls.2.2.2 (ucells_at QW.out B.out)
     generalize wr.drew = V0 at *
     refine tk 0 (v := ?_) hHeld ?_ ?_; rotate_left; (focus (intro w hSw; (try dsimp only at hSw); go_simp; (try with_reducible rfl)))
     try simp only [Act.put, s1, s2, s3, s4, s5, s6]
     refine tk 1 (v := ?_) hHeld ?_ ?_; rotate_left; (focus (intro w hSw; (try dsimp only at hSw); go_simp; (try with_reducible rfl)))
     try simp only [Act.put, s1, s2, s3, s4, s5, s6]
     refine tp 2 hHeld ?_
     try simp only [Act.put, s1, s2, s3, s4, s5, s6]
     refine tk 3 (v := ?_) hHeld ?_ ?_; rotate_left; (focus (intro w hSw; (try dsimp only at hSw); go_simp; (try with_reducible rfl)))
     try simp only [Act.put, s1, s2, s3, s4, s5, s6]
     refine tk 4 (v := ?_) hHeld ?_ ?_; rotate_left; (focus (intro w hSw; (try dsimp only at hSw); go_simp; (try with_reducible rfl)))
     try simp only [Act.put, s1, s2, s3, s4, s5, s6]
     refine tk 5 (v := ?_) hHeld ?_ ?_; rotate_left; (focus (intro w hSw; (try dsimp only at hSw); go_simp; (try with_reducible rfl)))
     try simp only [Act.put, s1, s2, s3, s4, s5, s6]
     refine tk 6 (v := ?_) hHeld ?_ ?_; rotate_left; (focus (intro w hSw; (try dsimp only at hSw); go_simp; (try with_reducible rfl)))
     try simp only [Act.put, s1, s2, s3, s4, s5, s6]
     refine tk 7 (v := ?_) hHeld ?_ ?_; rotate_left; (focus (intro w hSw; (try dsimp only at hSw); go_simp; (try with_reducible rfl)))
     try simp only [Act.put, s1, s2, s3, s4, s5, s6]
     refine tp 8 hHeld ?_
     try simp only [Act.put, s1, s2, s3, s4, s5, s6]
     refine tk 9 (v := ?_) hHeld ?_ ?_; rotate_left; (focus (intro w hSw; (try dsimp only at hSw); go_simp; (try with_reducible rfl)))
     try simp only [Act.put, s1, s2, s3, s4, s5, s6]
     refine tk 10 (v := ?_) hHeld ?_ ?_; rotate_left; (focus (intro w hSw; (try dsimp only at hSw); go_simp; (try with_reducible rfl)))
     try simp only [Act.put, s1, s2, s3, s4, s5, s6]
     refine tk 11 (v := ?_) hHeld ?_ ?_; rotate_left; (focus (intro w hSw; (try dsimp only at hSw); go_simp; (try with_reducible rfl)))
     try simp only [Act.put, s1, s2, s3, s4, s5, s6]
     refine tk 12 (v := ?_) hHeld ?_ ?_; rotate_left; (focus (intro w hSw; (try dsimp only at hSw); go_simp; (try with_reducible rfl)))
     try simp only [Act.put, s1, s2, s3, s4, s5, s6]
     refine tk 13 (v := ?_) hHeld ?_ ?_; rotate_left; (focus (intro w hSw; (try dsimp only at hSw); go_simp; (try with_reducible rfl)))
     try simp only [Act.put, s1, s2, s3, s4, s5, s6]
     refine tp 14 hHeld ?_
     try simp only [Act.put, s1, s2, s3, s4, s5, s6]
     refine tk 15 (v := ?_) hHeld ?_ ?_; rotate_left; (focus (intro w hSw; (try dsimp only at hSw); go_simp; (try with_reducible rfl)))
     try simp only [Act.put, s1, s2, s3, s4, s5, s6]
     refine tk 16 (v := ?_) hHeld ?_ ?_; rotate_left; (focus (intro w hSw; (try dsimp only at hSw); go_simp; (try with_reducible rfl)))
     try simp only [Act.put, s1, s2, s3, s4, s5, s6]
     refine tk 17 (v := ?_) hHeld ?_ ?_; rotate_left; (focus (intro w hSw; (try dsimp only at hSw); go_simp; (try with_reducible rfl)))
     try simp only [Act.put, s1, s2, s3, s4, s5, s6]
     refine r1 18 (fun K hK => ?_)
     go_simp; have bx := alloc_below V0 (.cells #[.bool x.lo.s, sv x.lo.u, sv x.lo.t, .bool x.hi.s, sv x.hi.u, sv x.hi.t, .bool x.co.s, sv x.co.u, sv x.co.t] 41); have FL := hide (fv3 (RV.out.step B.out).1 (RV.out.step B.out).2.1 (RV.out.step B.out).2.2); replace B := hide (Below.step B.out B.out.size bx); clear bx; generalize (V0.alloc (.cells #[.bool x.lo.s, sv x.lo.u, sv x.lo.t, .bool x.hi.s, sv x.hi.u, sv x.hi.t, .bool x.co.s, sv x.co.u, sv x.co.t] 41)) = V1 at *; generalize V0.heap.size = gl at *; (try dsimp only); refine hK.out _ _ ?_ (fun hHeld => ?_); (focus ((try dsimp only); exact And.intro (PQ.out.step B.out).alls.2.2.2 (ucells_at QW.out B.out))); clear hK K
     try simp only [Act.put, s1, s2, s3, s4, s5, s6]
     refine r1 19 (fun K hK => ?_)
     go_simp; go_at_call 22; refine Calls.mono (greatall_c FL.out hL) ?_; rintro e V2 ⟨bx, o, rfl, ho⟩; have HO := hide ho; replace B := hide (Below.step B.out B.out.size bx); clear bx; clear ho FL; (try dsimp only); refine hK.out _ _ ?_ (fun hHeld => ?_); (focus ((try dsimp only); exact And.intro (PQ.out.step B.out).alls.2.2.2 (ucells_at QW.out B.out))); clear hK K
     try simp only [Act.put, s1, s2, s3, s4, s5, s6]
     cases o
     case true =>
      refine wpAnyH_done (by kernel_rfl) ?_ _
      go_wp2_with fail
      go_ret
      exact ⟨Below.step B0.out B0.out.size B.out, true, rfl, fun h => by cases h⟩
     case false =>
      refine wpAnyH_done (by kernel_rfl) ?_ _
      go_wp2_with fail
      have Q1 := hide (HO.out (by trivial))
      have P3 := hide (show ∀ (j : Nat) y, j < q + 1 → vars[j]? = some y → UsOk y from fun j y hj hy => by
       by_cases h : j = q
       ·subst h
        rw [HX.out] at hy
        injection hy with hy
        subst hy
        exact ⟨Q1.out.2 x.lo (by simp), Q1.out.2 x.hi (by simp), Q1.out.2 x.co (by simp)⟩
       ·exact PR.out j y (by omega) hy)
      replace B := hide (Below.step B.out B.out.size (Below.refl V2.heap.size V2).drew)
      refine wp_region_held_drew (S := fun W => W.cell? ⟨w.heap.size, 3, none⟩ = some (.slice (some ⟨b, off, none⟩) n vc) ∧ W.cell? ⟨b, off + q * 13 + 4, none⟩ = some (.bool x.lo.s) ∧ W.cell? ⟨b, off + q * 13 + 5, none⟩ = some (sv x.lo.u) ∧ W.cell? ⟨b, off + q * 13 + 6, none⟩ = some (sv x.lo.t) ∧ W.cell? ⟨b, off + q * 13 + 7, none⟩ = some (.bool x.hi.s) ∧ W.cell? ⟨b, off + q * 13 + 8, none⟩ = some (sv x.hi.u) ∧ W.cell? ⟨b, off + q * 13 + 9, none⟩ = some (sv x.hi.t) ∧ W.cell? ⟨b, off + q * 13 + 10, none⟩ = some (.bool x.co.s) ∧ W.cell? ⟨b, off + q * 13 + 11, none⟩ = some (sv x.co.u) ∧ W.cell? ⟨b, off + q * 13 + 12, none⟩ = some (sv x.co.t)) (by kernel_rfl) ?_ (fun hHeld => ?_)
      ·try dsimp only
       exact And.intro (PQ.out.step B.out).alls.2.2.2 (ucells_at QW.out B.out)
      generalize V2.drew = U0 at *
      refine tp 0 hHeld ?_
      try simp only [Act.put, s1, s2, s3, s4, s5, s6]
      refine tk 1 (v := ?_) hHeld ?_ ?_; rotate_left; (focus (intro w hSw; (try dsimp only at hSw); go_simp; (try with_reducible rfl)))
      try simp only [Act.put, s1, s2, s3, s4, s5, s6]
      refine tk 2 (v := ?_) hHeld ?_ ?_; rotate_left; (focus (intro w hSw; (try dsimp only at hSw); go_simp; (try with_reducible rfl)))
      try simp only [Act.put, s1, s2, s3, s4, s5, s6]
      refine tp 3 hHeld ?_
      try simp only [Act.put, s1, s2, s3, s4, s5, s6]
      refine tk 4 (v := ?_) hHeld ?_ ?_; rotate_left; (focus (intro w hSw; (try dsimp only at hSw); go_simp; (try with_reducible rfl)))
      try simp only [Act.put, s1, s2, s3, s4, s5, s6]
      refine tk 5 (v := ?_) hHeld ?_ ?_; rotate_left; (focus (intro w hSw; (try dsimp only at hSw); go_simp; (try with_reducible rfl)))
      try simp only [Act.put, s1, s2, s3, s4, s5, s6]
      refine tk 6 (v := ?_) hHeld ?_ ?_; rotate_left; (focus (intro w hSw; (try dsimp only at hSw); go_simp; (try with_reducible rfl)))
      try simp only [Act.put, s1, s2, s3, s4, s5, s6]
      refine tk 7 (v := ?_) hHeld ?_ ?_; rotate_left; (focus (intro w hSw; (try dsimp only at hSw); go_simp; (try with_reducible rfl)))
      try simp only [Act.put, s1, s2, s3, s4, s5, s6]
      refine tk 8 (v := ?_) hHeld ?_ ?_; rotate_left; (focus (intro w hSw; (try dsimp only at hSw); go_simp; (try with_reducible rfl)))
      try simp only [Act.put, s1, s2, s3, s4, s5, s6]
      refine tp 9 hHeld ?_
      try simp only [Act.put, s1, s2, s3, s4, s5, s6]
      refine tk 10 (v := ?_) hHeld ?_ ?_; rotate_left; (focus (intro w hSw; (try dsimp only at hSw); go_simp; (try with_reducible rfl)))
      try simp only [Act.put, s1, s2, s3, s4, s5, s6]
      refine tk 11 (v := ?_) hHeld ?_ ?_; rotate_left; (focus (intro w hSw; (try dsimp only at hSw); go_simp; (try with_reducible rfl)))
      try simp only [Act.put, s1, s2, s3, s4, s5, s6]
      refine tk 12 (v := ?_) hHeld ?_ ?_; rotate_left; (focus (intro w hSw; (try dsimp only at hSw); go_simp; (try with_reducible rfl)))
      try simp only [Act.put, s1, s2, s3, s4, s5, s6]
      refine tk 13 (v := ?_) hHeld ?_ ?_; rotate_left; (focus (intro w hSw; (try dsimp only at hSw); go_simp; (try with_reducible rfl)))
      try simp only [Act.put, s1, s2, s3, s4, s5, s6]
      refine tk 14 (v := ?_) hHeld ?_ ?_; rotate_left; (focus (intro w hSw; (try dsimp only at hSw); go_simp; (try with_reducible rfl)))
      try simp only [Act.put, s1, s2, s3, s4, s5, s6]
      refine tp 15 hHeld ?_
      try simp only [Act.put, s1, s2, s3, s4, s5, s6]
      refine tk 16 (v := ?_) hHeld ?_ ?_; rotate_left; (focus (intro w hSw; (try dsimp only at hSw); go_simp; (try with_reducible rfl)))
      try simp only [Act.put, s1, s2, s3, s4, s5, s6]
      refine tk 17 (v := ?_) hHeld ?_ ?_; rotate_left; (focus (intro w hSw; (try dsimp only at hSw); go_simp; (try with_reducible rfl)))
      try simp only [Act.put, s1, s2, s3, s4, s5, s6]
      refine tk 18 (v := ?_) hHeld ?_ ?_; rotate_left; (focus (intro w hSw; (try dsimp only at hSw); go_simp; (try with_reducible rfl)))
      try simp only [Act.put, s1, s2, s3, s4, s5, s6]
      refine r1 19 (fun K hK => ?_)
      go_simp; have bx := alloc_below U0 (.cells #[.bool x.lo.s, sv x.lo.u, sv x.lo.t, .bool x.hi.s, sv x.hi.u, sv x.hi.t, .bool x.co.s, sv x.co.u, sv x.co.t] 41); have FL := hide (fv3 (RV.out.step B.out).1 (RV.out.step B.out).2.1 (RV.out.step B.out).2.2); replace B := hide (Below.step B.out B.out.size bx); clear bx; generalize (U0.alloc (.cells #[.bool x.lo.s, sv x.lo.u, sv x.lo.t, .bool x.hi.s, sv x.hi.u, sv x.hi.t, .bool x.co.s, sv x.co.u, sv x.co.t] 41)) = U1 at *; generalize U0.heap.size = gl at *; (try dsimp only); refine hK.out _ _ ?_ (fun hHeld => ?_); (focus ((try dsimp only); exact And.intro (PQ.out.step B.out).alls.2.2.2 (ucells_at QW.out B.out))); clear hK K
      try simp only [Act.put, s1, s2, s3, s4, s5, s6]
      refine r1 20 (fun K hK => ?_)
      go_simp; go_at_call 24; refine Calls.mono (weight_c FL.out hL) ?_; rintro e U2 ⟨z2, rfl, bx⟩; replace B := hide (Below.step B.out B.out.size bx); clear bx; clear FL; (try dsimp only); refine hK.out _ _ ?_ (fun hHeld => ?_); (focus ((try dsimp only); exact And.intro (PQ.out.step B.out).alls.2.2.2 (ucells_at QW.out B.out))); clear hK K
      try simp only [Act.put, s1, s2, s3, s4, s5, s6]
      refine tk 21 (v := ?_) hHeld ?_ ?_; rotate_left; (focus (intro w hSw; (try dsimp only at hSw); go_simp; (try with_reducible rfl)))
      try simp only [Act.put, s1, s2, s3, s4, s5, s6]
      refine tp 22 hHeld ?_
      try simp only [Act.put, s1, s2, s3, s4, s5, s6]
      refine wpAnyH_done (by kernel_rfl) ?_ _
      go_wp2_with fail
      exact ⟨⟨q + 1, _, by omega, rfl, by go_num, B, P3⟩, by simp [intOf]; omega⟩
    ·obtain rfl : q = n := by omega
     have VS := hide (show ∀ x ∈ vars, UsOk x from fun x hx => by
      obtain ⟨j, hj, e⟩ := List.getElem_of_mem hx
      exact PR.out j x (by rw [HN.out]; exact hj) (by rw [List.getElem?_eq_getElem hj, e]))
     clear PR
     by_cases h7 : 70 < k
     ·have t1 : decide ((70 : Int) < (k : Int)) = true := decide_eq_true (by omega)
      go_wp2_with fail
      go_ret
      exact ⟨Below.step B0.out B0.out.size B.out, true, rfl, fun h => by cases h⟩
     have t1 : decide ((70 : Int) < (k : Int)) = false := decide_eq_false (by omega)
     by_cases h5 : 50 < q
     ·have t2 : decide ((50 : Int) < (q : Int)) = true := decide_eq_true (by omega)
      go_wp2_with fail
      go_ret
      exact ⟨Below.step B0.out B0.out.size B.out, true, rfl, fun h => by cases h⟩
     have t2 : decide ((50 : Int) < (q : Int)) = false := decide_eq_false (by omega)
     go_wp2_with fail
     go_ret
     exact ⟨Below.step B0.out B0.out.size B.out, _, rfl, fun _ => ⟨by show rows.length ≤ 70; rw [← HM.out]; omega, by show vars.length ≤ 50; rw [← HN.out]; omega, RS.out, VS.out⟩⟩
theorem fv1x {W : World} {a : Rx} {L : Nat} (ha : Ra W (rx a) a.r L) : Fv (W.alloc (.cells #[.bool a.s, sv a.u, sv a.t] 41)) (.slice (some ⟨W.heap.size, 0, none⟩) 1 1) [a] L :=
 ⟨(Ow.lit (B := W.heap.size) er_len W 41 [a] _ rfl (Nat.le_refl _) (by simp [maxLen])).rl er_len, fun y hy => by
  simp at hy
  subst hy
  exact ha.step (alloc_below _ _)⟩
theorem ks_three {W : World} {B M : Nat} {v : Value} {l : List Kx} (T : Kgl W B v l M) (hl : l.length = 3) : ∃ g cap k0 k1, v = .slice (some ⟨g, 0, none⟩) 3 cap ∧ l[0]? = some k0 ∧ l[1]? = some k1 ∧ g < W.heap.size ∧ W.cell? ⟨g, 0, none⟩ = some (.int .i64 k0.s) ∧ W.cell? ⟨g, 5, none⟩ = some (.int .i64 k1.s) := by
 rcases T.1.form with ⟨_, rfl⟩ | ⟨g, cap, cur, rfl, _, hlt, _⟩
 ·simp at hl
 obtain ⟨k0, h0⟩ := len_of (d := l) (k := 0) (by omega)
 obtain ⟨k1, h1⟩ := len_of (d := l) (k := 1) (by omega)
 have R := T.1.rl ek_len
 obtain ⟨b, off, e, hb, hc⟩ := R.get h0
 injection e with e
 injection e with e1 e2
 subst e1 e2
 obtain ⟨b', off', e', hb', hc'⟩ := R.get h1
 injection e' with e'
 injection e' with e1 e2
 subst e1 e2
 exact ⟨g, cap, k0, k1, by rw [hl], h0, h1, hlt, by have := hc 0 _ rfl; simpa using this, by have := hc' 0 _ rfl; simpa using this⟩
abbrev rw10 (gT : Nat) (x0 x3 x2 : Rx) : Wx := ⟨⟨#[114, 49]⟩, false, true, x0, x3, (some ⟨gT, 0, none⟩, 1, 1), [⟨0, x2⟩]⟩
abbrev va10 (y0 y4 y1 : Rx) : Ux := ⟨⟨#[120]⟩, false, true, true, y0, y4, y1⟩
abbrev px10 (gT gV : Nat) (x0 x3 x2 y0 y4 y1 : Rx) : Px := ⟨⟨#[]⟩, ⟨#[99, 111, 115, 116]⟩, (some ⟨gT + 1, 0, none⟩, 1, 1), [rw10 gT x0 x3 x2], (some ⟨gV, 0, none⟩, 1, 1), [va10 y0 y4 y1]⟩
theorem len10 {gT gV : Nat} {x0 x3 x2 y0 y4 y1 : Rx} : PsLen (px10 gT gV x0 x3 x2 y0 y4 y1) := ⟨by simp, by simp, fun r hr => by simp at hr; subst hr; simp⟩
theorem crs10 {gT gV : Nat} {x0 x3 x2 y0 y4 y1 : Rx} : ∃ g1 r1 g2 r2 g3 r3, cprob (px10 gT gV x0 x3 x2 y0 y4 y1) = [(1, g1, r1), (2, g2, r2), (1, g3, r3)] := ⟨_, _, _, _, _, _, rfl⟩
theorem xf1 {q : Rx} : xf [q] ((0 : Nat) : Int) = q.r := xf_in rfl
theorem dt10 {x2 q : Rx} {gT : Nat} {x0 x3 : Rx} : dt (tms (rw10 gT x0 x3 x2).d) (xf [q]) = x2.r * q.r := by
 show x2.r * xf [q] ((0 : Nat) : Int) + 0 = _
 rw [xf1, Rat.add_zero]
theorem in10 {gT gV : Nat} {x0 x3 x2 y0 y4 y1 q : Rx} (h3 : x3.r = ((3 : Int) : Rat)) (h2 : x2.r = ((2 : Int) : Rat)) (h0 : y0.r = ((0 : Int) : Rat)) (h4 : y4.r = ((4 : Int) : Rat)) (hq : q.r = ((1 : Int) : Rat)) : [q].length = (px10 gT gV x0 x3 x2 y0 y4 y1).vars.length ∧ Hlds (px10 gT gV x0 x3 x2 y0 y4 y1) (xf [q]) := by
 refine ⟨rfl, fun i x hx => ?_, fun r hr => ?_⟩
 ·match i, hx with
  | 0, hx =>
   simp at hx
   subst hx
   refine ⟨⟨fun _ => ?_, fun _ => ?_⟩, fun h => by cases h⟩
   ·show y0.r ≤ xf [q] ((0 : Nat) : Int)
    rw [xf1, h0, hq]; decide +kernel
   ·show xf [q] ((0 : Nat) : Int) ≤ y4.r
    rw [xf1, h4, hq]; decide +kernel
  | i + 1, hx => simp at hx
 ·simp at hr
  subst hr
  refine ⟨(fun h => by cases h), fun _ => ?_⟩
  rw [dt10]
  show x2.r * q.r ≤ x3.r
  rw [h2, h3, hq]; decide +kernel
theorem out10 {gT gV : Nat} {x0 x3 x2 y0 y4 y1 q : Rx} (h3 : x3.r = ((3 : Int) : Rat)) (h2 : x2.r = ((2 : Int) : Rat)) (hq : q.r = ((2 : Int) : Rat)) : ¬ ([q].length = (px10 gT gV x0 x3 x2 y0 y4 y1).vars.length ∧ Hlds (px10 gT gV x0 x3 x2 y0 y4 y1) (xf [q])) := by
 rintro ⟨_, _, h⟩
 have h1 := (h (rw10 gT x0 x3 x2) (by simp)).2 rfl
 rw [dt10] at h1
 have h1 : x2.r * q.r ≤ x3.r := h1
 rw [h2, h3, hq] at h1
 exact absurd h1 (by decide +kernel)
theorem cst10 {gT gV : Nat} {x0 x3 x2 y0 y4 y1 q : Rx} (h1 : y1.r = ((-1 : Int) : Rat)) (hq : q.r = ((1 : Int) : Rat)) : cst (px10 gT gV x0 x3 x2 y0 y4 y1) [q] = ((-1 : Int) : Rat) := by
 show 0 + xf [y1] ((0 : Nat) : Int) * xf [q] ((0 : Nat) : Int) = _
 rw [xf1, xf1, h1, hq]
 decide +kernel
theorem fin10 {gT gV : Nat} {x0 x3 x2 y0 y4 y1 : Rx} : ∀ x ∈ (px10 gT gV x0 x3 x2 y0 y4 y1).vars, x.a = true ∧ x.b = true := fun x hx => by
 simp at hx
 subst hx
 exact ⟨rfl, rfl⟩
theorem obj10 {y1 : Rx} {d : List Tx} (h1 : y1.r = ((-1 : Int) : Rat)) (hf : Fm (tms d)) (hg : ∀ c, 0 ≤ c → gsum (tms d) c = xf [y1] c) : d.length = 1 := by
 have e : tms d = [((0 : Int), ((-1 : Int) : Rat))] := by
  refine hf.unique ⟨by simp, fun t ht => by simp at ht; subst ht; exact ⟨by decide, by decide +kernel⟩⟩ (fun c hc => ?_)
  rw [hg c hc]
  simp only [gsum]
  by_cases h : c = 0
  ·subst h
   rw [if_pos rfl, Rat.add_zero, ← h1]
   exact xf1
  ·rw [if_neg (fun e => h e.symm), Rat.add_zero]
   exact xf_out [y1] c (.inr (by simp; omega))
 have := congrArg List.length e
 rw [tms_len] at this
 simpa using this
set_option maxHeartbeats 16000000 in
theorem mspeaks_true (w : World) : Calls Tryz.prog 4 #[] w fun e w' => e = .returned (.bool true) ∧ Below w.heap.size w w' := by
 have BW := hide (Below.refl w.heap.size w)
 go_enter Tryz.func4, Tryz.ntmps4
 go_wp2_with fail
 refine (whole10_g _ (0) (by omega) (by omega)).mono ?_
 rintro e w1 ⟨x0, rfl, hq, rq, bx⟩
 have R_x0 := hide rq.ra
 have E_x0 := hide hq
 replace BW := hide (Below.step BW.out BW.out.size bx)
 clear hq rq bx
 go_wp2_with fail
 refine (whole10_g _ (3) (by omega) (by omega)).mono ?_
 rintro e w2 ⟨x3, rfl, hq, rq, bx⟩
 have R_x3 := hide rq.ra
 have E_x3 := hide hq
 replace R_x0 := hide (R_x0.out.step bx)
 replace BW := hide (Below.step BW.out BW.out.size bx)
 clear hq rq bx
 go_wp2_with fail
 refine (whole10_g _ (2) (by omega) (by omega)).mono ?_
 rintro e w3 ⟨x2, rfl, hq, rq, bx⟩
 have R_x2 := hide rq.ra
 have E_x2 := hide hq
 replace R_x0 := hide (R_x0.out.step bx)
 replace R_x3 := hide (R_x3.out.step bx)
 replace BW := hide (Below.step BW.out BW.out.size bx)
 clear hq rq bx
 have b4 := alloc_below w3 (.cells #[.int .i64 0, .bool x2.s, sv x2.u, sv x2.t] 51)
 have b5 := alloc_below (w3.alloc (.cells #[.int .i64 0, .bool x2.s, sv x2.u, sv x2.t] 51)) (.cells #[.string ⟨#[114, 49]⟩, .bool false, .bool true, .bool x0.s, sv x0.u, sv x0.t, .bool x3.s, sv x3.u, sv x3.t, .slice (some ⟨w3.heap.size, 0, none⟩) 1 1] 53)
 have TL := hide (show Tv ((w3.alloc (.cells #[.int .i64 0, .bool x2.s, sv x2.u, sv x2.t] 51)).alloc (.cells #[.string ⟨#[114, 49]⟩, .bool false, .bool true, .bool x0.s, sv x0.u, sv x0.t, .bool x3.s, sv x3.u, sv x3.t, .slice (some ⟨w3.heap.size, 0, none⟩) 1 1] 53)) (.slice (some ⟨w3.heap.size, 0, none⟩) 1 1) [⟨0, x2⟩] 6 from by
  have h : Tv (w3.alloc (.cells #[.int .i64 0, .bool x2.s, sv x2.u, sv x2.t] 51)) (.slice (some ⟨w3.heap.size, 0, none⟩) 1 1) [⟨0, x2⟩] 6 := ⟨(Ow.lit (B := w3.heap.size) et_len w3 51 [⟨0, x2⟩] _ rfl (Nat.le_refl _) (by simp [maxLen])).rl et_len, fun y hy => by simp at hy; subst hy; exact R_x2.out.step b4⟩
  exact h.step b5)
 have RL := hide (show Lr ew 10 ((w3.alloc (.cells #[.int .i64 0, .bool x2.s, sv x2.u, sv x2.t] 51)).alloc (.cells #[.string ⟨#[114, 49]⟩, .bool false, .bool true, .bool x0.s, sv x0.u, sv x0.t, .bool x3.s, sv x3.u, sv x3.t, .slice (some ⟨w3.heap.size, 0, none⟩) 1 1] 53)) (.slice (some ⟨w3.heap.size + 1, 0, none⟩) 1 1) [rw10 w3.heap.size x0 x3 x2] from by
  have h := (Ow.lit (B := (w3.alloc (.cells #[.int .i64 0, .bool x2.s, sv x2.u, sv x2.t] 51)).heap.size) ew_len (w3.alloc (.cells #[.int .i64 0, .bool x2.s, sv x2.u, sv x2.t] 51)) 53 [rw10 w3.heap.size x0 x3 x2] (ew (rw10 w3.heap.size x0 x3 x2)).toArray (by simp [flat]) (Nat.le_refl _) (by simp [maxLen])).rl ew_len
  rw [show (w3.alloc (.cells #[.int .i64 0, .bool x2.s, sv x2.u, sv x2.t] 51)).heap.size = w3.heap.size + 1 by simp] at h
  exact h)
 replace R_x0 := hide ((R_x0.out.step b4).step b5)
 replace R_x3 := hide ((R_x3.out.step b4).step b5)
 replace BW := hide (Below.step (Below.step BW.out BW.out.size b4) (Below.step BW.out BW.out.size b4).size b5)
 clear b4 b5 R_x2
 go_wp2_with fail
 generalize ((w3.alloc (.cells #[.int .i64 0, .bool x2.s, sv x2.u, sv x2.t] 51)).alloc (.cells #[.string ⟨#[114, 49]⟩, .bool false, .bool true, .bool x0.s, sv x0.u, sv x0.t, .bool x3.s, sv x3.u, sv x3.t, .slice (some ⟨w3.heap.size, 0, none⟩) 1 1] 53)) = w5 at *
 generalize w3.heap.size = gT at *
 refine (whole10_g _ (0) (by omega) (by omega)).mono ?_
 rintro e w6 ⟨y0, rfl, hq, rq, bx⟩
 have R_y0 := hide rq.ra
 have E_y0 := hide hq
 replace TL := hide (TL.out.step bx)
 replace RL := hide (RL.out.step bx)
 replace R_x0 := hide (R_x0.out.step bx)
 replace R_x3 := hide (R_x3.out.step bx)
 replace BW := hide (Below.step BW.out BW.out.size bx)
 clear hq rq bx
 go_wp2_with fail
 refine (whole10_g _ (4) (by omega) (by omega)).mono ?_
 rintro e w7 ⟨y4, rfl, hq, rq, bx⟩
 have R_y4 := hide rq.ra
 have E_y4 := hide hq
 replace TL := hide (TL.out.step bx)
 replace RL := hide (RL.out.step bx)
 replace R_x0 := hide (R_x0.out.step bx)
 replace R_x3 := hide (R_x3.out.step bx)
 replace R_y0 := hide (R_y0.out.step bx)
 replace BW := hide (Below.step BW.out BW.out.size bx)
 clear hq rq bx
 go_wp2_with fail
 refine (whole10_g _ (-1) (by omega) (by omega)).mono ?_
 rintro e w8 ⟨y1, rfl, hq, rq, bx⟩
 have R_y1 := hide rq.ra
 have E_y1 := hide hq
 replace TL := hide (TL.out.step bx)
 replace RL := hide (RL.out.step bx)
 replace R_x0 := hide (R_x0.out.step bx)
 replace R_x3 := hide (R_x3.out.step bx)
 replace R_y0 := hide (R_y0.out.step bx)
 replace R_y4 := hide (R_y4.out.step bx)
 replace BW := hide (Below.step BW.out BW.out.size bx)
 clear hq rq bx
 have b4 := alloc_below w8 (.cells #[.string ⟨#[120]⟩, .bool false, .bool true, .bool true, .bool y0.s, sv y0.u, sv y0.t, .bool y4.s, sv y4.u, sv y4.t, .bool y1.s, sv y1.u, sv y1.t] 43)
 have b5 := alloc_below (w8.alloc (.cells #[.string ⟨#[120]⟩, .bool false, .bool true, .bool true, .bool y0.s, sv y0.u, sv y0.t, .bool y4.s, sv y4.u, sv y4.t, .bool y1.s, sv y1.u, sv y1.t] 43)) (.cells #[.string ⟨#[]⟩, .string ⟨#[99, 111, 115, 116]⟩, .slice (some ⟨gT + 1, 0, none⟩) 1 1, .slice (some ⟨w8.heap.size, 0, none⟩) 1 1] 25)
 have VL := hide (show Lr eu 13 ((w8.alloc (.cells #[.string ⟨#[120]⟩, .bool false, .bool true, .bool true, .bool y0.s, sv y0.u, sv y0.t, .bool y4.s, sv y4.u, sv y4.t, .bool y1.s, sv y1.u, sv y1.t] 43)).alloc (.cells #[.string ⟨#[]⟩, .string ⟨#[99, 111, 115, 116]⟩, .slice (some ⟨gT + 1, 0, none⟩) 1 1, .slice (some ⟨w8.heap.size, 0, none⟩) 1 1] 25)) (.slice (some ⟨w8.heap.size, 0, none⟩) 1 1) [va10 y0 y4 y1] from by
  have h := (Ow.lit (B := w8.heap.size) eu_len w8 43 [va10 y0 y4 y1] (eu (va10 y0 y4 y1)).toArray (by simp [flat]) (Nat.le_refl _) (by simp [maxLen])).rl eu_len
  exact Lr.step h b5)
 have PQ := hide (show Pq ((w8.alloc (.cells #[.string ⟨#[120]⟩, .bool false, .bool true, .bool true, .bool y0.s, sv y0.u, sv y0.t, .bool y4.s, sv y4.u, sv y4.t, .bool y1.s, sv y1.u, sv y1.t] 43)).alloc (.cells #[.string ⟨#[]⟩, .string ⟨#[99, 111, 115, 116]⟩, .slice (some ⟨gT + 1, 0, none⟩) 1 1, .slice (some ⟨w8.heap.size, 0, none⟩) 1 1] 25)) (w8.heap.size + 1) (px10 gT w8.heap.size x0 x3 x2 y0 y4 y1) from by
  have h := heap_alloc_new (w8.alloc (.cells #[.string ⟨#[120]⟩, .bool false, .bool true, .bool true, .bool y0.s, sv y0.u, sv y0.t, .bool y4.s, sv y4.u, sv y4.t, .bool y1.s, sv y1.u, sv y1.t] 43)) (.cells #[.string ⟨#[]⟩, .string ⟨#[99, 111, 115, 116]⟩, .slice (some ⟨gT + 1, 0, none⟩) 1 1, .slice (some ⟨w8.heap.size, 0, none⟩) 1 1] 25)
  rw [show (w8.alloc (.cells #[.string ⟨#[120]⟩, .bool false, .bool true, .bool true, .bool y0.s, sv y0.u, sv y0.t, .bool y4.s, sv y4.u, sv y4.t, .bool y1.s, sv y1.u, sv y1.t] 43)).heap.size = w8.heap.size + 1 by simp] at h
  exact h)
 have HP := hide (show Pv ((w8.alloc (.cells #[.string ⟨#[120]⟩, .bool false, .bool true, .bool true, .bool y0.s, sv y0.u, sv y0.t, .bool y4.s, sv y4.u, sv y4.t, .bool y1.s, sv y1.u, sv y1.t] 43)).alloc (.cells #[.string ⟨#[]⟩, .string ⟨#[99, 111, 115, 116]⟩, .slice (some ⟨gT + 1, 0, none⟩) 1 1, .slice (some ⟨w8.heap.size, 0, none⟩) 1 1] 25)) (px10 gT w8.heap.size x0 x3 x2 y0 y4 y1) 6 from by
  refine ⟨⟨(RL.out.step b4).step b5, fun r hr => ?_⟩, VL.out, fun x hx => ?_⟩
  ·simp at hr
   subst hr
   exact ⟨(TL.out.step b4).step b5, (R_x0.out.step b4).step b5, (R_x3.out.step b4).step b5⟩
  ·simp at hx
   subst hx
   exact ⟨(R_y0.out.step b4).step b5, (R_y4.out.step b4).step b5, (R_y1.out.step b4).step b5⟩)
 replace BW := hide (Below.step (Below.step BW.out BW.out.size b4) (Below.step BW.out BW.out.size b4).size b5)
 have N3 := E_x3
 have N2 := E_x2
 have N0 := E_y0
 have N4 := E_y4
 have N1 := E_y1
 clear b4 b5 VL TL RL R_x0 R_x3 R_y0 R_y4 R_y1
 obtain ⟨p0, p1, p2, p3⟩ := PQ.out.alls
 go_wp2_with fail
 clear p0 p1 p2 p3
 generalize ((w8.alloc (.cells #[.string ⟨#[120]⟩, .bool false, .bool true, .bool true, .bool y0.s, sv y0.u, sv y0.t, .bool y4.s, sv y4.u, sv y4.t, .bool y1.s, sv y1.u, sv y1.t] 43)).alloc (.cells #[.string ⟨#[]⟩, .string ⟨#[99, 111, 115, 116]⟩, .slice (some ⟨gT + 1, 0, none⟩) 1 1, .slice (some ⟨w8.heap.size, 0, none⟩) 1 1] 25)) = w9 at *
 generalize w8.heap.size = gV at *
 refine (mconstraints_c HP.out len10).mono ?_
 rintro e wa ⟨v', l, rfl, t6, cr6, ln6, bx⟩
 obtain ⟨cg1, cq1, cg2, cq2, cg3, cq3, ec⟩ := crs10 (gT := gT) (gV := gV) (x0 := x0) (x3 := x3) (x2 := x2) (y0 := y0) (y4 := y4) (y1 := y1)
 rw [ec] at cr6
 obtain ⟨gc, cap, k0, k1, rfl, h0, h1, hlt, c0, c5⟩ := ks_three t6 cr6.len
 have s0 : k0.s = 1 := (cr6.at_ h0 (t := (1, cg1, cq1)) rfl).1
 have s1 : k1.s = 2 := (cr6.at_ h1 (t := (2, cg2, cq2)) rfl).1
 rw [s0] at c0
 rw [s1] at c5
 have KC := hide (And.intro hlt (And.intro c0 c5))
 replace HP := hide (HP.out.step bx)
 replace PQ := hide (PQ.out.step bx)
 replace BW := hide (Below.step BW.out BW.out.size bx)
 clear t6 cr6 ln6 bx ec h0 h1 hlt c0 c5 s0 s1
 obtain ⟨p0, p1, p2, p3⟩ := PQ.out.alls
 go_wp2_with fail
 refine (mobj_c HP.out (by simp) (by omega) (by omega)).mono ?_
 rintro e wc ⟨v2, d2, rfl, t2, f2, g2', n2, bx⟩
 have ol := obj10 N1.out f2 g2'
 obtain ⟨A2, c2, e2, -⟩ := t2.tv.1
 rw [ol] at e2
 subst e2
 replace HP := hide (HP.out.step bx)
 replace PQ := hide (PQ.out.step bx)
 replace KC := hide (And.intro (Nat.lt_of_lt_of_le KC.out.1 bx.size) (And.intro ((bx.cell KC.out.1).trans KC.out.2.1) ((bx.cell KC.out.1).trans KC.out.2.2)))
 replace BW := hide (Below.step BW.out BW.out.size bx)
 clear t2 f2 g2' n2 bx ol p0 p1 p2 p3
 go_wp2_with fail
 have B := hide ((Below.refl wc.heap.size wc).drew)
 refine wp_region_held_drew (S := fun W => (W.cell? ⟨gV + 1, 0, none⟩ = some (.string ⟨#[]⟩) ∧ W.cell? ⟨gV + 1, 1, none⟩ = some (.string ⟨#[99, 111, 115, 116]⟩) ∧ W.cell? ⟨gV + 1, 2, none⟩ = some (.slice (some ⟨gT + 1, 0, none⟩) 1 1) ∧ W.cell? ⟨gV + 1, 3, none⟩ = some (.slice (some ⟨gV, 0, none⟩) 1 1)) ∧ W.cell? ⟨gc, 0, none⟩ = some (.int .i64 1) ∧ W.cell? ⟨gc, 5, none⟩ = some (.int .i64 2)) (by kernel_rfl) ?_ (fun hHeld => ?_)
 ·try dsimp only
  exact And.intro (PQ.out.step B.out).alls (And.intro ((B.out.cell KC.out.1).trans KC.out.2.1) ((B.out.cell KC.out.1).trans KC.out.2.2))
 generalize wc.drew = V0 at *
 refine tk 0 (v := ?_) hHeld ?_ ?_; rotate_left; (focus (intro w hSw; (try dsimp only at hSw); go_simp; (try with_reducible rfl)))
 try simp only [Act.put, s1, s2, s3, s4, s5, s6]
 refine r1 1 (fun K hK => ?_)
 go_simp; go_at_call 17; refine Calls.mono (whole10_g _ (1) (by omega) (by omega)) ?_; rintro e V1 ⟨q1, rfl, hq, rq, bx⟩; have R_q1 := hide rq.1; have E_q1 := hide hq; replace B := hide (Below.step B.out B.out.size bx); clear bx; clear hq rq; (try dsimp only); refine hK.out _ _ ?_ (fun hHeld => ?_); (focus ((try dsimp only); exact And.intro (PQ.out.step B.out).alls (And.intro ((B.out.cell KC.out.1).trans KC.out.2.1) ((B.out.cell KC.out.1).trans KC.out.2.2)))); clear hK K
 try simp only [Act.put, s1, s2, s3, s4, s5, s6]
 refine r1 2 (fun K hK => ?_)
 go_simp; have bx := alloc_below V1 (.cells #[.bool q1.s, sv q1.u, sv q1.t] 41); have F_q1 := hide (fv1x R_q1.out.ra); replace B := hide (Below.step B.out B.out.size bx); clear bx; generalize (V1.alloc (.cells #[.bool q1.s, sv q1.u, sv q1.t] 41)) = V2 at *; generalize V1.heap.size = g_q1 at *; (try dsimp only); refine hK.out _ _ ?_ (fun hHeld => ?_); (focus ((try dsimp only); exact And.intro (PQ.out.step B.out).alls (And.intro ((B.out.cell KC.out.1).trans KC.out.2.1) ((B.out.cell KC.out.1).trans KC.out.2.2)))); clear hK K
 try simp only [Act.put, s1, s2, s3, s4, s5, s6]
 refine r1 3 (fun K hK => ?_)
 go_simp; go_at_call 18; refine (mholds_c (L := 6) (K := 6) (HP.out.step B.out) F_q1.out len10 (by omega) (by omega) (by omega) (by omega)).mono ?_; rintro e V3 ⟨hb, bx⟩; obtain rfl := hb.tr (in10 N3.out N2.out N0.out N4.out E_q1.out); replace B := hide (Below.step B.out B.out.size bx); clear bx; clear hb; (try dsimp only); refine hK.out _ _ ?_ (fun hHeld => ?_); (focus ((try dsimp only); exact And.intro (PQ.out.step B.out).alls (And.intro ((B.out.cell KC.out.1).trans KC.out.2.1) ((B.out.cell KC.out.1).trans KC.out.2.2)))); clear hK K
 try simp only [Act.put, s1, s2, s3, s4, s5, s6]
 refine tp 4 hHeld ?_
 try simp only [Act.put, s1, s2, s3, s4, s5, s6]
 refine tk 5 (v := ?_) hHeld ?_ ?_; rotate_left; (focus (intro w hSw; (try dsimp only at hSw); go_simp; (try with_reducible rfl)))
 try simp only [Act.put, s1, s2, s3, s4, s5, s6]
 refine r1 6 (fun K hK => ?_)
 go_simp; go_at_call 17; refine Calls.mono (whole10_g _ (2) (by omega) (by omega)) ?_; rintro e V4 ⟨q2, rfl, hq, rq, bx⟩; have R_q2 := hide rq.1; have E_q2 := hide hq; replace B := hide (Below.step B.out B.out.size bx); clear bx; clear hq rq; (try dsimp only); refine hK.out _ _ ?_ (fun hHeld => ?_); (focus ((try dsimp only); exact And.intro (PQ.out.step B.out).alls (And.intro ((B.out.cell KC.out.1).trans KC.out.2.1) ((B.out.cell KC.out.1).trans KC.out.2.2)))); clear hK K
 try simp only [Act.put, s1, s2, s3, s4, s5, s6]
 refine r1 7 (fun K hK => ?_)
 go_simp; have bx := alloc_below V4 (.cells #[.bool q2.s, sv q2.u, sv q2.t] 41); have F_q2 := hide (fv1x R_q2.out.ra); replace B := hide (Below.step B.out B.out.size bx); clear bx; generalize (V4.alloc (.cells #[.bool q2.s, sv q2.u, sv q2.t] 41)) = V5 at *; generalize V4.heap.size = g_q2 at *; (try dsimp only); refine hK.out _ _ ?_ (fun hHeld => ?_); (focus ((try dsimp only); exact And.intro (PQ.out.step B.out).alls (And.intro ((B.out.cell KC.out.1).trans KC.out.2.1) ((B.out.cell KC.out.1).trans KC.out.2.2)))); clear hK K
 try simp only [Act.put, s1, s2, s3, s4, s5, s6]
 refine r1 8 (fun K hK => ?_)
 go_simp; go_at_call 18; refine (mholds_c (L := 6) (K := 6) (HP.out.step B.out) F_q2.out len10 (by omega) (by omega) (by omega) (by omega)).mono ?_; rintro e V6 ⟨hb, bx⟩; obtain rfl := hb.fa (out10 N3.out N2.out E_q2.out); replace B := hide (Below.step B.out B.out.size bx); clear bx; clear hb; (try dsimp only); refine hK.out _ _ ?_ (fun hHeld => ?_); (focus ((try dsimp only); exact And.intro (PQ.out.step B.out).alls (And.intro ((B.out.cell KC.out.1).trans KC.out.2.1) ((B.out.cell KC.out.1).trans KC.out.2.2)))); clear hK K
 try simp only [Act.put, s1, s2, s3, s4, s5, s6]
 refine tp 9 hHeld ?_
 try simp only [Act.put, s1, s2, s3, s4, s5, s6]
 refine tk 10 (v := ?_) hHeld ?_ ?_; rotate_left; (focus (intro w hSw; (try dsimp only at hSw); go_simp; (try with_reducible rfl)))
 try simp only [Act.put, s1, s2, s3, s4, s5, s6]
 refine tp 11 hHeld ?_
 try simp only [Act.put, s1, s2, s3, s4, s5, s6]
 refine tk 12 (v := ?_) hHeld ?_ ?_; rotate_left; (focus (intro w hSw; (try dsimp only at hSw); go_simp; (try with_reducible rfl)))
 try simp only [Act.put, s1, s2, s3, s4, s5, s6]
 refine r1 13 (fun K hK => ?_)
 go_simp; go_at_call 17; refine Calls.mono (whole10_g _ (1) (by omega) (by omega)) ?_; rintro e V7 ⟨q3, rfl, hq, rq, bx⟩; have R_q3 := hide rq.1; have E_q3 := hide hq; replace B := hide (Below.step B.out B.out.size bx); clear bx; clear hq rq; (try dsimp only); refine hK.out _ _ ?_ (fun hHeld => ?_); (focus ((try dsimp only); exact And.intro (PQ.out.step B.out).alls (And.intro ((B.out.cell KC.out.1).trans KC.out.2.1) ((B.out.cell KC.out.1).trans KC.out.2.2)))); clear hK K
 try simp only [Act.put, s1, s2, s3, s4, s5, s6]
 refine r1 14 (fun K hK => ?_)
 go_simp; have bx := alloc_below V7 (.cells #[.bool q3.s, sv q3.u, sv q3.t] 41); have F_q3 := hide (fv1x R_q3.out.ra); replace B := hide (Below.step B.out B.out.size bx); clear bx; generalize (V7.alloc (.cells #[.bool q3.s, sv q3.u, sv q3.t] 41)) = V8 at *; generalize V7.heap.size = g_q3 at *; (try dsimp only); refine hK.out _ _ ?_ (fun hHeld => ?_); (focus ((try dsimp only); exact And.intro (PQ.out.step B.out).alls (And.intro ((B.out.cell KC.out.1).trans KC.out.2.1) ((B.out.cell KC.out.1).trans KC.out.2.2)))); clear hK K
 try simp only [Act.put, s1, s2, s3, s4, s5, s6]
 refine r1 15 (fun K hK => ?_)
 go_simp; go_at_call 20; refine (mcost_c (L := 6) (K := 6) (HP.out.step B.out) F_q3.out (by simp) (by omega) (by omega) (by omega) (by omega)).mono ?_; rintro e V9 ⟨zc, rfl, hq, rq, bx⟩; have R_zc := hide rq.1; have E_zc := hide (hq.trans (cst10 N1.out E_q3.out)); replace B := hide (Below.step B.out B.out.size bx); clear bx; clear hq rq; (try dsimp only); refine hK.out _ _ ?_ (fun hHeld => ?_); (focus ((try dsimp only); exact And.intro (PQ.out.step B.out).alls (And.intro ((B.out.cell KC.out.1).trans KC.out.2.1) ((B.out.cell KC.out.1).trans KC.out.2.2)))); clear hK K
 try simp only [Act.put, s1, s2, s3, s4, s5, s6]
 refine r1 16 (fun K hK => ?_)
 go_simp; go_at_call 17; refine Calls.mono (whole10_g _ (-1) (by omega) (by omega)) ?_; rintro e V10 ⟨q4, rfl, hq, rq, bx⟩; have R_q4 := hide rq.1; have E_q4 := hide hq; replace R_zc := hide (R_zc.out.step bx); replace B := hide (Below.step B.out B.out.size bx); clear bx; clear hq rq; (try dsimp only); refine hK.out _ _ ?_ (fun hHeld => ?_); (focus ((try dsimp only); exact And.intro (PQ.out.step B.out).alls (And.intro ((B.out.cell KC.out.1).trans KC.out.2.1) ((B.out.cell KC.out.1).trans KC.out.2.2)))); clear hK K
 try simp only [Act.put, s1, s2, s3, s4, s5, s6]
 refine r1 17 (fun K hK => ?_)
 go_simp; go_at_call 19; refine Calls.mono (rsame_c R_zc.out (by rw [E_zc.out, ← E_q4.out]; exact R_q4.out)) ?_; rintro e V11 ⟨rfl, bx⟩; replace B := hide (Below.step B.out B.out.size bx); clear bx; (try dsimp only); refine hK.out _ _ ?_ (fun hHeld => ?_); (focus ((try dsimp only); exact And.intro (PQ.out.step B.out).alls (And.intro ((B.out.cell KC.out.1).trans KC.out.2.1) ((B.out.cell KC.out.1).trans KC.out.2.2)))); clear hK K
 try simp only [Act.put, s1, s2, s3, s4, s5, s6]
 refine tk 18 (v := ?_) hHeld ?_ ?_; rotate_left; (focus (intro w hSw; (try dsimp only at hSw); go_simp; (try with_reducible rfl)))
 try simp only [Act.put, s1, s2, s3, s4, s5, s6]
 refine tp 19 hHeld ?_
 try simp only [Act.put, s1, s2, s3, s4, s5, s6]
 refine tk 20 (v := ?_) hHeld ?_ ?_; rotate_left; (focus (intro w hSw; (try dsimp only at hSw); go_simp; (try with_reducible rfl)))
 try simp only [Act.put, s1, s2, s3, s4, s5, s6]
 refine r1 21 (fun K hK => ?_)
 go_simp; go_at_call 21; refine (mfinite_c (HP.out.step B.out)).mono ?_; rintro e V12 ⟨hb, bx⟩; obtain rfl := hb.tr fin10; replace B := hide (Below.step B.out B.out.size bx); clear bx; clear hb; (try dsimp only); refine hK.out _ _ ?_ (fun hHeld => ?_); (focus ((try dsimp only); exact And.intro (PQ.out.step B.out).alls (And.intro ((B.out.cell KC.out.1).trans KC.out.2.1) ((B.out.cell KC.out.1).trans KC.out.2.2)))); clear hK K
 try simp only [Act.put, s1, s2, s3, s4, s5, s6]
 refine tk 22 (v := ?_) hHeld ?_ ?_; rotate_left; (focus (intro w hSw; (try dsimp only at hSw); go_simp; (try with_reducible rfl)))
 try simp only [Act.put, s1, s2, s3, s4, s5, s6]
 refine tp 23 hHeld ?_
 try simp only [Act.put, s1, s2, s3, s4, s5, s6]
 refine tp 24 hHeld ?_
 try simp only [Act.put, s1, s2, s3, s4, s5, s6]
 refine tk 25 (v := ?_) hHeld ?_ ?_; rotate_left; (focus (intro w hSw; (try dsimp only at hSw); go_simp; (try with_reducible rfl)))
 try simp only [Act.put, s1, s2, s3, s4, s5, s6]
 refine tk 26 (v := ?_) hHeld ?_ ?_; rotate_left; (focus (intro w hSw; (try dsimp only at hSw); go_simp; (try with_reducible rfl)))
 try simp only [Act.put, s1, s2, s3, s4, s5, s6]
 refine tk 27 (v := ?_) hHeld ?_ ?_; rotate_left; (focus (intro w hSw; (try dsimp only at hSw); go_simp; (try with_reducible rfl)))
 try simp only [Act.put, s1, s2, s3, s4, s5, s6]
 refine tp 28 hHeld ?_
 try simp only [Act.put, s1, s2, s3, s4, s5, s6]
 refine tp 29 hHeld ?_
 try simp only [Act.put, s1, s2, s3, s4, s5, s6]
 refine tk 30 (v := ?_) hHeld ?_ ?_; rotate_left; (focus (intro w hSw; (try dsimp only at hSw); go_simp; (try with_reducible rfl)))
 try simp only [Act.put, s1, s2, s3, s4, s5, s6]
 refine tk 31 (v := ?_) hHeld ?_ ?_; rotate_left; (focus (intro w hSw; (try dsimp only at hSw); go_simp; (try with_reducible rfl)))
 try simp only [Act.put, s1, s2, s3, s4, s5, s6]
 refine tk 32 (v := ?_) hHeld ?_ ?_; rotate_left; (focus (intro w hSw; (try dsimp only at hSw); go_simp; (try with_reducible rfl)))
 try simp only [Act.put, s1, s2, s3, s4, s5, s6]
 refine tk 33 (v := ?_) hHeld ?_ ?_; rotate_left; (focus (intro w hSw; (try dsimp only at hSw); go_simp; (try with_reducible rfl)))
 try simp only [Act.put, s1, s2, s3, s4, s5, s6]
 refine tk 34 (v := ?_) hHeld ?_ ?_; rotate_left; (focus (intro w hSw; (try dsimp only at hSw); go_simp; (try with_reducible rfl)))
 try simp only [Act.put, s1, s2, s3, s4, s5, s6]
 refine tp 35 hHeld ?_
 try simp only [Act.put, s1, s2, s3, s4, s5, s6]
 refine tp 36 hHeld ?_
 try simp only [Act.put, s1, s2, s3, s4, s5, s6]
 refine tk 37 (v := ?_) hHeld ?_ ?_; rotate_left; (focus (intro w hSw; (try dsimp only at hSw); go_simp; (try with_reducible rfl)))
 try simp only [Act.put, s1, s2, s3, s4, s5, s6]
 refine tk 38 (v := ?_) hHeld ?_ ?_; rotate_left; (focus (intro w hSw; (try dsimp only at hSw); go_simp; (try with_reducible rfl)))
 try simp only [Act.put, s1, s2, s3, s4, s5, s6]
 refine tk 39 (v := ?_) hHeld ?_ ?_; rotate_left; (focus (intro w hSw; (try dsimp only at hSw); go_simp; (try with_reducible rfl)))
 try simp only [Act.put, s1, s2, s3, s4, s5, s6]
 refine tk 40 (v := ?_) hHeld ?_ ?_; rotate_left; (focus (intro w hSw; (try dsimp only at hSw); go_simp; (try with_reducible rfl)))
 try simp only [Act.put, s1, s2, s3, s4, s5, s6]
 refine tk 41 (v := ?_) hHeld ?_ ?_; rotate_left; (focus (intro w hSw; (try dsimp only at hSw); go_simp; (try with_reducible rfl)))
 try simp only [Act.put, s1, s2, s3, s4, s5, s6]
 refine tp 42 hHeld ?_
 try simp only [Act.put, s1, s2, s3, s4, s5, s6]
 refine tp 43 hHeld ?_
 try simp only [Act.put, s1, s2, s3, s4, s5, s6]
 refine tk 44 (v := ?_) hHeld ?_ ?_; rotate_left; (focus (intro w hSw; (try dsimp only at hSw); go_simp; (try with_reducible rfl)))
 try simp only [Act.put, s1, s2, s3, s4, s5, s6]
 refine tk 45 (v := ?_) hHeld ?_ ?_; rotate_left; (focus (intro w hSw; (try dsimp only at hSw); go_simp; (try with_reducible rfl)))
 try simp only [Act.put, s1, s2, s3, s4, s5, s6]
 refine tk 46 (v := ?_) hHeld ?_ ?_; rotate_left; (focus (intro w hSw; (try dsimp only at hSw); go_simp; (try with_reducible rfl)))
 try simp only [Act.put, s1, s2, s3, s4, s5, s6]
 refine tp 47 hHeld ?_
 try simp only [Act.put, s1, s2, s3, s4, s5, s6]
 refine tk 48 (v := ?_) hHeld ?_ ?_; rotate_left; (focus (intro w hSw; (try dsimp only at hSw); go_simp; (try with_reducible rfl)))
 try simp only [Act.put, s1, s2, s3, s4, s5, s6]
 refine r1 49 (fun K hK => ?_)
 go_simp; go_at_call 9; refine (mwhole_c (HP.out.step B.out) (by simp)).mono ?_; rintro e V13 ⟨v9, rfl, lr, bx⟩; obtain ⟨A9, c9, e9, -⟩ := lr; have e9 : v9 = .slice A9 1 c9 := e9; subst e9; replace B := hide (Below.step B.out B.out.size bx); clear bx; (try dsimp only); refine hK.out _ _ ?_ (fun hHeld => ?_); (focus ((try dsimp only); exact And.intro (PQ.out.step B.out).alls (And.intro ((B.out.cell KC.out.1).trans KC.out.2.1) ((B.out.cell KC.out.1).trans KC.out.2.2)))); clear hK K
 try simp only [Act.put, s1, s2, s3, s4, s5, s6]
 refine tk 50 (v := ?_) hHeld ?_ ?_; rotate_left; (focus (intro w hSw; (try dsimp only at hSw); go_simp; (try with_reducible rfl)))
 try simp only [Act.put, s1, s2, s3, s4, s5, s6]
 refine tk 51 (v := ?_) hHeld ?_ ?_; rotate_left; (focus (intro w hSw; (try dsimp only at hSw); go_simp; (try with_reducible rfl)))
 try simp only [Act.put, s1, s2, s3, s4, s5, s6]
 refine tk 52 (v := ?_) hHeld ?_ ?_; rotate_left; (focus (intro w hSw; (try dsimp only at hSw); go_simp; (try with_reducible rfl)))
 try simp only [Act.put, s1, s2, s3, s4, s5, s6]
 refine tp 53 hHeld ?_
 try simp only [Act.put, s1, s2, s3, s4, s5, s6]
 refine wpAnyH_done (by kernel_rfl) ?_ _
 go_wp2_with fail
 go_ret
 exact ⟨rfl, Below.step BW.out BW.out.size B.out⟩
end Go.Proofs.YtnhlomphdighnaaGreat
