/-
  Vectors: Make.
-/
import Derived.Test.YtieicmcbdhaipaaGreatVec4
import Derived.BigQuiet
import Derived.Deep.QuietTactic
import Derived.Deep.RegionHeld3
import Derived.Deep.RegionLaw


namespace Go.Proofs.YtieicmcbdhaipaaGreat
open Go.RowKit Go.Proofs.YtieicmcbdhaipaaGreat.Num
set_option linter.unusedVariables false
set_option linter.unusedSimpArgs false
set_option maxRecDepth 100000

/-- What the loop of Make has of the first k terms. -/
def Mk (d1 : List Tx) (k : Nat) (os : List Tx) : Prop := Rs (tms os) ∧ (∀ x ∈ os, ∀ y ∈ d1.drop k, x.c ≤ y.c) ∧ (∀ c, gsum (tms os) c = gsum (tms (d1.take k)) c) ∧ os.length ≤ k
theorem Mk.start (d1 : List Tx) : Mk d1 0 [] := ⟨Rs.nil, fun x h => absurd h List.not_mem_nil, fun c => rfl, Nat.le_refl _⟩
theorem drop_cons {d1 : List Tx} {k : Nat} {t : Tx} (h : d1[k]? = some t) : d1.drop k = t :: d1.drop (k + 1) := by
  have hk := (List.getElem?_eq_some_iff.1 h).1
  rw [List.drop_eq_getElem_cons hk]
  rw [show d1[k] = t from (List.getElem?_eq_some_iff.1 h).2]
theorem Mk.step {d1 os os' : List Tx} {k : Nat} {t : Tx} (h : Mk d1 k os) (ht : d1[k]? = some t) (hs : d1.Pairwise (fun a b => a.c ≤ b.c)) (h0 : 0 ≤ t.c) (he : tms os' = mg (tms os) (tm t)) (hl : os'.length ≤ os.length + 1) : Mk d1 (k + 1) os' := by
  obtain ⟨h1, h2, h3, h4⟩ := h
  have hd := drop_cons ht
  have hle : ∀ x ∈ tms os, x.1 ≤ (tm t).1 := by
    intro x hx
    obtain ⟨y, hy, rfl⟩ := List.mem_map.1 hx
    exact h2 y hy t (by rw [hd]; simp)
  obtain ⟨k1, k2⟩ := Rs.mg h1 (t := tm t) h0 hle
  refine ⟨by rw [he]; exact k1, fun x hx y hy => ?_, fun c => ?_, by omega⟩
  · have hx2 := k2 (tm x) (by rw [← he]; exact List.mem_map.2 ⟨x, hx, rfl⟩)
    have hs2 : (d1.drop k).Pairwise (fun a b => a.c ≤ b.c) := hs.sublist (List.drop_sublist _ _)
    rw [hd] at hs2
    have := (List.pairwise_cons.1 hs2).1 y hy
    have hx3 : x.c ≤ t.c := hx2
    omega
  · rw [he, gsum_mg, h3, tms_snoc ht, gsum_snoc]
theorem tms_set (xs : List Tx) (l t : Tx) (z : Rx) (hz : z.r = l.x.r + t.x.r) (h : l.c = t.c) : tms ((xs ++ [l]).set xs.length ⟨l.c, z⟩) = mg (tms (xs ++ [l])) (tm t) := by
  rw [tms_append, show tms [l] = [tm l] from rfl, mg_same _ _ _ (show (tm l).1 = (tm t).1 from h)]
  rw [List.set_append_right _ _ (Nat.le_refl _)]
  simp [tms, tm, hz]
theorem tms_push (xs : List Tx) (l t : Tx) (z : Rx) (hz : z.r = t.x.r) (h : l.c ≠ t.c) : tms (xs ++ [l] ++ [⟨t.c, z⟩]) = mg (tms (xs ++ [l])) (tm t) := by
  rw [tms_append (xs ++ [l]), tms_append xs, show tms [l] = [tm l] from rfl, mg_other _ _ _ (show (tm l).1 ≠ (tm t).1 from h)]
  simp [tms, tm, hz]
theorem tms_first (t : Tx) (z : Rx) (hz : z.r = t.x.r) : tms [⟨t.c, z⟩] = mg (tms []) (tm t) := by
  rw [show tms [] = [] from rfl, mg_nil]
  simp [tms, tm, hz]

theorem Tg.put3 {W : World} {B g n c i K M : Nat} {os : List Tx} {l : Tx} {z : Rx} (T : Tg W B (.slice (some ⟨g, 0, none⟩) n c) os K) (hl : os[i]? = some l) (rz : Rg W B z M) (hK : K ≤ M) :
    Tg (((W.setCell ⟨g, i * 4 + 1, none⟩ (.bool z.s)).setCell ⟨g, i * 4 + 2, none⟩ (sv z.u)).setCell ⟨g, i * 4 + 3, none⟩ (sv z.t)) B (.slice (some ⟨g, 0, none⟩) n c) (os.set i ⟨l.c, z⟩) M := by
  have ho : W.grownBy (((W.setCell ⟨g, i * 4 + 1, none⟩ (.bool z.s)).setCell ⟨g, i * 4 + 2, none⟩ (sv z.u)).setCell ⟨g, i * 4 + 3, none⟩ (sv z.t)) (some g) :=
    only_set (p := ⟨g, i * 4 + 3, none⟩) (only_set (p := ⟨g, i * 4 + 2, none⟩) (only_set (p := ⟨g, i * 4 + 1, none⟩) (only_refl W (some g)) rfl _) rfl _) rfl _
  have hot : ∀ h, some g = some h → Ot W h := fun h e => T.1.ot h (by rw [← e]; rfl)
  refine ⟨T.1.put3 hl z, fun x hx => ?_⟩
  rcases List.mem_or_eq_of_mem_set hx with h | rfl
  · exact ((T.2 x h).more hK).grownT ho hot
  · exact rz.grownT ho hot
theorem below_sets {B : Nat} {w W : World} {g : Nat} (h : Below B w W) (hg : B ≤ g) (i j k : Nat) (a b c : Value) : Below B w (((W.setCell ⟨g, i, none⟩ a).setCell ⟨g, j, none⟩ b).setCell ⟨g, k, none⟩ c) :=
  ((h.setCell (p := ⟨g, i, none⟩) hg a).setCell (p := ⟨g, j, none⟩) hg b).setCell (p := ⟨g, k, none⟩) hg c
theorem Tg.more {W : World} {B K M : Nat} {v : Value} {os : List Tx} (T : Tg W B v os K) (hK : K ≤ M) : Tg W B v os M := ⟨T.1, fun x hx => (T.2 x hx).more hK⟩
theorem Tg.mono {W : World} {B B' K : Nat} {v : Value} {os : List Tx} (T : Tg W B v os K) (hB : B' ≤ B) : Tg W B' v os K := ⟨T.1.mono hB, fun x hx => (T.2 x hx).mono hB⟩
theorem Tg.push {W W' : World} {B K M : Nat} {v v' : Value} {os : List Tx} {y : Tx} (T : Tg W B v os K) (ho : Ow 63 et 4 W' B v' (os ++ [y])) (hg : W.grownBy W' v.ownBlock) (ry : Rg W B y.x M) (hK : K ≤ M) : Tg W' B v' (os ++ [y]) M := by
  refine ⟨ho, fun x hx => ?_⟩
  rcases List.mem_append.1 hx with h | h
  · exact ((T.2 x h).more hK).grownT hg (fun g e => T.1.ot g e)
  · simp at h
    subst h
    exact ry.grownT hg (fun g e => T.1.ot g e)

theorem box_cells {W : World} {g : Nat} {a b c e : Value} {T : TypeId} (h : W.heap[g]? = some (.cells #[a, b, c, e] T (0, 0))) : W.cell? ⟨g, 0, none⟩ = some a ∧ W.cell? ⟨g, 1, none⟩ = some b ∧ W.cell? ⟨g, 2, none⟩ = some c ∧ W.cell? ⟨g, 3, none⟩ = some e :=
  ⟨cell_of_row W g 0 _ _ _ h, cell_of_row W g 1 _ _ _ h, cell_of_row W g 2 _ _ _ h, cell_of_row W g 3 _ _ _ h⟩
theorem box_alloc {W : World} {g : Nat} {x : Obj} (h : W.heap[g]? = some x) (o : Obj) : (W.alloc o).heap[g]? = some x := (Below.heap_alloc W o g (Array.getElem?_eq_some_iff.1 h).1).trans h

set_option maxHeartbeats 8000000 in
theorem make_t {w : World} {v : Value} {d : List Tx} {L : Nat} (hv : Tv w v d L) (hn : d.length ≤ 100000) (h1 : 1 ≤ L) (hL : L ≤ 1000000) :
    Calls Tryz.prog 41 #[v] w fun e w' => ∃ v' d', e = .returned v' ∧ Tg w' w.heap.size v' d' (d.length * (L + 1) + 1) ∧ Fm (tms d') ∧ (∀ c, 0 ≤ c → gsum (tms d') c = gsum (tms d) c) ∧ d'.length ≤ d.length ∧ Below w.heap.size w w' := by
  obtain ⟨i0, hi, hz0, hz1, hz2⟩ := info_parts info_tm
  have HR := hide (rising_t hv.1 (by omega))
  have HV := hide hv
  have hvs : ∃ A n c, v = .slice A n c := by
    obtain ⟨A, c, rfl, _⟩ := hv.1
    exact ⟨_, _, _, rfl⟩
  obtain ⟨A, n, c, rfl⟩ := hvs
  have DN := hide hn
  clear hv hn
  go_enter Tryz.func41, Tryz.ntmps41
  go_wp2_with fail
  refine HR.out.mono ?_
  rintro e w1 ⟨v1, d1, rfl, r1, hp, hs, b1⟩
  obtain ⟨A1, c1, e1, hc1, hc2, hc3⟩ := id r1
  have P := hide hp
  have S := hide hs
  have B1 := hide b1
  have D1 := hide (show d1.length ≤ d.length by rw [hp.length_eq]; exact List.length_filter_le _ _)
  have hmem : ∀ x ∈ d1, 0 ≤ x.c ∧ x ∈ d := by
    intro x hx
    have := hp.mem_iff.1 hx
    rw [List.mem_filter] at this
    exact ⟨by have := this.2; simp at this; omega, this.1⟩
  have HM := hide hmem
  have hg1 : ∀ c, 0 ≤ c → gsum (tms d1) c = gsum (tms d) c := by
    intro c hc
    rw [gsum_perm (show (tms d1).Perm (tms (d.filter fun x => !decide (x.c < 0))) from hp.map _)]
    have e : tms (d.filter fun x => !decide (x.c < 0)) = (tms d).filter (fun t => !decide (t.1 < 0)) := by
      unfold tms
      rw [List.filter_map]
      rfl
    rw [e, gsum_filter]
    intro t ht hf
    simp at hf
    exact .inl (by omega)
  have GS := hide hg1
  obtain ⟨n1, hlen⟩ : ∃ n1, n1 = d1.length := ⟨_, rfl⟩
  rw [← hlen] at hc1 e1
  subst e1
  have R1 := hide r1
  have HN := hide hlen
  have hn1 : n1 ≤ 100000 := by have := D1.out; have := DN.out; omega
  have HKE := hide (show n1 * (L + 1) + 1 ≤ 1000000000000 by have := Nat.mul_le_mul hn1 (show L + 1 ≤ 1000001 by omega); omega)
  clear hc3 r1 hp hs b1 hmem hg1 hlen HR
  go_wp2_with fail
  go_loopw [3, 10] (fun ov iv wr => ∃ (k : Nat) (os : List Tx), k ≤ n1 ∧ iv = .int .i64 (k : Int) ∧ Hid (Mk d1 k os) ∧ Hid (Below w1.heap.size w1 wr) ∧ Hid (Tg wr w1.heap.size ov os (k * (L + 1) + 1))) (fun _ iv _ => n1 - (intOf iv).toNat)
  case atStart => exact ⟨0, [], Nat.zero_le _, rfl, hide (Mk.start d1), hide (Below.refl _ _), hide ⟨Ow.nil _ _ _ _ _, fun x hx => by cases hx⟩⟩
  case round =>
    obtain ⟨k, os, hk, rfl, M, B', T⟩ := hrel
    have B := hide (B1.out.trans (B'.out.mono B1.out.size))
    by_cases hlt : k < n1
    · obtain ⟨t, ht⟩ := len_of (d := d1) (k := k) (by rw [← HN.out]; exact hlt)
      have HX := hide ((HV.out.2 t (HM.out t (List.mem_of_getElem? ht)).2).step B.out)
      obtain ⟨b, off, rfl, hb, hc⟩ := (R1.out.step B'.out).get ht
      have c0 := hc 0 _ rfl
      have c1 := hc 1 _ rfl
      have c2 := hc 2 _ rfl
      have c3 := hc 3 _ rfl
      rw [Nat.add_zero] at c0
      have HK := hide (show k * (L + 1) + 1 ≤ 1000000000000 by have := Nat.mul_le_mul (show k ≤ 100000 by omega) (show L + 1 ≤ 1000001 by omega); omega)
      have HMM := hide (show k * (L + 1) + 1 + L + 1 = (k + 1) * (L + 1) + 1 by rw [Nat.add_mul k 1]; omega)
      have l0 : (0 : Int) ≤ (k : Int) := by omega
      have l1 : (k : Int) < (n1 : Int) := by omega
      have b8 := (Below.refl wr.heap.size wr).alloc (Nat.le_refl _) (.cells #[.int .i64 t.c, .bool t.x.s, sv t.x.u, sv t.x.t] 63)
      have X8 := hide (HX.out.step b8)
      have B8' := hide (Below.step B'.out B'.out.size b8)
      have T8 := hide (T.out.step b8)
      have E8 := hide (heap_alloc_new wr (.cells #[.int .i64 t.c, .bool t.x.s, sv t.x.u, sv t.x.t] 63))
      have HT := hide ht
      have T0 := hide (HM.out t (List.mem_of_getElem? ht)).1
      have TL := hide (fun g (e : u3.ownBlock = some g) => (T.out.1.lt e).2)
      clear hc hb ht b8 B B' T HX
      rcases snoc_or os with rfl | ⟨xs, l, rfl⟩
      · have ov9 : ∃ A9 c9, u3 = .slice A9 0 c9 := by
          rcases T8.out.1.form with ⟨rfl, e⟩ | ⟨g, cap, cur, rfl, _⟩
          · exact ⟨_, _, rfl⟩
          · exact ⟨_, _, rfl⟩
        obtain ⟨A9, c9, rfl⟩ := ov9
        have e0 := cell_of_row _ wr.heap.size 0 _ _ _ E8.out
        have t0 : decide ((0 : Int) ≤ -1) = false := rfl
        go_wp2_with fail
        go_quiet (fail)
        have b9 := below_drewN (Below.refl (wr.alloc (.cells #[.int .i64 t.c, .bool t.x.s, sv t.x.u, sv t.x.t] 63)).heap.size (wr.alloc (.cells #[.int .i64 t.c, .bool t.x.s, sv t.x.u, sv t.x.t] 63))) nq
        have b9 := b9.drew
        have X9 := hide (X8.out.step b9)
        have C9' := hide (Below.step B8'.out B8'.out.size b9)
        have T9 := hide (T8.out.step b9)
        have E9 := hide ((b9.block wr.heap.size (by simp)).trans E8.out)
        clear e0 b9 X8 B8' T8 E8 c0 c1 c2 c3
        go_wp2_with fail
        generalize ((wr.alloc (Obj.cells #[Value.int IntKind.i64 t.c, Value.bool t.x.s, sv t.x.u, sv t.x.t] 63)).drewN nq) = w5 at *
        have e0 := cell_of_row _ wr.heap.size 0 _ _ _ E9.out
        have e1 := cell_of_row _ wr.heap.size 1 _ _ _ E9.out
        have e2 := cell_of_row _ wr.heap.size 2 _ _ _ E9.out
        have e3 := cell_of_row _ wr.heap.size 3 _ _ _ E9.out
        go_region_held3 (fun W => W.cell? ⟨wr.heap.size, 0, none⟩ = some (.int .i64 t.c) ∧ W.cell? ⟨wr.heap.size, 1, none⟩ = some (.bool t.x.s) ∧ W.cell? ⟨wr.heap.size, 2, none⟩ = some (sv t.x.u) ∧ W.cell? ⟨wr.heap.size, 3, none⟩ = some (sv t.x.t))
            (with_reducible first | exact box_cells E9.out | exact box_cells E7.out | exact box_cells (box_alloc E7.out _) | exact box_cells E6.out)
            (first
              | (go_at_call 25; refine Calls.mono (form_g X9.out h1 (by omega)) ?_; rintro e wx ⟨z, rfl, hz, rz, bx⟩; have O7 := hide (T9.out.step bx); have C7 := hide (Below.step C9'.out C9'.out.size bx); have Z7 := hide ((rz.mono C9'.out.size).more (M := (k + 1) * (L + 1) + 1) (by have := HMM.out; omega)); have H7 := hide hz; have E7 := hide ((bx.block wr.heap.size (Array.getElem?_eq_some_iff.1 E9.out).1).trans E9.out); clear rz hz bx)
              | (refine step_pushE rfl (.tmp 41) (.tmp 48) 47 rfl Tryz.underlying47 hi hz0 hz1 hz2 rfl (by omega) et_len et_one wx w1.heap.size _ [] ⟨t.c, z⟩ _ rfl O7.out.1 rfl rfl (by simp) (by decide) C7.out.size ?_; intro v' w' ho hg; have TF := hide (O7.out.push ho hg.1 Z7.out (by have := HMM.out; omega)); have CF := hide (below_own C7.out O7.out.1 hg.1 C7.out.size); have E6 := hide ((hg.1.block wr.heap.size (Array.getElem?_eq_some_iff.1 E7.out).1 (fun e => by have := TL.out wr.heap.size e.symm; omega)).trans E7.out); clear ho hg))
        have MF := hide (M.out.step (os' := [] ++ [⟨t.c, z⟩]) HT.out S.out T0.out (tms_first t z H7.out) (by simp))
        clear e0 e1 e2 e3 X9 C9' T9 E9
        go_wp2_with fail
        exact ⟨⟨k + 1, _, by omega, by go_num, MF, CF, TF⟩, by simp [intOf]; omega⟩
      · have ov9 : ∃ g c9, u3 = .slice (some ⟨g, 0, none⟩) (xs.length + 1) c9 := by
          rcases T8.out.1.form with ⟨_, e⟩ | ⟨g, cap, cur, rfl, _⟩
          · simp at e
          · exact ⟨g, cap, by simp⟩
        obtain ⟨g, c9, rfl⟩ := ov9
        have hgl := TL.out g rfl
        have hl : (xs ++ [l])[xs.length]? = some l := by simp
        obtain ⟨q0, q1, q2, q3⟩ := T8.out.1.cells hl
        have HL := hide hl
        obtain ⟨m, hm⟩ : ∃ m, m = xs.length := ⟨_, rfl⟩
        rw [← hm] at T8 HL q0 q1 q2 q3
        have hml : m + 1 ≤ 100000 := by have := M.out.2.2.2; simp at this; omega
        have HMX := hide hm
        rw [← hm]
        have hw : IntKind.i64.wrap (m : Int) = (m : Int) := IntWalk.i64_in _ (by omega)
        have e0 := cell_of_row _ wr.heap.size 0 _ _ _ E8.out
        have l2 : (0 : Int) ≤ (m : Int) := by omega
        have l3 : (m : Int) < ((m + 1 : Nat) : Int) := by omega
        have t0 : decide ((0 : Int) ≤ (m : Int)) = true := decide_eq_true l2
        clear hl hm
        by_cases hq : l.c = t.c
        · have t1 : (l.c == t.c) = true := beq_iff_eq.2 hq
          go_wp2_with fail
          go_quiet (fail)
          have b9 := below_drewN (Below.refl (wr.alloc (.cells #[.int .i64 t.c, .bool t.x.s, sv t.x.u, sv t.x.t] 63)).heap.size (wr.alloc (.cells #[.int .i64 t.c, .bool t.x.s, sv t.x.u, sv t.x.t] 63))) nq
          have b9 := b9.drew
          have X9 := hide (X8.out.step b9)
          have C9' := hide (Below.step B8'.out B8'.out.size b9)
          have T9 := hide (T8.out.step b9)
          have E9 := hide ((b9.block wr.heap.size (by simp)).trans E8.out)
          clear q0 q1 q2 q3 e0 b9 X8 B8' T8 E8 c0 c1 c2 c3
          go_wp2_with fail
          generalize ((wr.alloc (Obj.cells #[Value.int IntKind.i64 t.c, Value.bool t.x.s, sv t.x.u, sv t.x.t] 63)).drewN nq) = w5 at *
          obtain ⟨q0, q1, q2, q3⟩ := T9.out.1.cells HL.out
          have e1 := cell_of_row _ wr.heap.size 1 _ _ _ E9.out
          have e2 := cell_of_row _ wr.heap.size 2 _ _ _ E9.out
          have e3 := cell_of_row _ wr.heap.size 3 _ _ _ E9.out
          have RL := hide (T9.out.2 l (by simp)).ra
          go_region_with (first
              | (go_at_call 21; refine Calls.mono (add_g RL.out X9.out (by omega) h1 HK.out (by omega)) ?_; rintro e wx ⟨z, rfl, hz, rz, bx⟩; obtain ⟨q0, q1, q2, q3⟩ := (T9.out.1.step bx).cells HL.out; have f1 := (T9.out.1.step bx).frozen rfl (m * 4 + 1); have f2 := (T9.out.1.step bx).frozen rfl (m * 4 + 2); have f3 := (T9.out.1.step bx).frozen rfl (m * 4 + 3); have TF := hide (Tg.put3 (T9.out.step bx) HL.out ((rz.mono C9'.out.size).more (M := (k + 1) * (L + 1) + 1) (by have := HMM.out; omega)) (by have := HMM.out; omega)); have CF := hide (below_sets (Below.step C9'.out C9'.out.size bx) ((T9.out.1.lt rfl).1) (m * 4 + 1) (m * 4 + 2) (m * 4 + 3) (.bool z.s) (sv z.u) (sv z.t)); have MF := hide (M.out.step (os' := (xs ++ [l]).set m ⟨l.c, z⟩) HT.out S.out T0.out (by rw [HMX.out]; exact tms_set xs l t z hz hq) (by simp)); clear bx rz hz))
          all_goals
            clear q0 q1 q2 q3 f1 f2 f3 X9 C9' T9 E9 RL
            go_wp2_with fail
            exact ⟨⟨k + 1, _, by omega, by go_num, MF, CF, TF⟩, by simp [intOf]; omega⟩
        · have t1 : (l.c == t.c) = false := beq_eq_false_iff_ne.2 hq
          go_wp2_with fail
          go_quiet (fail)
          have b9 := below_drewN (Below.refl (wr.alloc (.cells #[.int .i64 t.c, .bool t.x.s, sv t.x.u, sv t.x.t] 63)).heap.size (wr.alloc (.cells #[.int .i64 t.c, .bool t.x.s, sv t.x.u, sv t.x.t] 63))) nq
          have b9 := b9.drew
          have X9 := hide (X8.out.step b9)
          have C9' := hide (Below.step B8'.out B8'.out.size b9)
          have T9 := hide (T8.out.step b9)
          have E9 := hide ((b9.block wr.heap.size (by simp)).trans E8.out)
          clear q0 q1 q2 q3 e0 b9 X8 B8' T8 E8 c0 c1 c2 c3
          go_wp2_with fail
          generalize ((wr.alloc (Obj.cells #[Value.int IntKind.i64 t.c, Value.bool t.x.s, sv t.x.u, sv t.x.t] 63)).drewN nq) = w5 at *
          have e0 := cell_of_row _ wr.heap.size 0 _ _ _ E9.out
          have e1 := cell_of_row _ wr.heap.size 1 _ _ _ E9.out
          have e2 := cell_of_row _ wr.heap.size 2 _ _ _ E9.out
          have e3 := cell_of_row _ wr.heap.size 3 _ _ _ E9.out
          have HLEN := hide (show (xs ++ [l]).length + 1 ≤ 1000000000000 by have := HMX.out; simp; omega)
          go_region_held3 (fun W => W.cell? ⟨wr.heap.size, 0, none⟩ = some (.int .i64 t.c) ∧ W.cell? ⟨wr.heap.size, 1, none⟩ = some (.bool t.x.s) ∧ W.cell? ⟨wr.heap.size, 2, none⟩ = some (sv t.x.u) ∧ W.cell? ⟨wr.heap.size, 3, none⟩ = some (sv t.x.t))
            (with_reducible first | exact box_cells E9.out | exact box_cells E7.out | exact box_cells (box_alloc E7.out _) | exact box_cells E6.out)
            (first
              | (go_at_call 25; refine Calls.mono (form_g X9.out h1 (by omega)) ?_; rintro e wx ⟨z, rfl, hz, rz, bx⟩; have O7 := hide (T9.out.step bx); have C7 := hide (Below.step C9'.out C9'.out.size bx); have Z7 := hide ((rz.mono C9'.out.size).more (M := (k + 1) * (L + 1) + 1) (by have := HMM.out; omega)); have H7 := hide hz; have E7 := hide ((bx.block wr.heap.size (Array.getElem?_eq_some_iff.1 E9.out).1).trans E9.out); clear rz hz bx)
              | (refine step_pushE rfl (.tmp 41) (.tmp 48) 47 rfl Tryz.underlying47 hi hz0 hz1 hz2 rfl (by omega) et_len et_one wx w1.heap.size _ (xs ++ [l]) ⟨t.c, z⟩ _ rfl O7.out.1 rfl rfl HLEN.out (by decide) C7.out.size ?_; intro v' w' ho hg; have TF := hide (O7.out.push ho hg.1 Z7.out (by have := HMM.out; omega)); have CF := hide (below_own C7.out O7.out.1 hg.1 C7.out.size); have E6 := hide ((hg.1.block wr.heap.size (Array.getElem?_eq_some_iff.1 E7.out).1 (fun e => by have e2 : wr.heap.size = g := Option.some.inj e; omega)).trans E7.out); clear ho hg))
          have MF := hide (M.out.step (os' := xs ++ [l] ++ [⟨t.c, z⟩]) HT.out S.out T0.out (tms_push xs l t z H7.out hq) (by simp))
          clear e0 e1 e2 e3 X9 C9' T9 E9
          go_wp2_with fail
          exact ⟨⟨k + 1, _, by omega, by go_num, MF, CF, TF⟩, by simp [intOf]; omega⟩
    · obtain rfl : k = n1 := by omega
      have hdl := M.out.2.2.2
      have HD := hide (delete_f (B := w1.heap.size) (fun x => decide (x.x.r = 0)) enter_nil T.out.1 (by omega) (fun W hg x hx => nil_c ((T.out.2 x hx).grownT hg (fun g e => T.out.1.ot g e)).ra HKE.out))
      have hvs : ∃ A n c, u3 = .slice A n c := by
        rcases T.out.1.form with ⟨rfl, _⟩ | ⟨g, cap, cur, rfl, _⟩
        · exact ⟨_, _, _, rfl⟩
        · exact ⟨_, _, _, rfl⟩
      obtain ⟨A2, n2, c2, rfl⟩ := hvs
      go_wp2_with fail
      refine HD.out.mono ?_
      rintro e w9 ⟨v9, rfl, o9, g9⟩
      have hot : ∀ g, (Value.slice A2 n2 c2).ownBlock = some g → Ot wr g := fun g e => T.out.1.ot g e
      have ef : tms (os.filter fun x => !decide (x.x.r = 0)) = (tms os).filter (fun t => !decide (t.2 = 0)) := by
        unfold tms
        rw [List.filter_map]
        rfl
      obtain ⟨fm1, fm2⟩ := M.out.1.fm (fun t => !decide (t.2 = 0)) (fun t _ => by simp)
      have hkn : k * (L + 1) + 1 ≤ d.length * (L + 1) + 1 := by
        have h : k ≤ d.length := by have := D1.out; rw [HN.out]; exact this
        have := Nat.mul_le_mul_right (L + 1) h
        omega
      have F1 := hide (show Tg w9 w.heap.size v9 (os.filter fun x => !decide (x.x.r = 0)) (d.length * (L + 1) + 1) from
        ⟨o9.mono B1.out.size, fun x hx => (((T.out.2 x (List.mem_filter.1 hx).1).grownT g9 hot).mono B1.out.size).more hkn⟩)
      have F2 := hide (show Fm (tms (os.filter fun x => !decide (x.x.r = 0))) by rw [ef]; exact fm1)
      have F3 := hide (show ∀ c, 0 ≤ c → gsum (tms (os.filter fun x => !decide (x.x.r = 0))) c = gsum (tms d) c from fun c hc => by
        rw [ef, fm2, M.out.2.2.1, List.take_of_length_le (by rw [← HN.out]; exact Nat.le_refl _), GS.out c hc])
      have F4 := hide (show (os.filter fun x => !decide (x.x.r = 0)).length ≤ d.length from Nat.le_trans (List.length_filter_le _ _) (by have := D1.out; have := HN.out; omega))
      have F5 := hide (B1.out.trans ((below_own B'.out T.out.1 g9 B'.out.size).mono B1.out.size))
      clear fm1 fm2 ef hot o9 g9 T M B B' HD
      go_wp2_with fail
      go_ret
      exact ⟨_, _, rfl, F1.out, F2.out, F3.out, F4.out, F5.out⟩
end Go.Proofs.YtieicmcbdhaipaaGreat
