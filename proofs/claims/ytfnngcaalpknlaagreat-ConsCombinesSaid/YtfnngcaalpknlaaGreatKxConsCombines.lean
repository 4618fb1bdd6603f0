/-
  What this law wants besides.
-/
import Derived.Test.YtfnngcaalpknlaaGreatBundleN
import Derived.Test.YtfnngcaalpknlaaGreatBundleP
import Derived.Test.YtfnngcaalpknlaaGreatFrameP
import Derived.Test.YtfnngcaalpknlaaGreatBundleG
import Derived.Test.YtfnngcaalpknlaaGreatEl
import Derived.Test.YtfnngcaalpknlaaGreatTm
import Derived.Test.YtfnngcaalpknlaaGreatTv
import Derived.Test.YtfnngcaalpknlaaGreatBundleH
import Derived.Test.YtfnngcaalpknlaaGreatBundleO
import Derived.Test.YtfnngcaalpknlaaGreatVref5
import Derived.Test.YtfnngcaalpknlaaGreatBundleM
import Derived.Test.YtfnngcaalpknlaaGreatBundleI


namespace Go.Proofs.YtfnngcaalpknlaaGreat
open Go.RowKit
set_option linter.unusedVariables false

section
variable {α : Type}
variable {enc : α → List Value} {k : Nat} {W W' : World} {v : Value} {d : List α}
variable {T : TypeId} {B : Nat}
theorem wpList_join0 {P : Program} {ops : Array Oper} {rest : List Oper} {o : Oper} {a : Act} {Q : Exit → Act → World → Prop} (hgd : o.guard = none) (s y : Operand) (t : TypeId)
    (ho : o.op = .call { callee := .builtin .append, args := #[s, y], argTypes := #[t, t] }) {e : TypeId} (ht : P.underlying t = some (.slice e)) {i : TypeInfo} (hi : P.info? e = some i) (wr : World) (A : Option Addr) (n c c2 : Nat) (hn : n ≤ c)
    (hs : a.eval s = .slice A n c) (hy : a.eval y = .slice none 0 c2) (h : wpList P ops Q rest (a.put o.dst (.slice A n c)) wr) : wpList P ops Q (o :: rest) a wr :=
  wpList_plain hgd fun _ hK => by
    have hr := run_join0 (P := P) (ty := o.type) ht hi wr A n c c2 hn
    unfold Oper.wp execOp
    simp only [ho, resolve, invoke, builtin, Sem.run_bind, Sem.run_pure, Result.andThen_ok, List.map_toArray, List.map_cons, List.map_nil, hs, hy, hr]
    exact hK _ _ h
end
end Go.Proofs.YtfnngcaalpknlaaGreat
namespace Go.Proofs.YtfnngcaalpknlaaGreat.Num

theorem sz_zero {B : Nat} (hB : 2 ≤ B) {L : Nat} (h : 1 ≤ L) : Sz B 0 L := by
  have h1 : B ^ 1 ≤ B ^ L := Nat.pow_le_pow_right (by omega) h
  rw [Nat.pow_one] at h1
  exact ⟨by show 0 < _; omega, by show 1 < _; omega⟩
theorem sz_gsum {B : Nat} (hB : 2 ≤ B) {L : Nat} : ∀ {ts : List Tm} (c : Int), (∀ t ∈ ts, Sz B t.2 L) → Sz B (gsum ts c) (ts.length * (L + 1) + 1)
  | [], _, _ => sz_zero hB (by omega)
  | t :: ts, c, h => by
    have ih := sz_gsum hB (ts := ts) c (fun x hx => h x (List.mem_cons_of_mem _ hx))
    rw [gsum]
    split
    · refine (sz_add hB (h t (List.mem_cons_self)) ih).more (by omega) ?_
      rw [List.length_cons, Nat.add_mul]; omega
    · rw [Rat.zero_add]
      refine ih.more (by omega) ?_
      rw [List.length_cons, Nat.add_mul]; omega
end Go.Proofs.YtfnngcaalpknlaaGreat.Num
namespace Go.Proofs.YtfnngcaalpknlaaGreat
open Go.RowKit Go.Proofs.YtfnngcaalpknlaaGreat.Num
set_option linter.unusedVariables false
set_option linter.unusedSimpArgs false
set_option maxRecDepth 100000

theorem Rg.fit {W : World} {B : Nat} {x : Rx} {L M : Nat} (h : Rg W B x L) (hr : Sz Q x.r M) : Rg W B x M := ⟨h.1.fit hr, h.2⟩
theorem tsz {W : World} {v : Value} {d : List Tx} {L : Nat} (h : Tv W v d L) (h1 : 1 ≤ L) : ∀ t ∈ tms d, Sz Q t.2 L := by
  intro t ht
  obtain ⟨x, hx, rfl⟩ := List.mem_map.1 ht
  exact (h.2 x hx).sz h1
end Go.Proofs.YtfnngcaalpknlaaGreat
namespace Go.Proofs.YtfnngcaalpknlaaGreat
open Go.RowKit Go.Proofs.YtfnngcaalpknlaaGreat.Num
set_option linter.unusedVariables false
set_option maxRecDepth 100000

theorem Ra.more {w : World} {v : Value} {r : Rat} {L M : Nat} (h : Ra w v r L) (hL : L ≤ M) : Ra w v r M := by
  obtain ⟨s, u, t, x, y, e, ⟨A, n, c, xs, e1, a1, a2, a3, a4, a5, a6⟩, ⟨D, m, d, ys, e2, b1, b2, b3, b4, b5, b6⟩, hr⟩ := h
  exact ⟨s, u, t, x, y, e, ⟨A, n, c, xs, e1, a1, a2, a3, a4, a5, Nat.le_trans a6 hL⟩, ⟨D, m, d, ys, e2, b1, b2, b3, b4, b5, Nat.le_trans b6 hL⟩, hr⟩
end Go.Proofs.YtfnngcaalpknlaaGreat
namespace Go.Proofs.YtfnngcaalpknlaaGreat
open Go.RowKit Go.Proofs.YtfnngcaalpknlaaGreat.Num
set_option linter.unusedVariables false
set_option linter.unusedSimpArgs false
set_option maxRecDepth 100000

theorem bq3 {W : World} {g : Nat} {s : Bool} {u t : Value} (h : Bq W g s u t) : W.cell? ⟨g, 0, none⟩ = some (.bool s) ∧ W.cell? ⟨g, 1, none⟩ = some u ∧ W.cell? ⟨g, 2, none⟩ = some t := ⟨h.all.1, h.all.2.1, h.all.2.2.1⟩

end Go.Proofs.YtfnngcaalpknlaaGreat
namespace Go.Proofs.YtfnngcaalpknlaaGreat
open Go.RowKit Go.Proofs.YtfnngcaalpknlaaGreat.Num
set_option linter.unusedVariables false
set_option linter.unusedSimpArgs false
set_option maxRecDepth 100000

theorem wpList_joinA {α : Type} {enc : α → List Value} {k : Nat} {P : Program} {ops : Array Oper} {rest : List Oper} {o : Oper} {a : Act} {Q : Exit → Act → World → Prop} (hgd : o.guard = none) (s y : Operand) (t : TypeId)
    (ho : o.op = .call { callee := .builtin .append, args := #[s, y], argTypes := #[t, t] })
    {e : TypeId} {i : TypeInfo} {z : Value} {by_ : Nat} (ht : P.underlying t = some (.slice e)) (hi : P.info? e = some i) (hz : i.zero = some z)
    (hsize : i.size = k) (hby : i.bytes = by_) (hzs : z.cells.size = k) (h0 : 0 < k) (hk : ∀ x, (enc x).length = k) (h1 : ∀ x, ∀ u ∈ enc x, u.oneCell' = true) (wr : World) (B : Nat) (v u : Value) (d d2 : List α)
    (hx : Lr enc k wr u d2) (hown : Ow e enc k wr B v d) (hs : a.eval s = v) (hy : a.eval y = u)
    (hlen : d.length + d2.length ≤ 1000000000000) (hb8 : by_ ≤ 128) (hB : B ≤ wr.heap.size)
    (h : ∀ v' w', Ow e enc k w' B v' (d ++ d2) → wr.grownBy w' v.ownBlock → wpList P ops Q rest (a.put o.dst v') w') :
    wpList P ops Q (o :: rest) a wr := by
  obtain ⟨A, c, rfl, hc1, hc2, hc3⟩ := id hx
  cases A with
  | none =>
    have h0 : d2 = [] := by
      rcases Nat.eq_zero_or_pos d2.length with h | h
      · exact List.length_eq_zero_iff.1 h
      · obtain ⟨b, off, e, _⟩ := hc3 h
        cases e
    subst h0
    have hv : ∃ A n c, v = .slice A n c ∧ n ≤ c := by
      rcases hown.form with ⟨rfl, _⟩ | ⟨g, cap, cur, rfl, _, _, _, h, _⟩
      · exact ⟨none, 0, 0, rfl, Nat.le_refl _⟩
      · exact ⟨_, _, _, rfl, h⟩
    obtain ⟨A, n, c0, rfl, hnc⟩ := hv
    refine wpList_join0 hgd s y t ho ht hi wr A n c0 c hnc hs hy (h _ _ ?_ (only_refl _ _))
    rw [List.append_nil]
    exact hown
  | some ad => exact wpList_joinE hgd s y t ho ht hi hz hsize hby hzs h0 hk h1 wr B v d ad c d2 hx hown hs hy hlen hb8 hB (fun v' w' h2 h3 => h v' w' h2 h3.1)
def Tj (w W : World) (B : Nat) (v : Value) (f g : List Tx) (M : Nat) : Prop := Ow 77 et 4 W B v (f ++ g) ∧ (∀ x ∈ f, Ra w (rx x.x) x.x.r M) ∧ ∀ x ∈ g, Rg W B x.x M
theorem Tj.step {w W W' : World} {B : Nat} {v : Value} {f g : List Tx} {M : Nat} (h : Tj w W B v f g M) (hb : Below W.heap.size W W') : Tj w W' B v f g M := ⟨h.1.step hb, h.2.1, fun x hx => (h.2.2 x hx).step hb⟩
theorem Tj.tv {w W : World} {B : Nat} {v : Value} {f g : List Tx} {M : Nat} (h : Tj w W B v f g M) (hb : Below w.heap.size w W) : Tv W v (f ++ g) M := ⟨h.1.rl et_len, fun x hx => by
  rcases List.mem_append.1 hx with hx | hx
  · exact (h.2.1 x hx).step hb
  · exact (h.2.2 x hx).ra⟩
theorem Tj.push {w W W' : World} {B : Nat} {v v' : Value} {f g : List Tx} {y : Tx} {M : Nat} (h : Tj w W B v f g M) (ho : Ow 77 et 4 W' B v' (f ++ g ++ [y])) (hg : W.grownBy W' v.ownBlock) (ry : Rg W B y.x M) : Tj w W' B v' f (g ++ [y]) M := by
  refine ⟨by rw [← List.append_assoc]; exact ho, h.2.1, fun x hx => ?_⟩
  rcases List.mem_append.1 hx with hx | hx
  · exact (h.2.2 x hx).grownT hg (fun g e => h.1.ot g e)
  · simp at hx
    subst hx
    exact ry.grownT hg (fun g e => h.1.ot g e)

end Go.Proofs.YtfnngcaalpknlaaGreat
namespace Go.Proofs.YtfnngcaalpknlaaGreat
open Go.RowKit Go.Proofs.YtfnngcaalpknlaaGreat.Num
set_option linter.unusedVariables false
set_option linter.unusedSimpArgs false
set_option maxRecDepth 100000

theorem ek_one (k : Kx) : ∀ u ∈ ek k, u.oneCell' = true := by
  intro u hu
  simp [ek] at hu
  rcases hu with rfl | rfl | rfl | rfl | rfl <;> rfl
end Go.Proofs.YtfnngcaalpknlaaGreat
namespace Go.Proofs.YtfnngcaalpknlaaGreat
open Go.ChangeShapes Go.WideShapes Go.ChangeAt Go.RowKit Go.Joins Go.Deep Go.Proofs.YtfnngcaalpknlaaGreat.Num
set_option linter.unusedVariables false
set_option maxRecDepth 100000

theorem open_list {H : Type} {enc : TypeId × Value → H} {W : World} {r : Reach} {b0 : Nat} {v : Value} {d : DataW H} {ps : List MemPlace}
    (hv : Value.okWide Tryz.prog W r b0 49 v) (h : DataW.Trod enc Tryz.prog W 0 (fun _ => true) true 49 v d ps)
    {ts : List TypeId} {ds : List (DataW H)} (hS : (DataW.weightsEach Tryz.prog ts ds).all (· ≤ reachBytes) = true) {j : Nat} (ht : ts[j]? = some 49) (hd : ds[j]? = some d) : ∃ l : List Kx, Kl W v l 17592186043904 := by
  obtain ⟨A, n, c, rfl⟩ := okWide_slice Tryz.underlying49 hv
  obtain ⟨fuel, hf⟩ := h
  have hf' : DataW.trod enc Tryz.prog W 0 (fun _ => true) true fuel 49 [.slice A n c] = some (d, ps) := by simpa [Value.cells] using hf
  rcases open_slice Tryz.underlying49 hf' with ⟨e, _⟩ | ⟨ad, len, cap, m, k, D, Pl, e, hb, hl, hm, hmm, hx, hel⟩
  · simp at e
    obtain ⟨rfl, rfl, rfl⟩ := e
    exact ⟨[], Lr.nil _ _ _, fun x hx => by cases hx⟩
  · simp at e
    obtain ⟨rfl, rfl, rfl⟩ := e
    have hlm : n ≤ m := by rw [hmm]; simp; omega
    have e4 : Tryz.prog.cellsOf 54 = 5 := by kernel_rfl
    rw [e4] at hel
    have hdx : d = .slice ((List.range n).map D) ((List.range (m - n)).map fun j => D (n + j)) := congrArg Prod.fst hx
    have hw : ∀ i, i < n → ∀ q ∈ (D i).weights Tryz.prog 54, q ≤ reachBytes := fun i hi q hq => by
      have := List.all_eq_true.1 hS q (DataW.weights_mem_each ht hd q (by
        rw [hdx]
        simp only [DataW.weights, Tryz.underlying49, List.mem_cons, List.mem_append]
        exact .inr (.inl (weightsAll_mem (List.mem_map.2 ⟨i, List.mem_range.2 hi, rfl⟩) hq))))
      simpa using this
    obtain ⟨X, hX⟩ := choose_lt (α := Kx) (p := fun i x => (∀ q u, (ek x)[q]? = some u → W.cell? (ad.add (i * 5 + q)) = some u) ∧ Kv W x 17592186043904) (n := n) (fun i hi => by
      obtain ⟨cs', h1, h2⟩ := hel i (by omega)
      obtain ⟨x, rfl, hkv⟩ := open_kcells h2 (hw i hi)
      obtain ⟨_, _, hc⟩ := World.cells?_some h1
      refine ⟨x, fun q u hq => ?_, hkv⟩
      have hq4 : q < 5 := by have := (List.getElem?_eq_some_iff.1 hq).1; rwa [ek_len] at this
      have h3 := hc q hq4
      rw [hq] at h3
      rw [← h3]
      congr 1
      obtain ⟨b, off, sp⟩ := ad
      unfold Addr.add
      by_cases hi0 : i * 5 = 0
      · by_cases hq0 : q = 0
        · simp [hi0, hq0]
        · simp [hi0, hq0]
      · by_cases hq0 : q = 0
        · simp [hi0, hq0]
        · have : i * 5 + q ≠ 0 := by omega
          simp [hi0, hq0]
          try omega)
    refine ⟨(List.range n).map X, ⟨some ad, c, by simp, by simpa using hl, hm, fun hn => ?_⟩, fun x hx => ?_⟩
    · simp at hn
      obtain ⟨h1, _⟩ := hX 0 hn
      have h2 := h1 0 _ rfl
      obtain ⟨b, off, spot⟩ := ad
      have hs : spot = none := by simpa [Addr.add] using World.cell?_spot h2
      subst hs
      refine ⟨b, off, rfl, ?_, fun i x hi q u hq => ?_⟩
      · unfold World.cell? at h2
        split at h2
        · rename_i hb2
          exact (Array.getElem?_eq_some_iff.1 hb2).1
        · cases h2
      · have hin : i < n := by have := (List.getElem?_eq_some_iff.1 hi).1; simpa using this
        have hxe : x = X i := by
          rw [List.getElem?_map, List.getElem?_range hin] at hi
          simpa using hi.symm
        subst hxe
        have h5 := (hX i hin).1 q u hq
        rw [add_addr] at h5
        rwa [Nat.add_assoc]
    · obtain ⟨i, hi, rfl⟩ := List.mem_map.1 hx
      exact (hX i (List.mem_range.1 hi)).2
end Go.Proofs.YtfnngcaalpknlaaGreat
namespace Go.Proofs.YtfnngcaalpknlaaGreat
open Go.RowKit Go.Proofs.YtfnngcaalpknlaaGreat.Num
set_option linter.unusedVariables false
set_option linter.unusedSimpArgs false
set_option maxRecDepth 100000

theorem Kl.tight {W : World} {v : Value} {l : List Kx} {L : Nat} (h : Kl W v l L) (hk : ∀ k ∈ l, KsOk k) : Kl W v l 6 := ⟨h.1, fun k hm => (h.2 k hm).tight (hk k hm)⟩
end Go.Proofs.YtfnngcaalpknlaaGreat
namespace Go.Proofs.YtfnngcaalpknlaaGreat
open Go.RowKit Go.Proofs.YtfnngcaalpknlaaGreat.Num
set_option linter.unusedVariables false
set_option linter.unusedSimpArgs false
set_option maxRecDepth 100000

set_option maxHeartbeats 8000000 in
theorem vaxpy_fl {w : World} {a0 : Rx} {ra : Rat} {K : Nat} {v u : Value} {d f : List Tx} {L : Nat} (ha : Ra w (rx a0) ra K) (hv : Tv w v d L) (hu : Tv w u f L) (hn : d.length + f.length ≤ 1000) (h1 : 1 ≤ L) (hL : L ≤ 10000) (h2 : 1 ≤ K) (hK : K ≤ 1000) :
    Calls Tryz.prog 79 #[rx a0, v, u] w fun e w' => ∃ v' d', e = .returned v' ∧ Tg w' w.heap.size v' d' ((d.length + f.length) * (5 * (5 * (K + L)) + 1) + 6) ∧ Fm (tms d') ∧ (∀ c, 0 ≤ c → gsum (tms d') c = ra * gsum (tms d) c + gsum (tms f) c) ∧ d'.length ≤ d.length + f.length ∧ Below w.heap.size w w' := by
  obtain ⟨i0, hi, hz0, hz1, hz2⟩ := info_parts info_tm
  obtain ⟨A, c, e1, hc1, hc2, hc3⟩ := id hv.1
  obtain ⟨n, hlen⟩ : ∃ n, n = d.length := ⟨_, rfl⟩
  rw [← hlen] at e1 hc1
  subst e1
  obtain ⟨M, hM⟩ : ∃ M, M = 5 * (K + L) := ⟨_, rfl⟩
  have hM1 : L ≤ M ∧ 1 ≤ M ∧ M ≤ 60000 ∧ 5 * K + 5 * L ≤ M := by omega
  have b0 := alloc_below w (rbox a0.s (sv a0.u) (sv a0.t))
  have b1 : Below w.heap.size w ((w.alloc (rbox a0.s (sv a0.u) (sv a0.t))).alloc (.cells #[] 77)) := b0.alloc b0.size _
  have Q1 := hide ((Bq.new w a0.s (sv a0.u) (sv a0.t)).step (alloc_below _ (.cells #[] 77)))
  have O1 := hide (show Ow 77 et 4 ((w.alloc (rbox a0.s (sv a0.u) (sv a0.t))).alloc (.cells #[] 77)) w.heap.size (.slice (some ⟨w.heap.size + 1, 0, none⟩) 0 0) [] from by
    have h := Ow.lit (B := w.heap.size) et_len (w.alloc (rbox a0.s (sv a0.u) (sv a0.t))) 77 ([] : List Tx) #[] rfl b0.size (by simp [maxLen])
    rw [show (w.alloc (rbox a0.s (sv a0.u) (sv a0.t))).heap.size = w.heap.size + 1 by simp] at h
    exact h)
  have U1 := hide (hu.1.step b1)
  have UR := hide (show ∀ x ∈ f, Ra w (rx x.x) x.x.r M from fun x hx => (hu.2 x hx).more' hM1.1)
  have B1 := hide b1
  have HA := hide ha
  have HV := hide hv
  have HN := hide hlen
  have DN := hide hn
  have KL := hide (And.intro h1 (And.intro hL (And.intro h2 hK)))
  have HM := hide hM1
  have EM := hide (show (d.length + f.length) * (5 * M + 1) + 6 = (d.length + f.length) * (5 * (5 * (K + L)) + 1) + 6 by rw [hM])
  rw [← EM.out]
  unfold maxLen at hc2
  have hn9 : n ≤ 1000 := by omega
  clear ha hv hu b0 b1 hc3 hlen hM hM1 hn h1 hL h2 hK
  go_enter Tryz.func79, Tryz.ntmps79
  go_wp2_with (at_builtin; go_must (refine wpList_joinA rfl (.tmp 9) (.tmp 10) 28 rfl Tryz.underlying28 hi hz0 hz1 hz2 rfl (by omega) et_len et_one _ w.heap.size _ _ [] f U1.out O1.out rfl rfl (by have := DN.out; simp; omega) (by decide) B1.out.size ?_); intro v1 w1 ho hg; have T1 := hide (show Tj w w1 w.heap.size v1 f [] M from ⟨by rw [List.append_nil]; exact ho, UR.out, fun x hx => by cases hx⟩); have Q2 := hide (Q1.out.off O1.out hg); have B2 := hide (below_own B1.out O1.out hg B1.out.size); clear ho hg)
  go_loopw [7, 8] (fun ov iv wr => ∃ (k : Nat) (gs : List Tx), k ≤ n ∧ iv = .int .i64 (k : Int) ∧ Hid (tms gs = gmul ra (tms (d.take k))) ∧ Hid (gs.length = k) ∧ Hid (Below w.heap.size w wr) ∧ Hid (Bq wr w.heap.size a0.s (sv a0.u) (sv a0.t)) ∧ Hid (Tj w wr w.heap.size ov f gs M)) (fun _ iv _ => n - (intOf iv).toNat)
  case atStart => exact ⟨0, [], Nat.zero_le _, rfl, hide rfl, hide rfl, B2, Q2, T1⟩
  case round =>
    obtain ⟨k, gs, hk, rfl, E, GL, B, QB, T⟩ := hrel
    by_cases hlt : k < n
    · obtain ⟨x, hx⟩ := len_of (d := d) (k := k) (by rw [← HN.out]; exact hlt)
      have HC := hide (show ∀ W, Below w.heap.size w W → E4 W A (k * 4) x from fun W h => E4.of (HV.out.1.step h) hx)
      have b8 := (Below.refl wr.heap.size wr).drew
      have B5 := hide (Below.step B.out B.out.size b8)
      have T5 := hide (T.out.step b8)
      have Q5 := hide (QB.out.step b8)
      have A5 := hide (HA.out.step B5.out)
      have X5 := hide ((HV.out.2 x (List.mem_of_getElem? hx)).step B5.out)
      have HLEN := hide (show (f ++ gs).length + 1 ≤ 1000000000000 by have := GL.out; have := DN.out; have := HN.out; simp; omega)
      have EG := hide (show gmul ra (tms (d.take (k + 1))) = gmul ra (tms (d.take k)) ++ [(x.c, ra * x.x.r)] by rw [tms_snoc hx]; simp [gmul, tm])
      have l0 : (0 : Int) ≤ (k : Int) := by omega
      have l1 : (k : Int) < (n : Int) := by omega
      obtain ⟨b, off, rfl, -⟩ := HC.out w (Below.refl _ _)
      obtain ⟨c0, c1, c2, c3⟩ := (HC.out _ B5.out).cells
      obtain ⟨p0, p1, p2⟩ := bq3 Q5.out
      clear hx b8 T B QB
      go_wp2_with fail
      go_region_held3 (fun W => (W.cell? ⟨b, off + k * 4, none⟩ = some (.int .i64 x.c) ∧ W.cell? ⟨b, off + k * 4 + 1, none⟩ = some (.bool x.x.s) ∧ W.cell? ⟨b, off + k * 4 + 2, none⟩ = some (sv x.x.u) ∧ W.cell? ⟨b, off + k * 4 + 3, none⟩ = some (sv x.x.t)) ∧ W.cell? ⟨w.heap.size, 0, none⟩ = some (.bool a0.s) ∧ W.cell? ⟨w.heap.size, 1, none⟩ = some (sv a0.u) ∧ W.cell? ⟨w.heap.size, 2, none⟩ = some (sv a0.t))
        (with_reducible first | exact ⟨(HC.out _ B5.out).cells, bq3 Q5.out⟩ | exact ⟨(HC.out _ (B5.out.alloc B5.out.size _)).cells, bq3 (Q5.out.step (alloc_below _ _))⟩ | exact ⟨(HC.out _ CF.out).cells, bq3 QF.out⟩)
        (first
          | (go_at_call 16; refine Calls.mono (rof_f A5.out (by have := KL.out; omega) (by have := KL.out; omega)) ?_; rintro e wx ⟨y1, rfl, hy, ry, bx⟩; have Y1 := hide (show Rf wx (rx y1) ra _ from hy ▸ ry); clear hy ry A5; replace X5 := hide (X5.out.step bx); replace T5 := hide (T5.out.step bx); replace Q5 := hide (Q5.out.step bx); replace B5 := hide (Below.step B5.out B5.out.size bx); clear bx)
          | (go_at_call 16; refine Calls.mono (rof_f X5.out (by have := KL.out; omega) (by have := KL.out; omega)) ?_; rintro e wx ⟨y2, rfl, hy, ry, bx⟩; have Y2 := hide (show Rf wx (rx y2) x.x.r _ from hy ▸ ry); clear hy ry; replace Y1 := hide (Y1.out.step bx); replace T5 := hide (T5.out.step bx); replace Q5 := hide (Q5.out.step bx); replace B5 := hide (Below.step B5.out B5.out.size bx); clear bx)
          | (go_at_call 15; refine Calls.mono (rqmul_f Y1.out Y2.out (by have := KL.out; omega) (by have := KL.out; omega) (by have := KL.out; omega)) ?_; rintro e wx ⟨y3, rfl, hy, ry, bx⟩; have Y3 := hide (show Rf wx (rx y3) (ra * x.x.r) _ from hy ▸ ry); clear hy ry; replace T5 := hide (T5.out.step bx); replace Q5 := hide (Q5.out.step bx); replace B5 := hide (Below.step B5.out B5.out.size bx); clear bx)
          | (go_at_call 69; refine Calls.mono (rfto_g Y3.out (by have := KL.out; omega)) ?_; rintro e wx ⟨y, rfl, hy, ry, bx⟩; have H5 := hide hy; have Y4 := hide ((ry.mono (B' := w.heap.size) B5.out.size).more (M := M) HM.out.2.2.2); clear hy ry; replace T5 := hide (T5.out.step bx); replace Q5 := hide (Q5.out.step bx); replace B5 := hide (Below.step B5.out B5.out.size bx); clear bx)
          | (refine step_pushE rfl (.tmp 18) (.tmp 35) 28 rfl Tryz.underlying28 hi hz0 hz1 hz2 rfl (by omega) et_len et_one wx w.heap.size _ (f ++ gs) ⟨x.c, y⟩ _ rfl T5.out.1 rfl rfl HLEN.out (by decide) B5.out.size ?_; intro v' w' ho hg; have TF := hide (T5.out.push ho hg.1 Y4.out); have QF := hide (Q5.out.off T5.out.1 hg.1); have CF := hide (below_own B5.out T5.out.1 hg.1 B5.out.size); clear ho hg))
      all_goals
        have E2 := hide (show tms (gs ++ [⟨x.c, y⟩]) = gmul ra (tms (d.take (k + 1))) by rw [EG.out, tms_append, E.out, ← H5.out]; rfl)
        have K2 := hide (show (gs ++ [(⟨x.c, y⟩ : Tx)]).length = k + 1 by have := GL.out; simp; omega)
        clear T5 B5 Q5 X5 c0 c1 c2 c3 p0 p1 p2
        go_wp2_with fail
        exact ⟨⟨k + 1, gs ++ [⟨x.c, y⟩], by omega, by go_num, E2, K2, CF, QF, TF⟩, by simp [intOf]; omega⟩
    · obtain rfl : k = n := by omega
      have E2 := hide (show tms gs = gmul ra (tms d) by have h := E.out; rwa [List.take_of_length_le (by rw [← HN.out]; exact Nat.le_refl _)] at h)
      have TV := hide (T.out.tv B.out)
      have LN := hide (show (f ++ gs).length = d.length + f.length by rw [List.length_append, GL.out, HN.out, Nat.add_comm])
      have CM := hide (vmake_fl TV.out (by rw [LN.out]; exact DN.out) HM.out.2.1 (by have := HM.out.2.2.1; omega))
      have GS := hide (show ∀ c, 0 ≤ c → gsum (tms (f ++ gs)) c = ra * gsum (tms d) c + gsum (tms f) c from fun c _ => by rw [tms_append, gsum_append, E2.out, gsum_mul, Rat.add_comm])
      obtain ⟨A9, n9, c9, rfl⟩ := rv_sl TV.out.1
      clear T E
      go_wp2_with fail
      refine CM.out.mono ?_
      rintro e w9 ⟨v9, d9, rfl, t9, f9, g9, n9, b9⟩
      have N9 := hide (show d9.length ≤ d.length + f.length by rw [← LN.out]; exact n9)
      rw [LN.out] at t9
      have T9 := hide (t9.mono (B' := w.heap.size) B.out.size)
      have F9 := hide f9
      have G9 := hide (show ∀ c, 0 ≤ c → gsum (tms d9) c = ra * gsum (tms d) c + gsum (tms f) c from fun c hc => (g9 c hc).trans (GS.out c hc))
      have B9 := hide (Below.step B.out B.out.size b9)
      clear t9 f9 g9 n9 b9 CM
      go_wp2_with fail
      go_ret
      exact ⟨_, d9, rfl, T9.out, F9.out, G9.out, N9.out, B9.out⟩
end Go.Proofs.YtfnngcaalpknlaaGreat
