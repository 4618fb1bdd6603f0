/-
  Shared texts, one behind the other: OpenN, OpenQ, Qr7, Qr8.
-/
import Derived.Test.YtpfeacdhplbblaaGreatBundleP
import Derived.Test.YtpfeacdhplbblaaGreatBundleV
import Derived.Test.YtpfeacdhplbblaaGreatBundleZ
import Derived.Test.YtpfeacdhplbblaaGreatBundleH

namespace Go.Proofs.YtpfeacdhplbblaaGreat
open Go.ChangeShapes Go.WideShapes Go.ChangeAt Go.RowKit Go.Joins Go.Deep Go.Proofs.YtpfeacdhplbblaaGreat.Num
set_option linter.unusedVariables false
set_option linter.unusedSimpArgs false
set_option maxRecDepth 100000
theorem open_rcN {H : Type} {enc : TypeId × Value → H} {W : World} {fuel : Nat} {cs : List Value} {y : DataW H × List MemPlace}
    (hf : DataW.trod enc Tryz.prog W 0 (fun _ => true) true fuel 36 cs = some y) (hw : ∀ q ∈ y.1.weights Tryz.prog 36, q ≤ reachBytes) : ∃ x : Rx, cs = er x ∧ Ra W (rx x) x.r 17592186043904 := by
  obtain ⟨x, dw, du, e4, e5, l1, l2, hr⟩ := open_rcells hf
  rw [e5] at hw
  have q1 := dlen_le l1 (fun q hq => hw q (by
    simp only [DataW.weights, DataW.weightsEach, Tryz.underlying36, Tryz.underlying34, List.map_cons, List.map_nil, List.mem_append]
    simp [hq]))
  have q2 := dlen_le l2 (fun q hq => hw q (by
    simp only [DataW.weights, DataW.weightsEach, Tryz.underlying36, Tryz.underlying34, List.map_cons, List.map_nil, List.mem_append]
    simp [hq]))
  exact ⟨x, e4, hr _ q1 q2⟩
theorem open_ncells {H : Type} {enc : TypeId × Value → H} {W : World} {fuel : Nat} {cs : List Value} {y : DataW H × List MemPlace}
    (hf : DataW.trod enc Tryz.prog W 0 (fun _ => true) true fuel 38 cs = some y) (hwd : ∀ q ∈ y.1.weights Tryz.prog 38, q ≤ reachBytes) : ∃ n : Nx, cs = en n ∧ Ra W (rx n.x) n.x.r 17592186043904 ∧ (Lit.int .i64 n.id).wf = true := by
  obtain ⟨xs, k, _, hx, hlen, hl, hg⟩ := DataW.trod_struct Tryz.underlying38 hf
  rw [show Tryz.prog.cellsOf 38 = 5 by kernel_rfl] at hlen
  obtain ⟨c0, c1, c2, c3, c4, rfl⟩ : ∃ c0 c1 c2 c3 c4, cs = [c0, c1, c2, c3, c4] := by
    match cs, hlen with
    | [c0, c1, c2, c3, c4], _ => exact ⟨_, _, _, _, _, rfl⟩
  obtain ⟨y0, y1, y2, rfl⟩ : ∃ y0 y1 y2, xs = [y0, y1, y2] := by
    match xs, hl with
    | [y0, y1, y2], _ => exact ⟨_, _, _, rfl⟩
  have es : Tryz.prog.cellsOf 3 = 1 := by kernel_rfl
  have e3 : Tryz.prog.cellsOf 36 = 3 := by kernel_rfl
  have h0 : DataW.trod enc Tryz.prog W 0 (fun _ => true) true k 3 [c0] = some y0 := by simpa [es] using hg 0 _ rfl
  have h1 : DataW.trod enc Tryz.prog W 0 (fun _ => true) true k 3 [c1] = some y1 := by simpa [es] using hg 1 _ rfl
  have h2 : DataW.trod enc Tryz.prog W 0 (fun _ => true) true k 36 [c2, c3, c4] = some y2 := by simpa [e3] using hg 2 _ rfl
  have hy : y.1 = .agg [y0.1, y1.1, y2.1] := by rw [hx]; rfl
  have w2 : ∀ q ∈ y2.1.weights Tryz.prog 36, q ≤ reachBytes := fun q hq => hwd q (by
    rw [hy]
    simp only [DataW.weights, DataW.weightsEach, Tryz.underlying38, List.map_cons, List.map_nil, List.mem_append]
    simp [hq])
  obtain ⟨z0, hz0, -, wz0⟩ := DataW.trod_int Tryz.underlying3 h0
  obtain ⟨z1, hz1, -, -⟩ := DataW.trod_int Tryz.underlying3 h1
  obtain ⟨x, ex, rx1⟩ := open_rcN h2 w2
  simp [er] at ex hz0 hz1
  obtain ⟨rfl, rfl, rfl⟩ := ex
  subst hz0 hz1
  exact ⟨⟨z0, z1, x⟩, rfl, rx1, wz0⟩
structure Ox where
  kd : Int
  n : Nx
def eo (x : Ox) : List Value := [.int .i64 x.kd, .int .i64 x.n.id, .int .i64 x.n.dp, .bool x.n.x.s, sv x.n.x.u, sv x.n.x.t]
theorem eo_len (x : Ox) : (eo x).length = 6 := rfl
def Nlo (W : World) (v : Value) (l : List Ox) : Prop := (Lr eo 6 W v l ∧ l.length ≤ 1759218604390 ∧ ∀ x ∈ l, Ra W (rx x.n.x) x.n.x.r 17592186043904) ∧ ∀ x ∈ l, (Lit.int .i64 x.kd).wf = true
theorem Nlo.step {W W' : World} {v : Value} {l : List Ox} (h : Nlo W v l) (hb : Below W.heap.size W W') : Nlo W' v l := ⟨⟨h.1.1.step hb, h.1.2.1, fun x hx => (h.1.2.2 x hx).step hb⟩, h.2⟩
theorem open_ocells {H : Type} {enc : TypeId × Value → H} {W : World} {fuel : Nat} {cs : List Value} {y : DataW H × List MemPlace}
    (hf : DataW.trod enc Tryz.prog W 0 (fun _ => true) true fuel 40 cs = some y) (hwd : ∀ q ∈ y.1.weights Tryz.prog 40, q ≤ reachBytes) : ∃ n : Ox, cs = eo n ∧ Ra W (rx n.n.x) n.n.x.r 17592186043904 ∧ (Lit.int .i64 n.kd).wf = true := by
  obtain ⟨xs, k, _, hx, hlen, hl, hg⟩ := DataW.trod_struct Tryz.underlying40 hf
  rw [show Tryz.prog.cellsOf 40 = 6 by kernel_rfl] at hlen
  obtain ⟨c0, c1, c2, c3, c4, c5, rfl⟩ : ∃ c0 c1 c2 c3 c4 c5, cs = [c0, c1, c2, c3, c4, c5] := by
    match cs, hlen with
    | [c0, c1, c2, c3, c4, c5], _ => exact ⟨_, _, _, _, _, _, rfl⟩
  obtain ⟨y0, y1, rfl⟩ : ∃ y0 y1, xs = [y0, y1] := by
    match xs, hl with
    | [y0, y1], _ => exact ⟨_, _, rfl⟩
  have es : Tryz.prog.cellsOf 3 = 1 := by kernel_rfl
  have e5 : Tryz.prog.cellsOf 38 = 5 := by kernel_rfl
  have h0 : DataW.trod enc Tryz.prog W 0 (fun _ => true) true k 3 [c0] = some y0 := by simpa [es] using hg 0 _ rfl
  have h1 : DataW.trod enc Tryz.prog W 0 (fun _ => true) true k 38 [c1, c2, c3, c4, c5] = some y1 := by simpa [es, e5] using hg 1 _ rfl
  have hy : y.1 = .agg [y0.1, y1.1] := by rw [hx]; rfl
  have w1 : ∀ q ∈ y1.1.weights Tryz.prog 38, q ≤ reachBytes := fun q hq => hwd q (by
    rw [hy]
    simp only [DataW.weights, DataW.weightsEach, Tryz.underlying40, List.map_cons, List.map_nil, List.mem_append]
    simp [hq])
  obtain ⟨z0, hz0, -, wz0⟩ := DataW.trod_int Tryz.underlying3 h0
  obtain ⟨x, ex, rx1, -⟩ := open_ncells h1 w1
  simp [en] at ex hz0
  obtain ⟨rfl, rfl, rfl, rfl, rfl⟩ := ex
  subst hz0
  exact ⟨⟨z0, x⟩, rfl, rx1, wz0⟩
theorem open_ops {H : Type} {enc : TypeId × Value → H} {W : World} {r : Reach} {b0 : Nat} {v : Value} {d : DataW H} {ps : List MemPlace}
    (hv : Value.okWide Tryz.prog W r b0 22 v) (h : DataW.Trod enc Tryz.prog W 0 (fun _ => true) true 22 v d ps)
    {ts : List TypeId} {ds : List (DataW H)} (hS : (DataW.weightsEach Tryz.prog ts ds).all (· ≤ reachBytes) = true) {j : Nat} (ht : ts[j]? = some 22) (hd : ds[j]? = some d) : ∃ l : List Ox, Nlo W v l := by
  obtain ⟨A, n, c, rfl⟩ := okWide_slice Tryz.underlying22 hv
  obtain ⟨fuel, hf⟩ := h
  have hf' : DataW.trod enc Tryz.prog W 0 (fun _ => true) true fuel 22 [.slice A n c] = some (d, ps) := by simpa [Value.cells] using hf
  rcases open_slice Tryz.underlying22 hf' with ⟨e, _⟩ | ⟨ad, len, cap, m, k, D, Pl, e, hb, hl, hm, hmm, hx, hel⟩
  · simp at e
    obtain ⟨rfl, rfl, rfl⟩ := e
    exact ⟨[], ⟨Lr.nil _ _ _, by simp, fun x hx => by cases hx⟩, fun x hx => by cases hx⟩
  · simp at e
    obtain ⟨rfl, rfl, rfl⟩ := e
    have hlm : n ≤ m := by rw [hmm]; simp; omega
    have e4 : Tryz.prog.cellsOf 40 = 6 := by kernel_rfl
    rw [e4] at hel
    have hdx : d = .slice ((List.range n).map D) ((List.range (m - n)).map fun j => D (n + j)) := congrArg Prod.fst hx
    have hwl : ∀ q ∈ d.weights Tryz.prog 22, q ≤ reachBytes := fun q hq => by
      have := List.all_eq_true.1 hS q (DataW.weights_mem_each ht hd q hq)
      simpa using this
    have hn9 : n ≤ 1759218604390 := by
      have h1 := hwl ((n + (m - n)) * Tryz.prog.bytesOf 40) (by
        rw [hdx]
        simp only [DataW.weights, Tryz.underlying22, List.mem_cons, List.mem_append, List.length_map, List.length_range]
        exact .inl (by trivial))
      have h2 : Tryz.prog.bytesOf 40 = 80 := by kernel_rfl
      have h3 : reachBytes = 140737488351232 := by decide
      rw [h2, h3] at h1
      omega
    have hw : ∀ i, i < n → ∀ q ∈ (D i).weights Tryz.prog 40, q ≤ reachBytes := fun i hi q hq => hwl q (by
        rw [hdx]
        simp only [DataW.weights, Tryz.underlying22, List.mem_cons, List.mem_append]
        exact .inr (.inl (weightsAll_mem (List.mem_map.2 ⟨i, List.mem_range.2 hi, rfl⟩) hq)))
    haveI : Inhabited Ox := ⟨⟨0, ⟨0, 0, ⟨false, (none, 0, 0), (none, 0, 0), 0⟩⟩⟩⟩
    obtain ⟨X, hX⟩ := choose_lt (α := Ox) (p := fun i x => (∀ q u, (eo x)[q]? = some u → W.cell? (ad.add (i * 6 + q)) = some u) ∧ Ra W (rx x.n.x) x.n.x.r 17592186043904 ∧ (Lit.int .i64 x.kd).wf = true) (n := n) (fun i hi => by
      obtain ⟨cs', h1, h2⟩ := hel i (by omega)
      obtain ⟨x, rfl, hkv⟩ := open_ocells h2 (hw i hi)
      obtain ⟨_, _, hc⟩ := World.cells?_some h1
      refine ⟨x, fun q u hq => ?_, hkv⟩
      have hq4 : q < 6 := by have := (List.getElem?_eq_some_iff.1 hq).1; rwa [eo_len] at this
      have h3 := hc q hq4
      rw [hq] at h3
      rw [← h3]
      congr 1
      obtain ⟨b, off, sp⟩ := ad
      unfold Addr.add
      by_cases hi0 : i * 6 = 0
      · by_cases hq0 : q = 0
        · simp [hi0, hq0]
        · simp [hi0, hq0]
      · by_cases hq0 : q = 0
        · simp [hi0, hq0]
        · have : i * 6 + q ≠ 0 := by omega
          simp [hi0, hq0]
          try omega)
    refine ⟨(List.range n).map X, ⟨⟨some ad, c, by simp, by simpa using hl, hm, fun hn => ?_⟩, by simpa using hn9, fun x hx => ?_⟩, fun x hx => ?_⟩
    · simp at hn
      obtain ⟨h1, _⟩ := hX 0 hn
      obtain ⟨u0, hu0⟩ : ∃ u0, (eo (X 0))[0]? = some u0 := ⟨_, rfl⟩
      have h2 := h1 0 _ hu0
      rw [show 0 * 6 + 0 = 0 by simp] at h2
      obtain ⟨b, off, spot⟩ := ad
      have hs : spot = none := by simpa [Addr.add] using World.cell?_spot h2
      subst hs
      refine ⟨b, off, rfl, ?_, fun i x hi q u hq => ?_⟩
      · unfold World.cell? at h2
        split at h2
        · rename_i hb2
          simpa [Addr.add] using (Array.getElem?_eq_some_iff.1 hb2).1
        · cases h2
      · have hin : i < n := by have := (List.getElem?_eq_some_iff.1 hi).1; simpa using this
        have hxe : x = X i := by
          rw [List.getElem?_map, List.getElem?_range hin] at hi
          simpa using hi.symm
        subst hxe
        have h5 := (hX i hin).1 q u hq
        rw [add_addr] at h5
        rwa [Nat.add_assoc]
    · obtain ⟨i, hi, rfl⟩ := List.mem_map.1 hx
      exact (hX i (List.mem_range.1 hi)).2.1
    · obtain ⟨i, hi, rfl⟩ := List.mem_map.1 hx
      exact (hX i (List.mem_range.1 hi)).2.2
end Go.Proofs.YtpfeacdhplbblaaGreat

namespace Go.Proofs.YtpfeacdhplbblaaGreat
open Go.RowKit Go.Proofs.YtpfeacdhplbblaaGreat.Num
set_option linter.unusedVariables false
set_option linter.unusedSimpArgs false
set_option maxRecDepth 100000
def QpRet (w : World) (B g : Nat) (o : Int) (v : Sl) (l : List Nx) (e : Ending) (w' : World) : Prop :=
  ∃ (x : Nx) (t : Bool) (v' : Sl) (l' : List Nx), e = .returned (.tuple #[nx x, .bool t]) ∧ Qo w' B g o v' l' 6 ∧ Hn o l' l'.length ∧ Efq w w' B g v v' ∧ ((t = true ∧ (x :: l').Perm l ∧ Rg w' B x.x 6 ∧ ∀ y ∈ l', ¬ ah o y x) ∨ (t = false ∧ x = znx ∧ l = [] ∧ l' = []))
theorem qpopb_c {w : World} {B g : Nat} {o : Int} {v : Sl} {l : List Nx} (hq : Qo w B g o v l 6) (hn : Hn o l l.length) (hL : l.length ≤ 2000000000000) :
    Calls Tryz.prog 11 #[.pointer (some ⟨g, 0, none⟩)] w (QpRet w B g o v l) := by
  match l, hq, hn, hL with
  | [], hq, hn, hL =>
    refine (qpop0_c hq).mono fun e w' h => ?_
    exact ⟨znx, false, v, [], h.1, hq.step h.2, hn, Efq.of h.2 (Nat.le_trans hq.2.1 (Nat.le_of_lt hq.1.lt)), .inr ⟨rfl, rfl, rfl, rfl⟩⟩
  | a :: r, hq, hn, hL =>
    refine (qpop_c (n := r.length) hq rfl hL (by omega) (by omega)).mono fun e w' h => ?_
    obtain ⟨x, v', l', h0, rfl, q', p', h', rx', ef⟩ := h
    exact ⟨x, true, v', l', rfl, q', h' hn, ef, .inl ⟨rfl, p', rx', fun y hy => hn.firstM h0 y (p'.mem_iff.1 (List.mem_cons_of_mem _ hy))⟩⟩
def RpbRet (w : World) (B g : Nat) (o : Int) (v : Sl) (l : List Nx) (e : Ending) (w' : World) : Prop :=
  ∃ (x : Nx) (t : Bool) (v' : Sl) (l' : List Nx), e = .returned (.tuple #[nx x, .bool t]) ∧ Ro w' B g o v' l' ∧ Efq w w' B g v v' ∧ ((t = true ∧ l = x :: l' ∧ Rg w' B x.x 6) ∨ (t = false ∧ x = znx ∧ l = [] ∧ l' = []))
theorem rpopb_c {w : World} {B g : Nat} {o : Int} {v : Sl} {l : List Nx} (hq : Ro w B g o v l) :
    Calls Tryz.prog 12 #[.pointer (some ⟨g, 0, none⟩)] w (RpbRet w B g o v l) := by
  match l, hq with
  | [], hq =>
    refine (rpop0_c hq).mono fun e w' h => ?_
    exact ⟨znx, false, v, [], h.1, hq.step h.2, Efq.of h.2 (Nat.le_trans hq.2.1 (Nat.le_of_lt hq.1.lt)), .inr ⟨rfl, rfl, rfl, rfl⟩⟩
  | x :: r, hq =>
    refine (rpop_c hq).mono fun e w' h => ?_
    obtain ⟨rfl, v', q', ef⟩ := h
    exact ⟨x, true, v', r, rfl, q', ef, .inl ⟨rfl, rfl, (hq.2.2.2 x (List.mem_cons_self ..)).efr ef hq⟩⟩
theorem Alk.pops {o : Int} {l r l' r' : List Nx} {x y : Nx} {t s : Bool} {P Q : Prop} (h : Alk o l r) (hx : (t = true ∧ (x :: l').Perm l ∧ P ∧ ∀ y ∈ l', ¬ ah o y x) ∨ (t = false ∧ x = znx ∧ l = [] ∧ l' = [])) (hy : (s = true ∧ r = y :: r' ∧ Q) ∨ (s = false ∧ y = znx ∧ r = [] ∧ r' = [])) :
    t = s ∧ Alk o l' r' ∧ l'.length ≤ l.length ∧ (t = false → l' = []) ∧ ((P ∧ Q ∧ ky x = ky y) ∨ (x = znx ∧ y = znx)) ∧ (l' ≠ [] → l'.length + 1 = l.length) := by
  have hl := h.len
  rcases hx with ⟨rfl, hp, p, hf⟩ | ⟨rfl, rfl, rfl, rfl⟩
  · have hl2 := hp.length_eq
    rcases hy with ⟨rfl, rfl, q⟩ | ⟨rfl, rfl, rfl, rfl⟩
    · obtain ⟨e, a⟩ := h.pop hp hf
      exact ⟨rfl, a, (by simp at hl2; omega), (fun h => by cases h), .inl ⟨p, q, e⟩, fun _ => by simpa using hl2⟩
    · have h0 : l.length = 0 := hl
      rw [← hl2] at h0
      simp at h0
  · rcases hy with ⟨rfl, rfl, q⟩ | ⟨rfl, rfl, rfl, rfl⟩
    · simp at hl
    · exact ⟨rfl, h, Nat.le_refl _, fun _ => rfl, .inr ⟨rfl, rfl⟩, fun h => absurd rfl h⟩
def Nsm (W : World) (x y : Nx) : Prop := (Rc W (rx x.x) x.x.r 6 ∧ Rc W (rx y.x) x.x.r 6 ∧ x.id = y.id ∧ x.dp = y.dp) ∨ (x = znx ∧ y = znx)
theorem Nsm.of {W : World} {x y : Nx} {B : Nat} {P Q : Prop} (h : (P ∧ Q ∧ ky x = ky y) ∨ (x = znx ∧ y = znx)) (hx : P → Rg W B x.x 6) (hy : Q → Rg W B y.x 6) : Nsm W x y := by
  rcases h with ⟨p, q, e⟩ | h
  · have e1 : x.id = y.id := congrArg (fun p => p.1) e
    have e2 : x.dp = y.dp := congrArg (fun p => p.2.1) e
    have e3 : x.x.r = y.x.r := congrArg (fun p => p.2.2) e
    exact .inl ⟨(hx p).1, by rw [e3]; exact (hy q).1, e1, e2⟩
  · exact .inr h
set_option maxHeartbeats 4000000 in
theorem rnsame0_c (w : World) :
    Calls Tryz.prog 13 #[nx znx, nx znx] w fun e w' => e = .returned (.bool true) ∧ Below w.heap.size w w' := by
  have b2 : Below w.heap.size w ((w.alloc (nbox znx)).alloc (nbox znx)) := ((Below.refl _ _).alloc (Nat.le_refl _) _).alloc (by simp) _
  have B := hide b2
  have X := hide (show Nq ((w.alloc (nbox znx)).alloc (nbox znx)) w.heap.size znx from heap_alloc2_old w _ _)
  have Y := hide (show Nq ((w.alloc (nbox znx)).alloc (nbox znx)) (w.heap.size + 1) znx from heap_alloc2_new w _ _)
  clear b2
  go_enter Tryz.func13, Tryz.ntmps13
  obtain ⟨x0, x1, x2, x3, x4⟩ := X.out.all
  obtain ⟨y0, y1, y2, y3, y4⟩ := Y.out.all
  go_wp2_with fail
  generalize ((w.alloc (nbox znx)).alloc (nbox znx)) = W0 at *
  refine (rsame_zero _).mono ?_
  rintro e w2 ⟨rfl, bx⟩
  have BF := hide (Below.step B.out B.out.size bx)
  clear bx x0 x1 x2 x3 x4 y0 y1 y2 y3 y4
  go_wp2_with fail
  go_ret
  exact ⟨rfl, BF.out⟩
theorem rnsameb_c {w : World} {x y : Nx} (h : Nsm w x y) :
    Calls Tryz.prog 13 #[nx x, nx y] w fun e w' => e = .returned (.bool true) ∧ Below w.heap.size w w' := by
  rcases h with ⟨a, b, c, d⟩ | ⟨rfl, rfl⟩
  · exact rnsame_c a b c d
  · exact rnsame0_c w
def QlbRet (w : World) (l : List Nx) (e : Ending) (w' : World) : Prop :=
  ∃ (y : Rx) (t : Bool), e = .returned (.tuple #[rx y, .bool t]) ∧ Below w.heap.size w w' ∧ Wr w' w.heap.size y.u ∧ Wr w' w.heap.size y.t ∧ Ra w' (rx y) y.r 6 ∧ ((t = true ∧ Rc w' (rx y) y.r 6 ∧ ∃ x, Lst l l.length x ∧ y.r = x.x.r) ∨ (t = false ∧ l = [] ∧ y = znx.x))
theorem qleastb_c {w : World} {B g : Nat} {o : Int} {v : Sl} {l : List Nx} (hq : Qo w B g o v l 6) (hn : Hn o l l.length) :
    Calls Tryz.prog 17 #[.pointer (some ⟨g, 0, none⟩)] w (QlbRet w l) := by
  match l, hq, hn with
  | [], hq, hn =>
    refine (qleast0_c hq).mono fun e w' h => ?_
    exact ⟨znx.x, false, h.1, h.2, .inl rfl, .inl rfl, ⟨false, _, _, 0, 0, rfl, ⟨none, 0, 0, [], rfl, Rd.nil, Dg.nil, Nat.le_refl _, by simp [maxLen], rfl, Nat.zero_le _⟩, ⟨none, 0, 0, [], rfl, Rd.nil, Dg.nil, Nat.le_refl _, by simp [maxLen], rfl, Nat.zero_le _⟩, by decide +kernel⟩, .inr ⟨rfl, rfl, rfl⟩⟩
  | a :: r, hq, hn =>
    refine (qleast_c hq hn (by simp) (by omega) (by omega)).mono fun e w' h => ?_
    obtain ⟨y, x, rfl, ls, er, rg, bx⟩ := h
    exact ⟨y, true, rfl, bx, rg.2.1, rg.2.2, rg.ra, .inl ⟨rfl, rg.1, x, ls, er⟩⟩
def RlbRet (w : World) (l : List Nx) (e : Ending) (w' : World) : Prop :=
  ∃ (y : Rx) (t : Bool), e = .returned (.tuple #[rx y, .bool t]) ∧ Below w.heap.size w w' ∧ ((t = true ∧ Rc w' (rx y) y.r 6 ∧ ∃ x, Lst l l.length x ∧ y.r = x.x.r) ∨ (t = false ∧ l = [] ∧ y = znx.x))
theorem rleastb_c {w : World} {B g : Nat} {o : Int} {v : Sl} {l : List Nx} (hq : Ro w B g o v l) :
    Calls Tryz.prog 18 #[.pointer (some ⟨g, 0, none⟩)] w (RlbRet w l) := by
  match l, hq with
  | [], hq =>
    refine (rleast0_c hq).mono fun e w' h => ?_
    exact ⟨znx.x, false, h.1, h.2, .inr ⟨rfl, rfl, rfl⟩⟩
  | a :: r, hq =>
    refine (rleast_c hq (by simp)).mono fun e w' h => ?_
    obtain ⟨x, rfl, ls, bx⟩ := h
    exact ⟨x.x, true, rfl, bx, .inl ⟨rfl, ((hq.2.2.2 x ls.1).step bx).1, x, ls, rfl⟩⟩
def Lsm (W : World) (a b : Rx) : Prop := (Rc W (rx a) a.r 6 ∧ Rc W (rx b) a.r 6) ∨ (a = znx.x ∧ b = znx.x)
theorem Lsm.step {W W' : World} {a b : Rx} (h : Lsm W a b) (hb : Below W.heap.size W W') : Lsm W' a b := by
  rcases h with ⟨a, b⟩ | h
  · exact .inl ⟨a.step hb, b.step hb⟩
  · exact .inr h
theorem Alk.leasts {o : Int} {l r : List Nx} {a b : Rx} {t s : Bool} {W W' : World} (h : Alk o l r) (hb : Below W.heap.size W W') (hx : (t = true ∧ Rc W (rx a) a.r 6 ∧ ∃ x, Lst l l.length x ∧ a.r = x.x.r) ∨ (t = false ∧ l = [] ∧ a = znx.x)) (hy : (s = true ∧ Rc W' (rx b) b.r 6 ∧ ∃ x, Lst r r.length x ∧ b.r = x.x.r) ∨ (s = false ∧ r = [] ∧ b = znx.x)) :
    t = s ∧ Lsm W' a b := by
  have hl := h.len
  rcases hx with ⟨rfl, ha, x, lx, ex⟩ | ⟨rfl, rfl, rfl⟩
  · rcases hy with ⟨rfl, hb', y, ly, ey⟩ | ⟨rfl, rfl, rfl⟩
    · have e := h.least lx ly
      exact ⟨rfl, .inl ⟨ha.step hb, by rw [ex, e, ← ey]; exact hb'⟩⟩
    · have := List.length_pos_of_mem lx.1
      simp at hl
      rw [hl] at this
      simp at this
  · rcases hy with ⟨rfl, hb', y, ly, ey⟩ | ⟨rfl, rfl, rfl⟩
    · have := List.length_pos_of_mem ly.1
      simp at hl
      omega
    · exact ⟨rfl, .inr ⟨rfl, rfl⟩⟩
theorem rlsame_c {w : World} {a b : Rx} (h : Lsm w a b) :
    Calls Tryz.prog 20 #[rx a, rx b] w fun e w' => e = .returned (.bool true) ∧ Below w.heap.size w w' := by
  rcases h with ⟨h1, h2⟩ | ⟨rfl, rfl⟩
  · exact rsame_c h1 h2
  · exact rsame_zero w
theorem rcp_c {w : World} {x : Rx} (hx : Ra w (rx x) x.r 6) :
    Calls Tryz.prog 7 #[rx x] w fun e w' => ∃ y : Rx, e = .returned (rx y) ∧ y.r = x.r ∧ Ra w' (rx y) y.r 6 ∧ Wr w' w.heap.size y.u ∧ Wr w' w.heap.size y.t ∧ Below w.heap.size w w' := by
  obtain ⟨z, -, hz⟩ := zf_of hx 0
  refine (rcopy_w hz (by omega)).mono ?_
  rintro e w' ⟨y, rfl, gz, hb⟩
  exact ⟨y, rfl, gz.1.2.1.trans hz.2.1.symm, gz.1.ra, gz.2.1, gz.2.2, hb⟩
theorem rsp_c {w : World} {B : Nat} {y : Rx} (h : Ra w (rx y) y.r 6) (hu : Wr w B y.u) (ht : Wr w B y.t) (hB : B ≤ w.heap.size) (C : Nat) (cu : 0 < y.u.2.1 → ∀ A, y.u.1 = some A → A.block < C) (ct : 0 < y.t.2.1 → ∀ A, y.t.1 = some A → A.block < C) :
    Calls Tryz.prog 9 #[rx y] w fun e w' => e = .returned (.tuple #[]) ∧ Spu B C w w' := by
  obtain ⟨s, ⟨A, n, c⟩, ⟨D, m, d⟩, r⟩ := y
  obtain ⟨-, -, h1, h2⟩ := h.words
  exact rspoil_u hu ht (by have h9 : n ≤ 6 := h1; show n ≤ maxLen; unfold maxLen; omega) (by have h9 : m ≤ 6 := h2; show m ≤ maxLen; unfold maxLen; omega) hB (fun h0 b off e => cu h0 _ e) (fun h0 b off e => ct h0 _ e)
abbrev obox (x : Ox) : Obj := .cells #[.int .i64 x.kd, .int .i64 x.n.id, .int .i64 x.n.dp, .bool x.n.x.s, sv x.n.x.u, sv x.n.x.t] 40
def Oq (W : World) (g : Nat) (x : Ox) : Prop := W.heap[g]? = some (obox x)
theorem Oq.new (w : World) (x : Ox) : Oq (w.alloc (obox x)) w.heap.size x := heap_alloc_new w _
theorem Oq.lt {W : World} {g : Nat} {x : Ox} (h : Oq W g x) : g < W.heap.size := by unfold Oq at h; exact (Array.getElem?_eq_some_iff.1 h).1
theorem Oq.step {W W' : World} {g : Nat} {x : Ox} (h : Oq W g x) (hb : Below W.heap.size W W') : Oq W' g x := (hb.block g h.lt).trans h
theorem Oq.all {W : World} {g : Nat} {x : Ox} (h : Oq W g x) : W.cell? ⟨g, 0, none⟩ = some (.int .i64 x.kd) ∧ W.cell? ⟨g, 1, none⟩ = some (.int .i64 x.n.id) ∧ W.cell? ⟨g, 2, none⟩ = some (.int .i64 x.n.dp) ∧ W.cell? ⟨g, 3, none⟩ = some (.bool x.n.x.s) ∧ W.cell? ⟨g, 4, none⟩ = some (sv x.n.x.u) ∧ W.cell? ⟨g, 5, none⟩ = some (sv x.n.x.t) :=
  ⟨cell_of_row W g 0 _ _ _ h, cell_of_row W g 1 _ _ _ h, cell_of_row W g 2 _ _ _ h, cell_of_row W g 3 _ _ _ h, cell_of_row W g 4 _ _ _ h, cell_of_row W g 5 _ _ _ h⟩
theorem and7 (z : Int) : ∃ b : Nat, b ≤ 7 ∧ Go.bits .and .i64 z 7 = (b : Int) := by
  have h : (BitVec.ofInt 64 z &&& BitVec.ofInt 64 7).toNat ≤ 7 := by
    rw [BitVec.toNat_and]
    exact Nat.and_le_right
  refine ⟨(BitVec.ofInt 64 z &&& BitVec.ofInt 64 7).toNat, h, ?_⟩
  show IntKind.i64.wrap (((BitVec.ofInt 64 z &&& BitVec.ofInt 64 7).toNat : Nat) : Int) = _
  generalize (BitVec.ofInt 64 z &&& BitVec.ofInt 64 7).toNat = b at *
  rw [IntWalk.i64_in _ (by omega)]
theorem Nw.ch {W W' : World} {S : Nat → Prop} {A : Option Addr} {n c x L : Nat} (h : Nw W (.slice A n c) x L) (k : Ch S W W') (hn : 0 < n → ∀ B, A = some B → ¬ S B.block) : Nw W' (.slice A n c) x L := by
  obtain ⟨D, m, f, xs, e, ⟨h1, h3⟩, h2⟩ := h
  injection e with e1 e2 e3
  subst e1 e2 e3
  refine ⟨A, n, c, xs, rfl, ⟨h1, fun h0 => ?_⟩, h2⟩
  obtain ⟨b, off, e, hb, hc⟩ := h3 h0
  exact ⟨b, off, e, Nat.lt_of_lt_of_le hb k.1, fun j hj => (World.cell?_of_block (k.2 b hb (hn h0 _ e))).trans (hc j hj)⟩
theorem Ra.ch {W W' : World} {S : Nat → Prop} {x : Rx} {r : Rat} {L : Nat} (h : Ra W (rx x) r L) (k : Ch S W W') (n : Nsx S x) : Ra W' (rx x) r L := by
  obtain ⟨s, u, t, a, b, e, h1, h2, h3⟩ := h
  injection e with e
  have e3 := congrArg Array.toList e
  simp at e3
  obtain ⟨e4, rfl, rfl⟩ := e3
  exact ⟨s, _, _, a, b, by subst e4; rfl, h1.ch k n.1, h2.ch k n.2, h3⟩
def Lie (A B : Nat) (x : Rx) : Prop := (0 < x.u.2.1 → ∀ a, x.u.1 = some a → A ≤ a.block ∧ a.block < B) ∧ (0 < x.t.2.1 → ∀ a, x.t.1 = some a → A ≤ a.block ∧ a.block < B)
theorem Lie.of {W : World} {B : Nat} {x : Rx} (hu : Wr W B x.u) (ht : Wr W B x.t) : Lie B W.heap.size x := ⟨fun h a e => (hu.lt9 h a e).symm, fun h a e => (ht.lt9 h a e).symm⟩
theorem Lie.nsx {A B : Nat} {x : Rx} {S : Nat → Prop} (h : Lie A B x) (n : ∀ b, S b → b < A ∨ B ≤ b) : Nsx S x :=
  ⟨fun h0 a e hs => by have := h.1 h0 a e; have := n _ hs; omega, fun h0 a e hs => by have := h.2 h0 a e; have := n _ hs; omega⟩
theorem Rg.lie {W : World} {B L : Nat} {x : Rx} (h : Rg W B x L) : Lie B W.heap.size x := Lie.of h.2.1 h.2.2
def Sq (W : World) (B g m : Nat) (z : Int) (k : Nat) : Prop := ∃ (l r : List Nx) (v u : Sl), Sm W B g m z v u l r ∧ Hn z l l.length ∧ Alk z l r ∧ l.length ≤ k
theorem Sq.step {W W' : World} {B g m k : Nat} {z : Int} (h : Sq W B g m z k) (hb : Below W.heap.size W W') : Sq W' B g m z k := by
  obtain ⟨l, r, v, u, s, h⟩ := h
  exact ⟨l, r, v, u, s.step hb, h⟩
def Und (N g m : Nat) (v u : Sl) (l r : List Nx) : Prop := g < N ∧ m < N ∧ (∀ b, (sv v).ownBlock = some b → b < N) ∧ (∀ b, (sv u).ownBlock = some b → b < N) ∧ (∀ x ∈ l, Lie 0 N x.x) ∧ ∀ x ∈ r, Lie 0 N x.x
theorem Lie.low {A B : Nat} {x : Rx} (h : Lie A B x) : Lie 0 B x := ⟨fun h0 a e => ⟨Nat.zero_le _, (h.1 h0 a e).2⟩, fun h0 a e => ⟨Nat.zero_le _, (h.2 h0 a e).2⟩⟩
theorem Sm.und {W : World} {B g m : Nat} {z : Int} {v u : Sl} {l r : List Nx} (h : Sm W B g m z v u l r) : Und W.heap.size g m v u l r :=
  ⟨h.1.1.lt, h.2.1.1.lt, fun b e => (h.1.2.2.1.lt e).2, fun b e => (h.2.1.2.2.1.blk e).2.1, fun x hx => (h.1.2.2.2 x hx).lie.low, fun x hx => (h.2.1.2.2.2 x hx).lie.low⟩
theorem Sm.spoil {W W' : World} {B g m C D N : Nat} {z : Int} {v u : Sl} {l r : List Nx} (h : Sm W B g m z v u l r) (hs : Spu C D W W') (n : Und N g m v u l r) (hN : N ≤ C) : Sm W' B g m z v u l r :=
  h.spu hs (by have := n.1; omega) (by have := n.2.1; omega) (fun b e => .inl (by have := n.2.2.1 b e; omega)) (fun b e => .inl (by have := n.2.2.2.1 b e; omega)) (fun x hx => (n.2.2.2.2.1 x hx).nsx (fun b hb => by omega)) (fun x hx => (n.2.2.2.2.2 x hx).nsx (fun b hb => by omega))
theorem Oq.apart {W : World} {B g m gx : Nat} {z : Int} {v u : Sl} {l r : List Nx} {x : Ox} (h : Sm W B g m z v u l r) (o : Oq W gx x) : gx ≠ g ∧ gx ≠ m ∧ (sv v).ownBlock ≠ some gx ∧ (sv u).ownBlock ≠ some gx := by
  have hq := h.1.1
  have hr := h.2.1.1
  unfold Quq at hq
  unfold Rk at hr
  unfold Oq at o
  refine ⟨fun e => ?_, fun e => ?_, fun e => ?_, fun e => ?_⟩
  · rw [e, hq] at o
    injection o with o
    injection o with _ e2 _
    exact absurd e2 (by decide)
  · rw [e, hr] at o
    injection o with o
    injection o with _ e2 _
    exact absurd e2 (by decide)
  · rcases h.1.2.2.1.form with ⟨hv, _⟩ | ⟨g', cap, cur, hv, hB, hlt, hh, _⟩
    · rw [hv] at e; cases e
    · rw [hv] at e
      have e3 : g' = gx := by simpa [Value.ownBlock] using e
      rw [e3, o] at hh
      injection hh with hh
      injection hh with _ e2 _
      exact absurd e2 (by decide)
  · obtain ⟨-, -, -, cur, hh⟩ := h.2.1.2.2.1.blk e
    rw [o] at hh
    injection hh with hh
    injection hh with _ e2 _
    exact absurd e2 (by decide)
theorem Oq.ch {W W' : World} {S : Nat → Prop} {g : Nat} {x : Ox} (h : Oq W g x) (k : Ch S W W') (n : ¬ S g) : Oq W' g x := (k.2 g h.lt n).trans h
theorem Nq.ch {W W' : World} {S : Nat → Prop} {g : Nat} {x : Nx} (h : Nq W g x) (k : Ch S W W') (n : ¬ S g) : Nq W' g x := (k.2 g h.lt n).trans h
theorem Ch.put3 {W : World} {g : Nat} (y : Rx) : Ch (fun b => b = g) W (((W.setCell ⟨g, 2, none⟩ (.bool y.s)).setCell ⟨g, 3, none⟩ (sv y.u)).setCell ⟨g, 4, none⟩ (sv y.t)) :=
  ⟨(only_set3 W g y).size, fun b hb hn => (only_set3 W g y).block b hb (fun e => hn (Option.some.inj e))⟩
theorem Sm.mid {w8 w9 w10 : World} {B g m C D N : Nat} {z : Int} {v u v' : Sl} {l r l' : List Nx} {n : Nx} {y1 : Rx} (sm : Sm w8 B g m z v u l r)
    (hy1 : Rg w9 w8.heap.size y1 6) (q' : Qo w9 B g z v' l' 6) (p' : l'.Perm (⟨n.id, n.dp, y1⟩ :: l)) (ef : Efq w8 w9 B g v v')
    (hs : Spu C D w9 w10) (hu : Und N g m v u l r) (hN : N ≤ C) (hD : D ≤ w8.heap.size) : Sm w10 B g m z v' u l' r := by
  have s9 := sm.q q' ef
  refine s9.spu hs (by have := hu.1; omega) (by have := hu.2.1; omega) (fun b e => ?_) (fun b e => .inl (by have := hu.2.2.2.1 b e; omega)) (fun x hx => ?_) (fun x hx => (hu.2.2.2.2.2 x hx).nsx (fun b hb => by omega))
  · rcases ef.2.2 with h | h
    · exact .inl (by have := hu.2.2.1 b (h ▸ e); omega)
    · exact .inr (by have := h b e; omega)
  · rcases List.mem_cons.1 (p'.mem_iff.1 hx) with rfl | hx
    · exact hy1.lie.nsx (fun b hb => by omega)
    · exact (hu.2.2.2.2.1 x hx).nsx (fun b hb => by omega)
theorem Sq.push {w10 w11 : World} {B g m k : Nat} {z : Int} {v' u u' : Sl} {l r l' r' : List Nx} {n : Nx} {y y1 y2 : Rx} {k2 : Nat} (s10 : Sm w10 B g m z v' u l' r) (hn : Hn z l l.length) (al : Alk z l r) (hl : l.length ≤ k)
    (ey : y.r = n.x.r) (e1 : y1.r = y.r) (p' : l'.Perm (⟨n.id, n.dp, y1⟩ :: l)) (h' : Hn z l l.length → Hn z l' l'.length)
    (e2 : y2.r = n.x.r) (q2 : Ro w11 B m z u' r') (ins : Ins (ah z) r ⟨n.id, n.dp, y2⟩ k2 r') (hk : k2 = 0 ∨ ∃ j a, k2 = j + 1 ∧ r'[j]? = some a ∧ ¬ ah z ⟨n.id, n.dp, y2⟩ a) (ef2 : Efq w10 w11 B m u u') : Sq w11 B g m z (k + 1) := by
  refine ⟨l', r', v', u', s10.r q2 ef2, h' hn, al.push p' (by show (n.id, n.dp, y1.r) = (n.id, n.dp, y2.r); rw [e1, ey, e2]) ins hk, ?_⟩
  have := p'.length_eq
  simp at this
  omega
end Go.Proofs.YtpfeacdhplbblaaGreat
