
/-
 Problems by their words; a row, a variable that is copied in its box.
-/
import Derived.Test.YtnhlomphdighnaaGreatBundleU
import Derived.Test.YtnhlomphdighnaaGreatKref8


namespace Go.Proofs.YtnhlomphdighnaaGreat
open Go.RowKit Go.Proofs.YtnhlomphdighnaaGreat.Num
set_option linter.unusedVariables false
set_option linter.unusedSimpArgs false
set_option maxRecDepth 100000
structure Wt where
 nm : ByteArray
 a : Bool
 b : Bool
 lo : Zt
 hi : Zt
 zs : List Zt
structure Ut where
 nm : ByteArray
 w : Bool
 a : Bool
 b : Bool
 lo : Zt
 hi : Zt
 co : Zt
def Ww (W : World) (r : Wx) (t : Wt) (L : Nat) : Prop := (r.nm = t.nm ∧ r.a = t.a ∧ r.b = t.b) ∧ Zf W r.lo t.lo L ∧ Zf W r.hi t.hi L ∧ Tl W (sv r.v) r.d t.zs L
def Uw (W : World) (x : Ux) (t : Ut) (L : Nat) : Prop := (x.nm = t.nm ∧ x.w = t.w ∧ x.a = t.a ∧ x.b = t.b) ∧ Zf W x.lo t.lo L ∧ Zf W x.hi t.hi L ∧ Zf W x.co t.co L
theorem Ww.step {W W' : World} {r : Wx} {t : Wt} {L : Nat} (h : Ww W r t L) (hb : Below W.heap.size W W') : Ww W' r t L := ⟨h.1, h.2.1.step hb, h.2.2.1.step hb, h.2.2.2.step hb⟩
theorem Uw.step {W W' : World} {x : Ux} {t : Ut} {L : Nat} (h : Uw W x t L) (hb : Below W.heap.size W W') : Uw W' x t L := ⟨h.1, h.2.1.step hb, h.2.2.1.step hb, h.2.2.2.step hb⟩
def Wwg (W : World) (B : Nat) (r : Wx) (t : Wt) (L : Nat) : Prop := (r.nm = t.nm ∧ r.a = t.a ∧ r.b = t.b) ∧ Zg W B r.lo t.lo L ∧ Zg W B r.hi t.hi L ∧ Tw W B (sv r.v) r.d t.zs L
def Uwg (W : World) (B : Nat) (x : Ux) (t : Ut) (L : Nat) : Prop := (x.nm = t.nm ∧ x.w = t.w ∧ x.a = t.a ∧ x.b = t.b) ∧ Zg W B x.lo t.lo L ∧ Zg W B x.hi t.hi L ∧ Zg W B x.co t.co L
theorem Wwg.step {W W' : World} {B : Nat} {r : Wx} {t : Wt} {L : Nat} (h : Wwg W B r t L) (hb : Below W.heap.size W W') : Wwg W' B r t L := ⟨h.1, h.2.1.step hb, h.2.2.1.step hb, h.2.2.2.step hb⟩
theorem Uwg.step {W W' : World} {B : Nat} {x : Ux} {t : Ut} {L : Nat} (h : Uwg W B x t L) (hb : Below W.heap.size W W') : Uwg W' B x t L := ⟨h.1, h.2.1.step hb, h.2.2.1.step hb, h.2.2.2.step hb⟩
theorem Wwg.ww {W : World} {B : Nat} {r : Wx} {t : Wt} {L : Nat} (h : Wwg W B r t L) : Ww W r t L := ⟨h.1, h.2.1.1, h.2.2.1.1, h.2.2.2.tl⟩
theorem Uwg.uw {W : World} {B : Nat} {x : Ux} {t : Ut} {L : Nat} (h : Uwg W B x t L) : Uw W x t L := ⟨h.1, h.2.1.1, h.2.2.1.1, h.2.2.2.1⟩
theorem Tw.keptT {α : Type} {T : TypeId} {enc : α → List Value} {k : Nat} {W W' : World} {B B' L : Nat} {v u : Value} {f : List α} {d : List Tx} {zs : List Zt} (h : Tw W B v d zs L) (ho : Ow T enc k W B' u f) (hT : T ≠ 111) (hT2 : T ≠ 51) (hg : W.grownBy W' u.ownBlock) : Tw W' B v d zs L :=
 ⟨h.1.kept hg (ow_tk h.1 ho (fun e => hT2 e.symm)), h.2.1, fun i x z hx hz => ⟨(h.2.2 i x z hx hz).1, (h.2.2 i x z hx hz).2.grownT hg (fun g e => by
  rcases ho.form with ⟨rfl, _⟩ | ⟨g', cap, cur, rfl, hB, hlt, hh, r⟩
  ·cases e
  ·have e : g' = g := by simpa [Value.ownBlock] using e
   subst e
   exact ⟨cur, _, _, hh, hT⟩)⟩⟩
theorem Ow.otT {α : Type} {T : TypeId} {enc : α → List Value} {k : Nat} {W : World} {B : Nat} {v : Value} {d : List α} (ho : Ow T enc k W B v d) (hT : T ≠ 111) : ∀ g, v.ownBlock = some g → Ot W g := by
 intro g e
 rcases ho.form with ⟨rfl, _⟩ | ⟨g', cap, cur, rfl, hB, hlt, hh, r⟩
 ·cases e
 ·have e : g' = g := by simpa [Value.ownBlock] using e
  subst e
  exact ⟨cur, _, _, hh, hT⟩
theorem Wwg.kept {α : Type} {T : TypeId} {enc : α → List Value} {k : Nat} {W W' : World} {B B' L : Nat} {u : Value} {f : List α} {r : Wx} {t : Wt} (h : Wwg W B r t L) (ho : Ow T enc k W B' u f) (hT : T ≠ 111) (hT2 : T ≠ 51) (hg : W.grownBy W' u.ownBlock) : Wwg W' B r t L :=
 ⟨h.1, h.2.1.grownT hg (ho.otT hT), h.2.2.1.grownT hg (ho.otT hT), h.2.2.2.keptT ho hT hT2 hg⟩
theorem Uwg.kept {α : Type} {T : TypeId} {enc : α → List Value} {k : Nat} {W W' : World} {B B' L : Nat} {u : Value} {f : List α} {x : Ux} {t : Ut} (h : Uwg W B x t L) (ho : Ow T enc k W B' u f) (hT : T ≠ 111) (hg : W.grownBy W' u.ownBlock) : Uwg W' B x t L :=
 ⟨h.1, h.2.1.grownT hg (ho.otT hT), h.2.2.1.grownT hg (ho.otT hT), h.2.2.2.grownT hg (ho.otT hT)⟩
theorem Tw.box {W W' : World} {B L g : Nat} {v : Value} {d : List Tx} {zs : List Zt} {cs : Array Value} {T : TypeId} {fz : Nat × Nat} (h : Tw W B v d zs L) (hg : W.grownBy W' (some g)) (hb : W.heap[g]? = some (.cells cs T fz)) (hT : T ≠ 111) (hT2 : T ≠ 51) : Tw W' B v d zs L :=
 ⟨h.1.kept hg (h.1.offT hb (fun e => hT2 e.symm)), h.2.1, fun i x z hx hz => ⟨(h.2.2 i x z hx hz).1, (h.2.2 i x z hx hz).2.grownT hg (fun g' e => by cases e; exact ⟨cs, T, fz, hb, hT⟩)⟩⟩
theorem Zg.box {W W' : World} {B L g : Nat} {x : Rx} {z : Zt} {cs : Array Value} {T : TypeId} {fz : Nat × Nat} (h : Zg W B x z L) (hg : W.grownBy W' (some g)) (hb : W.heap[g]? = some (.cells cs T fz)) (hT : T ≠ 111) : Zg W' B x z L := h.grownT hg (fun g' e => by cases e; exact ⟨cs, T, fz, hb, hT⟩)
theorem Wwg.box {W W' : World} {B L g : Nat} {r : Wx} {t : Wt} {cs : Array Value} {T : TypeId} {fz : Nat × Nat} (h : Wwg W B r t L) (hg : W.grownBy W' (some g)) (hb : W.heap[g]? = some (.cells cs T fz)) (hT : T ≠ 111) (hT2 : T ≠ 51) : Wwg W' B r t L :=
 ⟨h.1, h.2.1.box hg hb hT, h.2.2.1.box hg hb hT, h.2.2.2.box hg hb hT hT2⟩
theorem Uwg.box {W W' : World} {B L g : Nat} {x : Ux} {t : Ut} {cs : Array Value} {T : TypeId} {fz : Nat × Nat} (h : Uwg W B x t L) (hg : W.grownBy W' (some g)) (hb : W.heap[g]? = some (.cells cs T fz)) (hT : T ≠ 111) : Uwg W' B x t L :=
 ⟨h.1, h.2.1.box hg hb hT, h.2.2.1.box hg hb hT, h.2.2.2.box hg hb hT⟩
def Wwl (W : World) (v : Value) (d : List Wx) (ts : List Wt) (L : Nat) : Prop := Lr ew 10 W v d ∧ d.length = ts.length ∧ ∀ (i : Nat) x t, d[i]? = some x → ts[i]? = some t → Ww W x t L
def Uwl (W : World) (v : Value) (d : List Ux) (ts : List Ut) (L : Nat) : Prop := Lr eu 13 W v d ∧ d.length = ts.length ∧ ∀ (i : Nat) x t, d[i]? = some x → ts[i]? = some t → Uw W x t L
theorem Wwl.step {W W' : World} {v : Value} {d : List Wx} {ts : List Wt} {L : Nat} (h : Wwl W v d ts L) (hb : Below W.heap.size W W') : Wwl W' v d ts L := ⟨h.1.step hb, h.2.1, fun i x t hx ht => (h.2.2 i x t hx ht).step hb⟩
theorem Uwl.step {W W' : World} {v : Value} {d : List Ux} {ts : List Ut} {L : Nat} (h : Uwl W v d ts L) (hb : Below W.heap.size W W') : Uwl W' v d ts L := ⟨h.1.step hb, h.2.1, fun i x t hx ht => (h.2.2 i x t hx ht).step hb⟩
def Wwo (W : World) (B : Nat) (v : Value) (d : List Wx) (ts : List Wt) (L : Nat) : Prop := Ow 53 ew 10 W B v d ∧ d.length = ts.length ∧ ∀ (i : Nat) x t, d[i]? = some x → ts[i]? = some t → Wwg W B x t L
def Uwo (W : World) (B : Nat) (v : Value) (d : List Ux) (ts : List Ut) (L : Nat) : Prop := Ow 43 eu 13 W B v d ∧ d.length = ts.length ∧ ∀ (i : Nat) x t, d[i]? = some x → ts[i]? = some t → Uwg W B x t L
theorem Wwo.step {W W' : World} {B : Nat} {v : Value} {d : List Wx} {ts : List Wt} {L : Nat} (h : Wwo W B v d ts L) (hb : Below W.heap.size W W') : Wwo W' B v d ts L := ⟨h.1.step hb, h.2.1, fun i x t hx ht => (h.2.2 i x t hx ht).step hb⟩
theorem Uwo.step {W W' : World} {B : Nat} {v : Value} {d : List Ux} {ts : List Ut} {L : Nat} (h : Uwo W B v d ts L) (hb : Below W.heap.size W W') : Uwo W' B v d ts L := ⟨h.1.step hb, h.2.1, fun i x t hx ht => (h.2.2 i x t hx ht).step hb⟩
theorem Wwo.wwl {W : World} {B : Nat} {v : Value} {d : List Wx} {ts : List Wt} {L : Nat} (h : Wwo W B v d ts L) : Wwl W v d ts L := ⟨h.1.rl ew_len, h.2.1, fun i x t hx ht => (h.2.2 i x t hx ht).ww⟩
theorem Uwo.uwl {W : World} {B : Nat} {v : Value} {d : List Ux} {ts : List Ut} {L : Nat} (h : Uwo W B v d ts L) : Uwl W v d ts L := ⟨h.1.rl eu_len, h.2.1, fun i x t hx ht => (h.2.2 i x t hx ht).uw⟩
theorem snoc_all {α β : Type} {P : α → β → Prop} {d : List α} {ts : List β} {x : α} {t : β} (hl : d.length = ts.length) (h : ∀ (i : Nat) y u, d[i]? = some y → ts[i]? = some u → P y u) (hx : P x t) : (d ++ [x]).length = (ts ++ [t]).length ∧ ∀ (i : Nat) y u, (d ++ [x])[i]? = some y → (ts ++ [t])[i]? = some u → P y u := by
 refine ⟨by simp [hl], fun i y u hy hu => ?_⟩
 by_cases hi : i < d.length
 ·rw [List.getElem?_append_left hi] at hy
  rw [List.getElem?_append_left (by omega)] at hu
  exact h i y u hy hu
 ·rw [List.getElem?_append_right (by omega)] at hy
  rw [List.getElem?_append_right (by omega), ← hl] at hu
  have hj : i - d.length = 0 := by
   have := (List.getElem?_eq_some_iff.1 hy).1
   simp at this
   omega
  rw [hj] at hy hu
  simp at hy hu
  subst hy hu
  exact hx
theorem Wwo.push {W W' : World} {B L : Nat} {v v' : Value} {d : List Wx} {ts : List Wt} {x : Wx} {t : Wt} (T : Wwo W B v d ts L) (ho : Ow 53 ew 10 W' B v' (d ++ [x])) (hg : W.grownBy W' v.ownBlock) (hx : Wwg W B x t L) : Wwo W' B v' (d ++ [x]) (ts ++ [t]) L := by
 obtain ⟨h1, h2⟩ := snoc_all (P := fun x t => Wwg W' B x t L) T.2.1 (fun i y u hy hu => (T.2.2 i y u hy hu).kept T.1 (by decide) (by decide) hg) (hx.kept T.1 (by decide) (by decide) hg)
 exact ⟨ho, h1, h2⟩
theorem Uwo.push {W W' : World} {B L : Nat} {v v' : Value} {d : List Ux} {ts : List Ut} {x : Ux} {t : Ut} (T : Uwo W B v d ts L) (ho : Ow 43 eu 13 W' B v' (d ++ [x])) (hg : W.grownBy W' v.ownBlock) (hx : Uwg W B x t L) : Uwo W' B v' (d ++ [x]) (ts ++ [t]) L := by
 obtain ⟨h1, h2⟩ := snoc_all (P := fun x t => Uwg W' B x t L) T.2.1 (fun i y u hy hu => (T.2.2 i y u hy hu).kept T.1 (by decide) hg) (hx.kept T.1 (by decide) hg)
 exact ⟨ho, h1, h2⟩
theorem Wwo.box {W W' : World} {B L g : Nat} {v : Value} {d : List Wx} {ts : List Wt} {cs : Array Value} {T : TypeId} {fz : Nat × Nat} (h : Wwo W B v d ts L) (hg : W.grownBy W' (some g)) (hb : W.heap[g]? = some (.cells cs T fz)) (hT : T ≠ 111) (hT2 : T ≠ 51) (hT3 : T ≠ 53) : Wwo W' B v d ts L :=
 ⟨h.1.kept hg (h.1.offT hb (fun e => hT3 e.symm)), h.2.1, fun i x t hx ht => (h.2.2 i x t hx ht).box hg hb hT hT2⟩
theorem Uwo.box {W W' : World} {B L g : Nat} {v : Value} {d : List Ux} {ts : List Ut} {cs : Array Value} {T : TypeId} {fz : Nat × Nat} (h : Uwo W B v d ts L) (hg : W.grownBy W' (some g)) (hb : W.heap[g]? = some (.cells cs T fz)) (hT : T ≠ 111) (hT3 : T ≠ 43) : Uwo W' B v d ts L :=
 ⟨h.1.kept hg (h.1.offT hb (fun e => hT3 e.symm)), h.2.1, fun i x t hx ht => (h.2.2 i x t hx ht).box hg hb hT⟩
theorem Wwo.kept {α : Type} {T : TypeId} {enc : α → List Value} {k : Nat} {W W' : World} {B B' L : Nat} {u v : Value} {f : List α} {d : List Wx} {ts : List Wt} (h : Wwo W B v d ts L) (ho : Ow T enc k W B' u f) (hT : T ≠ 111) (hT2 : T ≠ 51) (hT3 : T ≠ 53) (hg : W.grownBy W' u.ownBlock) : Wwo W' B v d ts L :=
 ⟨h.1.kept hg (ow_tk h.1 ho (fun e => hT3 e.symm)), h.2.1, fun i x t hx ht => (h.2.2 i x t hx ht).kept ho hT hT2 hg⟩
theorem wwl_of {W : World} {v : Value} {d : List Wx} {L : Nat} (h : Lr ew 10 W v d) (hd : ∀ r ∈ d, Wv W r L) : ∃ ts, Wwl W v d ts L := by
 obtain ⟨ts, hl, ht⟩ := list_choose (P := fun (x : Wx) (t : Wt) => Ww W x t L) d (fun x hx => by
  obtain ⟨zl, -, h1⟩ := zf_of (hd x hx).2.1 0
  obtain ⟨zh, -, h2⟩ := zf_of (hd x hx).2.2 0
  obtain ⟨zs, h3⟩ := tl_of (hd x hx).1
  exact ⟨⟨x.nm, x.a, x.b, zl, zh, zs⟩, ⟨rfl, rfl, rfl⟩, h1, h2, h3⟩)
 exact ⟨ts, h, hl, ht⟩
theorem uwl_of {W : World} {v : Value} {d : List Ux} {L : Nat} (h : Lr eu 13 W v d) (hd : ∀ r ∈ d, Uv W r L) : ∃ ts, Uwl W v d ts L := by
 obtain ⟨ts, hl, ht⟩ := list_choose (P := fun (x : Ux) (t : Ut) => Uw W x t L) d (fun x hx => by
  obtain ⟨zl, -, h1⟩ := zf_of (hd x hx).1 0
  obtain ⟨zh, -, h2⟩ := zf_of (hd x hx).2.1 0
  obtain ⟨zc, -, h3⟩ := zf_of (hd x hx).2.2 0
  exact ⟨⟨x.nm, x.w, x.a, x.b, zl, zh, zc⟩, ⟨rfl, rfl, rfl, rfl⟩, h1, h2, h3⟩)
 exact ⟨ts, h, hl, ht⟩
def CpW (B : Nat) (W0 : World) (g L : Nat) (q : Wx) (t : Wt) (lo hi : Option Rx) (th : Option (Sl × List Tx)) (V : World) : Prop :=
 (Below W0.heap.size W0 V ∧ W0.heap.size ≤ g ∧ V.heap[g]? = some (wbox q)) ∧ (∀ y, lo = some y → Zg V B y t.lo L) ∧ (∀ y, hi = some y → Zg V B y t.hi L) ∧ ∀ y, th = some y → Tw V B (sv y.1) y.2 t.zs L
theorem CpW.step {B : Nat} {W0 V V' : World} {g L : Nat} {q : Wx} {t : Wt} {lo hi : Option Rx} {th : Option (Sl × List Tx)} (h : CpW B W0 g L q t lo hi th V) (hb : Below V.heap.size V V') : CpW B W0 g L q t lo hi th V' :=
 ⟨⟨Below.step h.1.1 h.1.1.size hb, h.1.2.1, (hb.block g (Array.getElem?_eq_some_iff.1 h.1.2.2).1).trans h.1.2.2⟩, fun y e => (h.2.1 y e).step hb, fun y e => (h.2.2.1 y e).step hb, fun y e => (h.2.2.2 y e).step hb⟩
theorem CpW.c1 {B : Nat} {W0 V : World} {g L : Nat} {q : Wx} {t : Wt} {hi : Option Rx} {th : Option (Sl × List Tx)} (h : CpW B W0 g L q t none hi th V) (hB : B ≤ W0.heap.size) {x : Rx} (hx : Zf W0 x t.lo L) (hL : L ≤ 17592186044000) :
  Calls Tryz.prog 26 #[rx x] V fun e w' => ∃ y : Rx, e = .returned (rx y) ∧ CpW B W0 g L q t (some y) hi th w' :=
 (rcopy_w (hx.step h.1.1) hL).mono fun e w' ⟨y, e1, hy, hb⟩ => by
  have h' := h.step hb
  exact ⟨y, e1, h'.1, (fun z e => by injection e with e; subst e; exact hy.mono (Nat.le_trans hB h.1.1.size)), h'.2.2.1, h'.2.2.2⟩
theorem CpW.c2 {B : Nat} {W0 V : World} {g L : Nat} {q : Wx} {t : Wt} {lo : Option Rx} {th : Option (Sl × List Tx)} (h : CpW B W0 g L q t lo none th V) (hB : B ≤ W0.heap.size) {x : Rx} (hx : Zf W0 x t.hi L) (hL : L ≤ 17592186044000) :
  Calls Tryz.prog 26 #[rx x] V fun e w' => ∃ y : Rx, e = .returned (rx y) ∧ CpW B W0 g L q t lo (some y) th w' :=
 (rcopy_w (hx.step h.1.1) hL).mono fun e w' ⟨y, e1, hy, hb⟩ => by
  have h' := h.step hb
  exact ⟨y, e1, h'.1, h'.2.1, (fun z e => by injection e with e; subst e; exact hy.mono (Nat.le_trans hB h.1.1.size)), h'.2.2.2⟩
theorem CpW.c3 {B : Nat} {W0 V : World} {g L : Nat} {q : Wx} {t : Wt} {lo hi : Option Rx} (h : CpW B W0 g L q t lo hi none V) (hB : B ≤ W0.heap.size) {v : Value} {d : List Tx} (hx : Tl W0 v d t.zs L) (hL : L ≤ 17592186044000) (hn : d.length ≤ 1000000) :
  Calls Tryz.prog 27 #[v] V fun e w' => ∃ y : Sl × List Tx, e = .returned (sv y.1) ∧ CpW B W0 g L q t lo hi (some y) w' :=
 (copy_v (hx.step h.1.1) hL hn).mono fun e w' ⟨v1, d1, e1, t1, hb⟩ => by
  have h' := h.step hb
  obtain ⟨A5, n5, c5, rfl⟩ := rv_sl t1.tl.1
  exact ⟨((A5, n5, c5), d1), e1, h'.1, h'.2.1, h'.2.2.1, fun z e => by injection e with e; subst e; exact ⟨t1.1.mono (Nat.le_trans hB h.1.1.size), t1.2.1, fun i x z hx hz => ⟨(t1.2.2 i x z hx hz).1, (t1.2.2 i x z hx hz).2.mono (Nat.le_trans hB h.1.1.size)⟩⟩⟩
theorem CpW.all {B : Nat} {W0 V : World} {g L : Nat} {q : Wx} {t : Wt} {lo hi : Option Rx} {th : Option (Sl × List Tx)} (h : CpW B W0 g L q t lo hi th V) : V.cell? ⟨g, 0, none⟩ = some (.string q.nm) ∧ V.cell? ⟨g, 1, none⟩ = some (.bool q.a) ∧ V.cell? ⟨g, 2, none⟩ = some (.bool q.b) ∧ V.cell? ⟨g, 3, none⟩ = some (.bool q.lo.s) ∧ V.cell? ⟨g, 4, none⟩ = some (sv q.lo.u) ∧ V.cell? ⟨g, 5, none⟩ = some (sv q.lo.t) ∧ V.cell? ⟨g, 6, none⟩ = some (.bool q.hi.s) ∧ V.cell? ⟨g, 7, none⟩ = some (sv q.hi.u) ∧ V.cell? ⟨g, 8, none⟩ = some (sv q.hi.t) ∧ V.cell? ⟨g, 9, none⟩ = some (sv q.v) :=
 ⟨cell_of_row V g 0 _ _ _ h.1.2.2, cell_of_row V g 1 _ _ _ h.1.2.2, cell_of_row V g 2 _ _ _ h.1.2.2, cell_of_row V g 3 _ _ _ h.1.2.2, cell_of_row V g 4 _ _ _ h.1.2.2, cell_of_row V g 5 _ _ _ h.1.2.2, cell_of_row V g 6 _ _ _ h.1.2.2, cell_of_row V g 7 _ _ _ h.1.2.2, cell_of_row V g 8 _ _ _ h.1.2.2, cell_of_row V g 9 _ _ _ h.1.2.2⟩
theorem CpW.p1 {B : Nat} {W0 V : World} {g L : Nat} {q : Wx} {t : Wt} {hi : Option Rx} {th : Option (Sl × List Tx)} {y : Rx} (h : CpW B W0 g L q t (some y) hi th V) : ∃ V', (((V.setCell ⟨g, 3, none⟩ (.bool y.s)).setCell ⟨g, 4, none⟩ (sv y.u)).setCell ⟨g, 5, none⟩ (sv y.t)) = V' ∧ (V.cell? ⟨g, 3, none⟩ = some (.bool q.lo.s) ∧ V.cell? ⟨g, 4, none⟩ = some (sv q.lo.u) ∧ V.cell? ⟨g, 5, none⟩ = some (sv q.lo.t)) ∧ (V.frozen? ⟨g, 3, none⟩ = false ∧ V.frozen? ⟨g, 4, none⟩ = false ∧ V.frozen? ⟨g, 5, none⟩ = false) ∧ CpW B W0 g L { q with lo := y } t (some y) hi th V' := by
 have k0 : (V.setCell ⟨g, 3, none⟩ (.bool y.s)).heap[g]? = some (.cells #[.string q.nm, .bool q.a, .bool q.b, .bool y.s, sv q.lo.u, sv q.lo.t, .bool q.hi.s, sv q.hi.u, sv q.hi.t, sv q.v] 53 (0, 0)) := heap_setCell_same _ g 3 _ _ _ h.1.2.2
 have k1 : ((V.setCell ⟨g, 3, none⟩ (.bool y.s)).setCell ⟨g, 4, none⟩ (sv y.u)).heap[g]? = some (.cells #[.string q.nm, .bool q.a, .bool q.b, .bool y.s, sv y.u, sv q.lo.t, .bool q.hi.s, sv q.hi.u, sv q.hi.t, sv q.v] 53 (0, 0)) := heap_setCell_same _ g 4 _ _ _ k0
 have k2 : (((V.setCell ⟨g, 3, none⟩ (.bool y.s)).setCell ⟨g, 4, none⟩ (sv y.u)).setCell ⟨g, 5, none⟩ (sv y.t)).heap[g]? = some (.cells #[.string q.nm, .bool q.a, .bool q.b, .bool y.s, sv y.u, sv y.t, .bool q.hi.s, sv q.hi.u, sv q.hi.t, sv q.v] 53 (0, 0)) := heap_setCell_same _ g 5 _ _ _ k1
 have on := (only_set (p := ⟨g, 5, none⟩) (only_set (p := ⟨g, 4, none⟩) (only_set (p := ⟨g, 3, none⟩) (only_refl V (some g)) rfl (.bool y.s)) rfl (sv y.u)) rfl (sv y.t))
 refine ⟨_, rfl, ⟨cell_of_row V g 3 _ _ _ h.1.2.2, cell_of_row V g 4 _ _ _ h.1.2.2, cell_of_row V g 5 _ _ _ h.1.2.2⟩, ⟨frozen_of_row V g 3 _ _ h.1.2.2, frozen_of_row V g 4 _ _ h.1.2.2, frozen_of_row V g 5 _ _ h.1.2.2⟩, ⟨(((h.1.1.setCell h.1.2.1 _).setCell h.1.2.1 _).setCell h.1.2.1 _), h.1.2.1, k2⟩, fun z e => Zg.box (h.2.1 z e) on h.1.2.2 (by decide), fun z e => Zg.box (h.2.2.1 z e) on h.1.2.2 (by decide), fun z e => Tw.box (h.2.2.2 z e) on h.1.2.2 (by decide) (by decide)⟩
theorem CpW.p2 {B : Nat} {W0 V : World} {g L : Nat} {q : Wx} {t : Wt} {lo : Option Rx} {th : Option (Sl × List Tx)} {y : Rx} (h : CpW B W0 g L q t lo (some y) th V) : ∃ V', (((V.setCell ⟨g, 6, none⟩ (.bool y.s)).setCell ⟨g, 7, none⟩ (sv y.u)).setCell ⟨g, 8, none⟩ (sv y.t)) = V' ∧ (V.cell? ⟨g, 6, none⟩ = some (.bool q.hi.s) ∧ V.cell? ⟨g, 7, none⟩ = some (sv q.hi.u) ∧ V.cell? ⟨g, 8, none⟩ = some (sv q.hi.t)) ∧ (V.frozen? ⟨g, 6, none⟩ = false ∧ V.frozen? ⟨g, 7, none⟩ = false ∧ V.frozen? ⟨g, 8, none⟩ = false) ∧ CpW B W0 g L { q with hi := y } t lo (some y) th V' := by
 have k0 : (V.setCell ⟨g, 6, none⟩ (.bool y.s)).heap[g]? = some (.cells #[.string q.nm, .bool q.a, .bool q.b, .bool q.lo.s, sv q.lo.u, sv q.lo.t, .bool y.s, sv q.hi.u, sv q.hi.t, sv q.v] 53 (0, 0)) := heap_setCell_same _ g 6 _ _ _ h.1.2.2
 have k1 : ((V.setCell ⟨g, 6, none⟩ (.bool y.s)).setCell ⟨g, 7, none⟩ (sv y.u)).heap[g]? = some (.cells #[.string q.nm, .bool q.a, .bool q.b, .bool q.lo.s, sv q.lo.u, sv q.lo.t, .bool y.s, sv y.u, sv q.hi.t, sv q.v] 53 (0, 0)) := heap_setCell_same _ g 7 _ _ _ k0
 have k2 : (((V.setCell ⟨g, 6, none⟩ (.bool y.s)).setCell ⟨g, 7, none⟩ (sv y.u)).setCell ⟨g, 8, none⟩ (sv y.t)).heap[g]? = some (.cells #[.string q.nm, .bool q.a, .bool q.b, .bool q.lo.s, sv q.lo.u, sv q.lo.t, .bool y.s, sv y.u, sv y.t, sv q.v] 53 (0, 0)) := heap_setCell_same _ g 8 _ _ _ k1
 have on := (only_set (p := ⟨g, 8, none⟩) (only_set (p := ⟨g, 7, none⟩) (only_set (p := ⟨g, 6, none⟩) (only_refl V (some g)) rfl (.bool y.s)) rfl (sv y.u)) rfl (sv y.t))
 refine ⟨_, rfl, ⟨cell_of_row V g 6 _ _ _ h.1.2.2, cell_of_row V g 7 _ _ _ h.1.2.2, cell_of_row V g 8 _ _ _ h.1.2.2⟩, ⟨frozen_of_row V g 6 _ _ h.1.2.2, frozen_of_row V g 7 _ _ h.1.2.2, frozen_of_row V g 8 _ _ h.1.2.2⟩, ⟨(((h.1.1.setCell h.1.2.1 _).setCell h.1.2.1 _).setCell h.1.2.1 _), h.1.2.1, k2⟩, fun z e => Zg.box (h.2.1 z e) on h.1.2.2 (by decide), fun z e => Zg.box (h.2.2.1 z e) on h.1.2.2 (by decide), fun z e => Tw.box (h.2.2.2 z e) on h.1.2.2 (by decide) (by decide)⟩
theorem CpW.p3 {B : Nat} {W0 V : World} {g L : Nat} {q : Wx} {t : Wt} {lo : Option Rx} {hi : Option Rx} {y : (Sl × List Tx)} (h : CpW B W0 g L q t lo hi (some y) V) : ∃ V', (V.setCell ⟨g, 9, none⟩ (sv y.1)) = V' ∧ V.cell? ⟨g, 9, none⟩ = some (sv q.v) ∧ V.frozen? ⟨g, 9, none⟩ = false ∧ CpW B W0 g L { q with v := y.1, d := y.2 } t lo hi (some y) V' := by
 have k0 : (V.setCell ⟨g, 9, none⟩ (sv y.1)).heap[g]? = some (.cells #[.string q.nm, .bool q.a, .bool q.b, .bool q.lo.s, sv q.lo.u, sv q.lo.t, .bool q.hi.s, sv q.hi.u, sv q.hi.t, sv y.1] 53 (0, 0)) := heap_setCell_same _ g 9 _ _ _ h.1.2.2
 have on := (only_set (p := ⟨g, 9, none⟩) (only_refl V (some g)) rfl (sv y.1))
 exact ⟨_, rfl, cell_of_row V g 9 _ _ _ h.1.2.2, frozen_of_row V g 9 _ _ h.1.2.2, ⟨(h.1.1.setCell h.1.2.1 _), h.1.2.1, k0⟩, fun z e => Zg.box (h.2.1 z e) on h.1.2.2 (by decide), fun z e => Zg.box (h.2.2.1 z e) on h.1.2.2 (by decide), fun z e => Tw.box (h.2.2.2 z e) on h.1.2.2 (by decide) (by decide)⟩
theorem CpW.start {B : Nat} {W0 : World} {L : Nat} (q : Wx) (t : Wt) : CpW B W0 W0.heap.size L q t none none none (W0.alloc (wbox q)).drew :=
 ⟨⟨(alloc_below W0 (wbox q)).drew, Nat.le_refl _, heap_alloc_new W0 _⟩, (fun y e => by cases e), (fun y e => by cases e), (fun y e => by cases e)⟩
def CpU (B : Nat) (W0 : World) (g L : Nat) (q : Ux) (t : Ut) (lo hi : Option Rx) (th : Option Rx) (V : World) : Prop :=
 (Below W0.heap.size W0 V ∧ W0.heap.size ≤ g ∧ V.heap[g]? = some (ubox q)) ∧ (∀ y, lo = some y → Zg V B y t.lo L) ∧ (∀ y, hi = some y → Zg V B y t.hi L) ∧ ∀ y, th = some y → Zg V B y t.co L
theorem CpU.step {B : Nat} {W0 V V' : World} {g L : Nat} {q : Ux} {t : Ut} {lo hi : Option Rx} {th : Option Rx} (h : CpU B W0 g L q t lo hi th V) (hb : Below V.heap.size V V') : CpU B W0 g L q t lo hi th V' :=
 ⟨⟨Below.step h.1.1 h.1.1.size hb, h.1.2.1, (hb.block g (Array.getElem?_eq_some_iff.1 h.1.2.2).1).trans h.1.2.2⟩, fun y e => (h.2.1 y e).step hb, fun y e => (h.2.2.1 y e).step hb, fun y e => (h.2.2.2 y e).step hb⟩
theorem CpU.c1 {B : Nat} {W0 V : World} {g L : Nat} {q : Ux} {t : Ut} {hi : Option Rx} {th : Option Rx} (h : CpU B W0 g L q t none hi th V) (hB : B ≤ W0.heap.size) {x : Rx} (hx : Zf W0 x t.lo L) (hL : L ≤ 17592186044000) :
  Calls Tryz.prog 26 #[rx x] V fun e w' => ∃ y : Rx, e = .returned (rx y) ∧ CpU B W0 g L q t (some y) hi th w' :=
 (rcopy_w (hx.step h.1.1) hL).mono fun e w' ⟨y, e1, hy, hb⟩ => by
  have h' := h.step hb
  exact ⟨y, e1, h'.1, (fun z e => by injection e with e; subst e; exact hy.mono (Nat.le_trans hB h.1.1.size)), h'.2.2.1, h'.2.2.2⟩
theorem CpU.c2 {B : Nat} {W0 V : World} {g L : Nat} {q : Ux} {t : Ut} {lo : Option Rx} {th : Option Rx} (h : CpU B W0 g L q t lo none th V) (hB : B ≤ W0.heap.size) {x : Rx} (hx : Zf W0 x t.hi L) (hL : L ≤ 17592186044000) :
  Calls Tryz.prog 26 #[rx x] V fun e w' => ∃ y : Rx, e = .returned (rx y) ∧ CpU B W0 g L q t lo (some y) th w' :=
 (rcopy_w (hx.step h.1.1) hL).mono fun e w' ⟨y, e1, hy, hb⟩ => by
  have h' := h.step hb
  exact ⟨y, e1, h'.1, h'.2.1, (fun z e => by injection e with e; subst e; exact hy.mono (Nat.le_trans hB h.1.1.size)), h'.2.2.2⟩
theorem CpU.c3 {B : Nat} {W0 V : World} {g L : Nat} {q : Ux} {t : Ut} {lo : Option Rx} {hi : Option Rx} (h : CpU B W0 g L q t lo hi none V) (hB : B ≤ W0.heap.size) {x : Rx} (hx : Zf W0 x t.co L) (hL : L ≤ 17592186044000) :
  Calls Tryz.prog 26 #[rx x] V fun e w' => ∃ y : Rx, e = .returned (rx y) ∧ CpU B W0 g L q t lo hi (some y) w' :=
 (rcopy_w (hx.step h.1.1) hL).mono fun e w' ⟨y, e1, hy, hb⟩ => by
  have h' := h.step hb
  exact ⟨y, e1, h'.1, h'.2.1, h'.2.2.1, (fun z e => by injection e with e; subst e; exact hy.mono (Nat.le_trans hB h.1.1.size))⟩
theorem CpU.all {B : Nat} {W0 V : World} {g L : Nat} {q : Ux} {t : Ut} {lo hi : Option Rx} {th : Option Rx} (h : CpU B W0 g L q t lo hi th V) : V.cell? ⟨g, 0, none⟩ = some (.string q.nm) ∧ V.cell? ⟨g, 1, none⟩ = some (.bool q.w) ∧ V.cell? ⟨g, 2, none⟩ = some (.bool q.a) ∧ V.cell? ⟨g, 3, none⟩ = some (.bool q.b) ∧ V.cell? ⟨g, 4, none⟩ = some (.bool q.lo.s) ∧ V.cell? ⟨g, 5, none⟩ = some (sv q.lo.u) ∧ V.cell? ⟨g, 6, none⟩ = some (sv q.lo.t) ∧ V.cell? ⟨g, 7, none⟩ = some (.bool q.hi.s) ∧ V.cell? ⟨g, 8, none⟩ = some (sv q.hi.u) ∧ V.cell? ⟨g, 9, none⟩ = some (sv q.hi.t) ∧ V.cell? ⟨g, 10, none⟩ = some (.bool q.co.s) ∧ V.cell? ⟨g, 11, none⟩ = some (sv q.co.u) ∧ V.cell? ⟨g, 12, none⟩ = some (sv q.co.t) :=
 ⟨cell_of_row V g 0 _ _ _ h.1.2.2, cell_of_row V g 1 _ _ _ h.1.2.2, cell_of_row V g 2 _ _ _ h.1.2.2, cell_of_row V g 3 _ _ _ h.1.2.2, cell_of_row V g 4 _ _ _ h.1.2.2, cell_of_row V g 5 _ _ _ h.1.2.2, cell_of_row V g 6 _ _ _ h.1.2.2, cell_of_row V g 7 _ _ _ h.1.2.2, cell_of_row V g 8 _ _ _ h.1.2.2, cell_of_row V g 9 _ _ _ h.1.2.2, cell_of_row V g 10 _ _ _ h.1.2.2, cell_of_row V g 11 _ _ _ h.1.2.2, cell_of_row V g 12 _ _ _ h.1.2.2⟩
theorem CpU.p1 {B : Nat} {W0 V : World} {g L : Nat} {q : Ux} {t : Ut} {hi : Option Rx} {th : Option Rx} {y : Rx} (h : CpU B W0 g L q t (some y) hi th V) : ∃ V', (((V.setCell ⟨g, 4, none⟩ (.bool y.s)).setCell ⟨g, 5, none⟩ (sv y.u)).setCell ⟨g, 6, none⟩ (sv y.t)) = V' ∧ (V.cell? ⟨g, 4, none⟩ = some (.bool q.lo.s) ∧ V.cell? ⟨g, 5, none⟩ = some (sv q.lo.u) ∧ V.cell? ⟨g, 6, none⟩ = some (sv q.lo.t)) ∧ (V.frozen? ⟨g, 4, none⟩ = false ∧ V.frozen? ⟨g, 5, none⟩ = false ∧ V.frozen? ⟨g, 6, none⟩ = false) ∧ CpU B W0 g L { q with lo := y } t (some y) hi th V' := by
 have k0 : (V.setCell ⟨g, 4, none⟩ (.bool y.s)).heap[g]? = some (.cells #[.string q.nm, .bool q.w, .bool q.a, .bool q.b, .bool y.s, sv q.lo.u, sv q.lo.t, .bool q.hi.s, sv q.hi.u, sv q.hi.t, .bool q.co.s, sv q.co.u, sv q.co.t] 43 (0, 0)) := heap_setCell_same _ g 4 _ _ _ h.1.2.2
 have k1 : ((V.setCell ⟨g, 4, none⟩ (.bool y.s)).setCell ⟨g, 5, none⟩ (sv y.u)).heap[g]? = some (.cells #[.string q.nm, .bool q.w, .bool q.a, .bool q.b, .bool y.s, sv y.u, sv q.lo.t, .bool q.hi.s, sv q.hi.u, sv q.hi.t, .bool q.co.s, sv q.co.u, sv q.co.t] 43 (0, 0)) := heap_setCell_same _ g 5 _ _ _ k0
 have k2 : (((V.setCell ⟨g, 4, none⟩ (.bool y.s)).setCell ⟨g, 5, none⟩ (sv y.u)).setCell ⟨g, 6, none⟩ (sv y.t)).heap[g]? = some (.cells #[.string q.nm, .bool q.w, .bool q.a, .bool q.b, .bool y.s, sv y.u, sv y.t, .bool q.hi.s, sv q.hi.u, sv q.hi.t, .bool q.co.s, sv q.co.u, sv q.co.t] 43 (0, 0)) := heap_setCell_same _ g 6 _ _ _ k1
 have on := (only_set (p := ⟨g, 6, none⟩) (only_set (p := ⟨g, 5, none⟩) (only_set (p := ⟨g, 4, none⟩) (only_refl V (some g)) rfl (.bool y.s)) rfl (sv y.u)) rfl (sv y.t))
 refine ⟨_, rfl, ⟨cell_of_row V g 4 _ _ _ h.1.2.2, cell_of_row V g 5 _ _ _ h.1.2.2, cell_of_row V g 6 _ _ _ h.1.2.2⟩, ⟨frozen_of_row V g 4 _ _ h.1.2.2, frozen_of_row V g 5 _ _ h.1.2.2, frozen_of_row V g 6 _ _ h.1.2.2⟩, ⟨(((h.1.1.setCell h.1.2.1 _).setCell h.1.2.1 _).setCell h.1.2.1 _), h.1.2.1, k2⟩, fun z e => Zg.box (h.2.1 z e) on h.1.2.2 (by decide), fun z e => Zg.box (h.2.2.1 z e) on h.1.2.2 (by decide), fun z e => Zg.box (h.2.2.2 z e) on h.1.2.2 (by decide)⟩
theorem CpU.p2 {B : Nat} {W0 V : World} {g L : Nat} {q : Ux} {t : Ut} {lo : Option Rx} {th : Option Rx} {y : Rx} (h : CpU B W0 g L q t lo (some y) th V) : ∃ V', (((V.setCell ⟨g, 7, none⟩ (.bool y.s)).setCell ⟨g, 8, none⟩ (sv y.u)).setCell ⟨g, 9, none⟩ (sv y.t)) = V' ∧ (V.cell? ⟨g, 7, none⟩ = some (.bool q.hi.s) ∧ V.cell? ⟨g, 8, none⟩ = some (sv q.hi.u) ∧ V.cell? ⟨g, 9, none⟩ = some (sv q.hi.t)) ∧ (V.frozen? ⟨g, 7, none⟩ = false ∧ V.frozen? ⟨g, 8, none⟩ = false ∧ V.frozen? ⟨g, 9, none⟩ = false) ∧ CpU B W0 g L { q with hi := y } t lo (some y) th V' := by
 have k0 : (V.setCell ⟨g, 7, none⟩ (.bool y.s)).heap[g]? = some (.cells #[.string q.nm, .bool q.w, .bool q.a, .bool q.b, .bool q.lo.s, sv q.lo.u, sv q.lo.t, .bool y.s, sv q.hi.u, sv q.hi.t, .bool q.co.s, sv q.co.u, sv q.co.t] 43 (0, 0)) := heap_setCell_same _ g 7 _ _ _ h.1.2.2
 have k1 : ((V.setCell ⟨g, 7, none⟩ (.bool y.s)).setCell ⟨g, 8, none⟩ (sv y.u)).heap[g]? = some (.cells #[.string q.nm, .bool q.w, .bool q.a, .bool q.b, .bool q.lo.s, sv q.lo.u, sv q.lo.t, .bool y.s, sv y.u, sv q.hi.t, .bool q.co.s, sv q.co.u, sv q.co.t] 43 (0, 0)) := heap_setCell_same _ g 8 _ _ _ k0
 have k2 : (((V.setCell ⟨g, 7, none⟩ (.bool y.s)).setCell ⟨g, 8, none⟩ (sv y.u)).setCell ⟨g, 9, none⟩ (sv y.t)).heap[g]? = some (.cells #[.string q.nm, .bool q.w, .bool q.a, .bool q.b, .bool q.lo.s, sv q.lo.u, sv q.lo.t, .bool y.s, sv y.u, sv y.t, .bool q.co.s, sv q.co.u, sv q.co.t] 43 (0, 0)) := heap_setCell_same _ g 9 _ _ _ k1
 have on := (only_set (p := ⟨g, 9, none⟩) (only_set (p := ⟨g, 8, none⟩) (only_set (p := ⟨g, 7, none⟩) (only_refl V (some g)) rfl (.bool y.s)) rfl (sv y.u)) rfl (sv y.t))
 refine ⟨_, rfl, ⟨cell_of_row V g 7 _ _ _ h.1.2.2, cell_of_row V g 8 _ _ _ h.1.2.2, cell_of_row V g 9 _ _ _ h.1.2.2⟩, ⟨frozen_of_row V g 7 _ _ h.1.2.2, frozen_of_row V g 8 _ _ h.1.2.2, frozen_of_row V g 9 _ _ h.1.2.2⟩, ⟨(((h.1.1.setCell h.1.2.1 _).setCell h.1.2.1 _).setCell h.1.2.1 _), h.1.2.1, k2⟩, fun z e => Zg.box (h.2.1 z e) on h.1.2.2 (by decide), fun z e => Zg.box (h.2.2.1 z e) on h.1.2.2 (by decide), fun z e => Zg.box (h.2.2.2 z e) on h.1.2.2 (by decide)⟩
theorem CpU.p3 {B : Nat} {W0 V : World} {g L : Nat} {q : Ux} {t : Ut} {lo : Option Rx} {hi : Option Rx} {y : Rx} (h : CpU B W0 g L q t lo hi (some y) V) : ∃ V', (((V.setCell ⟨g, 10, none⟩ (.bool y.s)).setCell ⟨g, 11, none⟩ (sv y.u)).setCell ⟨g, 12, none⟩ (sv y.t)) = V' ∧ (V.cell? ⟨g, 10, none⟩ = some (.bool q.co.s) ∧ V.cell? ⟨g, 11, none⟩ = some (sv q.co.u) ∧ V.cell? ⟨g, 12, none⟩ = some (sv q.co.t)) ∧ (V.frozen? ⟨g, 10, none⟩ = false ∧ V.frozen? ⟨g, 11, none⟩ = false ∧ V.frozen? ⟨g, 12, none⟩ = false) ∧ CpU B W0 g L { q with co := y } t lo hi (some y) V' := by
 have k0 : (V.setCell ⟨g, 10, none⟩ (.bool y.s)).heap[g]? = some (.cells #[.string q.nm, .bool q.w, .bool q.a, .bool q.b, .bool q.lo.s, sv q.lo.u, sv q.lo.t, .bool q.hi.s, sv q.hi.u, sv q.hi.t, .bool y.s, sv q.co.u, sv q.co.t] 43 (0, 0)) := heap_setCell_same _ g 10 _ _ _ h.1.2.2
 have k1 : ((V.setCell ⟨g, 10, none⟩ (.bool y.s)).setCell ⟨g, 11, none⟩ (sv y.u)).heap[g]? = some (.cells #[.string q.nm, .bool q.w, .bool q.a, .bool q.b, .bool q.lo.s, sv q.lo.u, sv q.lo.t, .bool q.hi.s, sv q.hi.u, sv q.hi.t, .bool y.s, sv y.u, sv q.co.t] 43 (0, 0)) := heap_setCell_same _ g 11 _ _ _ k0
 have k2 : (((V.setCell ⟨g, 10, none⟩ (.bool y.s)).setCell ⟨g, 11, none⟩ (sv y.u)).setCell ⟨g, 12, none⟩ (sv y.t)).heap[g]? = some (.cells #[.string q.nm, .bool q.w, .bool q.a, .bool q.b, .bool q.lo.s, sv q.lo.u, sv q.lo.t, .bool q.hi.s, sv q.hi.u, sv q.hi.t, .bool y.s, sv y.u, sv y.t] 43 (0, 0)) := heap_setCell_same _ g 12 _ _ _ k1
 have on := (only_set (p := ⟨g, 12, none⟩) (only_set (p := ⟨g, 11, none⟩) (only_set (p := ⟨g, 10, none⟩) (only_refl V (some g)) rfl (.bool y.s)) rfl (sv y.u)) rfl (sv y.t))
 refine ⟨_, rfl, ⟨cell_of_row V g 10 _ _ _ h.1.2.2, cell_of_row V g 11 _ _ _ h.1.2.2, cell_of_row V g 12 _ _ _ h.1.2.2⟩, ⟨frozen_of_row V g 10 _ _ h.1.2.2, frozen_of_row V g 11 _ _ h.1.2.2, frozen_of_row V g 12 _ _ h.1.2.2⟩, ⟨(((h.1.1.setCell h.1.2.1 _).setCell h.1.2.1 _).setCell h.1.2.1 _), h.1.2.1, k2⟩, fun z e => Zg.box (h.2.1 z e) on h.1.2.2 (by decide), fun z e => Zg.box (h.2.2.1 z e) on h.1.2.2 (by decide), fun z e => Zg.box (h.2.2.2 z e) on h.1.2.2 (by decide)⟩
theorem CpU.start {B : Nat} {W0 : World} {L : Nat} (q : Ux) (t : Ut) : CpU B W0 W0.heap.size L q t none none none (W0.alloc (ubox q)).drew :=
 ⟨⟨(alloc_below W0 (ubox q)).drew, Nat.le_refl _, heap_alloc_new W0 _⟩, (fun y e => by cases e), (fun y e => by cases e), (fun y e => by cases e)⟩
end Go.Proofs.YtnhlomphdighnaaGreat
