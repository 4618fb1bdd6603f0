/-
  Shared texts, one behind the other: Pm1, Pmath, Pm3, Pm4, Pm5, Pm6, Pm7.
-/
import Derived.Test.YtnhlomphdighnaaGreatBundleM
import Derived.Deep.RegionHeld3
import Derived.Test.YtnhlomphdighnaaGreatBundleO
import Derived.Test.YtnhlomphdighnaaGreatKref8
import Derived.Test.YtnhlomphdighnaaGreatKdrw
import Derived.Test.YtnhlomphdighnaaGreatBundleQ

namespace Go.Proofs.YtnhlomphdighnaaGreat
open Go.RowKit Go.Proofs.YtnhlomphdighnaaGreat.Num
set_option linter.unusedVariables false
set_option linter.unusedSimpArgs false
set_option maxRecDepth 100000
structure Wx where
 nm : ByteArray
 a : Bool
 b : Bool
 lo : Rx
 hi : Rx
 v : Sl
 d : List Tx
structure Ux where
 nm : ByteArray
 w : Bool
 a : Bool
 b : Bool
 lo : Rx
 hi : Rx
 co : Rx
instance : Inhabited Wx := ⟨⟨default, false, false, default, default, (none, 0, 0), []⟩⟩
instance : Inhabited Ux := ⟨⟨default, false, false, false, default, default, default⟩⟩
def ew (r : Wx) : List Value := [.string r.nm, .bool r.a, .bool r.b, .bool r.lo.s, sv r.lo.u, sv r.lo.t, .bool r.hi.s, sv r.hi.u, sv r.hi.t, sv r.v]
def eu (x : Ux) : List Value := [.string x.nm, .bool x.w, .bool x.a, .bool x.b, .bool x.lo.s, sv x.lo.u, sv x.lo.t, .bool x.hi.s, sv x.hi.u, sv x.hi.t, .bool x.co.s, sv x.co.u, sv x.co.t]
theorem ew_len (r : Wx) : (ew r).length = 10 := rfl
theorem eu_len (x : Ux) : (eu x).length = 13 := rfl
theorem ew_one (r : Wx) : ∀ u ∈ ew r, u.oneCell' = true := by
 intro u hu
 simp [ew] at hu
 rcases hu with rfl | rfl | rfl | rfl | rfl | rfl | rfl | rfl | rfl | rfl <;> rfl
theorem eu_one (x : Ux) : ∀ u ∈ eu x, u.oneCell' = true := by
 intro u hu
 simp [eu] at hu
 rcases hu with rfl | rfl | rfl | rfl | rfl | rfl | rfl | rfl | rfl | rfl | rfl | rfl | rfl <;> rfl
structure Px where
 nm : ByteArray
 ob : ByteArray
 R : Sl
 rows : List Wx
 V : Sl
 vars : List Ux
abbrev px (p : Px) : Value := .agg #[.string p.nm, .string p.ob, sv p.R, sv p.V]
abbrev pbox (p : Px) : Obj := .cells #[.string p.nm, .string p.ob, sv p.R, sv p.V] 25
abbrev wx_ (r : Wx) : Value := .agg #[.string r.nm, .bool r.a, .bool r.b, .bool r.lo.s, sv r.lo.u, sv r.lo.t, .bool r.hi.s, sv r.hi.u, sv r.hi.t, sv r.v]
abbrev ux_ (x : Ux) : Value := .agg #[.string x.nm, .bool x.w, .bool x.a, .bool x.b, .bool x.lo.s, sv x.lo.u, sv x.lo.t, .bool x.hi.s, sv x.hi.u, sv x.hi.t, .bool x.co.s, sv x.co.u, sv x.co.t]
abbrev wbox (r : Wx) : Obj := .cells #[.string r.nm, .bool r.a, .bool r.b, .bool r.lo.s, sv r.lo.u, sv r.lo.t, .bool r.hi.s, sv r.hi.u, sv r.hi.t, sv r.v] 53
abbrev ubox (x : Ux) : Obj := .cells #[.string x.nm, .bool x.w, .bool x.a, .bool x.b, .bool x.lo.s, sv x.lo.u, sv x.lo.t, .bool x.hi.s, sv x.hi.u, sv x.hi.t, .bool x.co.s, sv x.co.u, sv x.co.t] 43
def Pq (W : World) (g : Nat) (p : Px) : Prop := W.heap[g]? = some (pbox p)
theorem Pq.new (w : World) (p : Px) : Pq (w.alloc (pbox p)) w.heap.size p := heap_alloc_new w _
theorem Pq.lt {W : World} {g : Nat} {p : Px} (h : Pq W g p) : g < W.heap.size := by unfold Pq at h; exact (Array.getElem?_eq_some_iff.1 h).1
theorem Pq.step {W W' : World} {g : Nat} {p : Px} (h : Pq W g p) (hb : Below W.heap.size W W') : Pq W' g p := (hb.block g h.lt).trans h
theorem Pq.all {W : World} {g : Nat} {p : Px} (h : Pq W g p) : W.cell? ⟨g, 0, none⟩ = some (.string p.nm) ∧ W.cell? ⟨g, 1, none⟩ = some (.string p.ob) ∧ W.cell? ⟨g, 2, none⟩ = some (sv p.R) ∧ W.cell? ⟨g, 3, none⟩ = some (sv p.V) :=
 ⟨cell_of_row W g 0 _ _ _ h, cell_of_row W g 1 _ _ _ h, cell_of_row W g 2 _ _ _ h, cell_of_row W g 3 _ _ _ h⟩
def Wv (W : World) (r : Wx) (L : Nat) : Prop := Tv W (sv r.v) r.d L ∧ Ra W (rx r.lo) r.lo.r L ∧ Ra W (rx r.hi) r.hi.r L
def Uv (W : World) (x : Ux) (L : Nat) : Prop := Ra W (rx x.lo) x.lo.r L ∧ Ra W (rx x.hi) x.hi.r L ∧ Ra W (rx x.co) x.co.r L
theorem Wv.step {W W' : World} {r : Wx} {L : Nat} (h : Wv W r L) (hb : Below W.heap.size W W') : Wv W' r L := ⟨h.1.step hb, h.2.1.step hb, h.2.2.step hb⟩
theorem Uv.step {W W' : World} {x : Ux} {L : Nat} (h : Uv W x L) (hb : Below W.heap.size W W') : Uv W' x L := ⟨h.1.step hb, h.2.1.step hb, h.2.2.step hb⟩
def Pv (W : World) (p : Px) (L : Nat) : Prop := (Lr ew 10 W (sv p.R) p.rows ∧ ∀ r ∈ p.rows, Wv W r L) ∧ Lr eu 13 W (sv p.V) p.vars ∧ ∀ x ∈ p.vars, Uv W x L
theorem Pv.step {W W' : World} {p : Px} {L : Nat} (h : Pv W p L) (hb : Below W.heap.size W W') : Pv W' p L :=
 ⟨⟨h.1.1.step hb, fun r hr => (h.1.2 r hr).step hb⟩, h.2.1.step hb, fun x hx => (h.2.2 x hx).step hb⟩
def WsOk (r : Wx) : Prop := r.d.length ≤ 30 ∧ (∀ t ∈ r.d, t.x.u.2.1 + t.x.t.2.1 ≤ 6) ∧ r.lo.u.2.1 + r.lo.t.2.1 ≤ 6 ∧ r.hi.u.2.1 + r.hi.t.2.1 ≤ 6
def UsOk (x : Ux) : Prop := x.lo.u.2.1 + x.lo.t.2.1 ≤ 6 ∧ x.hi.u.2.1 + x.hi.t.2.1 ≤ 6 ∧ x.co.u.2.1 + x.co.t.2.1 ≤ 6
theorem Ra.six {W : World} {x : Rx} {r : Rat} {L : Nat} (h : Ra W (rx x) r L) (hx : x.u.2.1 + x.t.2.1 ≤ 6) : Ra W (rx x) r 6 := h.tight (by omega) (by omega)
theorem Wv.tight {W : World} {r : Wx} {L : Nat} (h : Wv W r L) (hk : WsOk r) : Wv W r 6 := ⟨h.1.tight hk.2.1, h.2.1.six hk.2.2.1, h.2.2.six hk.2.2.2⟩
theorem Uv.tight {W : World} {x : Ux} {L : Nat} (h : Uv W x L) (hk : UsOk x) : Uv W x 6 := ⟨h.1.six hk.1, h.2.1.six hk.2.1, h.2.2.six hk.2.2⟩
def PsOk (p : Px) : Prop := p.rows.length ≤ 70 ∧ p.vars.length ≤ 50 ∧ (∀ r ∈ p.rows, WsOk r) ∧ ∀ x ∈ p.vars, UsOk x
theorem Pv.tight {W : World} {p : Px} {L : Nat} (h : Pv W p L) (hk : PsOk p) : Pv W p 6 := ⟨⟨h.1.1, fun r hr => (h.1.2 r hr).tight (hk.2.2.1 r hr)⟩, h.2.1, fun x hx => (h.2.2 x hx).tight (hk.2.2.2 x hx)⟩
def Bnd (a b : Bool) (lo hi q : Rat) : Prop := (a = true → lo ≤ q) ∧ (b = true → q ≤ hi)
def Hlds (p : Px) (f : Int → Rat) : Prop := (∀ (i : Nat) x, p.vars[i]? = some x → Bnd x.a x.b x.lo.r x.hi.r (f (i : Int)) ∧ (x.w = true → Isw (f (i : Int)))) ∧ ∀ r ∈ p.rows, Bnd r.a r.b r.lo.r r.hi.r (dt (tms r.d) f)
abbrev Cr := Int × (Int → Rat) × Rat
def Crel (k : Kx) (t : Cr) : Prop := k.s = t.1 ∧ Fm (tms k.d) ∧ (∀ c, 0 ≤ c → gsum (tms k.d) c = t.2.1 c) ∧ k.x.r = t.2.2
def Crs : List Kx → List Cr → Prop
 | [], [] => True
 | k :: l, t :: ts => Crel k t ∧ Crs l ts
 | _, _ => False
theorem Crs.append {l m : List Kx} {ts us : List Cr} (h : Crs l ts) (k : Crs m us) : Crs (l ++ m) (ts ++ us) := by
 induction l generalizing ts with
 | nil => cases ts with
  | nil => exact k
  | cons t ts => exact h.elim
 | cons x l ih => cases ts with
  | nil => exact h.elim
  | cons t ts => exact ⟨h.1, ih h.2⟩
theorem Crs.len {l : List Kx} {ts : List Cr} (h : Crs l ts) : l.length = ts.length := by
 induction l generalizing ts with
 | nil => cases ts with
  | nil => rfl
  | cons t ts => exact h.elim
 | cons x l ih => cases ts with
  | nil => exact h.elim
  | cons t ts => simp [ih h.2]
theorem Crs.at_ {l : List Kx} {ts : List Cr} (h : Crs l ts) {i : Nat} {k : Kx} {t : Cr} (hk : l[i]? = some k) (ht : ts[i]? = some t) : Crel k t := by
 induction l generalizing ts i with
 | nil => simp at hk
 | cons x l ih => cases ts with
  | nil => exact h.elim
  | cons u ts => cases i with
   | zero => simp at hk ht; subst hk ht; exact h.1
   | succ i => exact ih h.2 (by simpa using hk) (by simpa using ht)
def crb (a b : Bool) (g : Int → Rat) (lo hi : Rat) : List Cr := (if a = true then [(2, g, lo)] else []) ++ (if b = true then [(1, g, hi)] else [])
def grow (n : Nat) (r : Wx) (c : Int) : Rat := if c < (n : Int) then gsum (tms r.d) c else 0
def gone (i : Nat) (c : Int) : Rat := if c = (i : Int) then 1 else 0
def crow (n : Nat) (r : Wx) : List Cr := if r.a = true ∧ r.b = true ∧ r.lo.r = r.hi.r then [(3, grow n r, r.lo.r)] else crb r.a r.b (grow n r) r.lo.r r.hi.r
def cvar (i : Nat) (x : Ux) : List Cr := crb x.a x.b (gone i) x.lo.r x.hi.r
def crows (n : Nat) (rs : List Wx) (k : Nat) : List Cr := (rs.take k).flatMap (crow n)
def cvars (xs : List Ux) (k : Nat) : List Cr := (List.range k).flatMap (fun i => cvar i (xs.getD i default))
theorem crows_next {n : Nat} {rs : List Wx} {k : Nat} {r : Wx} (h : rs[k]? = some r) : crows n rs (k + 1) = crows n rs k ++ crow n r := by
 unfold crows
 rw [List.take_add_one, h]
 simp
theorem cvars_next {xs : List Ux} {k : Nat} {x : Ux} (h : xs[k]? = some x) : cvars xs (k + 1) = cvars xs k ++ cvar k x := by
 unfold cvars
 rw [List.range_succ, List.flatMap_append]
 congr 1
 simp [List.getD_eq_getElem?_getD, h]
theorem crb_len (a b : Bool) (g : Int → Rat) (lo hi : Rat) : (crb a b g lo hi).length ≤ 2 := by
 unfold crb
 cases a <;> cases b <;> simp
theorem crow_len (n : Nat) (r : Wx) : (crow n r).length ≤ 2 := by
 unfold crow
 split
 ·simp
 ·exact crb_len _ _ _ _ _
def cprob (p : Px) : List Cr := crows p.vars.length p.rows p.rows.length ++ cvars p.vars p.vars.length
set_option maxHeartbeats 4000000 in
theorem index_w {g gp : Nat} {w : World} {v : Value} {d : List Wx} (p : Wx → Prop) (eg : ∀ args w, (callFunc g args).run Tryz.prog w = .ok (.enter g args) w) (hv : Lr ew 10 w v d)
  (hg : ∀ W, Below w.heap.size w W → ∀ x ∈ d, Calls Tryz.prog g #[.agg (ew x).toArray, .pointer (some ⟨gp, 0, none⟩)] W fun e W' => BRet (p x) e ∧ Below W.heap.size W W') :
  Calls Tryz.prog 79 #[v, .func (.func g) #[] #[.pointer (some ⟨gp, 0, none⟩)]] w fun e w' => Below w.heap.size w w' ∧
   ((∃ k : Nat, e = .returned (.int .i64 (k : Int)) ∧ ∃ x ∈ d, p x) ∨ (e = .returned (.int .i64 (-1)) ∧ ∀ x ∈ d, ¬ p x)) := by
 obtain ⟨A, c, rfl, hc1, hc2, hc3⟩ := id hv
 have HV := hide hv
 have HG := hide hg
 obtain ⟨n, hlen⟩ : ∃ n, n = d.length := ⟨_, rfl⟩
 rw [← hlen] at HV hc1 ⊢
 have HN := hide hlen
 unfold maxLen at hc2
 clear hv hg hc3 hlen
 go_enter Tryz.func79, Tryz.ntmps79
 go_wp2_with fail
 go_loopw [8] (fun iv wr => ∃ k : Nat, k ≤ n ∧ iv = .int .i64 (k : Int) ∧ Hid (Below w.heap.size w wr) ∧ Hid (∀ j x, j < k → d[j]? = some x → ¬ p x)) (fun iv _ => n - (intOf iv).toNat)
 case atStart => exact ⟨0, Nat.zero_le _, rfl, hide (Below.refl _ _), hide (fun j x h => by omega)⟩
 case round =>
  obtain ⟨k, hk, rfl, B, P⟩ := hrel
  by_cases hlt : k < n
  ·obtain ⟨t, ht⟩ := len_of (d := d) (k := k) (by rw [← HN.out]; exact hlt)
   have HC := hide (HG.out wr B.out t (List.mem_of_getElem? ht))
   obtain ⟨b, off, rfl, hb, hc⟩ := (HV.out.step B.out).get ht
   have c0 := hc 0 _ rfl
   have c1 := hc 1 _ rfl
   have c2 := hc 2 _ rfl
   have c3 := hc 3 _ rfl
   have c4 := hc 4 _ rfl
   have c5 := hc 5 _ rfl
   have c6 := hc 6 _ rfl
   have c7 := hc 7 _ rfl
   have c8 := hc 8 _ rfl
   have c9 := hc 9 _ rfl
   rw [Nat.add_zero] at c0
   have l0 : (0 : Int) ≤ (k : Int) := by omega
   have l1 : (k : Int) < (n : Int) := by omega
   have HT := hide ht
   have hcall : Calls Tryz.prog g #[.agg #[.string t.nm, .bool t.a, .bool t.b, .bool t.lo.s, sv t.lo.u, sv t.lo.t, .bool t.hi.s, sv t.hi.u, sv t.hi.t, sv t.v], .pointer (some ⟨gp, 0, none⟩)] wr fun e W' => BRet (p t) e ∧ Below wr.heap.size wr W' := HC.out
   have HC2 := hide hcall
   clear hc hb ht hcall HC
   go_wp2_with (go_at_fn g; refine HC2.out.mono ?_; rintro e w3 ⟨⟨b9, rfl, hb9⟩, bx⟩; have H9 := hide hb9; have B9 := hide (Below.step B.out B.out.size bx); clear hb9 bx; cases b9)
   ·exact ⟨⟨k + 1, by omega, by go_num, B9, hide (fun j x hj hx => by
     by_cases h : j = k
     ·subst h
      rw [HT.out] at hx
      injection hx with hx
      subst hx
      exact fun e => absurd (H9.out.2 e) (by simp)
     ·exact P.out j x (by omega) hx)⟩, by simp [intOf]; omega⟩
   ·go_ret
    exact ⟨B9.out, .inl ⟨k, rfl, t, List.mem_of_getElem? HT.out, H9.out.1 (by simp)⟩⟩
  ·obtain rfl : k = n := by omega
   go_wp2_with fail
   go_ret
   exact ⟨B.out, .inr ⟨rfl, fun x hx => by
    obtain ⟨j, hj, e⟩ := List.getElem_of_mem hx
    exact P.out j x (by rw [HN.out]; exact hj) (by rw [List.getElem?_eq_getElem hj, e])⟩⟩
theorem contains_w {g gp : Nat} {w : World} {v : Value} {d : List Wx} (p : Wx → Prop) (eg : ∀ args w, (callFunc g args).run Tryz.prog w = .ok (.enter g args) w) (hv : Lr ew 10 w v d)
  (hg : ∀ W, Below w.heap.size w W → ∀ x ∈ d, Calls Tryz.prog g #[.agg (ew x).toArray, .pointer (some ⟨gp, 0, none⟩)] W fun e W' => BRet (p x) e ∧ Below W.heap.size W W') :
  Calls Tryz.prog 46 #[v, .func (.func g) #[] #[.pointer (some ⟨gp, 0, none⟩)]] w fun e w' => BRet (∃ x ∈ d, p x) e ∧ Below w.heap.size w w' := by
 have H := hide (index_w p eg hv hg)
 obtain ⟨A, c, rfl, -, -, -⟩ := hv
 generalize d.length = n at *
 clear hg
 go_enter Tryz.func46, Tryz.ntmps46
 go_wp2_with fail
 refine H.out.mono ?_
 rintro e w1 ⟨bx, ⟨k, rfl, hk⟩ | ⟨rfl, hk⟩⟩
 ·have HK := hide hk
  have BX := hide bx
  clear hk bx
  go_wp2_with fail
  go_ret
  exact ⟨⟨_, rfl, by constructor <;> intro _; exact HK.out; first | rfl | exact decide_eq_true (by omega)⟩, BX.out⟩
 ·have HK := hide hk
  have BX := hide bx
  clear hk bx
  go_wp2_with fail
  go_ret
  exact ⟨⟨false, rfl, by
   constructor
   ·intro h; cases h
   ·rintro ⟨x, hx, h⟩; exact absurd h (HK.out x hx)⟩, BX.out⟩
set_option maxHeartbeats 4000000 in
theorem index_u {g : Nat} {w : World} {v : Value} {d : List Ux} (p : Ux → Prop) (eg : ∀ args w, (callFunc g args).run Tryz.prog w = .ok (.enter g args) w) (hv : Lr eu 13 w v d)
  (hg : ∀ W, Below w.heap.size w W → ∀ x ∈ d, Calls Tryz.prog g #[.agg (eu x).toArray] W fun e W' => BRet (p x) e ∧ Below W.heap.size W W') :
  Calls Tryz.prog 83 #[v, .func (.func g) #[] #[]] w fun e w' => Below w.heap.size w w' ∧
   ((∃ k : Nat, e = .returned (.int .i64 (k : Int)) ∧ ∃ x ∈ d, p x) ∨ (e = .returned (.int .i64 (-1)) ∧ ∀ x ∈ d, ¬ p x)) := by
 obtain ⟨A, c, rfl, hc1, hc2, hc3⟩ := id hv
 have HV := hide hv
 have HG := hide hg
 obtain ⟨n, hlen⟩ : ∃ n, n = d.length := ⟨_, rfl⟩
 rw [← hlen] at HV hc1 ⊢
 have HN := hide hlen
 unfold maxLen at hc2
 clear hv hg hc3 hlen
 go_enter Tryz.func83, Tryz.ntmps83
 go_wp2_with fail
 go_loopw [8] (fun iv wr => ∃ k : Nat, k ≤ n ∧ iv = .int .i64 (k : Int) ∧ Hid (Below w.heap.size w wr) ∧ Hid (∀ j x, j < k → d[j]? = some x → ¬ p x)) (fun iv _ => n - (intOf iv).toNat)
 case atStart => exact ⟨0, Nat.zero_le _, rfl, hide (Below.refl _ _), hide (fun j x h => by omega)⟩
 case round =>
  obtain ⟨k, hk, rfl, B, P⟩ := hrel
  by_cases hlt : k < n
  ·obtain ⟨t, ht⟩ := len_of (d := d) (k := k) (by rw [← HN.out]; exact hlt)
   have HC := hide (HG.out wr B.out t (List.mem_of_getElem? ht))
   obtain ⟨b, off, rfl, hb, hc⟩ := (HV.out.step B.out).get ht
   have c0 := hc 0 _ rfl
   have c1 := hc 1 _ rfl
   have c2 := hc 2 _ rfl
   have c3 := hc 3 _ rfl
   have c4 := hc 4 _ rfl
   have c5 := hc 5 _ rfl
   have c6 := hc 6 _ rfl
   have c7 := hc 7 _ rfl
   have c8 := hc 8 _ rfl
   have c9 := hc 9 _ rfl
   have c10 := hc 10 _ rfl
   have c11 := hc 11 _ rfl
   have c12 := hc 12 _ rfl
   rw [Nat.add_zero] at c0
   have l0 : (0 : Int) ≤ (k : Int) := by omega
   have l1 : (k : Int) < (n : Int) := by omega
   have HT := hide ht
   have hcall : Calls Tryz.prog g #[.agg #[.string t.nm, .bool t.w, .bool t.a, .bool t.b, .bool t.lo.s, sv t.lo.u, sv t.lo.t, .bool t.hi.s, sv t.hi.u, sv t.hi.t, .bool t.co.s, sv t.co.u, sv t.co.t]] wr fun e W' => BRet (p t) e ∧ Below wr.heap.size wr W' := HC.out
   have HC2 := hide hcall
   clear hc hb ht hcall HC
   go_wp2_with (go_at_fn g; refine HC2.out.mono ?_; rintro e w3 ⟨⟨b9, rfl, hb9⟩, bx⟩; have H9 := hide hb9; have B9 := hide (Below.step B.out B.out.size bx); clear hb9 bx; cases b9)
   ·exact ⟨⟨k + 1, by omega, by go_num, B9, hide (fun j x hj hx => by
     by_cases h : j = k
     ·subst h
      rw [HT.out] at hx
      injection hx with hx
      subst hx
      exact fun e => absurd (H9.out.2 e) (by simp)
     ·exact P.out j x (by omega) hx)⟩, by simp [intOf]; omega⟩
   ·go_ret
    exact ⟨B9.out, .inl ⟨k, rfl, t, List.mem_of_getElem? HT.out, H9.out.1 (by simp)⟩⟩
  ·obtain rfl : k = n := by omega
   go_wp2_with fail
   go_ret
   exact ⟨B.out, .inr ⟨rfl, fun x hx => by
    obtain ⟨j, hj, e⟩ := List.getElem_of_mem hx
    exact P.out j x (by rw [HN.out]; exact hj) (by rw [List.getElem?_eq_getElem hj, e])⟩⟩
theorem contains_u {g : Nat} {w : World} {v : Value} {d : List Ux} (p : Ux → Prop) (eg : ∀ args w, (callFunc g args).run Tryz.prog w = .ok (.enter g args) w) (hv : Lr eu 13 w v d)
  (hg : ∀ W, Below w.heap.size w W → ∀ x ∈ d, Calls Tryz.prog g #[.agg (eu x).toArray] W fun e W' => BRet (p x) e ∧ Below W.heap.size W W') :
  Calls Tryz.prog 51 #[v, .func (.func g) #[] #[]] w fun e w' => BRet (∃ x ∈ d, p x) e ∧ Below w.heap.size w w' := by
 have H := hide (index_u p eg hv hg)
 obtain ⟨A, c, rfl, -, -, -⟩ := hv
 generalize d.length = n at *
 clear hg
 go_enter Tryz.func51, Tryz.ntmps51
 go_wp2_with fail
 refine H.out.mono ?_
 rintro e w1 ⟨bx, ⟨k, rfl, hk⟩ | ⟨rfl, hk⟩⟩
 ·have HK := hide hk
  have BX := hide bx
  clear hk bx
  go_wp2_with fail
  go_ret
  exact ⟨⟨_, rfl, by constructor <;> intro _; exact HK.out; first | rfl | exact decide_eq_true (by omega)⟩, BX.out⟩
 ·have HK := hide hk
  have BX := hide bx
  clear hk bx
  go_wp2_with fail
  go_ret
  exact ⟨⟨false, rfl, by
   constructor
   ·intro h; cases h
   ·rintro ⟨x, hx, h⟩; exact absurd h (HK.out x hx)⟩, BX.out⟩
abbrev bv_ (a b : Bool) (lo hi : Rx) : Value := .agg #[.bool a, .bool b, .bool lo.s, sv lo.u, sv lo.t, .bool hi.s, sv hi.u, sv hi.t]
abbrev bbox (a b : Bool) (lo hi : Rx) : Obj := .cells #[.bool a, .bool b, .bool lo.s, sv lo.u, sv lo.t, .bool hi.s, sv hi.u, sv hi.t] 66
def Bb (W : World) (g : Nat) (a b : Bool) (lo hi : Rx) : Prop := W.heap[g]? = some (bbox a b lo hi)
theorem Bb.new (w : World) (a b : Bool) (lo hi : Rx) : Bb (w.alloc (bbox a b lo hi)) w.heap.size a b lo hi := heap_alloc_new w _
theorem Bb.lt {W : World} {g : Nat} {a b : Bool} {lo hi : Rx} (h : Bb W g a b lo hi) : g < W.heap.size := by unfold Bb at h; exact (Array.getElem?_eq_some_iff.1 h).1
theorem Bb.step {W W' : World} {g : Nat} {a b : Bool} {lo hi : Rx} (h : Bb W g a b lo hi) (hb : Below W.heap.size W W') : Bb W' g a b lo hi := (hb.block g h.lt).trans h
theorem Bb.all {W : World} {g : Nat} {a b : Bool} {lo hi : Rx} (h : Bb W g a b lo hi) : W.cell? ⟨g, 0, none⟩ = some (.bool a) ∧ W.cell? ⟨g, 1, none⟩ = some (.bool b) ∧ W.cell? ⟨g, 2, none⟩ = some (.bool lo.s) ∧ W.cell? ⟨g, 3, none⟩ = some (sv lo.u) ∧ W.cell? ⟨g, 4, none⟩ = some (sv lo.t) ∧ W.cell? ⟨g, 5, none⟩ = some (.bool hi.s) ∧ W.cell? ⟨g, 6, none⟩ = some (sv hi.u) ∧ W.cell? ⟨g, 7, none⟩ = some (sv hi.t) :=
 ⟨cell_of_row W g 0 _ _ _ h, cell_of_row W g 1 _ _ _ h, cell_of_row W g 2 _ _ _ h, cell_of_row W g 3 _ _ _ h, cell_of_row W g 4 _ _ _ h, cell_of_row W g 5 _ _ _ h, cell_of_row W g 6 _ _ _ h, cell_of_row W g 7 _ _ _ h⟩
theorem bret {fn : Func} {p : Tmp} (h : fn.results = #[.cell p 66]) (tmps : Array Value) (w : World) (g : Nat) (cs : Array Value) (hs : cs.size = 8)
  (hp : tmps.getD p undef = .pointer (some ⟨g, 0, none⟩)) (hg : w.heap[g]? = some (.cells cs 66 (0, 0))) : (results fn tmps).run Tryz.prog w = .ok (.agg cs) w :=
 results_cell_row h tmps w g 66 cs (0, 0) _ hp hg Tryz.underlying66 rfl (by rw [hs]; kernel_rfl)
def Uq (W : World) (g : Nat) (x : Ux) : Prop := W.heap[g]? = some (ubox x)
def Wq (W : World) (g : Nat) (r : Wx) : Prop := W.heap[g]? = some (wbox r)
theorem Uq.lt {W : World} {g : Nat} {x : Ux} (h : Uq W g x) : g < W.heap.size := by unfold Uq at h; exact (Array.getElem?_eq_some_iff.1 h).1
theorem Wq.lt {W : World} {g : Nat} {r : Wx} (h : Wq W g r) : g < W.heap.size := by unfold Wq at h; exact (Array.getElem?_eq_some_iff.1 h).1
theorem Uq.step {W W' : World} {g : Nat} {x : Ux} (h : Uq W g x) (hb : Below W.heap.size W W') : Uq W' g x := (hb.block g h.lt).trans h
theorem Wq.step {W W' : World} {g : Nat} {r : Wx} (h : Wq W g r) (hb : Below W.heap.size W W') : Wq W' g r := (hb.block g h.lt).trans h
theorem Uq.all {W : World} {g : Nat} {x : Ux} (h : Uq W g x) : W.cell? ⟨g, 0, none⟩ = some (.string x.nm) ∧ W.cell? ⟨g, 1, none⟩ = some (.bool x.w) ∧ W.cell? ⟨g, 2, none⟩ = some (.bool x.a) ∧ W.cell? ⟨g, 3, none⟩ = some (.bool x.b) ∧ W.cell? ⟨g, 4, none⟩ = some (.bool x.lo.s) ∧ W.cell? ⟨g, 5, none⟩ = some (sv x.lo.u) ∧ W.cell? ⟨g, 6, none⟩ = some (sv x.lo.t) ∧ W.cell? ⟨g, 7, none⟩ = some (.bool x.hi.s) ∧ W.cell? ⟨g, 8, none⟩ = some (sv x.hi.u) ∧ W.cell? ⟨g, 9, none⟩ = some (sv x.hi.t) ∧ W.cell? ⟨g, 10, none⟩ = some (.bool x.co.s) ∧ W.cell? ⟨g, 11, none⟩ = some (sv x.co.u) ∧ W.cell? ⟨g, 12, none⟩ = some (sv x.co.t) :=
 ⟨cell_of_row W g 0 _ _ _ h, cell_of_row W g 1 _ _ _ h, cell_of_row W g 2 _ _ _ h, cell_of_row W g 3 _ _ _ h, cell_of_row W g 4 _ _ _ h, cell_of_row W g 5 _ _ _ h, cell_of_row W g 6 _ _ _ h, cell_of_row W g 7 _ _ _ h, cell_of_row W g 8 _ _ _ h, cell_of_row W g 9 _ _ _ h, cell_of_row W g 10 _ _ _ h, cell_of_row W g 11 _ _ _ h, cell_of_row W g 12 _ _ _ h⟩
theorem Wq.all {W : World} {g : Nat} {r : Wx} (h : Wq W g r) : W.cell? ⟨g, 0, none⟩ = some (.string r.nm) ∧ W.cell? ⟨g, 1, none⟩ = some (.bool r.a) ∧ W.cell? ⟨g, 2, none⟩ = some (.bool r.b) ∧ W.cell? ⟨g, 3, none⟩ = some (.bool r.lo.s) ∧ W.cell? ⟨g, 4, none⟩ = some (sv r.lo.u) ∧ W.cell? ⟨g, 5, none⟩ = some (sv r.lo.t) ∧ W.cell? ⟨g, 6, none⟩ = some (.bool r.hi.s) ∧ W.cell? ⟨g, 7, none⟩ = some (sv r.hi.u) ∧ W.cell? ⟨g, 8, none⟩ = some (sv r.hi.t) ∧ W.cell? ⟨g, 9, none⟩ = some (sv r.v) :=
 ⟨cell_of_row W g 0 _ _ _ h, cell_of_row W g 1 _ _ _ h, cell_of_row W g 2 _ _ _ h, cell_of_row W g 3 _ _ _ h, cell_of_row W g 4 _ _ _ h, cell_of_row W g 5 _ _ _ h, cell_of_row W g 6 _ _ _ h, cell_of_row W g 7 _ _ _ h, cell_of_row W g 8 _ _ _ h, cell_of_row W g 9 _ _ _ h⟩
theorem ofvar_c (x : Ux) (w : World) : Calls Tryz.prog 33 #[ux_ x] w fun e w' => e = .returned (bv_ x.a x.b x.lo x.hi) ∧ Below w.heap.size w w' := by
 have B := hide (show Below w.heap.size w ((w.alloc (ubox x)).alloc (bbox x.a x.b x.lo x.hi)) from ((Below.refl _ _).alloc (Nat.le_refl _) _).alloc (by simp) _)
 have H := hide (show ((w.alloc (ubox x)).alloc (bbox x.a x.b x.lo x.hi)).heap[w.heap.size + 1]? = some (bbox x.a x.b x.lo x.hi) by have h := heap_alloc_new (w.alloc (ubox x)) (bbox x.a x.b x.lo x.hi); simpa using h)
 go_enter Tryz.func33, Tryz.ntmps33
 go_wp2_with fail
 exact bodyPost_ret (bret rfl _ _ _ #[.bool x.a, .bool x.b, .bool x.lo.s, sv x.lo.u, sv x.lo.t, .bool x.hi.s, sv x.hi.u, sv x.hi.t] rfl rfl H.out) rfl ⟨rfl, B.out⟩
theorem ofrow_c (r : Wx) (w : World) : Calls Tryz.prog 29 #[wx_ r] w fun e w' => e = .returned (bv_ r.a r.b r.lo r.hi) ∧ Below w.heap.size w w' := by
 have B := hide (show Below w.heap.size w ((w.alloc (wbox r)).alloc (bbox r.a r.b r.lo r.hi)) from ((Below.refl _ _).alloc (Nat.le_refl _) _).alloc (by simp) _)
 have H := hide (show ((w.alloc (wbox r)).alloc (bbox r.a r.b r.lo r.hi)).heap[w.heap.size + 1]? = some (bbox r.a r.b r.lo r.hi) by have h := heap_alloc_new (w.alloc (wbox r)) (bbox r.a r.b r.lo r.hi); simpa using h)
 go_enter Tryz.func29, Tryz.ntmps29
 go_wp2_with fail
 exact bodyPost_ret (bret rfl _ _ _ #[.bool r.a, .bool r.b, .bool r.lo.s, sv r.lo.u, sv r.lo.t, .bool r.hi.s, sv r.hi.u, sv r.hi.t] rfl rfl H.out) rfl ⟨rfl, B.out⟩
set_option maxHeartbeats 2000000 in
theorem hold_c {w : World} {a b : Bool} {lo hi q : Rx} {L : Nat} (hlo : Ra w (rx lo) lo.r L) (hhi : Ra w (rx hi) hi.r L) (hq : Ra w (rx q) q.r L) (h1 : 1 ≤ L) (hL : L ≤ 1000000000) :
  Calls Tryz.prog 44 #[bv_ a b lo hi, rx q] w fun e w' => BRet (Bnd a b lo.r hi.r q.r) e ∧ Below w.heap.size w w' := by
 have b2 : Below w.heap.size w ((w.alloc (bbox a b lo hi)).alloc (rbox q.s (sv q.u) (sv q.t))) := ((Below.refl _ _).alloc (Nat.le_refl _) _).alloc (by simp) _
 have P := hide (show Bb ((w.alloc (bbox a b lo hi)).alloc (rbox q.s (sv q.u) (sv q.t))) w.heap.size a b lo hi from (Bb.new w a b lo hi).step ((Below.refl _ _).alloc (Nat.le_refl _) _))
 have PQ := hide (show Bq ((w.alloc (bbox a b lo hi)).alloc (rbox q.s (sv q.u) (sv q.t))) (w.heap.size + 1) q.s (sv q.u) (sv q.t) by have h := heap_alloc_new (w.alloc (bbox a b lo hi)) (rbox q.s (sv q.u) (sv q.t)); unfold Bq; simpa using h)
 have HL := hide (hlo.step b2)
 have HH := hide (hhi.step b2)
 have HQ := hide (hq.step b2)
 have B := hide b2
 have E1 := hide (show 0 ≤ cmpR q.r lo.r ↔ lo.r ≤ q.r from cmp_ge0)
 have E2 := hide (show decide (cmpR q.r hi.r ≤ 0) = true ↔ q.r ≤ hi.r from cmp_le0)
 have C1 := hide (show ∀ W, Below ((w.alloc (bbox a b lo hi)).alloc (rbox q.s (sv q.u) (sv q.t))).heap.size ((w.alloc (bbox a b lo hi)).alloc (rbox q.s (sv q.u) (sv q.t))) W → Calls Tryz.prog 60 #[rx q, rx lo] W fun e W' => e = .returned (.int .i64 (cmpR q.r lo.r)) ∧ Below W.heap.size W W' from fun W h => cmp_r ((hq.step b2).step h) ((hlo.step b2).step h) h1 (by omega))
 have C2 := hide (show ∀ W, Below ((w.alloc (bbox a b lo hi)).alloc (rbox q.s (sv q.u) (sv q.t))).heap.size ((w.alloc (bbox a b lo hi)).alloc (rbox q.s (sv q.u) (sv q.t))) W → Calls Tryz.prog 60 #[rx q, rx hi] W fun e W' => e = .returned (.int .i64 (cmpR q.r hi.r)) ∧ Below W.heap.size W W' from fun W h => cmp_r ((hq.step b2).step h) ((hhi.step b2).step h) h1 (by omega))
 generalize cmpR q.r lo.r = z1 at *
 generalize cmpR q.r hi.r = z2 at *
 clear hlo hhi hq b2
 obtain ⟨p0, p1, p2, p3, p4, p5, p6, p7⟩ := P.out.all
 obtain ⟨q0, q1, q2, -, -, -⟩ := PQ.out.all
 cases a with
 | false =>
  cases b with
  | false =>
   go_enter Tryz.func44, Tryz.ntmps44
   go_wp2_with fail
   go_ret
   exact ⟨⟨true, rfl, by simp [Bnd]⟩, B.out⟩
  | true =>
   go_enter Tryz.func44, Tryz.ntmps44
   go_wp2_with fail
   refine (C2.out _ (Below.refl _ _)).mono ?_
   rintro e w1 ⟨rfl, bx⟩
   replace B := hide (Below.step B.out B.out.size bx)
   clear bx p0 p1 p2 p3 p4 p5 p6 p7 q0 q1 q2
   go_wp2_with fail
   go_ret
   exact ⟨⟨_, rfl, by rw [E2.out]; simp [Bnd]⟩, B.out⟩
 | true =>
  go_enter Tryz.func44, Tryz.ntmps44
  cases b
  all_goals
   go_wp2_with fail
   refine (C1.out _ (Below.refl _ _)).mono ?_
   rintro e w1 ⟨rfl, bx⟩
   have X1 := hide bx
   replace P := hide (P.out.step bx)
   replace PQ := hide (PQ.out.step bx)
   replace B := hide (Below.step B.out B.out.size bx)
   clear bx p0 p1 p2 p3 p4 p5 p6 p7 q0 q1 q2
   obtain ⟨p0, p1, p2, p3, p4, p5, p6, p7⟩ := P.out.all
   obtain ⟨q0, q1, q2, -, -, -⟩ := PQ.out.all
   by_cases hz : 0 ≤ z1
   case neg =>
    have t1 : decide (0 ≤ z1) = false := decide_eq_false hz
    have NB := hide (fun (b : Bool) => (show ¬ Bnd true b lo.r hi.r q.r from fun h => hz (E1.out.2 (h.1 rfl))))
    clear hz
    go_wp2_with fail
    go_ret
    exact ⟨⟨false, rfl, by constructor <;> intro h; cases h; exact absurd h (NB.out _)⟩, B.out⟩
   have t1 : decide (0 ≤ z1) = true := decide_eq_true hz
   have LB := hide (E1.out.1 hz)
   clear hz
   first
    | (go_wp2_with fail; go_ret; exact ⟨⟨true, rfl, by simp [Bnd]; exact LB.out⟩, B.out⟩)
    | (go_wp2_with fail; refine (C2.out _ X1.out).mono ?_; rintro e w2 ⟨rfl, bx⟩; replace B := hide (Below.step B.out B.out.size bx); clear bx p0 p1 p2 p3 p4 p5 p6 p7 q0 q1 q2; go_wp2_with fail; go_ret; exact ⟨⟨_, rfl, by rw [E2.out]; simp [Bnd]; exact fun _ => LB.out⟩, B.out⟩)
set_option maxHeartbeats 2000000 in
theorem meet_c {w : World} {a b : Bool} {lo hi : Rx} {L : Nat} (hlo : Ra w (rx lo) lo.r L) (hhi : Ra w (rx hi) hi.r L) (h1 : 1 ≤ L) (hL : L ≤ 1000000000) :
  Calls Tryz.prog 30 #[bv_ a b lo hi] w fun e w' => BRet (a = true ∧ b = true ∧ lo.r = hi.r) e ∧ Below w.heap.size w w' := by
 have b2 : Below w.heap.size w (w.alloc (bbox a b lo hi)) := (Below.refl _ _).alloc (Nat.le_refl _) _
 have P := hide (Bb.new w a b lo hi)
 have HL := hide (hlo.step b2)
 have HH := hide (hhi.step b2)
 have B := hide b2
 have E1 := hide (show cmpR lo.r hi.r = 0 ↔ lo.r = hi.r from cmp_eq0)
 clear hlo hhi b2
 obtain ⟨p0, p1, p2, p3, p4, p5, p6, p7⟩ := P.out.all
 go_enter Tryz.func30, Tryz.ntmps30
 cases a with
 | false =>
  go_wp2_with fail
  go_ret
  exact ⟨⟨false, rfl, by simp⟩, B.out⟩
 | true =>
  cases b with
  | false =>
   go_wp2_with fail
   go_ret
   exact ⟨⟨false, rfl, by simp⟩, B.out⟩
  | true =>
   go_wp2_with fail
   refine (cmp_r HL.out HH.out h1 (by omega)).mono ?_
   rintro e w1 ⟨rfl, bx⟩
   replace B := hide (Below.step B.out B.out.size bx)
   clear bx p0 p1 p2 p3 p4 p5 p6 p7
   generalize cmpR lo.r hi.r = z at *
   go_wp2_with fail
   go_ret
   exact ⟨⟨_, rfl, by rw [beq_iff_eq, E1.out]; try simp⟩, B.out⟩
def McRet (w : World) (s : Int) (d : List Tx) (r : Rat) (M : Nat) (e : Ending) (w' : World) : Prop :=
 ∃ k' : Kx, e = .returned (kx k') ∧ Kg w' w.heap.size k' M ∧ k'.s = s ∧ (∀ c, 0 ≤ c → gsum (tms k'.d) c = gsum (tms d) c) ∧ k'.x.r = r ∧ k'.d.length ≤ d.length ∧ Below w.heap.size w w'
theorem Bq.oth5 {W : World} {g h : Nat} {s : Bool} {u t : Value} (z : Bq W h s u t) (hne : h ≠ g) (a b c d e : Value) : Bq (((((W.setCell ⟨g, 0, none⟩ a).setCell ⟨g, 1, none⟩ b).setCell ⟨g, 2, none⟩ c).setCell ⟨g, 3, none⟩ d).setCell ⟨g, 4, none⟩ e) h s u t :=
 ((Below.heap_setCell _ _ e h hne).trans ((Below.heap_setCell _ _ d h hne).trans ((Below.heap_setCell _ _ c h hne).trans ((Below.heap_setCell _ _ b h hne).trans (Below.heap_setCell _ _ a h hne))))).trans z
theorem Bq.three {W : World} {g : Nat} {s : Bool} {u t : Value} (h : Bq W g s u t) : W.cell? ⟨g, 0, none⟩ = some (.bool s) ∧ W.cell? ⟨g, 1, none⟩ = some u ∧ W.cell? ⟨g, 2, none⟩ = some t := ⟨h.all.1, h.all.2.1, h.all.2.2.1⟩
set_option maxHeartbeats 4000000 in
theorem mcon_c {w : World} {s : Int} {v : Value} {d : List Tx} {x : Rx} {L : Nat} (hv : Tv w v d L) (hr : Ra w (rx x) x.r L) (hn : d.length ≤ 100000) (h1 : 1 ≤ L) (hL : L ≤ 1000000) :
  Calls Tryz.prog 31 #[.int .i64 s, v, rx x] w (McRet w s d x.r (d.length * (L + 1) + 1 + L)) := by
 obtain ⟨A0, n0, c0, rfl⟩ := rv_sl hv.1
 have b2 : Below w.heap.size w ((w.alloc (rbox x.s (sv x.u) (sv x.t))).alloc kblk).drew := (((Below.refl _ _).alloc (Nat.le_refl _) _).alloc (by simp) _).drew
 have Z := hide (show Kz ((w.alloc (rbox x.s (sv x.u) (sv x.t))).alloc kblk).drew (w.heap.size + 1) by
  have h := Kz.new (w.alloc (rbox x.s (sv x.u) (sv x.t)))
  have h2 : Kz ((w.alloc (rbox x.s (sv x.u) (sv x.t))).alloc kblk) (w.heap.size + 1) := by simpa using h
  exact h2)
 have P := hide (show Bq ((w.alloc (rbox x.s (sv x.u) (sv x.t))).alloc kblk).drew w.heap.size x.s (sv x.u) (sv x.t) from
  ((Bq.new w _ _ _).step ((Below.refl _ _).alloc (Nat.le_refl _) kblk)).step (Below.refl _ _).drew)
 have HV := hide (hv.step b2)
 have HR := hide (hr.step b2)
 have B := hide b2
 have HN := hide hn
 have hg0 : w.heap.size ≠ w.heap.size + 1 := by omega
 clear hv hr b2 hn
 go_enter Tryz.func31, Tryz.ntmps31
 go_wp2_with fail
 generalize hW0 : ((w.alloc (rbox x.s (sv x.u) (sv x.t))).alloc kblk) = W0 at *
 go_region_held3 (fun W => W.cell? ⟨w.heap.size, 0, none⟩ = some (.bool x.s) ∧ W.cell? ⟨w.heap.size, 1, none⟩ = some (sv x.u) ∧ W.cell? ⟨w.heap.size, 2, none⟩ = some (sv x.t))
  (first | with_reducible exact P.out.three | with_reducible exact (P.out.oth5 hg0 _ _ _ _ _).three)
  (first
   | (go_at_call 61; refine Calls.mono (make_t (L := L) HV.out HN.out h1 hL) ?_; rintro e wx ⟨v1, d1, rfl, t1, f1, g1, l1, bx⟩; obtain ⟨A5, n5, c5, rfl⟩ := rv_sl t1.tv.1; have T1 := hide (t1.mono (B' := w.heap.size) B.out.size); have F1 := hide f1; have G1 := hide g1; have N1 := hide l1; replace P := hide (P.out.step bx); replace HR := hide (HR.out.step bx); replace Z := hide (Z.out.step bx); replace B := hide (Below.step B.out B.out.size bx); clear t1 f1 g1 l1 bx)
   | (go_at_call 62; refine Calls.mono (form_g (L := L) HR.out h1 (by omega)) ?_; rintro e wx ⟨y, rfl, e3, r3, bx⟩; replace P := hide (P.out.step bx); obtain ⟨⟨k0, k1, k2, k3, k4⟩, ⟨f0, f1, f2, f3, f4⟩, fin⟩ := kg_put (w0 := w) (k := ⟨s, (A5, n5, c5), d1, y⟩) (L := d.length * (L + 1) + 1 + L) ⟨(T1.out.step bx).more (by omega), (r3.mono (B' := w.heap.size) B.out.size).more (by omega), F1.out⟩ (Z.out.step bx) (by omega) (Below.step B.out B.out.size bx); dsimp only at fin; have E3 := hide e3; clear e3))
 all_goals
  have F9 := hide fin
  clear fin
  go_wp2_with fail
  exact bodyPost_ret (kret rfl _ _ _ #[.int .i64 s, .slice A5 n5 c5, .bool y.s, sv y.u, sv y.t] rfl rfl F9.out.1) rfl ⟨⟨s, (A5, n5, c5), d1, y⟩, rfl, F9.out.2.1, rfl, G1.out, E3.out, N1.out, F9.out.2.2⟩
set_option maxHeartbeats 4000000 in
theorem index_p {g : FuncId} {gp : Nat} {w : World} {v : Value} {d : List Tx} (p : Tx → Bool) (eg : ∀ args w, (callFunc g args).run Tryz.prog w = .ok (.enter g args) w) (hv : Lr et 4 w v d)
  (hg : ∀ W, Below w.heap.size w W → ∀ x ∈ d, Calls Tryz.prog g #[.agg (et x).toArray, .pointer (some ⟨gp, 0, none⟩)] W fun e W' => e = .returned (.bool (p x)) ∧ Below W.heap.size W W') :
  Calls Tryz.prog 84 #[v, .func (.func g) #[] #[.pointer (some ⟨gp, 0, none⟩)]] w fun e w' => Below w.heap.size w w' ∧
   ((∃ k, k < d.length ∧ e = .returned (.int .i64 (k : Int)) ∧ (∀ j x, j < k → d[j]? = some x → p x = false) ∧ ∀ x, d[k]? = some x → p x = true) ∨ (e = .returned (.int .i64 (-1)) ∧ ∀ x ∈ d, p x = false)) := by
 obtain ⟨A, c, rfl, hc1, hc2, hc3⟩ := id hv
 have HV := hide hv
 have HG := hide hg
 obtain ⟨n, hlen⟩ : ∃ n, n = d.length := ⟨_, rfl⟩
 rw [← hlen] at HV hc1 ⊢
 have HN := hide hlen
 unfold maxLen at hc2
 clear hv hg hc3 hlen
 go_enter Tryz.func84, Tryz.ntmps84
 go_wp2_with fail
 go_loopw [8] (fun iv wr => ∃ k : Nat, k ≤ n ∧ iv = .int .i64 (k : Int) ∧ Hid (Below w.heap.size w wr) ∧ Hid (∀ j x, j < k → d[j]? = some x → p x = false)) (fun iv _ => n - (intOf iv).toNat)
 case atStart => exact ⟨0, Nat.zero_le _, rfl, hide (Below.refl _ _), hide (fun j x h => by omega)⟩
 case round =>
  obtain ⟨k, hk, rfl, B, P⟩ := hrel
  by_cases hlt : k < n
  ·obtain ⟨t, ht⟩ := len_of (d := d) (k := k) (by rw [← HN.out]; exact hlt)
   have HC := hide (HG.out wr B.out t (List.mem_of_getElem? ht))
   obtain ⟨b, off, rfl, hb, hc⟩ := (HV.out.step B.out).get ht
   have c0 := hc 0 _ rfl
   have c1 := hc 1 _ rfl
   have c2 := hc 2 _ rfl
   have c3 := hc 3 _ rfl
   rw [Nat.add_zero] at c0
   have l0 : (0 : Int) ≤ (k : Int) := by omega
   have l1 : (k : Int) < (n : Int) := by omega
   have HT := hide ht
   have hcall : Calls Tryz.prog g #[.agg #[.int .i64 t.c, .bool t.x.s, sv t.x.u, sv t.x.t], .pointer (some ⟨gp, 0, none⟩)] wr fun e W' => e = .returned (.bool (p t)) ∧ Below wr.heap.size wr W' := HC.out
   have HC2 := hide hcall
   clear hc hb ht hcall HC
   cases hp : p t with
   | false =>
    rw [hp] at HC2
    go_wp2_with (go_at_fn g; refine HC2.out.mono ?_; rintro e w3 ⟨rfl, bx⟩)
    exact ⟨⟨k + 1, by omega, by go_num, hide (Below.step B.out B.out.size bx), hide (fun j x hj hx => by
     by_cases h : j = k
     ·subst h
      rw [HT.out] at hx
      injection hx with hx
      subst hx
      exact hp
     ·exact P.out j x (by omega) hx)⟩, by simp [intOf]; omega⟩
   | true =>
    rw [hp] at HC2
    go_wp2_with (go_at_fn g; refine HC2.out.mono ?_; rintro e w3 ⟨rfl, bx⟩)
    go_ret
    exact ⟨Below.step B.out B.out.size bx, .inl ⟨k, hlt, rfl, P.out, fun x hx => by
     rw [HT.out] at hx
     injection hx with hx
     subst hx
     exact hp⟩⟩
  ·obtain rfl : k = n := by omega
   go_wp2_with fail
   go_ret
   exact ⟨B.out, .inr ⟨rfl, fun x hx => by
    obtain ⟨j, hj, e⟩ := List.getElem_of_mem hx
    exact P.out j x (by rw [HN.out]; exact hj) (by rw [List.getElem?_eq_getElem hj, e])⟩⟩
set_option maxHeartbeats 4000000 in
theorem delete_p {g0 : FuncId} {gp : Nat} {w : World} {B : Nat} {v : Value} {d : List Tx} (p : Tx → Bool) (eg : ∀ args w, (callFunc g0 args).run Tryz.prog w = .ok (.enter g0 args) w) (hv : Ow 51 et 4 w B v d) (hn : d.length ≤ 100000000)
  (hg : ∀ W, w.grownBy W v.ownBlock → ∀ x ∈ d, Calls Tryz.prog g0 #[.agg (et x).toArray, .pointer (some ⟨gp, 0, none⟩)] W fun e W' => e = .returned (.bool (p x)) ∧ Below W.heap.size W W') :
  Calls Tryz.prog 57 #[v, .func (.func g0) #[] #[.pointer (some ⟨gp, 0, none⟩)]] w fun e w' => ∃ v', e = .returned v' ∧ Ow 51 et 4 w' B v' (d.filter fun x => !p x) ∧ w.grownBy w' v.ownBlock := by
 have IX := hide (index_p p eg (hv.rl et_len) (fun W hb => hg W (only_below (only_refl w _) hb (Nat.le_refl _))))
 have HG := hide hg
 have HV := hide hv
 have hvs : ∃ A n c, v = .slice A n c := by
  rcases hv.form with ⟨rfl, _⟩ | ⟨g, cap, cur, rfl, _⟩
  ·exact ⟨_, _, _, rfl⟩
  ·exact ⟨_, _, _, rfl⟩
 obtain ⟨A, n, c, rfl⟩ := hvs
 clear hg hv
 go_enter Tryz.func57, Tryz.ntmps57
 go_wp2_with fail
 refine IX.out.mono ?_
 rintro e w1 ⟨b1, ⟨k, hk, rfl, hlow, hhit⟩ | ⟨rfl, hnone⟩⟩
 ·rcases HV.out.form with ⟨_, rfl⟩ | ⟨g, cap, cur0, e, _, _, _, hcap, _⟩
  ·simp at hk
  ·injection e with e1 e2 e3
   subst e1 e2 e3
   obtain ⟨x, hx⟩ := len_of hk
   have K0 := hide (Kp.start hx hlow (hhit x hx))
   have O1 := hide (HV.out.step b1)
   have G1 := hide (only_below (only_refl w (some g)) b1 (Nat.le_refl _))
   obtain ⟨n, hlen⟩ : ∃ n, n = d.length := ⟨_, rfl⟩
   rw [← hlen] at O1 hk hn hcap ⊢
   rw [← hlen] at HG HV
   have HN := hide hlen
   have t1 : (((k : Nat) : Int) == -1) = false := beq_eq_false_iff_ne.2 (by omega)
   clear hlow hhit hx hlen b1 IX
   go_wp2_with fail
   go_loopw [5, 6] (fun iv jv wr => ∃ (i j : Nat) (cur : List Tx), i < j ∧ j ≤ n ∧ iv = .int .i64 (i : Int) ∧ jv = .int .i64 (j : Int) ∧ Hid (Kp p d i j cur) ∧ Hid (Ow 51 et 4 wr B (.slice (some ⟨g, 0, none⟩) n c) cur) ∧ Hid (w.grownBy wr (some g))) (fun _ jv _ => n - (intOf jv).toNat)
   case atStart => exact ⟨k, k + 1, d, by omega, by omega, rfl, by go_num, K0, O1, G1⟩
   case round =>
    obtain ⟨i, j, cur, hij, hj, rfl, rfl, K, O, G⟩ := hrel
    have hcl : cur.length = n := by rw [HN.out]; exact K.out.1
    by_cases hlt : j < n
    ·obtain ⟨x, hx⟩ := len_of (d := d) (k := j) (by rw [← HN.out]; exact hlt)
     have hx2 : cur[j]? = some x := (K.out.2.2 j (Nat.le_refl _)).trans hx
     obtain ⟨c0, c1, c2, c3⟩ := O.out.cells hx2
     have b8 := (Below.refl wr.heap.size wr).alloc (Nat.le_refl _) (.cells #[.int .i64 x.c, .bool x.x.s, sv x.x.u, sv x.x.t] 51)
     have O8 := hide (O.out.step b8)
     have G8 := hide (only_below G.out b8 (by have := G.out.size; exact this))
     have hcall : Calls Tryz.prog g0 #[.agg #[.int .i64 x.c, .bool x.x.s, sv x.x.u, sv x.x.t], .pointer (some ⟨gp, 0, none⟩)] (wr.alloc (.cells #[.int .i64 x.c, .bool x.x.s, sv x.x.u, sv x.x.t] 51)) fun e W' => e = .returned (.bool (p x)) ∧ Below (wr.alloc (.cells #[.int .i64 x.c, .bool x.x.s, sv x.x.u, sv x.x.t] 51)).heap.size (wr.alloc (.cells #[.int .i64 x.c, .bool x.x.s, sv x.x.u, sv x.x.t] 51)) W' := HG.out _ G8.out x (List.mem_of_getElem? hx)
     have HC := hide hcall
     have HX := hide hx
     have E0 := hide (heap_alloc_new wr (.cells #[.int .i64 x.c, .bool x.x.s, sv x.x.u, sv x.x.t] 51))
     have l0 : (0 : Int) ≤ (j : Int) := by omega
     have l1 : (j : Int) < (n : Int) := by omega
     clear hcall hx hx2 b8 O G
     cases hp : p x with
     | false =>
      have KN := hide (K.out.keep hij HX.out hp)
      rw [hp] at HC
      obtain ⟨y, hy⟩ := len_of (d := cur) (k := i) (by omega)
      have HY := hide hy
      clear hy
      go_wp2_with (go_at_fn g0; go_must (refine HC.out.mono ?_; rintro e w3 ⟨rfl, bx⟩; have bxx := hide bx; clear c0 c1 c2 c3 bx; obtain ⟨c0, c1, c2, c3⟩ := (O8.out.step bxx.out).cells HY.out; have f0 := (O8.out.step bxx.out).frozen rfl (i * 4); have f1 := (O8.out.step bxx.out).frozen rfl (i * 4 + 1); have f2 := (O8.out.step bxx.out).frozen rfl (i * 4 + 2); have f3 := (O8.out.step bxx.out).frozen rfl (i * 4 + 3); have E1 := (bxx.out.block wr.heap.size (by simp)).trans E0.out; have e0 := cell_of_row w3 wr.heap.size 0 _ _ _ E1; have e1 := cell_of_row w3 wr.heap.size 1 _ _ _ E1; have e2 := cell_of_row w3 wr.heap.size 2 _ _ _ E1; have e3 := cell_of_row w3 wr.heap.size 3 _ _ _ E1; have l2 : (0 : Int) ≤ (i : Int) := (by omega); have l3 : (i : Int) < (n : Int) := (by omega); have ON := hide ((O8.out.step bxx.out).put4 (i := i) (by omega) x); have GN := hide (only_put4 (only_below G8.out bxx.out (by have := G8.out.size; exact this)) (i * 4) (i * 4 + 1) (i * 4 + 2) (i * 4 + 3) (.int .i64 x.c) (.bool x.x.s) (sv x.x.u) (sv x.x.t)); clear E1 bxx))
      exact ⟨⟨i + 1, j + 1, _, by omega, by omega, by go_num, by go_num, KN, ON, GN⟩, by simp [intOf]; omega⟩
     | true =>
      have KN := hide (K.out.skip HX.out hp)
      rw [hp] at HC
      go_wp2_with (go_at_fn g0; refine HC.out.mono ?_; rintro e w3 ⟨rfl, bx⟩)
      exact ⟨⟨i, j + 1, cur, by omega, by omega, rfl, by go_num, KN, hide (O8.out.step bx), hide (only_below G8.out bx (by have := G8.out.size; exact this))⟩, by simp [intOf]; omega⟩
    ·obtain rfl : j = n := by omega
     obtain ⟨w9, hcl9, g9, o9⟩ := run_clearT O.out hij
     have GF := hide (only_trans G.out g9)
     have ef : d.filter (fun x => !p x) = cur.take i := by rw [K.out.2.1, List.take_of_length_le (by rw [← HN.out]; exact Nat.le_refl _)]
     have OF := hide o9
     have l0 : (0 : Int) ≤ (i : Int) := by omega
     have l1 : (i : Int) ≤ (j : Int) := by omega
     have l2 : (i : Int) ≤ (c : Int) := by omega
     clear g9 o9 O G
     go_wp2_with fail
     go_ret
     exact ⟨_, rfl, by rw [ef]; exact OF.out, GF.out⟩
 ·have t1 : ((-1 : Int) == -1) = true := rfl
  have ef : d.filter (fun x => !p x) = d := List.filter_eq_self.2 (fun x hx => by simp [hnone x hx])
  have F := hide (HV.out.step b1)
  have G := hide (only_below (only_refl w (Value.slice A n c).ownBlock) b1 (Nat.le_refl _))
  clear IX HG hnone b1
  go_wp2_with fail
  go_ret
  exact ⟨_, rfl, by rw [ef]; exact F.out, G.out⟩
theorem lowC_c (x : Tx) (n : Int) (gp : Nat) (w : World) (hp : w.cell? ⟨gp, 0, none⟩ = some (.int .i64 n)) : Calls Tryz.prog 59 #[.agg (et x).toArray, .pointer (some ⟨gp, 0, none⟩)] w fun e w' => e = .returned (.bool (decide (n ≤ x.c))) ∧ Below w.heap.size w w' := by
 have b8 := (Below.refl w.heap.size w).alloc (Nat.le_refl _) (.cells #[.int .i64 x.c, .bool x.x.s, sv x.x.u, sv x.x.t] 51)
 have hp2 := cell_keep hp b8
 have B := hide b8
 obtain ⟨r, hr⟩ : ∃ r, decide (n ≤ x.c) = r := ⟨_, rfl⟩
 rw [hr]
 clear b8 hp
 show Calls Tryz.prog 59 #[.agg #[.int .i64 x.c, .bool x.x.s, sv x.x.u, sv x.x.t], .pointer (some ⟨gp, 0, none⟩)] w _
 go_enter Tryz.func59, Tryz.ntmps59
 go_wp2_with fail
 go_ret
 exact ⟨rfl, B.out⟩
theorem enter_lowC : ∀ args w, (callFunc 59 args).run Tryz.prog w = .ok (.enter 59 args) w := Go.Proofs.enters_of Tryz.func59 (by kernel_rfl) rfl
set_option maxHeartbeats 2000000 in
theorem below_c {w : World} {v : Value} {d : List Tx} (n : Int) (hv : Lr et 4 w v d) (hn : d.length ≤ 100000000) :
  Calls Tryz.prog 28 #[v, .int .i64 n] w fun e w' => ∃ v', e = .returned v' ∧ Ow 51 et 4 w' w.heap.size v' (d.filter fun x => !decide (n ≤ x.c)) ∧ Below w.heap.size w w' := by
 obtain ⟨A, c, rfl, -, -, -⟩ := id hv
 have b2 := alloc_below w (.cells #[.int .i64 n] 3)
 have HV := hide (hv.step b2)
 have HB := hide (heap_alloc_new w (.cells #[.int .i64 n] 3))
 have B := hide b2
 have HN := hide hn
 clear hv b2
 go_enter Tryz.func28, Tryz.ntmps28
 go_wp2_with fail
 generalize (w.alloc (.cells #[.int .i64 n] 3)) = w0 at *
 refine (clone_t HV.out HN.out).mono ?_
 rintro e w1 ⟨v1, rfl, o1, b1⟩
 have O1 := hide o1
 have HB1 := hide ((b1.block w.heap.size (Array.getElem?_eq_some_iff.1 HB.out).1).trans HB.out)
 have S0 := hide (show w.heap.size < w0.heap.size from (Array.getElem?_eq_some_iff.1 HB.out).1)
 have B1 := hide (Below.step B.out B.out.size b1)
 obtain ⟨A1, n1, c1, rfl⟩ := rv_sl (o1.rl et_len)
 clear o1 b1 HB
 have hne : (Value.slice A1 n1 c1).ownBlock ≠ some w.heap.size := fun e => by
  have := (O1.out.lt e).1
  have := S0.out
  omega
 have HNE := hide hne
 clear hne
 go_wp2_with fail
 refine (delete_p (gp := w.heap.size) (fun x => decide (n ≤ x.c)) enter_lowC O1.out HN.out (fun W hW x hx => lowC_c x n w.heap.size W (cell_of_row W w.heap.size 0 _ _ _ ((hW.block w.heap.size (Array.getElem?_eq_some_iff.1 HB1.out).1 (fun e => HNE.out e.symm)).trans HB1.out)))).mono ?_
 rintro e w2 ⟨v2, rfl, o2, g2⟩
 obtain ⟨A2, n2, c2, rfl⟩ := rv_sl (o2.rl et_len)
 have F := hide (And.intro (o2.mono (B' := w.heap.size) B.out.size) (below_own B1.out (O1.out.mono (B' := w.heap.size) B.out.size) g2 B1.out.size))
 clear o2 g2
 go_wp2_with fail
 go_ret
 exact ⟨_, rfl, F.out.1, F.out.2⟩
theorem gsum_below (d : List Tx) (n : Nat) (c : Int) : gsum (tms (d.filter fun x => !decide ((n : Int) ≤ x.c))) c = if c < (n : Int) then gsum (tms d) c else 0 := by
 have e : tms (d.filter fun x => !decide ((n : Int) ≤ x.c)) = (tms d).filter (fun t => !decide ((n : Int) ≤ t.1)) := by
  unfold tms
  rw [List.filter_map]
  rfl
 rw [e]
 by_cases h : c < (n : Int)
 ·rw [if_pos h, gsum_filter]
  intro t ht hf
  simp at hf
  exact .inl (by omega)
 ·rw [if_neg h]
  refine gsum_none (fun t ht => ?_)
  have := (List.mem_filter.1 ht).2
  simp at this
  omega
theorem Kg.kept {W W' : World} {B B' L : Nat} {v : Value} {d : List Kx} {k : Kx} (h : Kg W B' k L) (ho : Ow 46 ek 5 W B v d) (hg : W.grownBy W' v.ownBlock) : Kg W' B' k L :=
 ⟨⟨h.1.1.kept hg (ow_tk h.1.1 ho (by decide)), fun x hx => (h.1.2 x hx).grownT hg (fun g e => ho.otK g e)⟩, h.2.1.grownT hg (fun g e => ho.otK g e), h.2.2⟩
def Kgl (W : World) (B : Nat) (v : Value) (l : List Kx) (M : Nat) : Prop := Ow 46 ek 5 W B v l ∧ ∀ k ∈ l, Kg W B k M
theorem Kgl.step {W W' : World} {B M : Nat} {v : Value} {l : List Kx} (h : Kgl W B v l M) (hb : Below W.heap.size W W') : Kgl W' B v l M := ⟨h.1.step hb, fun k hk => (h.2 k hk).step hb⟩
theorem Kgl.push {W W' : World} {B M : Nat} {v v' : Value} {l : List Kx} {x : Kx} (T : Kgl W B v l M) (ho : Ow 46 ek 5 W' B v' (l ++ [x])) (hg : W.grownBy W' v.ownBlock) (hx : Kg W B x M) : Kgl W' B v' (l ++ [x]) M := by
 refine ⟨ho, fun k hk => ?_⟩
 rcases List.mem_append.1 hk with h | h
 ·exact (T.2 k h).kept T.1 hg
 ·simp at h
  subst h
  exact hx.kept T.1 hg
theorem only_next {a b c : World} {row row' : Option Nat} (h : a.grownBy b row) (k : b.grownBy c row') (hr : row' = row ∨ ∃ g, row' = some g ∧ a.heap.size ≤ g) : a.grownBy c row := by
 rcases hr with rfl | ⟨g, rfl, hg⟩
 ·exact only_trans h k
 ·refine ⟨k.os.trans h.os, k.tape.trans h.tape, k.output.trans h.output, Nat.le_trans h.size k.size, fun b hb hne => ?_⟩
  exact (k.block b (Nat.lt_of_lt_of_le hb h.size) (fun e => by injection e with e; omega)).trans (h.block b hb hne)
def AtoRet (w : World) (B : Nat) (v : Value) (l : List Kx) (ts : List Cr) (N M : Nat) (e : Ending) (w' : World) : Prop :=
 ∃ v' l', e = .returned v' ∧ Kgl w' B v' (l ++ l') M ∧ Crs l' ts ∧ (∀ k ∈ l', k.d.length ≤ N) ∧ w.grownBy w' v.ownBlock ∧ (v'.ownBlock = v.ownBlock ∨ ∃ g, v'.ownBlock = some g ∧ w.heap.size ≤ g)
set_option maxHeartbeats 4000000 in
theorem appendto_c {w : World} {a b : Bool} {lo hi : Rx} {v u : Value} {l : List Kx} {d : List Tx} {B L M : Nat} {g : Int → Rat} (hv : Kgl w B v l M) (hB : B ≤ w.heap.size)
  (hf : ∀ W, w.grownBy W v.ownBlock → Ra W (rx lo) lo.r L ∧ Ra W (rx hi) hi.r L ∧ Tv W u d L) (hn : l.length ≤ 100000) (hd : d.length ≤ 100000) (h1 : 1 ≤ L) (hL : L ≤ 1000000) (hM : d.length * (L + 1) + 1 + L ≤ M) (hg : ∀ c, 0 ≤ c → gsum (tms d) c = g c) :
  Calls Tryz.prog 32 #[bv_ a b lo hi, v, u] w (AtoRet w B v l (crb a b g lo.r hi.r) d.length M) := by
 obtain ⟨i0, hi0, hz0, hz1, hz2⟩ := info_parts info_kc
 obtain ⟨A0, n0, c0, rfl⟩ := rv_sl (hf w (only_refl _ _)).2.2.1
 obtain ⟨A1, n1, c1, rfl⟩ := rv_sl (hv.1.rl ek_len)
 have b2 := alloc_below w (bbox a b lo hi)
 have P := hide (Bb.new w a b lo hi)
 have T := hide (hv.step b2)
 have G := hide (only_below (only_refl w (Value.slice A1 n1 c1).ownBlock) b2 (Nat.le_refl _))
 have S := hide (Nat.le_trans hB b2.size)
 have HF := hide hf
 have HG := hide hg
 have LN := hide hn
 have GB := hide (show some w.heap.size ≠ (Value.slice A1 n1 c1).ownBlock from fun e => by have := (hv.1.lt e.symm).2; omega)
 have GL := hide (show w.heap.size < (w.alloc (bbox a b lo hi)).heap.size from by simp)
 clear hv hf hg b2 hB
 obtain ⟨p0, p1, p2, p3, p4, p5, p6, p7⟩ := P.out.all
 cases a with
 | false =>
  cases b with
  | false =>
   go_enter Tryz.func32, Tryz.ntmps32
   go_wp2_with fail
   go_ret
   exact ⟨_, [], rfl, by rw [List.append_nil]; exact T.out, trivial, (fun k hk => by cases hk), G.out, .inl rfl⟩
  | true =>
   go_enter Tryz.func32, Tryz.ntmps32
   go_wp2_with fail
   obtain ⟨f1, f2, f3⟩ := HF.out _ G.out
   refine (mcon_c (s := 1) f3 f2 hd h1 hL).mono ?_
   rintro e w1 ⟨k, rfl, kg, ks, kt, kr, kn, bx⟩
   have T1 := hide (T.out.step bx)
   have K2 := hide (show Kg w1 B k M from by have h := kg.mono (B' := B) S.out; exact ⟨h.1.more hM, h.2.1.more hM, h.2.2⟩)
   have CR := hide (show Crs [k] (crb false true g lo.r hi.r) from ⟨⟨ks, kg.2.2, fun c hc => (kt c hc).trans (HG.out c hc), kr⟩, trivial⟩)
   have KN := hide kn
   have G1 := hide (only_below G.out bx (by have := G.out.size; exact this))
   have S1 := hide (Nat.le_trans S.out bx.size)
   have SZ := hide (show w.heap.size ≤ w1.heap.size from G1.out.size)
   clear f1 f2 f3 kg ks kt kr kn bx p0 p1 p2 p3 p4 p5 p6 p7
   go_wp2_with (at_builtin; (refine wpList_pushE rfl (.tmp 18) (.tmp 23) 29 rfl Tryz.underlying29 hi0 hz0 hz1 hz2 rfl (by omega) ek_len ek_one w1 B _ l k _ rfl T1.out.1 rfl rfl (by have := LN.out; omega) (by decide) S1.out ?_; intro v' w' ho hg; have TF := hide (T1.out.push ho hg.1 K2.out); have GF := hide (only_trans G1.out hg.1); have OF := hide hg.2; clear ho hg))
   go_ret
   exact ⟨_, [k], rfl, TF.out, CR.out, (fun y hy => by simp at hy; subst hy; exact KN.out), GF.out, (by rcases OF.out with h | h; exact .inl h; exact .inr ⟨_, h, by have := SZ.out; omega⟩)⟩
 | true =>
  cases b with
  | false =>
   go_enter Tryz.func32, Tryz.ntmps32
   go_wp2_with fail
   obtain ⟨f1, f2, f3⟩ := HF.out _ G.out
   refine (mcon_c (s := 2) f3 f1 hd h1 hL).mono ?_
   rintro e w1 ⟨k, rfl, kg, ks, kt, kr, kn, bx⟩
   have T1 := hide (T.out.step bx)
   have K2 := hide (show Kg w1 B k M from by have h := kg.mono (B' := B) S.out; exact ⟨h.1.more hM, h.2.1.more hM, h.2.2⟩)
   have CK := hide (show Crel k (2, g, lo.r) from ⟨ks, kg.2.2, fun c hc => (kt c hc).trans (HG.out c hc), kr⟩)
   have KN := hide kn
   have G1 := hide (only_below G.out bx (by have := G.out.size; exact this))
   have S1 := hide (Nat.le_trans S.out bx.size)
   have P1 := hide (P.out.step bx)
   have SZ := hide (show w.heap.size ≤ w1.heap.size from G1.out.size)
   clear f1 f2 f3 kg ks kt kr kn bx p0 p1 p2 p3 p4 p5 p6 p7
   go_wp2_with (at_builtin; (refine wpList_pushE rfl (.tmp 9) (.tmp 14) 29 rfl Tryz.underlying29 hi0 hz0 hz1 hz2 rfl (by omega) ek_len ek_one w1 B _ l k _ rfl T1.out.1 rfl rfl (by have := LN.out; omega) (by decide) S1.out ?_; intro v' w' ho hg; have TF := hide (T1.out.push ho hg.1 K2.out); have GF := hide (only_trans G1.out hg.1); have OF := hide hg.2; have SF := hide (Nat.le_trans S1.out hg.1.size); have PF := hide (show Bb w' w.heap.size true false lo hi from (hg.1.block _ P1.out.lt GB.out).trans P1.out); obtain ⟨p0, p1, p2, p3, p4, p5, p6, p7⟩ := PF.out.all; clear ho hg))
   go_ret
   exact ⟨_, [k], rfl, TF.out, ⟨CK.out, trivial⟩, (fun y hy => by simp at hy; subst hy; exact KN.out), GF.out, (by rcases OF.out with h | h; exact .inl h; exact .inr ⟨_, h, by have := SZ.out; omega⟩)⟩
  | true =>
   go_enter Tryz.func32, Tryz.ntmps32
   go_wp2_with fail
   obtain ⟨f1, f2, f3⟩ := HF.out _ G.out
   refine (mcon_c (s := 2) f3 f1 hd h1 hL).mono ?_
   rintro e w1 ⟨k, rfl, kg, ks, kt, kr, kn, bx⟩
   have T1 := hide (T.out.step bx)
   have K2 := hide (show Kg w1 B k M from by have h := kg.mono (B' := B) S.out; exact ⟨h.1.more hM, h.2.1.more hM, h.2.2⟩)
   have CK := hide (show Crel k (2, g, lo.r) from ⟨ks, kg.2.2, fun c hc => (kt c hc).trans (HG.out c hc), kr⟩)
   have KN := hide kn
   have G1 := hide (only_below G.out bx (by have := G.out.size; exact this))
   have S1 := hide (Nat.le_trans S.out bx.size)
   have P1 := hide (P.out.step bx)
   have SZ := hide (show w.heap.size ≤ w1.heap.size from G1.out.size)
   clear f1 f2 f3 kg ks kt kr kn bx p0 p1 p2 p3 p4 p5 p6 p7
   go_wp2_with (at_builtin; (refine wpList_pushE rfl (.tmp 9) (.tmp 14) 29 rfl Tryz.underlying29 hi0 hz0 hz1 hz2 rfl (by omega) ek_len ek_one w1 B _ l k _ rfl T1.out.1 rfl rfl (by have := LN.out; omega) (by decide) S1.out ?_; intro v' w' ho hg; have TF := hide (T1.out.push ho hg.1 K2.out); have GF := hide (only_trans G1.out hg.1); have OF := hide hg.2; have SF := hide (Nat.le_trans S1.out hg.1.size); have PF := hide (show Bb w' w.heap.size true true lo hi from (hg.1.block _ P1.out.lt GB.out).trans P1.out); obtain ⟨p0, p1, p2, p3, p4, p5, p6, p7⟩ := PF.out.all; clear ho hg))
   obtain ⟨f1, f2, f3⟩ := HF.out w' GF.out
   refine (mcon_c (s := 1) f3 f2 hd h1 hL).mono ?_
   rintro e w2 ⟨k2, rfl, kg, ks, kt, kr, kn, bx⟩
   have T2 := hide (TF.out.step bx)
   have K3 := hide (show Kg w2 B k2 M from by have h := kg.mono (B' := B) SF.out; exact ⟨h.1.more hM, h.2.1.more hM, h.2.2⟩)
   have CK2 := hide (show Crel k2 (1, g, hi.r) from ⟨ks, kg.2.2, fun c hc => (kt c hc).trans (HG.out c hc), kr⟩)
   have KN2 := hide kn
   have G2 := hide (only_below GF.out bx (by have := GF.out.size; exact this))
   have S2 := hide (Nat.le_trans SF.out bx.size)
   have SZ2 := hide (show w.heap.size ≤ w2.heap.size from G2.out.size)
   clear f1 f2 f3 kg ks kt kr kn bx p0 p1 p2 p3 p4 p5 p6 p7
   go_wp2_with (at_builtin; (refine wpList_pushE rfl (.tmp 18) (.tmp 23) 29 rfl Tryz.underlying29 hi0 hz0 hz1 hz2 rfl (by omega) ek_len ek_one w2 B _ (l ++ [k]) k2 _ rfl T2.out.1 rfl rfl (by have := LN.out; simp; omega) (by decide) S2.out ?_; intro v9 w9 ho hg; have TE := hide (T2.out.push ho hg.1 K3.out); have GE := hide (only_next G2.out hg.1 (by rcases OF.out with h | h; exact .inl h; exact .inr ⟨_, h, by have := SZ.out; omega⟩)); have OE := hide hg.2; clear ho hg))
   go_ret
   exact ⟨_, [k, k2], rfl, by have h := TE.out; rwa [List.append_assoc] at h, ⟨CK.out, CK2.out, trivial⟩, (fun y hy => by simp at hy; rcases hy with rfl | rfl; exact KN.out; exact KN2.out), GE.out, (by rcases OE.out with h | h; (rcases OF.out with k | k; exact .inl (h.trans k); exact .inr ⟨_, h.trans k, by have := SZ.out; omega⟩); exact .inr ⟨_, h, by have := SZ2.out; omega⟩)⟩
def PsLen (p : Px) : Prop := p.rows.length ≤ 70 ∧ p.vars.length ≤ 50 ∧ ∀ r ∈ p.rows, r.d.length ≤ 30
theorem PsOk.len {p : Px} (h : PsOk p) : PsLen p := ⟨h.1, h.2.1, fun r hr => (h.2.2.1 r hr).1⟩
def Sq (W : World) (g : Nat) (v : Value) : Prop := W.heap[g]? = some (.cells #[v] 55)
theorem Sq.lt {W : World} {g : Nat} {v : Value} (h : Sq W g v) : g < W.heap.size := by unfold Sq at h; exact (Array.getElem?_eq_some_iff.1 h).1
theorem Sq.step {W W' : World} {g : Nat} {v : Value} (h : Sq W g v) (hb : Below W.heap.size W W') : Sq W' g v := (hb.block g h.lt).trans h
theorem Sq.cell {W : World} {g : Nat} {v : Value} (h : Sq W g v) : W.cell? ⟨g, 0, none⟩ = some v := cell_of_row W g 0 _ _ _ h
theorem Pq.alls {W : World} {g m rc n vc : Nat} {nm ob : ByteArray} {RA VA : Option Addr} {rows : List Wx} {vars : List Ux} (h : Pq W g ⟨nm, ob, (RA, m, rc), rows, (VA, n, vc), vars⟩) : W.cell? ⟨g, 0, none⟩ = some (.string nm) ∧ W.cell? ⟨g, 1, none⟩ = some (.string ob) ∧ W.cell? ⟨g, 2, none⟩ = some (.slice RA m rc) ∧ W.cell? ⟨g, 3, none⟩ = some (.slice VA n vc) := h.all
theorem Uq.allw {W : World} {g : Nat} {x : Ux} {o : Bool} (h : Uq W g x) (hw : o = x.w) : W.cell? ⟨g, 0, none⟩ = some (.string x.nm) ∧ W.cell? ⟨g, 1, none⟩ = some (.bool o) ∧ W.cell? ⟨g, 2, none⟩ = some (.bool x.a) ∧ W.cell? ⟨g, 3, none⟩ = some (.bool x.b) ∧ W.cell? ⟨g, 4, none⟩ = some (.bool x.lo.s) ∧ W.cell? ⟨g, 5, none⟩ = some (sv x.lo.u) ∧ W.cell? ⟨g, 6, none⟩ = some (sv x.lo.t) ∧ W.cell? ⟨g, 7, none⟩ = some (.bool x.hi.s) ∧ W.cell? ⟨g, 8, none⟩ = some (sv x.hi.u) ∧ W.cell? ⟨g, 9, none⟩ = some (sv x.hi.t) ∧ W.cell? ⟨g, 10, none⟩ = some (.bool x.co.s) ∧ W.cell? ⟨g, 11, none⟩ = some (sv x.co.u) ∧ W.cell? ⟨g, 12, none⟩ = some (sv x.co.t) := by
 subst hw
 exact h.all
set_option maxHeartbeats 4000000 in
theorem holdrow_c {w : World} {r : Wx} {u : Value} {f : List Rx} {gp L K : Nat} (hr : Wv w r L) (hu : Fv w u f K) (hp : w.cell? ⟨gp, 0, none⟩ = some u) (hn : r.d.length ≤ 30) (h1 : 1 ≤ L) (hL : L ≤ 1000) (h2 : 1 ≤ K) (hK : K ≤ 1000) :
  Calls Tryz.prog 47 #[.agg (ew r).toArray, .pointer (some ⟨gp, 0, none⟩)] w fun e w' => BRet (¬ Bnd r.a r.b r.lo.r r.hi.r (dt (tms r.d) (xf f))) e ∧ Below w.heap.size w w' := by
 obtain ⟨A6, n6, c6, rfl⟩ := rv_sl hu.1
 have b2 : Below w.heap.size w (w.alloc (wbox r)).drew := ((Below.refl _ _).alloc (Nat.le_refl _) _).drew
 have P := hide (show Wq (w.alloc (wbox r)).drew w.heap.size r from Wq.step (W := w.alloc (wbox r)) (heap_alloc_new w _) (Below.refl _ _).drew)
 have HR := hide (hr.step b2)
 have HU := hide (hu.step b2)
 have HP := hide (cell_keep hp b2)
 have B := hide b2
 have DN := hide (show r.d.length * (L + K + 1) + 1 ≤ 100000 by have := Nat.mul_le_mul hn (show L + K + 1 ≤ 2001 by omega); omega)
 clear hr hu b2 hp
 show Calls Tryz.prog 47 #[.agg #[.string r.nm, .bool r.a, .bool r.b, .bool r.lo.s, sv r.lo.u, sv r.lo.t, .bool r.hi.s, sv r.hi.u, sv r.hi.t, sv r.v], .pointer (some ⟨gp, 0, none⟩)] w _
 go_enter Tryz.func47, Tryz.ntmps47
 go_wp2_with fail
 generalize hW0 : (w.alloc (wbox r)) = W0 at *
 go_region_held3 (fun W => (W.cell? ⟨w.heap.size, 0, none⟩ = some (.string r.nm) ∧ W.cell? ⟨w.heap.size, 1, none⟩ = some (.bool r.a) ∧ W.cell? ⟨w.heap.size, 2, none⟩ = some (.bool r.b) ∧ W.cell? ⟨w.heap.size, 3, none⟩ = some (.bool r.lo.s) ∧ W.cell? ⟨w.heap.size, 4, none⟩ = some (sv r.lo.u) ∧ W.cell? ⟨w.heap.size, 5, none⟩ = some (sv r.lo.t) ∧ W.cell? ⟨w.heap.size, 6, none⟩ = some (.bool r.hi.s) ∧ W.cell? ⟨w.heap.size, 7, none⟩ = some (sv r.hi.u) ∧ W.cell? ⟨w.heap.size, 8, none⟩ = some (sv r.hi.t) ∧ W.cell? ⟨w.heap.size, 9, none⟩ = some (sv r.v)) ∧ W.cell? ⟨gp, 0, none⟩ = some (.slice A6 n6 c6))
  (with_reducible exact And.intro P.out.all HP.out)
  (first
   | (go_at_call 29; refine Calls.mono (ofrow_c r _) ?_; rintro e wx ⟨rfl, bx⟩; replace P := hide (P.out.step bx); replace HP := hide (cell_keep HP.out bx); replace HR := hide (HR.out.step bx); replace HU := hide (HU.out.step bx); replace B := hide (Below.step B.out B.out.size bx); clear bx)
   | (go_at_call 48; refine Calls.mono (dot_g (L := L) (K := K) HR.out.1 HU.out (by omega) h1 (by omega) h2 (by omega)) ?_; rintro e wx ⟨q, rfl, hq, rq, bx⟩; have RQ := hide (rq.ra.more' (M := 100000) DN.out); have EQ := hide hq; replace P := hide (P.out.step bx); replace HP := hide (cell_keep HP.out bx); replace HR := hide (HR.out.step bx); replace HU := hide (HU.out.step bx); replace B := hide (Below.step B.out B.out.size bx); clear hq rq bx)
   | (go_at_call 44; refine Calls.mono (hold_c (L := 100000) (HR.out.2.1.more' (by omega)) (HR.out.2.2.more' (by omega)) RQ.out (by omega) (by omega)) ?_; rintro e wx ⟨⟨b9, rfl, hb9⟩, bx⟩; have H9 := hide hb9; replace P := hide (P.out.step bx); replace HP := hide (cell_keep HP.out bx); replace B := hide (Below.step B.out B.out.size bx); clear hb9 bx))
 all_goals
  go_wp2_with fail
  go_ret
  exact ⟨⟨_, rfl, by have h := H9.out; rw [EQ.out] at h; cases b9 <;> simp at h ⊢ <;> exact h⟩, B.out⟩
theorem enter_holdrow : ∀ args w, (callFunc 47 args).run Tryz.prog w = .ok (.enter 47 args) w := Go.Proofs.enters_of Tryz.func47 (by kernel_rfl) rfl
set_option maxHeartbeats 16000000 in
theorem mholds_c {w : World} {p : Px} {u : Value} {f : List Rx} {L K : Nat} (hp : Pv w p L) (hu : Fv w u f K) (hk : PsLen p) (h1 : 1 ≤ L) (hL : L ≤ 1000) (h2 : 1 ≤ K) (hK : K ≤ 1000) :
  Calls Tryz.prog 18 #[px p, u] w fun e w' => BRet (f.length = p.vars.length ∧ Hlds p (xf f)) e ∧ Below w.heap.size w w' := by
 obtain ⟨A6, c6, e6, hd1, hd2, hd3⟩ := id hu.1
 obtain ⟨nm, ob, ⟨RA, rn, rc⟩, rows, ⟨VA, vn, vc⟩, vars⟩ := p
 obtain ⟨RA', rc', er, hr1, hr2, hr3⟩ := id hp.1.1
 obtain ⟨VA', vc', ev, hc1, hc2, hc3⟩ := id hp.2.1
 dsimp only at er ev hc1 hc2 hr1 hr2
 injection er with e1 e2 e3
 subst e1 e2 e3
 injection ev with e1 e2 e3
 subst e1 e2 e3
 obtain ⟨n6, hlf⟩ : ∃ n6, n6 = f.length := ⟨_, rfl⟩
 rw [← hlf] at e6 hd1
 subst e6
 obtain ⟨n, hlen⟩ : ∃ n, n = vars.length := ⟨_, rfl⟩
 obtain ⟨m, hlr⟩ : ∃ m, m = rows.length := ⟨_, rfl⟩
 have b2 : Below w.heap.size w ((w.alloc (.cells #[.string nm, .string ob, .slice RA rows.length rc, .slice VA vars.length vc] 25)).alloc (.cells #[.slice A6 n6 c6] 55)) := ((Below.refl _ _).alloc (Nat.le_refl _) _).alloc (by simp) _
 have PQ := hide (show Pq ((w.alloc (.cells #[.string nm, .string ob, .slice RA rows.length rc, .slice VA vars.length vc] 25)).alloc (.cells #[.slice A6 n6 c6] 55)) w.heap.size ⟨nm, ob, (RA, rows.length, rc), rows, (VA, vars.length, vc), vars⟩ from Pq.step (W := w.alloc (.cells #[.string nm, .string ob, .slice RA rows.length rc, .slice VA vars.length vc] 25)) (heap_alloc_new w _) (alloc_below _ _))
 have SQ := hide (show Sq ((w.alloc (.cells #[.string nm, .string ob, .slice RA rows.length rc, .slice VA vars.length vc] 25)).alloc (.cells #[.slice A6 n6 c6] 55)) (w.heap.size + 1) (.slice A6 n6 c6) by
  have h := heap_alloc_new (w.alloc (.cells #[.string nm, .string ob, .slice RA rows.length rc, .slice VA vars.length vc] 25)) (.cells #[.slice A6 n6 c6] 55)
  unfold Sq
  simpa using h)
 have HP := hide (hp.step b2)
 have HU := hide (hu.step b2)
 have B0 := hide b2
 have HK := hide hk
 rw [← hlen] at HP hc1 B0 PQ SQ HU ⊢
 rw [← hlr] at HP hr1 B0 PQ SQ HU ⊢
 have HN := hide hlen
 have HM := hide hlr
 have HF := hide hlf
 unfold maxLen at hc2 hr2 hd2
 clear hp hu b2 hk hd3 hr3 hc3 hlen hlr hlf
 obtain ⟨p0, p1, p2, p3⟩ := PQ.out.alls
 have s0 := SQ.out.cell
 go_enter Tryz.func18, Tryz.ntmps18
 by_cases hnn : n6 = n
 case neg =>
  have t0 : ((n6 : Int) != (n : Int)) = true := by simp; omega
  have NH := hide (show ¬ (f.length = n ∧ Hlds ⟨nm, ob, (RA, m, rc), rows, (VA, n, vc), vars⟩ (xf f)) from fun h => hnn (by rw [HF.out]; exact h.1))
  clear hnn
  go_wp2_with fail
  go_ret
  exact ⟨⟨false, rfl, by constructor <;> intro h; cases h; exact absurd h NH.out⟩, B0.out⟩
 subst hnn
 have t0 : ((n6 : Int) != (n6 : Int)) = false := by simp
 go_wp2_with fail
 clear t0 p0 p1 p2 p3 s0
 generalize ((w.alloc (.cells #[.string nm, .string ob, .slice RA m rc, .slice VA n6 vc] 25)).alloc (.cells #[.slice A6 n6 c6] 55)) = w2 at *
 go_loopw [16] (fun iv wr => ∃ k : Nat, k ≤ n6 ∧ iv = .int .i64 (k : Int) ∧ Hid (Below w2.heap.size w2 wr) ∧ Hid (∀ (j : Nat) y, j < k → vars[j]? = some y → Bnd y.a y.b y.lo.r y.hi.r (xf f (j : Int)) ∧ (y.w = true → Isw (xf f (j : Int))))) (fun iv _ => n6 - (intOf iv).toNat)
 case atStart => exact ⟨0, Nat.zero_le _, rfl, hide (Below.refl _ _), hide (fun j y h => by omega)⟩
 case round =>
  obtain ⟨k, hk, rfl, B, PR⟩ := hrel
  by_cases hlt : k < n6
  ·obtain ⟨x, hx⟩ := len_of (d := vars) (k := k) (by rw [← HN.out]; exact hlt)
   obtain ⟨q, hq⟩ := len_of (d := f) (k := k) (by rw [← HF.out]; exact hlt)
   have XF := hide (xf_in hq)
   have HX := hide hx
   have UX := hide (show Uv w2 x 1000 from by
    have h := HP.out.2.2 x (List.mem_of_getElem? hx)
    exact ⟨h.1.more' hL, h.2.1.more' hL, h.2.2.more' hL⟩)
   have RX := hide ((HU.out.2 q (List.mem_of_getElem? hq)).more' hK)
   obtain ⟨b, off, rfl, hb, hc⟩ := (HP.out.2.1.step B.out).get hx
   obtain ⟨b', off', rfl, hb', hc'⟩ := HU.out.1.get hq
   have q0 := hc' 0 _ rfl
   rw [Nat.add_zero] at q0
   have QW := hide (And.intro hb' (And.intro q0 (And.intro (hc' 1 _ rfl) (hc' 2 _ rfl))))
   have c0 := hc 0 _ rfl
   have c1 := hc 1 _ rfl
   have c2 := hc 2 _ rfl
   have c3 := hc 3 _ rfl
   have c4 := hc 4 _ rfl
   have c5 := hc 5 _ rfl
   have c6' := hc 6 _ rfl
   have c7 := hc 7 _ rfl
   have c8 := hc 8 _ rfl
   have c9 := hc 9 _ rfl
   have c10 := hc 10 _ rfl
   have c11 := hc 11 _ rfl
   have c12 := hc 12 _ rfl
   rw [Nat.add_zero] at c0
   have l0 : (0 : Int) ≤ (k : Int) := by omega
   have l1 : (k : Int) < (n6 : Int) := by omega
   have UQ := hide (show Uq (wr.alloc (ubox x)).drew wr.heap.size x from Uq.step (W := wr.alloc (ubox x)) (heap_alloc_new wr _) (Below.refl _ _).drew)
   have b8 := (alloc_below wr (ubox x)).drew
   replace B := hide (Below.step B.out B.out.size b8)
   clear hc hc' hb hb' hx hq q0 b8
   go_wp2_with fail
   clear c0 c1 c2 c3 c4 c5 c6' c7 c8 c9 c10 c11 c12
   generalize (wr.alloc (ubox x)) = w3 at *
   generalize wr.heap.size = gx at *
   by_cases hb : Bnd x.a x.b x.lo.r x.hi.r q.r
   case neg =>
    have HO := hide (rfl : x.w = x.w)
    have HB := hide hb
    have NH := hide (show ¬ (f.length = n6 ∧ Hlds ⟨nm, ob, (none, 0, 0), rows, (none, 0, 0), vars⟩ (xf f)) from fun h => by
     have h1 := (h.2.1 k x HX.out).1
     rw [XF.out] at h1
     exact HB.out h1)
    clear hb
    refine wp_region_held_drew (S := fun W => (W.cell? ⟨gx, 0, none⟩ = some (.string x.nm) ∧ W.cell? ⟨gx, 1, none⟩ = some (.bool x.w) ∧ W.cell? ⟨gx, 2, none⟩ = some (.bool x.a) ∧ W.cell? ⟨gx, 3, none⟩ = some (.bool x.b) ∧ W.cell? ⟨gx, 4, none⟩ = some (.bool x.lo.s) ∧ W.cell? ⟨gx, 5, none⟩ = some (sv x.lo.u) ∧ W.cell? ⟨gx, 6, none⟩ = some (sv x.lo.t) ∧ W.cell? ⟨gx, 7, none⟩ = some (.bool x.hi.s) ∧ W.cell? ⟨gx, 8, none⟩ = some (sv x.hi.u) ∧ W.cell? ⟨gx, 9, none⟩ = some (sv x.hi.t) ∧ W.cell? ⟨gx, 10, none⟩ = some (.bool x.co.s) ∧ W.cell? ⟨gx, 11, none⟩ = some (sv x.co.u) ∧ W.cell? ⟨gx, 12, none⟩ = some (sv x.co.t)) ∧ W.cell? ⟨w.heap.size + 1, 0, none⟩ = some (.slice (some ⟨b', off', none⟩) n6 c6) ∧ W.cell? ⟨b', off' + k * 3, none⟩ = some (.bool q.s) ∧ W.cell? ⟨b', off' + k * 3 + 1, none⟩ = some (sv q.u) ∧ W.cell? ⟨b', off' + k * 3 + 2, none⟩ = some (sv q.t)) (by kernel_rfl) ?_ (fun hHeld => ?_)
    ·try dsimp only
     exact And.intro (UQ.out.allw HO.out) (And.intro (SQ.out.step B.out).cell (cells3_at QW.out B.out))
    generalize w3.drew = V0 at *
    refine tk 0 (v := ?_) hHeld ?_ ?_; rotate_left; (focus (intro w hSw; (try dsimp only at hSw); go_simp; (try with_reducible rfl)))
    refine tk 2 (v := ?_) hHeld ?_ ?_; rotate_left; (focus (intro w hSw; (try dsimp only at hSw); go_simp; (try with_reducible rfl)))
    refine tp 3 hHeld ?_
    try simp only [Act.put, s1, s2, s3, s4, s5, s6]
    refine tk 4 (v := ?_) hHeld ?_ ?_; rotate_left; (focus (intro w hSw; (try dsimp only at hSw); go_simp; (try with_reducible rfl)))
    try simp only [Act.put, s1, s2, s3, s4, s5, s6]
    refine tk 5 (v := ?_) hHeld ?_ ?_; rotate_left; (focus (intro w hSw; (try dsimp only at hSw); go_simp; (try with_reducible rfl)))
    try simp only [Act.put, s1, s2, s3, s4, s5, s6]
    refine r1 1 (fun K hK => ?_)
    go_simp; go_at_call 33; refine Calls.mono (ofvar_c ⟨x.nm, x.w, x.a, x.b, x.lo, x.hi, x.co⟩ _) ?_; rintro e V1 ⟨rfl, bx⟩; replace UQ := hide (UQ.out.step bx); replace B := hide (Below.step B.out B.out.size bx); clear bx; (try dsimp only); refine hK.out _ _ ?_ (fun hHeld => ?_); (focus ((try dsimp only); exact And.intro (UQ.out.allw HO.out) (And.intro (SQ.out.step B.out).cell (cells3_at QW.out B.out)))); clear hK K
    try simp only [Act.put, s1, s2, s3, s4, s5, s6]
    refine r1 6 (fun K hK => ?_)
    go_simp; go_at_call 44; refine Calls.mono (hold_c (L := 1000) (UX.out.step B.out).1 (UX.out.step B.out).2.1 (RX.out.step B.out) (by omega) (by omega)) ?_; rintro e V2 ⟨hb9, bx⟩; obtain rfl := hb9.fa HB.out; replace UQ := hide (UQ.out.step bx); replace B := hide (Below.step B.out B.out.size bx); clear bx; clear hb9; (try dsimp only); refine hK.out _ _ ?_ (fun hHeld => ?_); (focus ((try dsimp only); exact And.intro (UQ.out.allw HO.out) (And.intro (SQ.out.step B.out).cell (cells3_at QW.out B.out)))); clear hK K
    refine tp 7 hHeld ?_
    try simp only [Act.put, s1, s2, s3, s4, s5, s6]
    refine tp 8 hHeld ?_
    try simp only [Act.put, s1, s2, s3, s4, s5, s6]
    refine sh 9 hHeld ?_
    try simp only [Act.put, s1, s2, s3, s4, s5, s6]
    refine sh 10 hHeld ?_
    try simp only [Act.put, s1, s2, s3, s4, s5, s6]
    refine sh 11 hHeld ?_
    try simp only [Act.put, s1, s2, s3, s4, s5, s6]
    refine sh 12 hHeld ?_
    try simp only [Act.put, s1, s2, s3, s4, s5, s6]
    refine sh 13 hHeld ?_
    try simp only [Act.put, s1, s2, s3, s4, s5, s6]
    refine sh 14 hHeld ?_
    try simp only [Act.put, s1, s2, s3, s4, s5, s6]
    refine sh 15 hHeld ?_
    try simp only [Act.put, s1, s2, s3, s4, s5, s6]
    refine sh 16 hHeld ?_
    try simp only [Act.put, s1, s2, s3, s4, s5, s6]
    refine sh 17 hHeld ?_
    try simp only [Act.put, s1, s2, s3, s4, s5, s6]
    refine sh 18 hHeld ?_
    try simp only [Act.put, s1, s2, s3, s4, s5, s6]
    refine tp 19 hHeld ?_
    try simp only [Act.put, s1, s2, s3, s4, s5, s6]
    refine wpAnyH_done (by kernel_rfl) ?_ _
    go_wp2_with fail
    go_ret
    exact ⟨⟨false, rfl, by constructor <;> intro h; cases h; exact absurd h NH.out⟩, Below.step B0.out B0.out.size B.out⟩
   have HB := hide hb
   clear hb
   obtain ⟨o, ho⟩ : ∃ o, o = x.w := ⟨_, rfl⟩
   have HO := hide ho
   clear ho
   cases o
   case false =>
    refine wp_region_held_drew (S := fun W => (W.cell? ⟨gx, 0, none⟩ = some (.string x.nm) ∧ W.cell? ⟨gx, 1, none⟩ = some (.bool false) ∧ W.cell? ⟨gx, 2, none⟩ = some (.bool x.a) ∧ W.cell? ⟨gx, 3, none⟩ = some (.bool x.b) ∧ W.cell? ⟨gx, 4, none⟩ = some (.bool x.lo.s) ∧ W.cell? ⟨gx, 5, none⟩ = some (sv x.lo.u) ∧ W.cell? ⟨gx, 6, none⟩ = some (sv x.lo.t) ∧ W.cell? ⟨gx, 7, none⟩ = some (.bool x.hi.s) ∧ W.cell? ⟨gx, 8, none⟩ = some (sv x.hi.u) ∧ W.cell? ⟨gx, 9, none⟩ = some (sv x.hi.t) ∧ W.cell? ⟨gx, 10, none⟩ = some (.bool x.co.s) ∧ W.cell? ⟨gx, 11, none⟩ = some (sv x.co.u) ∧ W.cell? ⟨gx, 12, none⟩ = some (sv x.co.t)) ∧ W.cell? ⟨w.heap.size + 1, 0, none⟩ = some (.slice (some ⟨b', off', none⟩) n6 c6) ∧ W.cell? ⟨b', off' + k * 3, none⟩ = some (.bool q.s) ∧ W.cell? ⟨b', off' + k * 3 + 1, none⟩ = some (sv q.u) ∧ W.cell? ⟨b', off' + k * 3 + 2, none⟩ = some (sv q.t)) (by kernel_rfl) ?_ (fun hHeld => ?_)
    ·try dsimp only
     exact And.intro (UQ.out.allw HO.out) (And.intro (SQ.out.step B.out).cell (cells3_at QW.out B.out))
    generalize w3.drew = V0 at *
    refine tk 0 (v := ?_) hHeld ?_ ?_; rotate_left; (focus (intro w hSw; (try dsimp only at hSw); go_simp; (try with_reducible rfl)))
    refine tk 2 (v := ?_) hHeld ?_ ?_; rotate_left; (focus (intro w hSw; (try dsimp only at hSw); go_simp; (try with_reducible rfl)))
    refine tp 3 hHeld ?_
    try simp only [Act.put, s1, s2, s3, s4, s5, s6]
    refine tk 4 (v := ?_) hHeld ?_ ?_; rotate_left; (focus (intro w hSw; (try dsimp only at hSw); go_simp; (try with_reducible rfl)))
    try simp only [Act.put, s1, s2, s3, s4, s5, s6]
    refine tk 5 (v := ?_) hHeld ?_ ?_; rotate_left; (focus (intro w hSw; (try dsimp only at hSw); go_simp; (try with_reducible rfl)))
    try simp only [Act.put, s1, s2, s3, s4, s5, s6]
    refine r1 1 (fun K hK => ?_)
    go_simp; go_at_call 33; refine Calls.mono (ofvar_c ⟨x.nm, false, x.a, x.b, x.lo, x.hi, x.co⟩ _) ?_; rintro e V1 ⟨rfl, bx⟩; replace UQ := hide (UQ.out.step bx); replace B := hide (Below.step B.out B.out.size bx); clear bx; (try dsimp only); refine hK.out _ _ ?_ (fun hHeld => ?_); (focus ((try dsimp only); exact And.intro (UQ.out.allw HO.out) (And.intro (SQ.out.step B.out).cell (cells3_at QW.out B.out)))); clear hK K
    try simp only [Act.put, s1, s2, s3, s4, s5, s6]
    refine r1 6 (fun K hK => ?_)
    go_simp; go_at_call 44; refine Calls.mono (hold_c (L := 1000) (UX.out.step B.out).1 (UX.out.step B.out).2.1 (RX.out.step B.out) (by omega) (by omega)) ?_; rintro e V2 ⟨hb9, bx⟩; obtain rfl := hb9.tr HB.out; replace UQ := hide (UQ.out.step bx); replace B := hide (Below.step B.out B.out.size bx); clear bx; clear hb9; (try dsimp only); refine hK.out _ _ ?_ (fun hHeld => ?_); (focus ((try dsimp only); exact And.intro (UQ.out.allw HO.out) (And.intro (SQ.out.step B.out).cell (cells3_at QW.out B.out)))); clear hK K
    refine tp 7 hHeld ?_
    try simp only [Act.put, s1, s2, s3, s4, s5, s6]
    refine tp 8 hHeld ?_
    try simp only [Act.put, s1, s2, s3, s4, s5, s6]
    refine tk 9 (v := ?_) hHeld ?_ ?_; rotate_left; (focus (intro w hSw; (try dsimp only at hSw); go_simp; (try with_reducible rfl)))
    try simp only [Act.put, s1, s2, s3, s4, s5, s6]
    refine tk 10 (v := ?_) hHeld ?_ ?_; rotate_left; (focus (intro w hSw; (try dsimp only at hSw); go_simp; (try with_reducible rfl)))
    try simp only [Act.put, s1, s2, s3, s4, s5, s6]
    refine tp 11 hHeld ?_
    try simp only [Act.put, s1, s2, s3, s4, s5, s6]
    refine sh 12 hHeld ?_
    try simp only [Act.put, s1, s2, s3, s4, s5, s6]
    refine sh 13 hHeld ?_
    try simp only [Act.put, s1, s2, s3, s4, s5, s6]
    refine sh 14 hHeld ?_
    try simp only [Act.put, s1, s2, s3, s4, s5, s6]
    refine sh 15 hHeld ?_
    try simp only [Act.put, s1, s2, s3, s4, s5, s6]
    refine sh 16 hHeld ?_
    try simp only [Act.put, s1, s2, s3, s4, s5, s6]
    refine sh 17 hHeld ?_
    try simp only [Act.put, s1, s2, s3, s4, s5, s6]
    refine tp 18 hHeld ?_
    try simp only [Act.put, s1, s2, s3, s4, s5, s6]
    refine tp 19 hHeld ?_
    try simp only [Act.put, s1, s2, s3, s4, s5, s6]
    refine wpAnyH_done (by kernel_rfl) ?_ _
    go_wp2_with fail
    exact ⟨⟨k + 1, by omega, by go_num, B, hide (fun j y hj hy => by
     by_cases h : j = k
     ·subst h
      rw [HX.out] at hy
      injection hy with hy
      subst hy
      rw [XF.out]
      exact ⟨HB.out, fun h => by rw [← HO.out] at h; cases h⟩
     ·exact PR.out j y (by omega) hy)⟩, by simp [intOf]; omega⟩
   by_cases hi : Isw q.r
   case neg =>
    have IW := hide (show decide (((q.r.floor : Int) : Rat) = q.r) = false from decide_eq_false hi)
    have NH := hide (show ¬ (f.length = n6 ∧ Hlds ⟨nm, ob, (none, 0, 0), rows, (none, 0, 0), vars⟩ (xf f)) from fun h => by
     have h1 := (h.2.1 k x HX.out).2 HO.out.symm
     rw [XF.out] at h1
     exact hi h1)
    clear hi
    refine wp_region_held_drew (S := fun W => (W.cell? ⟨gx, 0, none⟩ = some (.string x.nm) ∧ W.cell? ⟨gx, 1, none⟩ = some (.bool true) ∧ W.cell? ⟨gx, 2, none⟩ = some (.bool x.a) ∧ W.cell? ⟨gx, 3, none⟩ = some (.bool x.b) ∧ W.cell? ⟨gx, 4, none⟩ = some (.bool x.lo.s) ∧ W.cell? ⟨gx, 5, none⟩ = some (sv x.lo.u) ∧ W.cell? ⟨gx, 6, none⟩ = some (sv x.lo.t) ∧ W.cell? ⟨gx, 7, none⟩ = some (.bool x.hi.s) ∧ W.cell? ⟨gx, 8, none⟩ = some (sv x.hi.u) ∧ W.cell? ⟨gx, 9, none⟩ = some (sv x.hi.t) ∧ W.cell? ⟨gx, 10, none⟩ = some (.bool x.co.s) ∧ W.cell? ⟨gx, 11, none⟩ = some (sv x.co.u) ∧ W.cell? ⟨gx, 12, none⟩ = some (sv x.co.t)) ∧ W.cell? ⟨w.heap.size + 1, 0, none⟩ = some (.slice (some ⟨b', off', none⟩) n6 c6) ∧ W.cell? ⟨b', off' + k * 3, none⟩ = some (.bool q.s) ∧ W.cell? ⟨b', off' + k * 3 + 1, none⟩ = some (sv q.u) ∧ W.cell? ⟨b', off' + k * 3 + 2, none⟩ = some (sv q.t)) (by kernel_rfl) ?_ (fun hHeld => ?_)
    ·try dsimp only
     exact And.intro (UQ.out.allw HO.out) (And.intro (SQ.out.step B.out).cell (cells3_at QW.out B.out))
    generalize w3.drew = V0 at *
    refine tk 0 (v := ?_) hHeld ?_ ?_; rotate_left; (focus (intro w hSw; (try dsimp only at hSw); go_simp; (try with_reducible rfl)))
    refine tk 2 (v := ?_) hHeld ?_ ?_; rotate_left; (focus (intro w hSw; (try dsimp only at hSw); go_simp; (try with_reducible rfl)))
    refine tp 3 hHeld ?_
    try simp only [Act.put, s1, s2, s3, s4, s5, s6]
    refine tk 4 (v := ?_) hHeld ?_ ?_; rotate_left; (focus (intro w hSw; (try dsimp only at hSw); go_simp; (try with_reducible rfl)))
    try simp only [Act.put, s1, s2, s3, s4, s5, s6]
    refine tk 5 (v := ?_) hHeld ?_ ?_; rotate_left; (focus (intro w hSw; (try dsimp only at hSw); go_simp; (try with_reducible rfl)))
    try simp only [Act.put, s1, s2, s3, s4, s5, s6]
    refine r1 1 (fun K hK => ?_)
    go_simp; go_at_call 33; refine Calls.mono (ofvar_c ⟨x.nm, true, x.a, x.b, x.lo, x.hi, x.co⟩ _) ?_; rintro e V1 ⟨rfl, bx⟩; replace UQ := hide (UQ.out.step bx); replace B := hide (Below.step B.out B.out.size bx); clear bx; (try dsimp only); refine hK.out _ _ ?_ (fun hHeld => ?_); (focus ((try dsimp only); exact And.intro (UQ.out.allw HO.out) (And.intro (SQ.out.step B.out).cell (cells3_at QW.out B.out)))); clear hK K
    try simp only [Act.put, s1, s2, s3, s4, s5, s6]
    refine r1 6 (fun K hK => ?_)
    go_simp; go_at_call 44; refine Calls.mono (hold_c (L := 1000) (UX.out.step B.out).1 (UX.out.step B.out).2.1 (RX.out.step B.out) (by omega) (by omega)) ?_; rintro e V2 ⟨hb9, bx⟩; obtain rfl := hb9.tr HB.out; replace UQ := hide (UQ.out.step bx); replace B := hide (Below.step B.out B.out.size bx); clear bx; clear hb9; (try dsimp only); refine hK.out _ _ ?_ (fun hHeld => ?_); (focus ((try dsimp only); exact And.intro (UQ.out.allw HO.out) (And.intro (SQ.out.step B.out).cell (cells3_at QW.out B.out)))); clear hK K
    refine tp 7 hHeld ?_
    try simp only [Act.put, s1, s2, s3, s4, s5, s6]
    refine tp 8 hHeld ?_
    try simp only [Act.put, s1, s2, s3, s4, s5, s6]
    refine tk 9 (v := ?_) hHeld ?_ ?_; rotate_left; (focus (intro w hSw; (try dsimp only at hSw); go_simp; (try with_reducible rfl)))
    try simp only [Act.put, s1, s2, s3, s4, s5, s6]
    refine tk 10 (v := ?_) hHeld ?_ ?_; rotate_left; (focus (intro w hSw; (try dsimp only at hSw); go_simp; (try with_reducible rfl)))
    try simp only [Act.put, s1, s2, s3, s4, s5, s6]
    refine tp 11 hHeld ?_
    try simp only [Act.put, s1, s2, s3, s4, s5, s6]
    refine tk 12 (v := ?_) hHeld ?_ ?_; rotate_left; (focus (intro w hSw; (try dsimp only at hSw); go_simp; (try with_reducible rfl)))
    refine tp 13 hHeld ?_
    try simp only [Act.put, s1, s2, s3, s4, s5, s6]
    refine tk 14 (v := ?_) hHeld ?_ ?_; rotate_left; (focus (intro w hSw; (try dsimp only at hSw); go_simp; (try with_reducible rfl)))
    try simp only [Act.put, s1, s2, s3, s4, s5, s6]
    refine tk 15 (v := ?_) hHeld ?_ ?_; rotate_left; (focus (intro w hSw; (try dsimp only at hSw); go_simp; (try with_reducible rfl)))
    try simp only [Act.put, s1, s2, s3, s4, s5, s6]
    refine r1 16 (fun K hK => ?_)
    go_simp; go_at_call 45; refine Calls.mono (iswhole_r (RX.out.step B.out) (by omega) (by omega)) ?_; rintro e V3 ⟨rfl, bx⟩; rw [IW.out]; replace UQ := hide (UQ.out.step bx); replace B := hide (Below.step B.out B.out.size bx); clear bx; (try dsimp only); refine hK.out _ _ ?_ (fun hHeld => ?_); (focus ((try dsimp only); exact And.intro (UQ.out.allw HO.out) (And.intro (SQ.out.step B.out).cell (cells3_at QW.out B.out)))); clear hK K
    refine tp 17 hHeld ?_
    try simp only [Act.put, s1, s2, s3, s4, s5, s6]
    refine tp 18 hHeld ?_
    try simp only [Act.put, s1, s2, s3, s4, s5, s6]
    refine tp 19 hHeld ?_
    try simp only [Act.put, s1, s2, s3, s4, s5, s6]
    refine wpAnyH_done (by kernel_rfl) ?_ _
    go_wp2_with fail
    go_ret
    exact ⟨⟨false, rfl, by constructor <;> intro h; cases h; exact absurd h NH.out⟩, Below.step B0.out B0.out.size B.out⟩
   have IW := hide (show decide (((q.r.floor : Int) : Rat) = q.r) = true from decide_eq_true hi)
   have WI := hide hi
   clear hi
   refine wp_region_held_drew (S := fun W => (W.cell? ⟨gx, 0, none⟩ = some (.string x.nm) ∧ W.cell? ⟨gx, 1, none⟩ = some (.bool true) ∧ W.cell? ⟨gx, 2, none⟩ = some (.bool x.a) ∧ W.cell? ⟨gx, 3, none⟩ = some (.bool x.b) ∧ W.cell? ⟨gx, 4, none⟩ = some (.bool x.lo.s) ∧ W.cell? ⟨gx, 5, none⟩ = some (sv x.lo.u) ∧ W.cell? ⟨gx, 6, none⟩ = some (sv x.lo.t) ∧ W.cell? ⟨gx, 7, none⟩ = some (.bool x.hi.s) ∧ W.cell? ⟨gx, 8, none⟩ = some (sv x.hi.u) ∧ W.cell? ⟨gx, 9, none⟩ = some (sv x.hi.t) ∧ W.cell? ⟨gx, 10, none⟩ = some (.bool x.co.s) ∧ W.cell? ⟨gx, 11, none⟩ = some (sv x.co.u) ∧ W.cell? ⟨gx, 12, none⟩ = some (sv x.co.t)) ∧ W.cell? ⟨w.heap.size + 1, 0, none⟩ = some (.slice (some ⟨b', off', none⟩) n6 c6) ∧ W.cell? ⟨b', off' + k * 3, none⟩ = some (.bool q.s) ∧ W.cell? ⟨b', off' + k * 3 + 1, none⟩ = some (sv q.u) ∧ W.cell? ⟨b', off' + k * 3 + 2, none⟩ = some (sv q.t)) (by kernel_rfl) ?_ (fun hHeld => ?_)
   ·try dsimp only
    exact And.intro (UQ.out.allw HO.out) (And.intro (SQ.out.step B.out).cell (cells3_at QW.out B.out))
   generalize w3.drew = V0 at *
   refine tk 0 (v := ?_) hHeld ?_ ?_; rotate_left; (focus (intro w hSw; (try dsimp only at hSw); go_simp; (try with_reducible rfl)))
   refine tk 2 (v := ?_) hHeld ?_ ?_; rotate_left; (focus (intro w hSw; (try dsimp only at hSw); go_simp; (try with_reducible rfl)))
   refine tp 3 hHeld ?_
   try simp only [Act.put, s1, s2, s3, s4, s5, s6]
   refine tk 4 (v := ?_) hHeld ?_ ?_; rotate_left; (focus (intro w hSw; (try dsimp only at hSw); go_simp; (try with_reducible rfl)))
   try simp only [Act.put, s1, s2, s3, s4, s5, s6]
   refine tk 5 (v := ?_) hHeld ?_ ?_; rotate_left; (focus (intro w hSw; (try dsimp only at hSw); go_simp; (try with_reducible rfl)))
   try simp only [Act.put, s1, s2, s3, s4, s5, s6]
   refine r1 1 (fun K hK => ?_)
   go_simp; go_at_call 33; refine Calls.mono (ofvar_c ⟨x.nm, true, x.a, x.b, x.lo, x.hi, x.co⟩ _) ?_; rintro e V1 ⟨rfl, bx⟩; replace UQ := hide (UQ.out.step bx); replace B := hide (Below.step B.out B.out.size bx); clear bx; (try dsimp only); refine hK.out _ _ ?_ (fun hHeld => ?_); (focus ((try dsimp only); exact And.intro (UQ.out.allw HO.out) (And.intro (SQ.out.step B.out).cell (cells3_at QW.out B.out)))); clear hK K
   try simp only [Act.put, s1, s2, s3, s4, s5, s6]
   refine r1 6 (fun K hK => ?_)
   go_simp; go_at_call 44; refine Calls.mono (hold_c (L := 1000) (UX.out.step B.out).1 (UX.out.step B.out).2.1 (RX.out.step B.out) (by omega) (by omega)) ?_; rintro e V2 ⟨hb9, bx⟩; obtain rfl := hb9.tr HB.out; replace UQ := hide (UQ.out.step bx); replace B := hide (Below.step B.out B.out.size bx); clear bx; clear hb9; (try dsimp only); refine hK.out _ _ ?_ (fun hHeld => ?_); (focus ((try dsimp only); exact And.intro (UQ.out.allw HO.out) (And.intro (SQ.out.step B.out).cell (cells3_at QW.out B.out)))); clear hK K
   refine tp 7 hHeld ?_
   try simp only [Act.put, s1, s2, s3, s4, s5, s6]
   refine tp 8 hHeld ?_
   try simp only [Act.put, s1, s2, s3, s4, s5, s6]
   refine tk 9 (v := ?_) hHeld ?_ ?_; rotate_left; (focus (intro w hSw; (try dsimp only at hSw); go_simp; (try with_reducible rfl)))
   try simp only [Act.put, s1, s2, s3, s4, s5, s6]
   refine tk 10 (v := ?_) hHeld ?_ ?_; rotate_left; (focus (intro w hSw; (try dsimp only at hSw); go_simp; (try with_reducible rfl)))
   try simp only [Act.put, s1, s2, s3, s4, s5, s6]
   refine tp 11 hHeld ?_
   try simp only [Act.put, s1, s2, s3, s4, s5, s6]
   refine tk 12 (v := ?_) hHeld ?_ ?_; rotate_left; (focus (intro w hSw; (try dsimp only at hSw); go_simp; (try with_reducible rfl)))
   refine tp 13 hHeld ?_
   try simp only [Act.put, s1, s2, s3, s4, s5, s6]
   refine tk 14 (v := ?_) hHeld ?_ ?_; rotate_left; (focus (intro w hSw; (try dsimp only at hSw); go_simp; (try with_reducible rfl)))
   try simp only [Act.put, s1, s2, s3, s4, s5, s6]
   refine tk 15 (v := ?_) hHeld ?_ ?_; rotate_left; (focus (intro w hSw; (try dsimp only at hSw); go_simp; (try with_reducible rfl)))
   try simp only [Act.put, s1, s2, s3, s4, s5, s6]
   refine r1 16 (fun K hK => ?_)
   go_simp; go_at_call 45; refine Calls.mono (iswhole_r (RX.out.step B.out) (by omega) (by omega)) ?_; rintro e V3 ⟨rfl, bx⟩; rw [IW.out]; replace UQ := hide (UQ.out.step bx); replace B := hide (Below.step B.out B.out.size bx); clear bx; (try dsimp only); refine hK.out _ _ ?_ (fun hHeld => ?_); (focus ((try dsimp only); exact And.intro (UQ.out.allw HO.out) (And.intro (SQ.out.step B.out).cell (cells3_at QW.out B.out)))); clear hK K
   refine tp 17 hHeld ?_
   try simp only [Act.put, s1, s2, s3, s4, s5, s6]
   refine tp 18 hHeld ?_
   try simp only [Act.put, s1, s2, s3, s4, s5, s6]
   refine tp 19 hHeld ?_
   try simp only [Act.put, s1, s2, s3, s4, s5, s6]
   refine wpAnyH_done (by kernel_rfl) ?_ _
   go_wp2_with fail
   exact ⟨⟨k + 1, by omega, by go_num, B, hide (fun j y hj hy => by
    by_cases h : j = k
    ·subst h
     rw [HX.out] at hy
     injection hy with hy
     subst hy
     rw [XF.out]
     exact ⟨HB.out, fun _ => WI.out⟩
    ·exact PR.out j y (by omega) hy)⟩, by simp [intOf]; omega⟩
  ·obtain rfl : k = n6 := by omega
   have VS := hide (show ∀ (i : Nat) x, vars[i]? = some x → Bnd x.a x.b x.lo.r x.hi.r (xf f (i : Int)) ∧ (x.w = true → Isw (xf f (i : Int))) from fun i x hx => PR.out i x (by rw [HN.out]; exact (List.getElem?_eq_some_iff.1 hx).1) hx)
   clear PR
   obtain ⟨p0, p1, p2, p3⟩ := (PQ.out.step B.out).alls
   have b7 := (Below.refl wr.heap.size wr)
   have C := hide (contains_w (gp := w.heap.size + 1) (fun r => ¬ Bnd r.a r.b r.lo.r r.hi.r (dt (tms r.d) (xf f))) enter_holdrow (HP.out.1.1.step B.out) (fun W hW r hr => by
    have hB := Below.step B.out B.out.size hW
    exact holdrow_c ((HP.out.1.2 r hr).step hB) (HU.out.step hB) ((SQ.out.step hB).cell) (HK.out.2.2 r hr) h1 hL h2 hK))
   clear b7
   go_wp2_with fail
   refine C.out.mono ?_
   rintro e w5 ⟨⟨b9, rfl, hb9⟩, bx⟩
   have H9 := hide hb9
   replace B := hide (Below.step B.out B.out.size bx)
   clear hb9 bx p0 p1 p2 p3 C
   go_wp2_with fail
   go_ret
   refine ⟨⟨_, rfl, ?_⟩, Below.step B0.out B0.out.size B.out⟩
   have h := H9.out
   constructor
   ·intro hb
    refine ⟨HF.out.symm, VS.out, fun r hr => Classical.byContradiction fun hc => ?_⟩
    have := h.2 ⟨r, hr, hc⟩
    rw [this] at hb
    cases hb
   ·intro hh
    cases b9
    ·rfl
    ·obtain ⟨r, hr, hc⟩ := h.1 rfl
     exact absurd (hh.2.2 r hr) hc
end Go.Proofs.YtnhlomphdighnaaGreat
