/-
  Shared texts, one behind the other: Kcon7, Kcon8, Samx, Rcmp, Kref1, Kgreat, Kone, Kspk.
-/
import Derived.Test.YtfnngcaalpknlaaGreatBundleM
import Derived.Test.YtfnngcaalpknlaaGreatVref5
import Derived.Test.YtfnngcaalpknlaaGreatBundleO
import Derived.Deep.DeepCutAuto
import Derived.Deep.CutBlock
import Derived.BigGuardPart
import Derived.Deep.QuietTactic
import Derived.BigQuiet
import Derived.Test.YtfnngcaalpknlaaGreatFl
import Derived.Test.YtfnngcaalpknlaaGreatBundleE
import Derived.Deep.RegionHeld3
import Derived.Test.YtfnngcaalpknlaaGreatBundleH

namespace Go.Proofs.YtfnngcaalpknlaaGreat
open Go.RowKit Go.Proofs.YtfnngcaalpknlaaGreat.Num
set_option linter.unusedVariables false
set_option linter.unusedSimpArgs false
set_option maxRecDepth 100000
theorem may_c (s z t : Int) (q : Rat) (hz : z = cmpR q 0) (w : World) : Calls Tryz.prog 131 #[.int .i64 s, .int .i64 z, .int .i64 t] w fun e w' => BRet (May s q t) e ∧ w' = w := by
 have e0 : z = 0 ↔ q = 0 := by rw [hz, cmp_eq0]
 have e1 : 0 < z ↔ 0 < q := by
  have h1 := cmpR_le (a := q) (b := 0)
  rw [hz]
  constructor
  ·intro h
   exact Rat.not_le.1 (fun k => by have := h1.2 k; omega)
  ·intro h
   have : ¬ cmpR q 0 ≤ 0 := fun k => Rat.not_le.2 h (h1.1 k)
   omega
 clear hz
 have H0 := hide e0
 have H1 := hide e1
 clear e0 e1
 by_cases h0 : z = 0
 ·have HT := hide (show May s q t from .inl (H0.out.1 h0))
  have t1 : (z == 0) = true := beq_iff_eq.2 h0
  clear h0
  go_enter Tryz.func131, Tryz.ntmps131
  go_wp2_with fail
  go_ret
  exact ⟨⟨true, rfl, by constructor <;> intro _; exact HT.out; rfl⟩, rfl⟩
 ·have t1 : (z == 0) = false := beq_eq_false_iff_ne.2 h0
  by_cases h3 : s = 3
  ·have HT := hide (show May s q t from .inr (.inl h3))
   have t2 : (s == 3) = true := beq_iff_eq.2 h3
   clear h0 h3
   go_enter Tryz.func131, Tryz.ntmps131
   go_wp2_with fail
   go_ret
   exact ⟨⟨true, rfl, by constructor <;> intro _; exact HT.out; rfl⟩, rfl⟩
  ·have t2 : (s == 3) = false := beq_eq_false_iff_ne.2 h3
   by_cases h4 : t = 3
   ·have HT := hide (show ¬ May s q t by
     rintro (h | h | h)
     ·exact h0 (H0.out.2 h)
     ·exact h3 h
     ·exact h.1 h4)
    have t3 : (t == 3) = true := beq_iff_eq.2 h4
    clear h0 h3 h4
    go_enter Tryz.func131, Tryz.ntmps131
    go_wp2_with fail
    go_ret
    exact ⟨⟨false, rfl, by constructor <;> intro h; cases h; exact absurd h HT.out⟩, rfl⟩
   ·have t3 : (t == 3) = false := beq_eq_false_iff_ne.2 h4
    have HT := hide (show ∀ o : Bool, o = ((s == t) == decide (0 < z)) → (o = true ↔ May s q t) from fun o ho => by
     have e : (o = true) ↔ (s = t ↔ 0 < z) := by
      rw [ho, beq_iff_eq]
      by_cases h5 : s = t <;> by_cases h6 : 0 < z <;> simp [h5, h6]
     rw [e, H1.out]
     constructor
     ·intro h; exact .inr (.inr ⟨h4, h⟩)
     ·rintro (h | h | h)
      ·exact absurd (H0.out.2 h) h0
      ·exact absurd h h3
      ·exact h.2)
    clear h0 h3 h4 H0 H1
    go_enter Tryz.func131, Tryz.ntmps131
    go_wp2_with fail
    go_ret
    exact ⟨⟨_, rfl, HT.out _ rfl⟩, rfl⟩
theorem senseless_c (k : Kx) (w : World) : Calls Tryz.prog 129 #[.agg (ek k).toArray] w fun e w' => BRet (¬ IsS k.s) e ∧ Below w.heap.size w w' := by
 have B := hide (show Below w.heap.size w (w.alloc (kbox k)) from (Below.refl _ _).alloc (Nat.le_refl _) _)
 show Calls Tryz.prog 129 #[kx k] w _
 go_enter Tryz.func129, Tryz.ntmps129
 go_wp2_with fail
 refine (issense_c k.s _).mono ?_
 rintro e w1 ⟨⟨o, rfl, ho⟩, rfl⟩
 have H := hide ho
 clear ho
 go_wp2_with fail
 go_ret
 exact ⟨⟨_, rfl, by rw [← H.out]; cases o <;> simp⟩, B.out⟩
theorem enter_senseless : ∀ args w, (callFunc 129 args).run Tryz.prog w = .ok (.enter 129 args) w := Go.Proofs.enters_of Tryz.func129 (by kernel_rfl) rfl
set_option maxHeartbeats 4000000 in
theorem index_s {w : World} {v : Value} {d : List Kx} (hv : Lr ek 5 w v d) :
  Calls Tryz.prog 157 #[v, .func (.func 129) #[] #[]] w fun e w' => Below w.heap.size w w' ∧
   ((∃ k : Nat, e = .returned (.int .i64 (k : Int)) ∧ ∃ x ∈ d, ¬ IsS x.s) ∨ (e = .returned (.int .i64 (-1)) ∧ ∀ x ∈ d, IsS x.s)) := by
 obtain ⟨A, c, rfl, hc1, hc2, hc3⟩ := id hv
 have HV := hide hv
 obtain ⟨n, hlen⟩ : ∃ n, n = d.length := ⟨_, rfl⟩
 rw [← hlen] at HV hc1 ⊢
 have HN := hide hlen
 have eg := enter_senseless
 unfold maxLen at hc2
 clear hv hc3 hlen
 go_enter Tryz.func157, Tryz.ntmps157
 go_wp2_with fail
 go_loopw [8] (fun iv wr => ∃ k : Nat, k ≤ n ∧ iv = .int .i64 (k : Int) ∧ Hid (Below w.heap.size w wr) ∧ Hid (∀ j x, j < k → d[j]? = some x → IsS x.s)) (fun iv _ => n - (intOf iv).toNat)
 case atStart => exact ⟨0, Nat.zero_le _, rfl, hide (Below.refl _ _), hide (fun j x h => by omega)⟩
 case round =>
  obtain ⟨k, hk, rfl, B, P⟩ := hrel
  by_cases hlt : k < n
  ·obtain ⟨t, ht⟩ := len_of (d := d) (k := k) (by rw [← HN.out]; exact hlt)
   obtain ⟨b, off, rfl, hb, hc⟩ := (HV.out.step B.out).get ht
   have c0 := hc 0 _ rfl
   have c1 := hc 1 _ rfl
   have c2 := hc 2 _ rfl
   have c3 := hc 3 _ rfl
   have c4 := hc 4 _ rfl
   rw [Nat.add_zero] at c0
   have l0 : (0 : Int) ≤ (k : Int) := by omega
   have l1 : (k : Int) < (n : Int) := by omega
   have HT := hide ht
   have HC2 := hide (show Calls Tryz.prog 129 #[.agg #[.int .i64 t.s, sv t.v, .bool t.x.s, sv t.x.u, sv t.x.t]] wr fun e W' => BRet (¬ IsS t.s) e ∧ Below wr.heap.size wr W' from senseless_c t wr)
   clear hc hb ht
   go_wp2_with (go_at_fn 129; refine HC2.out.mono ?_; rintro e w3 ⟨⟨b9, rfl, hb9⟩, bx⟩; have H9 := hide hb9; have B9 := hide (Below.step B.out B.out.size bx); clear hb9 bx; cases b9)
   ·exact ⟨⟨k + 1, by omega, by go_num, B9, hide (fun j x hj hx => by
     by_cases h : j = k
     ·subst h
      rw [HT.out] at hx
      injection hx with hx
      subst hx
      exact Classical.byContradiction fun e => absurd (H9.out.2 e) (by simp)
     ·exact P.out j x (by omega) hx)⟩, by simp [intOf]; omega⟩
   ·go_ret
    exact ⟨B9.out, .inl ⟨k, rfl, t, List.mem_of_getElem? HT.out, H9.out.1 (by simp)⟩⟩
  ·obtain rfl : k = n := by omega
   go_wp2_with fail
   go_ret
   exact ⟨B.out, .inr ⟨rfl, fun x hx => by
    obtain ⟨j, hj, e⟩ := List.getElem_of_mem hx
    exact P.out j x (by rw [HN.out]; exact hj) (by rw [List.getElem?_eq_getElem hj, e])⟩⟩
theorem contains_s {w : World} {v : Value} {d : List Kx} (hv : Lr ek 5 w v d) :
  Calls Tryz.prog 130 #[v, .func (.func 129) #[] #[]] w fun e w' => BRet (∃ x ∈ d, ¬ IsS x.s) e ∧ Below w.heap.size w w' := by
 have H := hide (index_s hv)
 obtain ⟨A, c, rfl, -, -, -⟩ := hv
 generalize d.length = n at *
 go_enter Tryz.func130, Tryz.ntmps130
 go_wp2_with fail
 refine H.out.mono ?_
 rintro e w1 ⟨bx, ⟨k, rfl, hk⟩ | ⟨rfl, hk⟩⟩
 ·have HK := hide hk
  have BX := hide bx
  clear hk bx
  go_wp2_with fail
  go_ret
  exact ⟨⟨_, rfl, by constructor <;> intro _; exact HK.out; first | rfl | exact decide_eq_true (by omega)⟩, BX.out⟩
 ·have HK := hide hk
  have BX := hide bx
  clear hk bx
  go_wp2_with fail
  go_ret
  exact ⟨⟨false, rfl, by
   constructor
   ·intro h; cases h
   ·rintro ⟨x, hx, h⟩; exact absurd (HK.out x hx) h⟩, BX.out⟩
def CmArg (l : List Kx) (o : List Rx) (t : Int) : Prop := ¬ IsS t ∨ o.length ≠ l.length ∨ ∃ k ∈ l, ¬ IsS k.s
def CmRule (l : List Kx) (o : List Rx) (t : Int) : Prop := ∃ (i : Nat) (k : Kx), l[i]? = some k ∧ ¬ May k.s (xf o (i : Int)) t
set_option maxHeartbeats 8000000 in
theorem wrong_c {w : World} {v u : Value} {l : List Kx} {o : List Rx} {t : Int} {L M : Nat} (hv : Kl w v l L) (hu : Fv w u o M) (hM : M ≤ 17592186044000) :
  Calls Tryz.prog 72 #[v, u, .int .i64 t] w fun e w' => ((e = .returned (.int .i64 2) ∧ CmArg l o t) ∨ (e = .returned (.int .i64 241) ∧ ¬ CmArg l o t ∧ CmRule l o t) ∨ (e = .returned (.int .i64 0) ∧ ¬ CmArg l o t ∧ ¬ CmRule l o t)) ∧ Below w.heap.size w w' := by
 obtain ⟨A, c, e1, hc1, hc2, hc3⟩ := id hv.1
 obtain ⟨D, m, e2, hd1, hd2, hd3⟩ := id hu.1
 obtain ⟨n, hlen⟩ : ∃ n, n = l.length := ⟨_, rfl⟩
 obtain ⟨n', hlen'⟩ : ∃ n', n' = o.length := ⟨_, rfl⟩
 rw [← hlen] at e1 hc1
 rw [← hlen'] at e2 hd1
 subst e1 e2
 have HV := hide hv
 have HU := hide hu
 have HN := hide hlen
 have HL := hide hlen'
 unfold maxLen at hc2
 clear hv hu hc3 hd3 hlen hlen'
 go_enter Tryz.func72, Tryz.ntmps72
 go_wp2_with fail
 refine (issense_c t _).mono ?_
 rintro e w1 ⟨⟨b, rfl, hb⟩, hw⟩
 subst w1
 have H1 := hide hb
 clear hb
 cases b
 ·go_wp2_with fail
  go_ret
  exact ⟨.inl ⟨rfl, .inl fun h => absurd (H1.out.2 h) (by simp)⟩, Below.refl _ _⟩
 by_cases hnn : n' = n
 case neg =>
  have t0 : ((n' : Int) != (n : Int)) = true := by simp; omega
  have NN := hide hnn
  clear hnn
  go_wp2_with fail
  go_ret
  exact ⟨.inl ⟨rfl, .inr (.inl (by rw [← HN.out, ← HL.out]; exact NN.out))⟩, Below.refl _ _⟩
 subst hnn
 have t0 : ((n' : Int) != (n' : Int)) = false := by simp
 go_wp2_with fail
 refine (contains_s HV.out.1).mono ?_
 rintro e w1 ⟨⟨b, rfl, hb⟩, bx⟩
 have H2 := hide hb
 have B0 := hide bx
 clear hb bx
 cases b
 case true =>
  go_wp2_with fail
  go_ret
  exact ⟨.inl ⟨rfl, .inr (.inr (H2.out.1 (by simp)))⟩, B0.out⟩
 have NA := hide (show ¬ CmArg l o t by
  rintro (h | h | h)
  ·exact h (H1.out.1 (by simp))
  ·exact h (by rw [← HN.out, ← HL.out])
  ·exact absurd (H2.out.2 h) (by simp))
 clear H1 H2
 go_wp2_with fail
 go_loopw [27] (fun iv wr => ∃ k : Nat, k ≤ n' ∧ iv = .int .i64 (k : Int) ∧ Hid (Below w.heap.size w wr) ∧ Hid (∀ (j : Nat) x, j < k → l[j]? = some x → May x.s (xf o (j : Int)) t)) (fun iv _ => n' - (intOf iv).toNat)
 case atStart => exact ⟨0, Nat.zero_le _, rfl, B0, hide (fun j x h => by omega)⟩
 case round =>
  obtain ⟨k, hk, rfl, B, S⟩ := hrel
  by_cases hlt : k < n'
  ·obtain ⟨x, hx⟩ := len_of (d := l) (k := k) (by rw [← HN.out]; exact hlt)
   obtain ⟨y, hy⟩ := len_of (d := o) (k := k) (by rw [← HL.out]; exact hlt)
   have b8 : Below wr.heap.size wr (wr.alloc (kbox x)).drew := ((Below.refl _ _).alloc (Nat.le_refl _) _).drew
   have Q := hide (show Kq (wr.alloc (kbox x)).drew wr.heap.size x from (Kq.new wr x).step (Below.refl _ _).drew)
   have RY := hide (((HU.out.2 y (List.mem_of_getElem? hy)).step B.out).step b8)
   have XY := hide (xf_in hy)
   obtain ⟨b, off, rfl, hb, hc⟩ := (HV.out.1.step B.out).get hx
   obtain ⟨b', off', rfl, hb', hc'⟩ := (HU.out.1.step B.out).get hy
   have c0 := hc 0 _ rfl
   have c1 := hc 1 _ rfl
   have c2 := hc 2 _ rfl
   have c3 := hc 3 _ rfl
   have c4 := hc 4 _ rfl
   have d0 := cell_keep (hc' 0 _ rfl) b8
   have d1 := cell_keep (hc' 1 _ rfl) b8
   have d2 := cell_keep (hc' 2 _ rfl) b8
   rw [Nat.add_zero] at c0 d0
   have PD := hide (And.intro d0 (And.intro d1 d2))
   have l0 : (0 : Int) ≤ (k : Int) := by omega
   have l1 : (k : Int) < (n' : Int) := by omega
   have HX := hide hx
   have B8 := hide (Below.step B.out B.out.size b8)
   clear hc hc' hb hb' hx hy d0 d1 d2
   go_wp2_with fail
   generalize hW5 : (wr.alloc (kbox x)) = w5 at *
   generalize wr.heap.size = gx at *
   clear c0 c1 c2 c3 c4
   go_region_held3 (fun W => W.cell? ⟨gx, 0, none⟩ = some (.int .i64 x.s) ∧ W.cell? ⟨b', off' + k * 3, none⟩ = some (.bool y.s) ∧ W.cell? ⟨b', off' + k * 3 + 1, none⟩ = some (sv y.u) ∧ W.cell? ⟨b', off' + k * 3 + 2, none⟩ = some (sv y.t))
    (with_reducible exact ⟨Q.out.all.1, PD.out⟩)
    (first
     | (go_at_call 110; refine Calls.mono (sign_r RY.out hM) ?_; rintro e wx ⟨rfl, bx⟩; obtain ⟨z, hz⟩ : ∃ z, z = cmpR y.r 0 := ⟨_, rfl⟩; rw [← hz]; have HZ := hide hz; replace Q := hide (Q.out.step bx); replace PD := hide (And.intro (cell_keep PD.out.1 bx) (And.intro (cell_keep PD.out.2.1 bx) (cell_keep PD.out.2.2 bx))); replace B8 := hide (Below.step B8.out B8.out.size bx); clear hz bx)
     | (go_at_call 131; refine Calls.mono (may_c x.s z t y.r HZ.out _) ?_; rintro e wx ⟨⟨b9, rfl, hb9⟩, rfl⟩; have H9 := hide hb9; clear hb9))
   all_goals
    clear PD Q
    cases b9
    ·go_wp2_with fail
     go_ret
     exact ⟨.inr (.inl ⟨rfl, NA.out, k, x, HX.out, fun h => by rw [XY.out] at h; exact absurd (H9.out.2 h) (by simp)⟩), B8.out⟩
    ·go_wp2_with fail
     exact ⟨⟨k + 1, by omega, by go_num, B8, hide (fun j x' hj hx' => by
      by_cases h : j = k
      ·subst h
       rw [HX.out] at hx'
       injection hx' with hx'
       subst hx'
       rw [XY.out]
       exact H9.out.1 (by simp)
      ·exact S.out j x' (by omega) hx')⟩, by simp [intOf]; omega⟩
  ·obtain rfl : k = n' := by omega
   go_wp2_with fail
   go_ret
   exact ⟨.inr (.inr ⟨rfl, NA.out, fun ⟨i, x, hx, h⟩ => h (S.out i x (by have := (List.getElem?_eq_some_iff.1 hx).1; rw [HN.out]; exact this) hx)⟩), B.out⟩
theorem step_joinA {α : Type} {enc : α → List Value} {k : Nat} {P : Program} {ops : Array Oper} {o : Oper} {a : Act} {K : Act → World → Prop} {Q : Exit → Act → World → Prop} {E : Prop} (hgd : o.guard = none) (s y : Operand) (t : TypeId)
  (ho : o.op = .call { callee := .builtin .append, args := #[s, y], argTypes := #[t, t] })
  {e : TypeId} {i : TypeInfo} {z : Value} {by_ : Nat} (ht : P.underlying t = some (.slice e)) (hi : P.info? e = some i) (hz : i.zero = some z)
  (hsize : i.size = k) (hby : i.bytes = by_) (hzs : z.cells.size = k) (h0 : 0 < k) (hk : ∀ x, (enc x).length = k) (h1 : ∀ x, ∀ u ∈ enc x, u.oneCell' = true) (wr : World) (B : Nat) (v u : Value) (d d2 : List α)
  (hx : Lr enc k wr u d2) (hown : Ow e enc k wr B v d) (hs : a.eval s = v) (hy : a.eval y = u)
  (hlen : d.length + d2.length ≤ 1000000000000) (hb8 : by_ ≤ 128) (hB : B ≤ wr.heap.size)
  (h : ∀ v' w', Ow e enc k w' B v' (d ++ d2) → wr.grownBy w' v.ownBlock → K (a.put o.dst v') w') :
  if Region.wanted o (yielded ops a.tmps) = true then Oper.wp P o a wr K Q else E := by
 rw [if_pos (by simp [Region.wanted, hgd])]
 obtain ⟨A, c, rfl, hc1, hc2, hc3⟩ := id hx
 cases A with
 | none =>
  have h0 : d2 = [] := by
   rcases Nat.eq_zero_or_pos d2.length with h | h
   ·exact List.length_eq_zero_iff.1 h
   ·obtain ⟨b, off, e, _⟩ := hc3 h
    cases e
  subst h0
  have hv : ∃ A n c, v = .slice A n c ∧ n ≤ c := by
   rcases hown.form with ⟨rfl, _⟩ | ⟨g, cap, cur, rfl, _, _, _, h, _⟩
   ·exact ⟨none, 0, 0, rfl, Nat.le_refl _⟩
   ·exact ⟨_, _, _, rfl, h⟩
  obtain ⟨A, n, c0, rfl, hnc⟩ := hv
  have hr := run_join0 (P := P) (ty := o.type) ht hi wr A n c0 c hnc
  unfold Oper.wp execOp
  simp only [ho, resolve, invoke, builtin, Sem.run_bind, Sem.run_pure, Result.andThen_ok, List.map_toArray, List.map_cons, List.map_nil, hs, hy, hr, List.length_nil]
  refine h _ _ ?_ (only_refl _ _)
  rw [List.append_nil]
  exact hown
 | some ad =>
  obtain ⟨v', w', hr, h2, h3⟩ := run_joinE (P := P) ht hi hz hsize hby hzs h0 hk h1 o.type wr B v d ad c d2 hx hown hlen hb8 hB
  unfold Oper.wp execOp
  simp only [ho, resolve, invoke, builtin, Sem.run_bind, Sem.run_pure, Result.andThen_ok, List.map_toArray, List.map_cons, List.map_nil, hs, hy, hr]
  exact h v' w' h2 h3.1
theorem Tg.join {W W' : World} {B L M : Nat} {v v' u : Value} {d d2 : List Tx} (h : Tg W B v d L) (k : Tg W B u d2 M) (hL : L ≤ M) (ho : Ow 77 et 4 W' B v' (d ++ d2)) (hg : W.grownBy W' v.ownBlock) : Tg W' B v' (d ++ d2) M :=
 ⟨ho, fun x hx => by
  rcases List.mem_append.1 hx with hx | hx
  ·exact ((h.2 x hx).more hL).grownT hg (fun g e => h.1.ot g e)
  ·exact (k.2 x hx).grownT hg (fun g e => h.1.ot g e)⟩
theorem Kq.off {W W' : World} {B g : Nat} {v : Value} {d : List Tx} {k : Kx} (hq : Kq W g k) (hT : Ow 77 et 4 W B v d) (hg : W.grownBy W' v.ownBlock) : Kq W' g k := by
 refine (hg.block g hq.lt (fun he => ?_)).trans hq
 rcases hq.kb.ne hT with h | h
 ·rw [h] at he; cases he
 ·exact h he.symm
theorem Kz.off {W W' : World} {B g : Nat} {v : Value} {d : List Tx} (hq : Kz W g) (hT : Ow 77 et 4 W B v d) (hg : W.grownBy W' v.ownBlock) : Kz W' g := by
 refine (hg.block g hq.lt (fun he => ?_)).trans hq
 rcases hq.kb.ne hT with h | h
 ·rw [h] at he; cases he
 ·exact h he.symm
theorem Rg.off {W W' : World} {B C L : Nat} {v : Value} {d : List Tx} {x : Rx} (h : Rg W C x L) (hT : Ow 77 et 4 W B v d) (hg : W.grownBy W' v.ownBlock) : Rg W' C x L := h.grownT hg (fun g e => hT.ot g e)
theorem Bq.oth {W : World} {g h : Nat} {s : Bool} {u t : Value} (z : Bq W h s u t) (hne : h ≠ g) (j : Nat) (a : Value) : Bq (W.setCell ⟨g, j, none⟩ a) h s u t := (Below.heap_setCell _ _ a h hne).trans z
theorem Tg.grownR {W W' : World} {B L g : Nat} {v : Value} {d : List Tx} {s : Bool} {u t : Value} (h : Tg W B v d L) (hg : W.grownBy W' (some g)) (hq : Bq W g s u t) : Tg W' B v d L := by
 have hot : Ot W g := ⟨_, _, _, hq, by decide⟩
 refine ⟨h.1.kept hg ?_, fun x hx => (h.2 x hx).grownT hg (fun g' e => by cases e; exact hot)⟩
 rcases h.1.form with ⟨rfl, _⟩ | ⟨g', cap, cur, rfl, hB, hlt, hh, r⟩
 ·exact .inl rfl
 ·refine .inr (fun e => ?_)
  have e : g' = g := by simpa [Value.ownBlock] using e
  subst e
  unfold Bq at hq
  rw [hq] at hh
  injection hh with hh
  injection hh with _ e2 _
  exact absurd e2 (by decide)
theorem cells3_at {w W : World} {b off : Nat} {x : Rx} (h : b < w.heap.size ∧ w.cell? ⟨b, off, none⟩ = some (.bool x.s) ∧ w.cell? ⟨b, off + 1, none⟩ = some (sv x.u) ∧ w.cell? ⟨b, off + 2, none⟩ = some (sv x.t)) (B : Below w.heap.size w W) :
  W.cell? ⟨b, off, none⟩ = some (.bool x.s) ∧ W.cell? ⟨b, off + 1, none⟩ = some (sv x.u) ∧ W.cell? ⟨b, off + 2, none⟩ = some (sv x.t) := ⟨(B.cell h.1).trans h.2.1, (B.cell h.1).trans h.2.2.1, (B.cell h.1).trans h.2.2.2⟩
def kAt (l : List Kx) (i : Nat) : Kx := l.getD i default
theorem kAt_of {l : List Kx} {i : Nat} {k : Kx} (h : l[i]? = some k) : kAt l i = k := by unfold kAt; rw [List.getD_eq_getElem?_getD, h]; rfl
def CmT (l : List Kx) (o : List Rx) (n : Nat) (ts : List Tm) (r : Rat) : Prop := (∀ c, 0 ≤ c → gsum ts c = sm n (fun i => xf o (i : Int) * gsum (tms (kAt l i).d) c)) ∧ r = sm n (fun i => xf o (i : Int) * (kAt l i).x.r)
theorem CmT.next {l : List Kx} {o : List Rx} {k : Nat} {d d2 : List Tx} {r z : Rat} {kk : Kx} {q : Rx} (h : CmT l o k (tms d) r) (hk : kAt l k = kk) (hq : xf o (k : Int) = q.r) (h2 : ∀ c, 0 ≤ c → gsum (tms d2) c = q.r * gsum (tms kk.d) c) (hz : z = r + q.r * kk.x.r) : CmT l o (k + 1) (tms (d ++ d2)) z := by
 refine ⟨fun c hc => ?_, ?_⟩
 ·rw [tms_append, gsum_append, h.1 c hc, h2 c hc]
  show _ = sm k _ + xf o (k : Int) * gsum (tms (kAt l k).d) c
  rw [hk, hq]
 ·rw [hz, h.2]
  show _ = sm k _ + xf o (k : Int) * (kAt l k).x.r
  rw [hk, hq]
def CbRet (w : World) (l : List Kx) (o : List Rx) (t : Int) (e : Ending) (w' : World) : Prop :=
 ((e = .returned (.tuple #[kzero, .int .i64 2]) ∧ CmArg l o t) ∨ (e = .returned (.tuple #[kzero, .int .i64 241]) ∧ ¬ CmArg l o t ∧ CmRule l o t) ∨
  ∃ k' : Kx, e = .returned (.tuple #[kx k', .int .i64 0]) ∧ ¬ CmArg l o t ∧ ¬ CmRule l o t ∧ Kg w' w.heap.size k' 141200 ∧ k'.s = t ∧ CmT l o l.length (tms k'.d) k'.x.r ∧ k'.d.length ≤ 360) ∧ Below w.heap.size w w'
set_option maxHeartbeats 16000000 in
theorem kcombine_g {w : World} {v u : Value} {l : List Kx} {o : List Rx} {t : Int} (hv : Kl w v l 6) (hu : Fv w u o 6) (hd : ∀ k ∈ l, k.d.length ≤ 30) (hn : l.length ≤ 12) :
  Calls Tryz.prog 26 #[v, u, .int .i64 t] w (CbRet w l o t) := by
 obtain ⟨i0, hi, hz0, hz1, hz2⟩ := info_parts info_tm
 obtain ⟨A, c, e1, hc1, hc2, hc3⟩ := id hv.1
 obtain ⟨D, m, e2, hd1, hd2, hd3⟩ := id hu.1
 obtain ⟨n, hlen⟩ : ∃ n, n = l.length := ⟨_, rfl⟩
 obtain ⟨n', hlen'⟩ : ∃ n', n' = o.length := ⟨_, rfl⟩
 rw [← hlen] at e1 hc1 hn
 rw [← hlen'] at e2 hd1
 subst e1 e2
 have HV := hide hv
 have HU := hide hu
 have HN := hide hlen
 have HL := hide hlen'
 have HD := hide hd
 unfold maxLen at hc2
 have b0 := alloc_below w kblk
 have Z := hide (Kz.new w)
 have B := hide b0
 clear hv hu hc3 hd3 hlen hlen' hd b0
 go_enter Tryz.func26, Tryz.ntmps26
 go_wp2_with fail
 refine (wrong_c (t := t) (HV.out.step B.out) (HU.out.step B.out) (by omega)).mono ?_
 rintro e w1 ⟨(⟨rfl, h⟩ | ⟨rfl, h, h2⟩ | ⟨rfl, h, h2⟩), bx⟩
 ·have HA := hide h
  replace Z := hide (Z.out.step bx)
  replace B := hide (Below.step B.out B.out.size bx)
  clear h bx
  obtain ⟨z0, z1, z2, z3, z4⟩ := Z.out.all
  have y0 := Z.out.fz 0
  have y1 := Z.out.fz 1
  have y2 := Z.out.fz 2
  have y3 := Z.out.fz 3
  have y4 := Z.out.fz 4
  have F9 := hide (kz_fit (w0 := w) Z.out (Nat.le_refl _) B.out)
  go_wp2_with fail
  exact bodyPost_ret (kret2 rfl _ _ _ #[.int .i64 0, .slice none 0 0, .bool false, .slice none 0 0, .slice none 0 0] rfl rfl F9.out.1) rfl ⟨.inl ⟨rfl, HA.out⟩, F9.out.2⟩
 ·have HA := hide h
  have HR := hide h2
  replace Z := hide (Z.out.step bx)
  replace B := hide (Below.step B.out B.out.size bx)
  clear h h2 bx
  obtain ⟨z0, z1, z2, z3, z4⟩ := Z.out.all
  have y0 := Z.out.fz 0
  have y1 := Z.out.fz 1
  have y2 := Z.out.fz 2
  have y3 := Z.out.fz 3
  have y4 := Z.out.fz 4
  have F9 := hide (kz_fit (w0 := w) Z.out (Nat.le_refl _) B.out)
  go_wp2_with fail
  exact bodyPost_ret (kret2 rfl _ _ _ #[.int .i64 0, .slice none 0 0, .bool false, .slice none 0 0, .slice none 0 0] rfl rfl F9.out.1) rfl ⟨.inr (.inl ⟨rfl, HA.out, HR.out⟩), F9.out.2⟩
 have HA := hide h
 have HR := hide h2
 have EL := hide (show o.length = l.length from Classical.byContradiction fun e => h (.inr (.inl e)))
 replace Z := hide (Z.out.step bx)
 replace B := hide (Below.step B.out B.out.size bx)
 clear h h2 bx
 go_wp2_with fail
 refine (whole_o _ 0 (by omega) (by omega)).mono ?_
 rintro e w2 ⟨x, rfl, hx, rx0, b1⟩
 have bx := alloc_below w2 (rbox x.s (sv x.u) (sv x.t))
 have GL0 := hide (Z.out.step b1).lt
 replace Z := hide ((Z.out.step b1).step bx)
 have R := hide ((rx0.mono (B' := w.heap.size) B.out.size).step bx)
 have QB := hide (Bq.new w2 x.s (sv x.u) (sv x.t))
 have GL := GL0
 replace B := hide (Below.step (Below.step B.out B.out.size b1) (Below.step B.out B.out.size b1).size bx)
 have X := hide hx
 clear hx rx0 b1 bx
 go_wp2_with fail
 generalize (w2.alloc (rbox x.s (sv x.u) (sv x.t))) = w3 at *
 generalize w2.heap.size = g5 at *
 have CT := hide (show CmT l o 0 (tms []) x.r from ⟨fun c _ => rfl, by rw [X.out]; rfl⟩)
 clear X
 go_loopw [9, 24] (fun tv iv wr => ∃ (k : Nat) (x : Rx) (d : List Tx), k ≤ n ∧ iv = .int .i64 (k : Int) ∧ Hid (Below w.heap.size w wr) ∧ Hid (Kz wr w.heap.size) ∧ Bq wr g5 x.s (sv x.u) (sv x.t) ∧ Hid (Rg wr w.heap.size x (k * 13 + 1)) ∧ Hid (Tg wr w.heap.size tv d 391) ∧ Hid (CmT l o k (tms d) x.r) ∧ Hid (d.length ≤ k * 30)) (fun _ iv _ => n - (intOf iv).toNat)
 case atStart => exact ⟨0, x, [], Nat.zero_le _, rfl, B, Z, QB.out, by simpa using R, hide ⟨Ow.nil _ _ _ _ _, fun x hx => by cases hx⟩, CT, hide (Nat.zero_le _)⟩
 case round =>
  obtain ⟨k, y, d, hk, rfl, B, Z, Qb, R, T, E, DL⟩ := hrel
  by_cases hlt : k < n
  ·obtain ⟨kk, hkk⟩ := len_of (d := l) (k := k) (by rw [← HN.out]; exact hlt)
   obtain ⟨q, hq⟩ := len_of (d := o) (k := k) (by rw [EL.out, ← HN.out]; exact hlt)
   have KK := hide (kAt_of hkk)
   have XQ := hide (xf_in hq)
   have DK := hide (HD.out kk (List.mem_of_getElem? hkk))
   have b8 := (alloc_below wr (kbox kk)).drew
   have KV := hide (HV.out.2 kk (List.mem_of_getElem? hkk))
   have QV := hide (HU.out.2 q (List.mem_of_getElem? hq))
   obtain ⟨b, off, rfl, hb, hc⟩ := (HV.out.1.step B.out).get hkk
   obtain ⟨b', off', rfl, hb', hc'⟩ := HU.out.1.get hq
   have c0 := hc 0 _ rfl
   have c1 := hc 1 _ rfl
   have c2 := hc 2 _ rfl
   have c3 := hc 3 _ rfl
   have c4 := hc 4 _ rfl
   rw [Nat.add_zero] at c0
   have q0 := hc' 0 _ rfl
   rw [Nat.add_zero] at q0
   have QW := hide (And.intro hb' (And.intro q0 (And.intro (hc' 1 _ rfl) (hc' 2 _ rfl))))
   have l0 : (0 : Int) ≤ (k : Int) := by omega
   have l1 : (k : Int) < (n : Int) := by omega
   have l2 : (k : Int) < (n' : Int) := by have := EL.out; have := HN.out; have := HL.out; omega
   have KQ := hide (show Kq (wr.alloc (kbox kk)).drew wr.heap.size kk from (Kq.new wr kk).step (Below.refl _ _).drew)
   replace B := hide (Below.step B.out B.out.size b8)
   replace Z := hide (Z.out.step b8)
   replace Qb := hide (Qb.step b8)
   replace R := hide (R.out.step b8)
   replace T := hide (T.out.step b8)
   obtain ⟨TA, tn, tc, rfl⟩ := rv_sl T.out.tv.1
   have HLT := hide (show d.length + kk.d.length ≤ 1000000000000 by have := DL.out; have := DK.out; omega)
   clear hc hc' hb hb' hkk hq q0 b8
   go_wp2_with fail
   generalize hW5 : (wr.alloc (kbox kk)) = w5 at *
   generalize wr.heap.size = gk at *
   clear c0 c1 c2 c3 c4
   go_region_held3 (fun W => W.cell? ⟨gk, 1, none⟩ = some (sv kk.v) ∧ W.cell? ⟨b', off' + k * 3, none⟩ = some (.bool q.s) ∧ W.cell? ⟨b', off' + k * 3 + 1, none⟩ = some (sv q.u) ∧ W.cell? ⟨b', off' + k * 3 + 2, none⟩ = some (sv q.t))
    (with_reducible first | exact ⟨KQ.out.all.2.1, cells3_at QW.out B9.out⟩ | exact ⟨KQ.out.all.2.1, cells3_at QW.out B.out⟩)
    (first
     | (go_at_call 74; refine Calls.mono (scale_t (K := 6) (L := 6) (QV.out.step B.out) (KV.out.1.step B.out) (Nat.le_trans DK.out (by omega)) (by omega) (by omega) (by omega) (by omega)) ?_; rintro e wx ⟨v2, d2, rfl, t2, f2, g2, n2, bx⟩; have T2 := hide (show Tg wx w.heap.size v2 d2 391 from ⟨(t2.mono (B' := w.heap.size) B.out.size).1, fun x hx => ((t2.mono (B' := w.heap.size) B.out.size).2 x hx).more (by have := DK.out; omega)⟩); have G2 := hide g2; have N2 := hide n2; replace KQ := hide (KQ.out.step bx); replace Z := hide (Z.out.step bx); replace Qb := hide (Qb.out.step bx); replace R := hide (R.out.step bx); replace T := hide (T.out.step bx); replace B := hide (Below.step B.out B.out.size bx); clear t2 f2 g2 n2 bx)
     | (refine step_joinA rfl (.tmp 29) (.tmp 36) 28 rfl Tryz.underlying28 hi hz0 hz1 hz2 rfl (by omega) et_len et_one wx w.heap.size _ _ d d2 T2.out.tv.1 T.out.1 rfl rfl (Nat.le_trans (Nat.add_le_add_left N2.out _) HLT.out) (by decide) B.out.size ?_; intro v' w' ho hg; have TJ := hide (T.out.join T2.out (Nat.le_refl _) ho hg); have B9 := hide (below_own B.out T.out.1 hg B.out.size); replace KQ := hide (KQ.out.off T.out.1 hg); replace Z := hide (Z.out.off T.out.1 hg); replace Qb := hide (Qb.out.off T.out.1 hg); replace R := hide (R.out.off T.out.1 hg); clear ho hg))
   all_goals
    have dr := (Below.refl w'.heap.size w').drew
    replace KQ := hide (KQ.out.step dr)
    replace Z := hide (Z.out.step dr)
    replace Qb := hide (Qb.out.step dr)
    replace R := hide (R.out.step dr)
    replace TJ := hide (TJ.out.step dr)
    replace B9 := hide (Below.step B9.out B9.out.size dr)
    have DJ := hide (show (d ++ d2).length ≤ (k + 1) * 30 by rw [List.length_append]; have := DL.out; have := DK.out; have := N2.out; omega)
    obtain ⟨JA, jn, jc, rfl⟩ := rv_sl TJ.out.tv.1
    clear dr T2 T B HLT N2
    go_wp2_with fail
    obtain ⟨-, -, k2, k3, k4⟩ := KQ.out.all
    obtain ⟨p0, p1, p2, -, -, -⟩ := Qb.out.all
    obtain ⟨o0, o1, o2⟩ := cells3_at QW.out B9.out
    go_region_with (first
     | (go_at_call 76; refine Calls.mono (mul_g (QV.out.step B9.out) (KV.out.2.step B9.out) (by omega) (by omega) (by omega) (by omega)) ?_; rintro e wb ⟨yb, rfl, hb, rb, bx⟩; have Q6 := hide (Qb.out.step bx); obtain ⟨p0, p1, p2, -, -, -⟩ := Q6.out.all; have R6 := hide (R.out.step bx); have B6 := hide (Below.step B9.out B9.out.size bx); have Z6 := hide (Z.out.step bx); have T6 := hide (TJ.out.step bx); have A6 := hide rb.ra; have HB := hide hb; clear hb rb bx)
     | (go_at_call 75; refine Calls.mono (add_g R6.out.ra A6.out (by omega) (by omega) (by omega) (by omega)) ?_; rintro e wx ⟨z, rfl, hz, rz, bx⟩; have Q5 := hide (Q6.out.step bx); obtain ⟨p0, p1, p2, f0, f1, f2⟩ := Q5.out.all; have B5 := hide (Below.step B6.out B6.out.size bx); have Z5 := hide (Z6.out.step bx); have T5 := hide (T6.out.step bx); have RZ := hide ((rz.mono (B' := w.heap.size) B6.out.size).more (M := (k + 1) * 13 + 1) (by omega)); have HZ := hide hz; clear hz rz bx))
    all_goals
     have only := only_put3 wx g5 (.bool z.s) (sv z.u) (sv z.t)
     have bz2 := hide (below_put3 B5.out (Nat.le_of_lt GL.out) (.bool z.s) (sv z.u) (sv z.t))
     have zz := hide (Z5.out.other3 (g := g5) (by have := GL.out; omega) 0 1 2 (.bool z.s) (sv z.u) (sv z.t))
     have qq := hide (Q5.out.put z.s (sv z.u) (sv z.t))
     have ee := hide (E.out.next KK.out XQ.out G2.out (show z.r = y.r + q.r * kk.x.r by rw [HZ.out, HB.out]))
     have rr := hide (RZ.out.grown only Q5.out.nu)
     have tt := hide (T5.out.grownR only Q5.out)
     clear only p0 p1 p2 f0 f1 f2 k2 k3 k4 o0 o1 o2
     go_wp2_with fail
     exact ⟨⟨k + 1, z, d ++ d2, by omega, by go_num, bz2, zz, qq.out, rr, tt, ee, DJ⟩, by simp [intOf]; omega⟩
  ·obtain rfl : k = n := by omega
   have dr := (Below.refl wr.heap.size wr).drew
   replace B := hide (Below.step B.out B.out.size dr)
   replace Z := hide (Z.out.step dr)
   replace Qb := hide (Qb.step dr)
   replace R := hide (R.out.step dr)
   replace T := hide (T.out.step dr)
   have D3 := hide (show d.length ≤ 360 by have := DL.out; omega)
   obtain ⟨TA, tn, tc, rfl⟩ := rv_sl T.out.tv.1
   have hne : g5 ≠ w.heap.size := by have := GL.out; omega
   clear dr
   go_wp2_with fail
   go_region_held3 (fun W => W.cell? ⟨g5, 0, none⟩ = some (.bool y.s) ∧ W.cell? ⟨g5, 1, none⟩ = some (sv y.u) ∧ W.cell? ⟨g5, 2, none⟩ = some (sv y.t))
    (with_reducible first | exact ⟨Qb.out.all.1, Qb.out.all.2.1, Qb.out.all.2.2.1⟩ | exact ⟨(((((Qb.out.oth hne _ _).oth hne _ _).oth hne _ _).oth hne _ _).oth hne _ _).all.1, (((((Qb.out.oth hne _ _).oth hne _ _).oth hne _ _).oth hne _ _).oth hne _ _).all.2.1, (((((Qb.out.oth hne _ _).oth hne _ _).oth hne _ _).oth hne _ _).oth hne _ _).all.2.2.1⟩)
    (first
     | (go_at_call 77; refine Calls.mono (make_t (L := 391) T.out.tv (Nat.le_trans D3.out (by omega)) (by omega) (by omega)) ?_; rintro e wx ⟨v1, d1, rfl, t1, f1, g1, l1, bx⟩; obtain ⟨A5, n5, c5, rfl⟩ := rv_sl t1.tv.1; replace Qb := hide (Qb.out.step bx); obtain ⟨⟨k0, k1, k2, k3, k4⟩, ⟨f0, f1', f2, f3, f4⟩, fin⟩ := kg_put (w0 := w) (k := ⟨t, (A5, n5, c5), d1, y⟩) (L := 141200) ⟨(t1.mono (B' := w.heap.size) B.out.size).more (by have := D3.out; omega), (R.out.step bx).more (by omega), f1⟩ (Z.out.step bx) (Nat.le_refl _) (Below.step B.out B.out.size bx); dsimp only at fin; have G1 := hide g1; have N1 := hide l1; clear g1 l1 t1 f1))
   all_goals
    have F9 := hide fin
    clear fin
    go_wp2_with fail
    exact bodyPost_ret (kret2 rfl _ _ _ #[.int .i64 t, .slice A5 n5 c5, .bool y.s, sv y.u, sv y.t] rfl rfl F9.out.1) rfl ⟨.inr (.inr ⟨⟨t, (A5, n5, c5), d1, y⟩, rfl, HA.out, HR.out, F9.out.2.1, rfl, by rw [← HN.out]; exact ⟨fun c hc => (G1.out c hc).trans (E.out.1 c hc), E.out.2⟩, Nat.le_trans N1.out D3.out⟩), F9.out.2.2⟩
theorem ne_of_beq_false {a b : Bool} (h : (a == b) = false) : a ≠ b := by
  rintro rfl
  cases a <;> cases h
theorem rat_same (r q : Rat) : r = q ↔ (decide (r.num < 0) = decide (q.num < 0) ∧ cn Q r.num.natAbs = cn Q q.num.natAbs ∧ cn Q r.den = cn Q q.den) := by
  constructor
  · rintro rfl
    exact ⟨rfl, rfl, rfl⟩
  · rintro ⟨h1, h2, h3⟩
    have e2 := cn_inj Q_two h2
    have e3 := cn_inj Q_two h3
    have e1 : (r.num < 0) ↔ (q.num < 0) := by simpa using h1
    exact Rat.ext (by omega) e3
def Sm (d f : List Tx) (k : Nat) : Prop := ∀ j x y, j < k → d[j]? = some x → f[j]? = some y → x.c = y.c ∧ x.x.r = y.x.r
theorem Sm.zero (d f : List Tx) : Sm d f 0 := fun j x y h => by omega
theorem Sm.next {d f : List Tx} {k : Nat} {x y : Tx} (h : Sm d f k) (hx : d[k]? = some x) (hy : f[k]? = some y) (e1 : x.c = y.c) (e2 : x.x.r = y.x.r) : Sm d f (k + 1) := by
  intro j x' y' hj hx' hy'
  by_cases e : j = k
  · subst e
    rw [hx] at hx'; rw [hy] at hy'
    cases hx'; cases hy'
    exact ⟨e1, e2⟩
  · exact h j x' y' (by omega) hx' hy'
theorem Sm.done {d f : List Tx} {k : Nat} (h : Sm d f k) (hk : d.length ≤ k) (hl : d.length = f.length) : tms d = tms f := by
  refine List.ext_getElem? (fun j => ?_)
  unfold tms
  rw [List.getElem?_map, List.getElem?_map]
  by_cases hj : j < d.length
  · obtain ⟨x, hx⟩ := len_of hj
    obtain ⟨y, hy⟩ := len_of (d := f) (k := j) (by omega)
    have := h j x y (by omega) hx hy
    rw [hx, hy]
    simp [tm, this.1, this.2]
  · rw [List.getElem?_eq_none (by omega), List.getElem?_eq_none (by omega)]
theorem lsame_x {w : World} {u v : Value} {xs ys : List Nat} {L M : Nat} (hu : Lw w u xs L) (hv : Lw w v ys M) :
    Calls Tryz.prog 81 #[u, v] w fun e w' => (∃ b : Bool, e = .returned (.bool b) ∧ (b = true ↔ xs = ys)) ∧ Below w.heap.size w w' := by
  obtain ⟨A, n, c, rfl, hx, _, h1, h2, _⟩ := hu
  obtain ⟨D, m, d, rfl, hy, _, h3, h4, _⟩ := hv
  refine (same_any _ _ A D _ c _ d _ _ w hx hy (by omega) (by omega)).mono fun e w' ⟨he, m, hm⟩ => ⟨⟨_, he, by unfold sameB; simp⟩, ?_⟩
  rw [hm]
  exact below_drewN (Below.refl _ _) m
set_option maxHeartbeats 1000000 in
theorem zsame_x {w : World} {s t : Bool} {u v : Value} {xs ys : List Nat} {L M : Nat} (hu : Lw w u xs L) (hv : Lw w v ys M) :
    Calls Tryz.prog 80 #[zv s u, zv t v] w fun e w' => (∃ b : Bool, e = .returned (.bool b) ∧ (b = true ↔ s = t ∧ xs = ys)) ∧ Below w.heap.size w w' := by
  obtain ⟨A, n, c, rfl⟩ := hu.nw.slice
  obtain ⟨D, m, d, rfl⟩ := hv.nw.slice
  have a1 : Below w.heap.size w (w.alloc (zbox s (.slice A n c))) := (Below.refl _ _).alloc (Nat.le_refl _) _
  have a2 : Below w.heap.size w ((w.alloc (zbox s (.slice A n c))).alloc (zbox t (.slice D m d))) := a1.alloc (by simp) _
  have S := hide (lsame_x (hu.step a2) (hv.step a2))
  have HA := hide a2
  clear hu hv a1 a2
  go_enter Tryz.func80, Tryz.ntmps80
  by_cases hst : (s == t) = true
  · go_wp2_with (go_at_call 81; refine S.out.mono ?_; rintro e w1 ⟨⟨b9, rfl, hb9⟩, b1⟩)
    go_ret
    exact ⟨⟨_, rfl, by rw [hb9]; have := eq_of_beq hst; simp [this]⟩, HA.out.trans (b1.mono HA.out.size)⟩
  · have hst' : (s == t) = false := by simpa using hst
    clear hst
    go_wp2_with fail
    go_ret
    exact ⟨⟨_, rfl, by have := ne_of_beq_false hst'; simp [this]⟩, HA.out⟩
set_option maxHeartbeats 2000000 in
theorem rsame_x {w : World} {u v : Value} {r q : Rat} {L M : Nat} (hu : Rc w u r L) (hv : Rc w v q M) :
    Calls Tryz.prog 28 #[u, v] w fun e w' => (∃ b : Bool, e = .returned (.bool b) ∧ (b = true ↔ r = q)) ∧ Below w.heap.size w w' := by
  obtain ⟨u1, u2, rfl, a1, a2⟩ := hu
  obtain ⟨v1, v2, rfl, c1, c2⟩ := hv
  obtain ⟨A, n, c, rfl⟩ := a1.nw.slice
  obtain ⟨D, m, d, rfl⟩ := a2.nw.slice
  obtain ⟨F, k, f, rfl⟩ := c1.nw.slice
  obtain ⟨H, l, h, rfl⟩ := c2.nw.slice
  have E := hide (rat_same r q)
  generalize decide (r.num < 0) = s at *
  generalize decide (q.num < 0) = t at *
  obtain ⟨b2, ⟨p0, p1, p2⟩, q0, q1, q2⟩ := f_world0 w s t A D F H n c m d k f l h
  have b3 : Below w.heap.size w ((w.alloc (rbox s (.slice A n c) (.slice D m d))).alloc (rbox t (.slice F k f) (.slice H l h))) := ((Below.refl _ _).alloc (Nat.le_refl _) _).alloc (by simp) _
  have C1 := hide (zsame_x (s := s) (t := t) ((cw_lw a1).step b3) ((cw_lw c1).step b3))
  have N1 := hide ((cw_lw a2).step b3)
  have N2 := hide ((cw_lw c2).step b3)
  have B := hide b3
  have C : Hid (Fx ((w.alloc (rbox s (.slice A n c) (.slice D m d))).alloc (rbox t (.slice F k f) (.slice H l h))) w.heap.size s A n c D m d ∧ Fx ((w.alloc (rbox s (.slice A n c) (.slice D m d))).alloc (rbox t (.slice F k f) (.slice H l h))) (w.heap.size + 1) t F k f H l h) := hide ⟨⟨p0, p1, p2⟩, q0, q1, q2⟩
  clear b2 b3 a1 a2 c1 c2 p0 p1 p2 q0 q1 q2
  go_enter Tryz.func28, Tryz.ntmps28
  go_wp2_with fail
  refine C1.out.mono ?_
  rintro e w1 ⟨⟨b9, rfl, hb9⟩, b1⟩
  have H9 := hide hb9
  clear hb9
  obtain ⟨p0, p1, p2⟩ := C.out.1.step b1
  obtain ⟨q0, q1, q2⟩ := C.out.2.step b1
  have B1 := hide (Below.step B.out B.out.size b1)
  cases b9
  · clear C1 N1 N2 B C b1
    go_wp2_with fail
    go_ret
    exact ⟨⟨_, rfl, by rw [E.out]; constructor
                       · intro h; cases h
                       · intro h; exact H9.out.2 ⟨h.1, h.2.1⟩⟩, B1.out⟩
  · have C2 := hide (lsame_x (N1.out.step b1) (N2.out.step b1))
    clear C1 N1 N2 B C b1
    go_wp2_with fail
    refine C2.out.mono ?_
    rintro e w2 ⟨⟨b8, rfl, hb8⟩, b2⟩
    have H8 := hide hb8
    clear hb8
    have B2 := hide (Below.step B1.out B1.out.size b2)
    clear C2 B1 b2 p0 p1 p2 q0 q1 q2
    go_wp2_with fail
    go_ret
    exact ⟨⟨_, rfl, by rw [E.out, H8.out]; exact ⟨fun h => ⟨(H9.out.1 (by simp)).1, (H9.out.1 (by simp)).2, h⟩, fun h => h.2.2⟩⟩, B2.out⟩
set_option maxHeartbeats 8000000 in
theorem vsame_x {w : World} {u v : Value} {d f : List Tx} {L M : Nat} (hu : Tc w u d L) (hv : Tc w v f M) :
    Calls Tryz.prog 66 #[u, v] w fun e w' => (∃ b : Bool, e = .returned (.bool b) ∧ (b = true ↔ tms d = tms f)) ∧ Below w.heap.size w w' := by
  obtain ⟨A, c, e1, hc1, hc2, hc3⟩ := id hu.1
  obtain ⟨D, m, e2, hd1, hd2, hd3⟩ := id hv.1
  obtain ⟨n, hlen⟩ : ∃ n, n = d.length := ⟨_, rfl⟩
  obtain ⟨n', hlen'⟩ : ∃ n', n' = f.length := ⟨_, rfl⟩
  rw [← hlen] at e1 hc1
  rw [← hlen'] at e2 hd1
  subst e1 e2
  have HU := hide hu
  have HV := hide hv
  have HN := hide hlen
  have HL := hide hlen'
  unfold maxLen at hc2
  clear hu hv hc3 hd3 hlen hlen'
  go_enter Tryz.func66, Tryz.ntmps66
  by_cases hnn : n = n'
  case neg =>
    have t0 : ((n : Int) != (n' : Int)) = true := by simp; omega
    go_wp2_with fail
    go_ret
    exact ⟨⟨false, rfl, by
      constructor
      · intro h; cases h
      · intro h; have h1 := congrArg List.length h; rw [tms_len, tms_len, ← HN.out, ← HL.out] at h1; exact absurd h1 hnn⟩, Below.refl _ _⟩
  subst hnn
  have t0 : ((n : Int) != (n : Int)) = false := by simp
  go_wp2_with fail
  go_loopw [5] (fun iv wr => ∃ k : Nat, k ≤ n ∧ iv = .int .i64 (k : Int) ∧ Hid (Below w.heap.size w wr) ∧ Hid (Sm d f k)) (fun iv _ => n - (intOf iv).toNat)
  case atStart => exact ⟨0, Nat.zero_le _, rfl, hide (Below.refl _ _), hide (Sm.zero d f)⟩
  case round =>
    obtain ⟨k, hk, rfl, B, S⟩ := hrel
    by_cases hlt : k < n
    · obtain ⟨x, hx⟩ := len_of (d := d) (k := k) (by rw [← HN.out]; exact hlt)
      obtain ⟨y, hy⟩ := len_of (d := f) (k := k) (by rw [← HL.out]; exact hlt)
      have b8 := (Below.refl wr.heap.size wr).drew
      have B8 := hide (Below.step B.out B.out.size b8)
      have RX := hide (((HU.out.2 x (List.mem_of_getElem? hx)).step B.out).step b8)
      have RY := hide (((HV.out.2 y (List.mem_of_getElem? hy)).step B.out).step b8)
      obtain ⟨b, off, rfl, hb, hc⟩ := ((HU.out.1.step B.out).step b8).get hx
      obtain ⟨b', off', rfl, hb', hc'⟩ := ((HV.out.1.step B.out).step b8).get hy
      have c0 := hc 0 _ rfl
      have c1 := hc 1 _ rfl
      have c2 := hc 2 _ rfl
      have c3 := hc 3 _ rfl
      have e0 := hc' 0 _ rfl
      have e1 := hc' 1 _ rfl
      have e2 := hc' 2 _ rfl
      have e3 := hc' 3 _ rfl
      rw [Nat.add_zero] at c0 e0
      have l0 : (0 : Int) ≤ (k : Int) := by omega
      have l1 : (k : Int) < (n : Int) := by omega
      have P := hide (And.intro c0 (And.intro c1 (And.intro c2 (And.intro c3 (And.intro e0 (And.intro e1 (And.intro e2 e3)))))))
      have HX := hide hx
      have HY := hide hy
      clear hc hc' hb hb' hx hy b8
      by_cases hxy : x.c = y.c
      · have t1 : (x.c != y.c) = false := by simp [hxy]
        have XY := hide hxy
        clear hxy
        go_wp2_with fail
        go_region_held3 (fun W => W.cell? ⟨b, off + k * 4, none⟩ = some (.int .i64 x.c) ∧ W.cell? ⟨b, off + k * 4 + 1, none⟩ = some (.bool x.x.s) ∧ W.cell? ⟨b, off + k * 4 + 2, none⟩ = some (sv x.x.u) ∧ W.cell? ⟨b, off + k * 4 + 3, none⟩ = some (sv x.x.t) ∧ W.cell? ⟨b', off' + k * 4, none⟩ = some (.int .i64 y.c) ∧ W.cell? ⟨b', off' + k * 4 + 1, none⟩ = some (.bool y.x.s) ∧ W.cell? ⟨b', off' + k * 4 + 2, none⟩ = some (sv y.x.u) ∧ W.cell? ⟨b', off' + k * 4 + 3, none⟩ = some (sv y.x.t))
          (exact P.out)
          (first
            | (go_at_call 28; refine Calls.mono (rsame_x RX.out RY.out) ?_; rintro e wx ⟨⟨b9, rfl, hb9⟩, bx⟩; have H9 := hide hb9; clear hb9; replace P := hide (And.intro (cell_keep P.out.1 bx) (And.intro (cell_keep P.out.2.1 bx) (And.intro (cell_keep P.out.2.2.1 bx) (And.intro (cell_keep P.out.2.2.2.1 bx) (And.intro (cell_keep P.out.2.2.2.2.1 bx) (And.intro (cell_keep P.out.2.2.2.2.2.1 bx) (And.intro (cell_keep P.out.2.2.2.2.2.2.1 bx) (cell_keep P.out.2.2.2.2.2.2.2 bx)))))))); have B9 := hide (Below.step B8.out B8.out.size bx)))
        all_goals
          clear P c0 c1 c2 c3 e0 e1 e2 e3
          cases b9
          · go_wp2_with fail
            go_ret
            exact ⟨⟨false, rfl, by
              constructor
              · intro h; cases h
              · intro h; exact H9.out.2 (tms_at h HX.out HY.out).2⟩, B9.out⟩
          · go_wp2_with fail
            exact ⟨⟨k + 1, by omega, by go_num, B9, hide (S.out.next HX.out HY.out XY.out (H9.out.1 (by simp)))⟩, by simp [intOf]; omega⟩
      · have t1 : (x.c != y.c) = true := by simp [hxy]
        have XY := hide hxy
        clear hxy
        have c9 : wr.cell? ⟨b, off + k * 4, none⟩ = some (.int .i64 x.c) := c0
        have e9 : wr.cell? ⟨b', off' + k * 4, none⟩ = some (.int .i64 y.c) := e0
        clear P c0 c1 c2 c3 e0 e1 e2 e3
        go_wp2_with fail
        go_quiet (fail)
        have Z9 := hide (show Below w.heap.size w (wr.drewN nq) from below_drewN B.out nq)
        generalize wr.drewN nq = w9 at *
        go_wp2_with fail
        go_ret
        exact ⟨⟨false, rfl, by
          constructor
          · intro h; cases h
          · intro h; exact absurd (tms_at h HX.out HY.out).1 XY.out⟩, Z9.out⟩
    · obtain rfl : k = n := by omega
      go_wp2_with fail
      go_ret
      exact ⟨⟨true, rfl, by
        constructor
        · intro _; exact S.out.done (by rw [← HN.out]; exact Nat.le_refl _) (by rw [← HN.out, ← HL.out])
        · intro _; rfl⟩, B.out⟩
set_option maxHeartbeats 1000000 in
theorem qnegs_any {w : World} {v : Value} {z : Int} {L : Nat} (h : Qi w v z L) (hL : L ≤ 800000000000) :
  Calls Tryz.prog 149 #[v] w (QRet w (-z) L) := by
 obtain ⟨u, rfl, hc⟩ := h
 obtain ⟨A, n, c, rfl⟩ := hc.iw.slice
 obtain ⟨s, hs⟩ : ∃ s, decide (z < 0) = s := ⟨_, rfl⟩
 have hzz : Hid (zi (!s) z.natAbs = -z) := hide (by
  unfold zi
  by_cases h : z < 0
  ·rw [decide_eq_true h] at hs; subst hs; simp only [Bool.not_true, Bool.false_eq_true, if_false]; omega
  ·rw [decide_eq_false h] at hs; subst hs; simp only [Bool.not_false, if_true]; omega)
 rw [hs]
 have a1 : Below w.heap.size w (w.alloc (qbox s (.slice A n c))) := (Below.refl _ _).alloc (Nat.le_refl _) _
 have a2 : Below w.heap.size w ((w.alloc (qbox s (.slice A n c))).alloc qblk) := a1.alloc (by simp) _
 have hz : Qb ((w.alloc (qbox s (.slice A n c))).alloc qblk) (w.heap.size + 1) := by have h := Qb.new (w.alloc (qbox s (.slice A n c))); simpa using h
 have HS := hide (show w.heap.size + 1 < ((w.alloc (qbox s (.slice A n c))).alloc qblk).heap.size by simp)
 have FM := hide (form_any (s := !s) (hc.step a2).iw hL hzz.out)
 have HA := hide a2
 have HZ := hide hz
 clear hc a1 a2 hz hs hzz
 go_enter Tryz.func149, Tryz.ntmps149
 go_wp2_with fail
 refine FM.out.mono ?_
 rintro e w2 ⟨v, rfl, qv, b2⟩
 obtain ⟨sg, A1, n1, c2, rfl, k0, k1, f0, f1, fin⟩ := q_ret (w0 := w) qv (HZ.out.step HS.out b2) (by omega) (HA.out.trans (b2.mono HA.out.size))
 have F := hide fin
 clear fin FM HA HZ HS qv b2
 go_wp2_with fail
 exact bodyPost_ret (qret rfl _ _ _ #[.bool sg, .slice A1 n1 c2] rfl rfl F.out.1) rfl F.out.2
set_option maxHeartbeats 4000000 in
theorem qsubs_any {w : World} {u v : Value} {a b : Int} {L M K : Nat} (hu : Qi w u a L) (hv : Qi w v b M) (hL : L ≤ K) (hM : M ≤ K) (hK : K ≤ 400000000000) :
  Calls Tryz.prog 121 #[u, v] w (QRet w (a - b) (K + 1)) := by
 obtain ⟨s, x, A, n, c, rfl, -, -, -⟩ := id hu.parts
 obtain ⟨t, y, D, m, d, rfl, -, -, -⟩ := id hv.parts
 obtain ⟨a3, z3, hsz, p0, p1, q0, q1⟩ := q_world w s t A D n c m d
 have HU := hide (hu.step a3)
 have HV := hide (hv.step a3)
 have HA := hide a3
 have HZ := hide z3
 have HS := hide (show w.heap.size + 1 + 1 < (((w.alloc (qbox s (.slice A n c))).alloc (qbox t (.slice D m d))).alloc qblk).heap.size by rw [hsz]; omega)
 clear hu hv a3 z3 hsz
 go_enter Tryz.func121, Tryz.ntmps121
 go_wp2_with fail
 generalize hW0 : ((w.alloc (qbox s (.slice A n c))).alloc (qbox t (.slice D m d))).alloc qblk = W0 at *
 have p0d : W0.drew.cell? ⟨w.heap.size, 0, none⟩ = some (.bool s) := p0
 have p1d : W0.drew.cell? ⟨w.heap.size, 1, none⟩ = some (.slice A n c) := p1
 have q0d : W0.drew.cell? ⟨w.heap.size + 1, 0, none⟩ = some (.bool t) := q0
 have q1d : W0.drew.cell? ⟨w.heap.size + 1, 1, none⟩ = some (.slice D m d) := q1
 have C := hide (qnegs_any (w := W0.drew) HV.out (show M ≤ 800000000000 by omega))
 go_region_held3 (fun W => W.cell? ⟨w.heap.size, 0, none⟩ = some (.bool s) ∧ W.cell? ⟨w.heap.size, 1, none⟩ = some (.slice A n c) ∧ W.cell? ⟨w.heap.size + 1, 0, none⟩ = some (.bool t) ∧ W.cell? ⟨w.heap.size + 1, 1, none⟩ = some (.slice D m d))
  (first
   | with_reducible exact ⟨p0d, p1d, q0d, q1d⟩
   | with_reducible exact ⟨cell_keep p0d b1, cell_keep p1d b1, cell_keep q0d b1, cell_keep q1d b1⟩
   | with_reducible exact ⟨cell_keep (cell_keep p0d b1) b2, cell_keep (cell_keep p1d b1) b2, cell_keep (cell_keep q0d b1) b2, cell_keep (cell_keep q1d b1) b2⟩
   | with_reducible exact ⟨cell_zset (cell_keep (cell_keep p0d b1) b2) (by simp <;> omega) _ _, cell_zset (cell_keep (cell_keep p1d b1) b2) (by simp <;> omega) _ _, cell_zset (cell_keep (cell_keep q0d b1) b2) (by simp <;> omega) _ _, cell_zset (cell_keep (cell_keep q1d b1) b2) (by simp <;> omega) _ _⟩)
  (first
   | (go_at_call 149; (with_reducible refine C.out.mono ?_); rintro e w1 ⟨nb, rfl, qn, b1⟩; have FM := hide (Int.sub_eq_add_neg ▸ qadd_any (K := K) (HU.out.step (below_of_drew b1)) qn hL hM hK))
   | (go_at_call 59; (with_reducible refine FM.out.mono ?_); rintro e w2 ⟨v, rfl, qv, b2⟩; obtain ⟨sg, A1, n1, c2, rfl, k0, k1, f0, f1, fin⟩ := q_ret (w0 := w) qv ((HZ.out.step HS.out (below_of_drew b1)).step (Nat.lt_of_lt_of_le HS.out b1.size) b2) (by omega) (HA.out.trans (((below_of_drew b1).trans (b2.mono b1.size)).mono HA.out.size))))
 all_goals
  have F := hide fin
  clear fin
  go_wp2_with fail
  exact bodyPost_ret (qret rfl _ _ _ #[.bool sg, .slice A1 n1 c2] rfl rfl F.out.1) rfl F.out.2
theorem zsg_subs (a b : Int) : zsg (a - b) = cmpZ a b := by
 unfold zsg cmpZ
 rcases Int.lt_trichotomy a b with h | h | h
 ·rw [if_neg (by omega), if_pos (by omega), if_pos h]
 ·rw [if_pos (by omega), if_neg (by omega), if_neg (by omega)]
 ·rw [if_neg (by omega), if_neg (by omega), if_neg (by omega), if_pos h]
set_option maxHeartbeats 4000000 in
theorem qcmps_any {w : World} {u v : Value} {a b : Int} {L M K : Nat} (hu : Qi w u a L) (hv : Qi w v b M) (hL : L ≤ K) (hM : M ≤ K) (hK : K ≤ 400000000000) :
  Calls Tryz.prog 65 #[u, v] w fun e w' => e = .returned (.int .i64 (cmpZ a b)) ∧ Below w.heap.size w w' := by
 obtain ⟨s, x, A, n, c, rfl, -, -, -⟩ := id hu.parts
 obtain ⟨t, y, D, m, d, rfl, -, -, -⟩ := id hv.parts
 have a1 : Below w.heap.size w (w.alloc (qbox s (.slice A n c))) := (Below.refl _ _).alloc (Nat.le_refl _) _
 have a2 : Below w.heap.size w ((w.alloc (qbox s (.slice A n c))).alloc (qbox t (.slice D m d))) := a1.alloc (by simp) _
 have C := hide (qsubs_any (hu.step a2) (hv.step a2) hL hM hK)
 have HA := hide a2
 rw [← zsg_subs]
 clear hu hv a1 a2
 go_enter Tryz.func65, Tryz.ntmps65
 go_wp2_with fail
 refine C.out.mono ?_
 rintro e w1 ⟨v, rfl, qv, b1⟩
 have H := hide qv
 have HA1 := hide (HA.out.trans (b1.mono HA.out.size))
 clear qv b1 C HA
 go_wp2_with fail
 refine (qsign_any H.out).mono ?_
 rintro e w2 ⟨rfl, b2⟩
 have HA2 := hide (HA1.out.trans (b2.mono HA1.out.size))
 clear H HA1 b2
 go_wp2_with fail
 go_ret
 exact ⟨rfl, HA2.out⟩
theorem cmpR_nums (r1 r2 : Rat) : cmpZ (r1.num * ((r2.den : Nat) : Int)) (r2.num * ((r1.den : Nat) : Int)) = cmpR r1 r2 := by
 rw [cmpR_mk r1.num r2.num r1.den r2.den (Nat.pos_of_ne_zero r1.den_nz) (Nat.pos_of_ne_zero r2.den_nz), Rat.mkRat_self, Rat.mkRat_self]
set_option maxHeartbeats 4000000 in
theorem rqcmp_s {w : World} {a b : Value} {r1 r2 : Rat} {L : Nat} (ha : Rf w a r1 L) (hb : Rf w b r2 L) (h1 : 1 ≤ L) (hL : L ≤ 10000000000) :
  Calls Tryz.prog 17 #[a, b] w fun e w' => e = .returned (.int .i64 (cmpR r1 r2)) ∧ Below w.heap.size w w' := by
 obtain ⟨s, A, n, c, D, m, d, rfl, ha⟩ := ha.parts
 obtain ⟨t, F, k, f, H, l, h, rfl, hb⟩ := hb.parts
 have b1 : Below w.heap.size w (w.alloc (fqbox s (.slice A n c) (.slice D m d))) := alloc_below w _
 have b2 : Below w.heap.size w ((w.alloc (fqbox s (.slice A n c) (.slice D m d))).alloc (fqbox t (.slice F k f) (.slice H l h))) := b1.alloc b1.size _
 have q1 : Fq ((w.alloc (fqbox s (.slice A n c) (.slice D m d))).alloc (fqbox t (.slice F k f) (.slice H l h))) w.heap.size s (.slice A n c) (.slice D m d) := (Fq.new w s (.slice A n c) (.slice D m d)).step (alloc_below _ _)
 have q2 : Fq ((w.alloc (fqbox s (.slice A n c) (.slice D m d))).alloc (fqbox t (.slice F k f) (.slice H l h))) (w.heap.size + 1) t (.slice F k f) (.slice H l h) := by
  have h9 := Fq.new (w.alloc (fqbox s (.slice A n c) (.slice D m d))) t (.slice F k f) (.slice H l h)
  rwa [show (w.alloc (fqbox s (.slice A n c) (.slice D m d))).heap.size = w.heap.size + 1 by simp] at h9
 have R0 := hide (And.intro (ha.split.1.step b2) (And.intro (ha.split.2.step b2) (And.intro (hb.split.1.step b2) (hb.split.2.step b2))))
 have P1 := hide q1
 have P2 := hide q2
 have B0 := hide b2
 have HE := hide (cmpR_nums r1 r2)
 rw [← HE.out]
 clear ha hb q1 q2 b1 b2 HE
 generalize r1.num = a1 at *
 generalize r1.den = e1 at *
 generalize r2.num = a2 at *
 generalize r2.den = e2 at *
 go_enter Tryz.func17, Tryz.ntmps17
 go_wp2_with fail
 generalize ((w.alloc (fqbox s (.slice A n c) (.slice D m d))).alloc (fqbox t (.slice F k f) (.slice H l h))) = W0 at *
 have b8 := (Below.refl W0.heap.size W0).drew
 have R := hide (And.intro (R0.out.1.step b8) (And.intro (R0.out.2.1.step b8) (And.intro (R0.out.2.2.1.step b8) (R0.out.2.2.2.step b8))))
 have Q1 := hide (P1.out.step b8)
 have Q2 := hide (P2.out.step b8)
 have B := hide (Below.step B0.out B0.out.size b8)
 clear R0 P1 P2 B0 b8
 go_region_held3 (fun W => (W.cell? ⟨w.heap.size, 0, none⟩ = some (.bool s) ∧ W.cell? ⟨w.heap.size, 1, none⟩ = some (.slice A n c) ∧ W.cell? ⟨w.heap.size, 2, none⟩ = some (.slice D m d)) ∧ (W.cell? ⟨w.heap.size + 1, 0, none⟩ = some (.bool t) ∧ W.cell? ⟨w.heap.size + 1, 1, none⟩ = some (.slice F k f) ∧ W.cell? ⟨w.heap.size + 1, 2, none⟩ = some (.slice H l h)))
  (exact ⟨⟨Q1.out.all.1, Q1.out.all.2.1, Q1.out.all.2.2.1⟩, Q2.out.all.1, Q2.out.all.2.1, Q2.out.all.2.2.1⟩)
  (first
   | (go_at_call 60; refine Calls.mono (rqtimes_any (z := a1) (q := ((e2 : Nat) : Int)) (L := L) ?_ ?_ (by omega)) ?_; (focus ((with_reducible exact R.out.1); done)); (focus ((with_reducible exact R.out.2.2.2); done)); rintro e wx ⟨vx, rfl, tx, bx⟩; have X1 := hide tx; replace R := hide (And.intro (R.out.1.step bx) (And.intro (R.out.2.1.step bx) (And.intro (R.out.2.2.1.step bx) (R.out.2.2.2.step bx)))); replace Q1 := hide (Q1.out.step bx); replace Q2 := hide (Q2.out.step bx); replace B := hide (Below.step B.out B.out.size bx); clear tx bx)
   | (go_at_call 60; refine Calls.mono (rqtimes_any (z := a2) (q := ((e1 : Nat) : Int)) (L := L) ?_ ?_ (by omega)) ?_; (focus ((with_reducible exact R.out.2.2.1); done)); (focus ((with_reducible exact R.out.2.1); done)); rintro e wx ⟨vy, rfl, tx, bx⟩; have X2 := hide tx; replace X1 := hide (X1.out.step bx); replace Q1 := hide (Q1.out.step bx); replace Q2 := hide (Q2.out.step bx); replace B := hide (Below.step B.out B.out.size bx); clear tx bx R)
   | (go_at_call 65; refine Calls.mono (qcmps_any (a := a1 * ((e2 : Nat) : Int)) (b := a2 * ((e1 : Nat) : Int)) (L := L + L) (M := L + L) (K := L + L) X1.out X2.out (by omega) (by omega) (by omega)) ?_; rintro e wx ⟨rfl, bx⟩; replace Q1 := hide (Q1.out.step bx); replace Q2 := hide (Q2.out.step bx); replace B := hide (Below.step B.out B.out.size bx); clear bx))
 all_goals
  clear Q1 Q2
  go_wp2_with fail
  go_ret
  exact ⟨rfl, B.out⟩
theorem sense_c (s : Int) (w : World) : Calls Tryz.prog 46 #[.int .i64 s] w fun e w' => BRet (IsS s) e ∧ w' = w := by
  by_cases h1 : 0 < s
  · have t1 : decide (0 < s) = true := decide_eq_true h1
    by_cases h2 : s < 4
    · have t2 : decide (s < 4) = true := decide_eq_true h2
      have H := hide (show IsS s by unfold IsS; omega)
      clear h1 h2
      go_enter Tryz.func46, Tryz.ntmps46
      go_wp2_with fail
      go_ret
      exact ⟨⟨true, rfl, by constructor <;> intro _; exact H.out; rfl⟩, rfl⟩
    · have t2 : decide (s < 4) = false := decide_eq_false h2
      have H := hide (show ¬ IsS s by unfold IsS; omega)
      clear h1 h2
      go_enter Tryz.func46, Tryz.ntmps46
      go_wp2_with fail
      go_ret
      exact ⟨⟨false, rfl, by constructor <;> intro h; cases h; exact absurd h H.out⟩, rfl⟩
  · have t1 : decide (0 < s) = false := decide_eq_false h1
    have H := hide (show ¬ IsS s by unfold IsS; omega)
    clear h1
    go_enter Tryz.func46, Tryz.ntmps46
    go_wp2_with fail
    go_ret
    exact ⟨⟨false, rfl, by constructor <;> intro h; cases h; exact absurd h H.out⟩, rfl⟩
theorem kpt_ways {s : Int} {q r : Rat} {z : Int} (hz : z = cmpR q r) :
    ((s == 1) = true ∧ Hid (∀ o : Bool, o = decide (z ≤ 0) → (o = true ↔ Kpt s q r))) ∨
    ((s == 1) = false ∧ (s == 2) = true ∧ Hid (∀ o : Bool, o = decide (0 ≤ z) → (o = true ↔ Kpt s q r))) ∨
    ((s == 1) = false ∧ (s == 2) = false ∧ (s == 3) = true ∧ Hid (∀ o : Bool, o = (z == 0) → (o = true ↔ Kpt s q r))) ∨
    ((s == 1) = false ∧ (s == 2) = false ∧ (s == 3) = false ∧ Hid (¬ Kpt s q r)) := by
  subst hz
  by_cases e1 : s = 1
  · refine .inl ⟨beq_iff_eq.2 e1, hide fun o ho => ?_⟩
    rw [ho, decide_eq_true_iff, cmpR_le, e1]
    simp [Kpt]
  · refine .inr ?_
    by_cases e2 : s = 2
    · refine .inl ⟨beq_eq_false_iff_ne.2 e1, beq_iff_eq.2 e2, hide fun o ho => ?_⟩
      rw [ho, decide_eq_true_iff, cmp_ge0, e2]
      simp [Kpt]
    · refine .inr ?_
      by_cases e3 : s = 3
      · refine .inl ⟨beq_eq_false_iff_ne.2 e1, beq_eq_false_iff_ne.2 e2, beq_iff_eq.2 e3, hide fun o ho => ?_⟩
        rw [ho, beq_iff_eq, cmp_eq0, e3]
        simp [Kpt]
      · exact .inr ⟨beq_eq_false_iff_ne.2 e1, beq_eq_false_iff_ne.2 e2, beq_eq_false_iff_ne.2 e3, hide fun h => by rcases h.sense with h | h | h <;> contradiction⟩
set_option maxHeartbeats 4000000 in
theorem kept_f {w : World} {k : Kx} {q : Rx} {L M : Nat} (hk : Ra w (rx k.x) k.x.r L) (hq : Rf w (rx q) q.r M) (h1 : 1 ≤ L) (hL : L ≤ 1000000000) (hM : M ≤ 1000000000) :
    Calls Tryz.prog 99 #[kx k, rx q] w fun e w' => BRet (Kpt k.s q.r k.x.r) e ∧ Below w.heap.size w w' := by
  have b2 : Below w.heap.size w ((w.alloc (kbox k)).alloc (fqbox q.s (sv q.u) (sv q.t))).drew := (((Below.refl _ _).alloc (Nat.le_refl _) _).alloc (by simp) _).drew
  have P := hide (show Kq ((w.alloc (kbox k)).alloc (fqbox q.s (sv q.u) (sv q.t))).drew w.heap.size k from ((Kq.new w k).step ((Below.refl _ _).alloc (Nat.le_refl _) (fqbox q.s (sv q.u) (sv q.t)))).step (Below.refl _ _).drew)
  have F := hide (show Fq ((w.alloc (kbox k)).alloc (fqbox q.s (sv q.u) (sv q.t))).drew (w.heap.size + 1) q.s (sv q.u) (sv q.t) by
    have h := Fq.new (w.alloc (kbox k)) q.s (sv q.u) (sv q.t)
    have h2 : Fq ((w.alloc (kbox k)).alloc (fqbox q.s (sv q.u) (sv q.t))) (w.heap.size + 1) q.s (sv q.u) (sv q.t) := by simpa using h
    exact h2)
  have HK := hide (hk.step b2)
  have HQ := hide (hq.step b2)
  have B := hide b2
  clear hk hq b2
  go_enter Tryz.func99, Tryz.ntmps99
  go_wp2_with fail
  generalize hW0 : ((w.alloc (kbox k)).alloc (fqbox q.s (sv q.u) (sv q.t))) = W0 at *
  go_region_held3 (fun W => (W.cell? ⟨w.heap.size, 0, none⟩ = some (.int .i64 k.s) ∧ W.cell? ⟨w.heap.size, 1, none⟩ = some (sv k.v) ∧ W.cell? ⟨w.heap.size, 2, none⟩ = some (.bool k.x.s) ∧ W.cell? ⟨w.heap.size, 3, none⟩ = some (sv k.x.u) ∧ W.cell? ⟨w.heap.size, 4, none⟩ = some (sv k.x.t)) ∧ (W.cell? ⟨w.heap.size + 1, 0, none⟩ = some (.bool q.s) ∧ W.cell? ⟨w.heap.size + 1, 1, none⟩ = some (sv q.u) ∧ W.cell? ⟨w.heap.size + 1, 2, none⟩ = some (sv q.t)))
    (with_reducible exact ⟨P.out.all, F.out.all.1, F.out.all.2.1, F.out.all.2.2.1⟩)
    (first
      | (go_at_call 16; refine Calls.mono (rof_f (L := L) HK.out h1 hL) ?_; rintro e wx ⟨y, rfl, hy, ry, bx⟩; have HY := hide hy; have RY := hide ry; replace P := hide (P.out.step bx); replace F := hide (F.out.step bx); replace HQ := hide (HQ.out.step bx); replace B := hide (Below.step B.out B.out.size bx); clear hy ry bx)
      | (go_at_call 17; refine Calls.mono (rqcmp_s (L := 5 * L + M) (HQ.out.more (by omega)) (RY.out.more (by omega)) (by omega) (by omega)) ?_; rintro e wx ⟨rfl, bx⟩; replace P := hide (P.out.step bx); replace F := hide (F.out.step bx); replace B := hide (Below.step B.out B.out.size bx); clear bx))
  all_goals
    obtain ⟨z, hz⟩ : ∃ z, z = cmpR q.r y.r := ⟨_, rfl⟩
    rw [← hz]
    have hs := kpt_ways (s := k.s) hz
    rw [HY.out] at hs
    clear hz
    obtain ⟨p0, p1, p2, p3, p4⟩ := P.out.all
    rcases hs with ⟨t1, K⟩ | ⟨t1, t2, K⟩ | ⟨t1, t2, t3, K⟩ | ⟨t1, t2, t3, K⟩
    · have t2 : (k.s == 2) = false := by rw [eq_of_beq t1]; rfl
      have t3 : (k.s == 3) = false := by rw [eq_of_beq t1]; rfl
      cases hd : decide (z ≤ 0)
      · rw [hd] at K
        go_wp2_with fail
        go_ret
        exact ⟨⟨_, rfl, K.out _ rfl⟩, B.out⟩
      · rw [hd] at K
        go_wp2_with fail
        go_ret
        exact ⟨⟨_, rfl, K.out _ rfl⟩, B.out⟩
    · have t3 : (k.s == 3) = false := by rw [eq_of_beq t2]; rfl
      cases hd : decide (0 ≤ z)
      · rw [hd] at K
        go_wp2_with fail
        go_ret
        exact ⟨⟨_, rfl, K.out _ rfl⟩, B.out⟩
      · rw [hd] at K
        go_wp2_with fail
        go_ret
        exact ⟨⟨_, rfl, K.out _ rfl⟩, B.out⟩
    · go_wp2_with fail
      go_ret
      exact ⟨⟨_, rfl, K.out _ rfl⟩, B.out⟩
    · go_wp2_with fail
      go_ret
      exact ⟨⟨false, rfl, by constructor <;> intro h; cases h; exact absurd h K.out⟩, B.out⟩
set_option maxHeartbeats 2000000 in
theorem bare_f {w : World} {k : Kx} {L : Nat} (hk : Kv w k L) (hn : k.d.length ≤ 1000) (h1 : 1 ≤ L) (hL : L ≤ 100000) :
    Calls Tryz.prog 98 #[kx k] w fun e w' => BRet (Bare (tms k.d)) e ∧ Below w.heap.size w w' := by
  obtain ⟨hv, hr⟩ := hk
  have b2 : Below w.heap.size w (w.alloc (kbox k)) := (Below.refl _ _).alloc (Nat.le_refl _) _
  have HV := hide (hv.step b2)
  have B := hide b2
  have HN := hide hn
  clear hv hr b2 hn
  go_enter Tryz.func98, Tryz.ntmps98
  go_wp2_with fail
  refine (vmake_f (L := L) HV.out HN.out h1 hL).mono ?_
  rintro e w1 ⟨v1, d1, rfl, t1, f1, g1, bx⟩
  obtain ⟨A5, c5, rfl, -, -, -⟩ := t1.1
  have H := hide (show d1.length = 0 ↔ Bare (tms k.d) by
    rw [bare_fm f1 g1, ← tms_len, List.length_eq_zero_iff])
  replace B := hide (Below.step B.out B.out.size bx)
  generalize d1.length = m at *
  clear t1 f1 g1 bx
  go_wp2_with fail
  go_ret
  exact ⟨⟨_, rfl, by rw [← H.out, beq_iff_eq]; omega⟩, B.out⟩
set_option maxHeartbeats 4000000 in
theorem alike_f {w : World} {a b : Kx} {L M : Nat} (ha : Kv w a L) (hb : Kv w b M) (hn : a.d.length ≤ 1000) (hm : b.d.length ≤ 1000) (h1 : 1 ≤ L) (hL : L ≤ 100000) (h2 : 1 ≤ M) (hM : M ≤ 100000) :
    Calls Tryz.prog 104 #[kx a, kx b] w fun e w' => BRet (Alk (tms a.d) (tms b.d)) e ∧ Below w.heap.size w w' := by
  have b2 : Below w.heap.size w ((w.alloc (kbox a)).alloc (kbox b)).drew := (((Below.refl _ _).alloc (Nat.le_refl _) _).alloc (by simp) _).drew
  have P := hide (show Kq ((w.alloc (kbox a)).alloc (kbox b)).drew w.heap.size a from ((Kq.new w a).step ((Below.refl _ _).alloc (Nat.le_refl _) (kbox b))).step (Below.refl _ _).drew)
  have P2 := hide (show Kq ((w.alloc (kbox a)).alloc (kbox b)).drew (w.heap.size + 1) b by
    have h := Kq.new (w.alloc (kbox a)) b
    have h2 : Kq ((w.alloc (kbox a)).alloc (kbox b)) (w.heap.size + 1) b := by simpa using h
    exact h2)
  have HV := hide (ha.1.step b2)
  have HW := hide (hb.1.step b2)
  have B := hide b2
  have HN := hide hn
  have HM := hide hm
  clear ha hb b2 hn hm
  go_enter Tryz.func104, Tryz.ntmps104
  go_wp2_with fail
  generalize hW0 : ((w.alloc (kbox a)).alloc (kbox b)) = W0 at *
  go_region_held3 (fun W => W.cell? ⟨w.heap.size, 1, none⟩ = some (sv a.v) ∧ W.cell? ⟨w.heap.size + 1, 1, none⟩ = some (sv b.v))
    (with_reducible exact ⟨P.out.all.2.1, P2.out.all.2.1⟩)
    (first
      | (go_at_call 67; first | (refine Calls.mono (vmake_f (L := L) HV.out HN.out h1 hL) ?_; rintro e wx ⟨v1, d1, rfl, t1, f1, g1, bx⟩; have T1 := hide t1; have F1 := hide f1; have G1 := hide g1; replace P := hide (P.out.step bx); replace P2 := hide (P2.out.step bx); replace HW := hide (HW.out.step bx); replace B := hide (Below.step B.out B.out.size bx); clear t1 f1 g1 bx HV)
                                          | (refine Calls.mono (vmake_f (L := M) HW.out HM.out h2 hM) ?_; rintro e wx ⟨v2, d2, rfl, t2, f2, g2, bx⟩; have T2 := hide t2; have F2 := hide f2; have G2 := hide g2; replace P := hide (P.out.step bx); replace P2 := hide (P2.out.step bx); replace T1 := hide (T1.out.step bx); replace B := hide (Below.step B.out B.out.size bx); clear t2 f2 g2 bx HW))
      | (go_at_call 66; refine Calls.mono (vsame_x T1.out T2.out) ?_; rintro e wx ⟨⟨b9, rfl, hb9⟩, bx⟩; have H9 := hide hb9; replace P := hide (P.out.step bx); replace P2 := hide (P2.out.step bx); replace B := hide (Below.step B.out B.out.size bx); clear hb9 bx))
  all_goals
    go_wp2_with fail
    go_ret
    exact ⟨⟨_, rfl, by rw [H9.out, alk_fm F1.out G1.out F2.out G2.out]⟩, B.out⟩
theorem samecons_x {w : World} {a b : Kx} {L M : Nat} (ha : Kc w a L) (hb : Kc w b M) :
    Calls Tryz.prog 29 #[kx a, kx b] w fun e w' => BRet (a.s = b.s ∧ tms a.d = tms b.d ∧ a.x.r = b.x.r) e ∧ Below w.heap.size w w' := by
  have b2 : Below w.heap.size w ((w.alloc (kbox a)).alloc (kbox b)) := ((Below.refl _ _).alloc (Nat.le_refl _) _).alloc (by simp) _
  have P := hide (show Kq ((w.alloc (kbox a)).alloc (kbox b)) w.heap.size a from (Kq.new w a).step ((Below.refl _ _).alloc (Nat.le_refl _) (kbox b)))
  have P2 := hide (show Kq ((w.alloc (kbox a)).alloc (kbox b)) (w.heap.size + 1) b by
    have h := Kq.new (w.alloc (kbox a)) b
    have h2 : Kq ((w.alloc (kbox a)).alloc (kbox b)) (w.heap.size + 1) b := by simpa using h
    exact h2)
  have HA := hide (ha.step b2)
  have HB := hide (hb.step b2)
  have B := hide b2
  clear ha hb b2
  obtain ⟨p0, p1, p2, p3, p4⟩ := P.out.all
  obtain ⟨q0, q1, q2, q3, q4⟩ := P2.out.all
  go_enter Tryz.func29, Tryz.ntmps29
  by_cases hs : a.s = b.s
  case neg =>
    have t1 : (a.s == b.s) = false := beq_eq_false_iff_ne.2 hs
    have H := hide hs
    clear hs
    go_wp2_with fail
    go_ret
    exact ⟨⟨false, rfl, by constructor <;> intro h; cases h; exact absurd h.1 H.out⟩, B.out⟩
  have t1 : (a.s == b.s) = true := beq_iff_eq.2 hs
  have H := hide hs
  clear hs
  go_wp2_with fail
  refine (vsame_x HA.out.1 HB.out.1).mono ?_
  rintro e w1 ⟨⟨o, rfl, ho⟩, bx⟩
  have H1 := hide ho
  replace P := hide (P.out.step bx)
  replace P2 := hide (P2.out.step bx)
  replace HA := hide (HA.out.step bx)
  replace HB := hide (HB.out.step bx)
  replace B := hide (Below.step B.out B.out.size bx)
  clear ho bx p0 p1 p2 p3 p4 q0 q1 q2 q3 q4
  obtain ⟨p0, p1, p2, p3, p4⟩ := P.out.all
  obtain ⟨q0, q1, q2, q3, q4⟩ := P2.out.all
  cases o
  · go_wp2_with fail
    go_ret
    exact ⟨⟨false, rfl, by constructor <;> intro h; cases h; exact absurd (H1.out.2 h.2.1) (by simp)⟩, B.out⟩
  go_wp2_with fail
  refine (rsame_x HA.out.2.1 HB.out.2.1).mono ?_
  rintro e w1 ⟨⟨o, rfl, ho⟩, bx⟩
  have H2 := hide ho
  replace B := hide (Below.step B.out B.out.size bx)
  clear ho bx p0 p1 p2 p3 p4 q0 q1 q2 q3 q4
  go_wp2_with fail
  go_ret
  exact ⟨⟨_, rfl, by rw [H2.out]; exact ⟨fun h => ⟨H.out, H1.out.1 (by simp), h⟩, fun h => h.2.2⟩⟩, B.out⟩
theorem fv1 {W : World} {x : Rx} {L : Nat} (h : Ra W (rx x) x.r L) {g : Nat} (hg : W.heap.size = g) : Fv (W.alloc (.cells #[.bool x.s, sv x.u, sv x.t] 42)) (.slice (some ⟨g, 0, none⟩) 1 1) [x] L := by
 subst hg
 exact ⟨(Ow.lit (B := W.heap.size) er_len W 42 [x] _ rfl (Nat.le_refl _) (by simp [maxLen])).rl er_len, fun y hy => by simp at hy; subst hy; exact h.step (alloc_below _ _)⟩
def KsOk (k : Kx) : Prop := k.d.length ≤ 30 ∧ (∀ t ∈ k.d, t.x.u.2.1 + t.x.t.2.1 ≤ 6) ∧ k.x.u.2.1 + k.x.t.2.1 ≤ 6
theorem Ra.big {W : World} {x : Rx} {r : Rat} {L : Nat} (h : Ra W (rx x) r L) (hx : x.u.2.1 + x.t.2.1 ≤ 6) : Ra W (rx x) r 6 := h.tight (by omega) (by omega)
theorem Kv.tight {W : World} {k : Kx} {L : Nat} (h : Kv W k L) (hk : KsOk k) : Kv W k 6 := ⟨h.1.tight hk.2.1, h.2.big hk.2.2⟩
theorem cells4_at {w W : World} {b off : Nat} {k : Kx} (h : b < w.heap.size ∧ w.cell? ⟨b, off + 1, none⟩ = some (sv k.v) ∧ w.cell? ⟨b, off + 2, none⟩ = some (.bool k.x.s) ∧ w.cell? ⟨b, off + 3, none⟩ = some (sv k.x.u) ∧ w.cell? ⟨b, off + 4, none⟩ = some (sv k.x.t)) (B : Below w.heap.size w W) :
  W.cell? ⟨b, off + 1, none⟩ = some (sv k.v) ∧ W.cell? ⟨b, off + 2, none⟩ = some (.bool k.x.s) ∧ W.cell? ⟨b, off + 3, none⟩ = some (sv k.x.u) ∧ W.cell? ⟨b, off + 4, none⟩ = some (sv k.x.t) := ⟨(B.cell h.1).trans h.2.1, (B.cell h.1).trans h.2.2.1, (B.cell h.1).trans h.2.2.2.1, (B.cell h.1).trans h.2.2.2.2⟩
set_option maxHeartbeats 8000000 in
theorem kgreat_c {w : World} {v : Value} {l : List Kx} {L : Nat} (hv : Kl w v l L) (hL : L ≤ 17592186044000) :
  Calls Tryz.prog 23 #[v] w fun e w' => Below w.heap.size w w' ∧ ∃ b : Bool, e = .returned (.bool b) ∧ (b = false → l.length ≤ 12 ∧ ∀ k ∈ l, KsOk k) := by
 obtain ⟨A, c, e1, hc1, hc2, hc3⟩ := id hv.1
 obtain ⟨n, hlen⟩ : ∃ n, n = l.length := ⟨_, rfl⟩
 rw [← hlen] at e1 hc1 ⊢
 subst e1
 have HV := hide hv
 have HN := hide hlen
 unfold maxLen at hc2
 clear hv hc3 hlen
 go_enter Tryz.func23, Tryz.ntmps23
 go_wp2_with fail
 go_loopw [3, 4] (fun sv0 iv wr => ∃ (k : Nat) (z : Int), k ≤ n ∧ sv0 = .int .i64 z ∧ iv = .int .i64 (k : Int) ∧ Hid (Below w.heap.size w wr) ∧ Hid (∀ (j : Nat) x, j < k → l[j]? = some x → KsOk x)) (fun _ iv _ => n - (intOf iv).toNat)
 case atStart => exact ⟨0, 0, Nat.zero_le _, rfl, rfl, hide (Below.refl _ _), hide (fun j x h => by omega)⟩
 case round =>
  obtain ⟨k, z, hk, rfl, rfl, B, P⟩ := hrel
  by_cases hlt : k < n
  ·obtain ⟨x, hx⟩ := len_of (d := l) (k := k) (by rw [← HN.out]; exact hlt)
   have KV := hide (HV.out.2 x (List.mem_of_getElem? hx))
   obtain ⟨b, off, rfl, hb, hc⟩ := HV.out.1.get hx
   have QW := hide (And.intro hb (And.intro (hc 1 _ rfl) (And.intro (hc 2 _ rfl) (And.intro (hc 3 _ rfl) (hc 4 _ rfl)))))
   obtain ⟨c1, c2, c3, c4⟩ := cells4_at QW.out B.out
   have HX := hide hx
   have l0 : (0 : Int) ≤ (k : Int) := by omega
   have l1 : (k : Int) < (n : Int) := by omega
   clear hc hb hx
   go_wp2_with fail
   refine (great_c (KV.out.1.step B.out) hL).mono ?_
   rintro e w2 ⟨bx, p, rfl, hp⟩
   replace B := hide (Below.step B.out B.out.size bx)
   have HP := hide hp
   clear bx hp c1 c2 c3 c4
   obtain ⟨c1, c2, c3, c4⟩ := cells4_at QW.out B.out
   cases p with
   | true =>
    go_wp2_with fail
    go_ret
    exact ⟨B.out, true, rfl, fun h => by cases h⟩
   | false =>
    have Q := hide (HP.out rfl)
    go_wp2_with fail
    refine (words_x (KV.out.2.step B.out) hL).mono ?_
    rintro e w3 ⟨rfl, bx⟩
    replace B := hide (Below.step B.out B.out.size bx)
    obtain ⟨m, hm⟩ : ∃ m, m = x.x.u.2.1 + x.x.t.2.1 := ⟨_, rfl⟩
    rw [← hm]
    have HM := hide hm
    clear bx hm c1 c2 c3 c4
    by_cases h6 : 6 < m
    ·have t1 : decide ((6 : Int) < (m : Int)) = true := decide_eq_true (by omega)
     go_wp2_with fail
     go_ret
     exact ⟨B.out, true, rfl, fun h => by cases h⟩
    ·have t1 : decide ((6 : Int) < (m : Int)) = false := decide_eq_false (by omega)
     have P3 := hide (show ∀ (j : Nat) y, j < k + 1 → l[j]? = some y → KsOk y from fun j y hj hy => by
      by_cases h : j = k
      ·subst h
       rw [HX.out] at hy
       injection hy with hy
       subst hy
       exact ⟨Q.out.1, Q.out.2, by have := HM.out; omega⟩
      ·exact P.out j y (by omega) hy)
     have B0 := hide (Below.step B.out B.out.size (Below.refl w3.heap.size w3).drew)
     replace B := B0
     clear P HP
     go_wp2_with fail
     go_region_held3 (fun W => W.cell? ⟨b, off + k * 5 + 1, none⟩ = some (sv x.v) ∧ W.cell? ⟨b, off + k * 5 + 2, none⟩ = some (.bool x.x.s) ∧ W.cell? ⟨b, off + k * 5 + 3, none⟩ = some (sv x.x.u) ∧ W.cell? ⟨b, off + k * 5 + 4, none⟩ = some (sv x.x.t))
      (first | with_reducible exact cells4_at QW.out B.out | with_reducible exact cells4_at QW.out (Below.step B.out B.out.size (alloc_below _ _)))
      (first
       | (go_at_call 51; refine Calls.mono (weights_c (KV.out.1.step (by first | exact B.out | exact Below.step B.out B.out.size (alloc_below _ _))) hL (by have := Q.out.1; omega)) ?_; rintro e wx ⟨z2, rfl, bx⟩; have BX := hide bx; replace B := hide (show Below w.heap.size w wx by first | exact Below.step B.out B.out.size bx | exact Below.step (Below.step B.out B.out.size (alloc_below _ _)) (Below.step B.out B.out.size (alloc_below _ _)).size bx); clear bx)
       | (go_at_call 53; refine Calls.mono (weight_c (d := [x.x]) (L := L) (by first | exact fv1 (KV.out.2.step B.out) rfl | exact (fv1 (KV.out.2.step B0.out) rfl).step BX.out) hL) ?_; rintro e wy ⟨z3, rfl, by1⟩; have B9 := hide (show Below w.heap.size w wy by first | exact Below.step B.out B.out.size by1 | exact Below.step (Below.step B.out B.out.size (alloc_below _ _)) (Below.step B.out B.out.size (alloc_below _ _)).size by1); replace B := B9; clear by1))
     all_goals
      clear B0
      go_wp2_with fail
      exact ⟨⟨k + 1, _, by omega, rfl, by go_num, B9, P3⟩, by simp [intOf]; omega⟩
  ·obtain rfl : k = n := by omega
   have HP := hide (show ∀ x ∈ l, KsOk x from fun x hx => by
    obtain ⟨j, hj, e⟩ := List.getElem_of_mem hx
    exact P.out j x (by rw [HN.out]; exact hj) (by rw [List.getElem?_eq_getElem hj, e]))
   by_cases h12 : 12 < k
   ·have t1 : decide ((12 : Int) < (k : Int)) = true := decide_eq_true (by omega)
    go_wp2_with fail
    go_ret
    exact ⟨B.out, true, rfl, fun h => by cases h⟩
   ·have t1 : decide ((12 : Int) < (k : Int)) = false := decide_eq_false (by omega)
    go_wp2_with fail
    go_ret
    exact ⟨B.out, _, rfl, fun _ => ⟨by omega, HP.out⟩⟩
set_option maxHeartbeats 4000000 in
theorem whole11_g (w : World) (z : Int) (h1 : -9223372036854775808 ≤ z) (h2 : z ≤ 9223372036854775807) :
  Calls Tryz.prog 47 #[.int .i64 z] w (RgRet w (z : Rat) 6) := by
 have HB := hide ((Below.refl w.heap.size w).alloc (Nat.le_refl _) rblk)
 have HZ := hide (Rb.new w)
 go_enter Tryz.func47, Tryz.ntmps47
 go_wp2_with fail
 refine (rqsmall_any (w.alloc rblk) z h1 h2).mono ?_
 rintro e w1 ⟨v, rfl, c1, b1⟩
 have B1 := hide (Below.step HB.out HB.out.size b1)
 have Z1 := hide (HZ.out.step b1)
 have TC := hide (rfto_g c1 (by omega))
 clear b1 c1 HB HZ
 go_wp2_with fail
 refine TC.out.mono ?_
 rintro e w4 ⟨x, rfl, hx, r2, b2⟩
 obtain ⟨⟨k0, k1, k2, f0, f1, f2⟩, fin⟩ := rg_put (w0 := w) (r2.mono (B' := w.heap.size) B1.out.size) (Z1.out.step b2) (by omega) (Below.step B1.out B1.out.size b2)
 have F := hide fin
 have X := hide hx
 clear fin TC r2 b2 Z1 B1 hx
 go_wp2_with fail
 exact bodyPost_ret (rret rfl _ _ _ #[.bool x.s, sv x.u, sv x.t] rfl rfl F.out.1) rfl (by rw [← X.out]; exact F.out.2)
abbrev k1 (s : Int) (g : Nat) (x y : Rx) : Kx := ⟨s, (some ⟨g, 0, none⟩, 1, 1), [⟨0, x⟩], y⟩
def OneG (W : World) (B : Nat) (g : Nat) (x y : Rx) (n m : Int) : Prop := Tg W B (.slice (some ⟨g, 0, none⟩) 1 1) [⟨0, x⟩] 6 ∧ Rg W B y 6 ∧ x.r = (n : Rat) ∧ y.r = (m : Rat)
theorem OneG.step {W W' : World} {B g : Nat} {x y : Rx} {n m : Int} (h : OneG W B g x y n m) (hb : Below W.heap.size W W') : OneG W' B g x y n m := ⟨h.1.step hb, h.2.1.step hb, h.2.2⟩
theorem OneG.kv {W : World} {B g : Nat} {x y : Rx} {n m : Int} {s : Int} (h : OneG W B g x y n m) : Kv W (k1 s g x y) 6 := ⟨h.1.tv, h.2.1.ra⟩
theorem OneG.tms {W : World} {B g : Nat} {x y : Rx} {n m : Int} (h : OneG W B g x y n m) : Go.Proofs.YtfnngcaalpknlaaGreat.tms [(⟨0, x⟩ : Tx)] = [((0 : Int), (n : Rat))] := by
 show [((0 : Int), x.r)] = _
 rw [h.2.2.1]
theorem fm_one {n : Rat} (hn : n ≠ 0) : Fm [((0 : Int), n)] := ⟨by simp, by simp [hn]⟩
theorem OneG.kc {W : World} {B g : Nat} {x y : Rx} {n m : Int} {s : Int} (h : OneG W B g x y n m) (hn : (n : Rat) ≠ 0) : Kc W (k1 s g x y) 6 := ⟨h.1.tc, h.2.1.1, by show Fm (Go.Proofs.YtfnngcaalpknlaaGreat.tms [(⟨0, x⟩ : Tx)]); rw [h.tms]; exact fm_one hn⟩
set_option maxHeartbeats 4000000 in
theorem one_c (w : World) (s n m : Int) (n1 : -9223372036854775808 ≤ n) (n2 : n ≤ 9223372036854775807) (m1 : -9223372036854775808 ≤ m) (m2 : m ≤ 9223372036854775807) :
  Calls Tryz.prog 68 #[.int .i64 s, .int .i64 n, .int .i64 m] w fun e w' => ∃ g x y, e = .returned (kx (k1 s g x y)) ∧ OneG w' w.heap.size g x y n m ∧ Below w.heap.size w w' := by
 have HB := hide (alloc_below w kblk)
 have HZ := hide (Kz.new w)
 go_enter Tryz.func68, Tryz.ntmps68
 go_wp2_with fail
 refine (whole11_g _ n n1 n2).mono ?_
 rintro e w1 ⟨x, rfl, hx, rx1, b1⟩
 have bx := alloc_below w1 (.cells #[.int .i64 0, .bool x.s, sv x.u, sv x.t] 77)
 have T := hide (show Tg (w1.alloc (.cells #[.int .i64 0, .bool x.s, sv x.u, sv x.t] 77)) w.heap.size (.slice (some ⟨w1.heap.size, 0, none⟩) 1 1) [⟨0, x⟩] 6 from
  ⟨Ow.lit et_len w1 77 [⟨0, x⟩] _ rfl (Nat.le_trans HB.out.size b1.size) (by simp [maxLen]), fun y hy => by simp at hy; subst hy; exact (rx1.mono (B' := w.heap.size) HB.out.size).step bx⟩)
 have X := hide hx
 have Z := hide ((HZ.out.step b1).step bx)
 have B := hide (Below.step (Below.step HB.out HB.out.size b1) (Below.step HB.out HB.out.size b1).size bx)
 clear hx rx1 b1 bx HB HZ
 go_wp2_with fail
 generalize (w1.alloc (.cells #[.int .i64 0, .bool x.s, sv x.u, sv x.t] 77)) = w2 at *
 generalize w1.heap.size = g at *
 refine (whole11_g _ m m1 m2).mono ?_
 rintro e w3 ⟨y, rfl, hy, ry, b3⟩
 have Y := hide hy
 have RY := hide (ry.mono (B' := w.heap.size) B.out.size)
 replace T := hide (T.out.step b3)
 replace Z := hide (Z.out.step b3)
 replace B := hide (Below.step B.out B.out.size b3)
 clear hy ry b3
 obtain ⟨z0, z1, z2, z3, z4⟩ := Z.out.all
 have y0 := Z.out.fz 0
 have y1 := Z.out.fz 1
 have y2 := Z.out.fz 2
 have y3 := Z.out.fz 3
 have y4 := Z.out.fz 4
 have P := hide (put5_heap Z.out rfl (.int .i64 s) (.slice (some ⟨g, 0, none⟩) 1 1) (.bool y.s) (sv y.u) (sv y.t))
 have T2 := hide (T.out.grownK (only_put5 w3 w.heap.size (.int .i64 s) (.slice (some ⟨g, 0, none⟩) 1 1) (.bool y.s) (sv y.u) (sv y.t)) Z.out.kb)
 have R2 := hide (RY.out.grownK (only_put5 w3 w.heap.size (.int .i64 s) (.slice (some ⟨g, 0, none⟩) 1 1) (.bool y.s) (sv y.u) (sv y.t)) Z.out.kb)
 have B2 := hide (below_put5 B.out (Nat.le_refl w.heap.size) (.int .i64 s) (.slice (some ⟨g, 0, none⟩) 1 1) (.bool y.s) (sv y.u) (sv y.t))
 clear T RY Z B
 go_wp2_with fail
 exact bodyPost_ret (kret rfl _ _ _ #[.int .i64 s, .slice (some ⟨g, 0, none⟩) 1 1, .bool y.s, sv y.u, sv y.t] rfl rfl P.out) rfl ⟨g, x, y, rfl, ⟨T2.out, R2.out, X.out, Y.out⟩, B2.out⟩
theorem Kc.more {W : World} {k : Kx} {L M : Nat} (h : Kc W k L) (hL : L ≤ M) : Kc W k M := ⟨⟨h.1.1, fun x hx => (h.1.2 x hx).more hL⟩, h.2.1.more hL, h.2.2⟩
theorem lrb1 {W : World} {g : Nat} (hg : W.heap.size = g) : Lr eb1 1 (W.alloc (.cells #[.bool true] 4)) (.slice (some ⟨g, 0, none⟩) 1 1) [true] := by
 subst hg
 exact (Ow.lit (B := W.heap.size) eb1_len W 4 [true] _ rfl (Nat.le_refl _) (by simp [maxLen])).rl eb1_len
theorem lrk2 {W : World} {a b : Kx} {L : Nat} (ha : Kv W a L) (hb : Kv W b L) {g : Nat} (hg : W.heap.size = g) : Kl (W.alloc (.cells #[.int .i64 a.s, sv a.v, .bool a.x.s, sv a.x.u, sv a.x.t, .int .i64 b.s, sv b.v, .bool b.x.s, sv b.x.u, sv b.x.t] 54)) (.slice (some ⟨g, 0, none⟩) 2 2) [a, b] L := by
 subst hg
 exact ⟨(Ow.lit (B := W.heap.size) ek_len W 54 [a, b] _ rfl (Nat.le_refl _) (by simp [maxLen])).rl ek_len, fun k hk => by
  simp at hk
  rcases hk with rfl | rfl
  ·exact ha.step (alloc_below _ _)
  ·exact hb.step (alloc_below _ _)⟩
theorem lrf2 {W : World} {a b : Rx} {L : Nat} (ha : Ra W (rx a) a.r L) (hb : Ra W (rx b) b.r L) {g : Nat} (hg : W.heap.size = g) : Fv (W.alloc (.cells #[.bool a.s, sv a.u, sv a.t, .bool b.s, sv b.u, sv b.t] 42)) (.slice (some ⟨g, 0, none⟩) 2 2) [a, b] L := by
 subst hg
 exact ⟨(Ow.lit (B := W.heap.size) er_len W 42 [a, b] _ rfl (Nat.le_refl _) (by simp [maxLen])).rl er_len, fun k hk => by
  simp at hk
  rcases hk with rfl | rfl
  ·exact ha.step (alloc_below _ _)
  ·exact hb.step (alloc_below _ _)⟩
theorem spk_arg {g1 g2 : Nat} {x1 y1 x2 y2 p q : Rx} : ¬ CmArg [k1 1 g1 x1 y1, k1 2 g2 x2 y2] [p, q] 1 := by
 rintro (h | h | ⟨k, hk, h⟩)
 ·exact h (.inl rfl)
 ·exact h rfl
 ·simp at hk
  rcases hk with rfl | rfl
  ·exact h (.inl rfl)
  ·exact h (.inr (.inl rfl))
theorem spk_rule {g1 g2 : Nat} {x1 y1 x2 y2 p q : Rx} (hp : p.r = ((1 : Int) : Rat)) (hq : q.r = ((-1 : Int) : Rat)) : ¬ CmRule [k1 1 g1 x1 y1, k1 2 g2 x2 y2] [p, q] 1 := by
 rintro ⟨i, k, hk, h⟩
 match i, hk with
 | 0, hk =>
  simp at hk
  subst hk
  rw [xf_in (d := [p, q]) (k := 0) rfl, hp] at h
  exact h (.inr (.inr ⟨by decide, ⟨fun _ => by decide +kernel, fun _ => rfl⟩⟩))
 | 1, hk =>
  simp at hk
  subst hk
  rw [xf_in (d := [p, q]) (k := 1) rfl, hq] at h
  exact h (.inr (.inr ⟨by decide, ⟨fun e => absurd (show (2 : Int) = 1 from e) (by decide), fun e => absurd e (by decide +kernel)⟩⟩))
 | i + 2, hk => simp at hk
theorem spk_sum {g1 g2 : Nat} {x1 y1 x2 y2 p q : Rx} {ts : List Tm} {r : Rat} (hp : p.r = ((1 : Int) : Rat)) (hq : q.r = ((-1 : Int) : Rat)) (h1 : x1.r = ((2 : Int) : Rat)) (h2 : x2.r = ((1 : Int) : Rat)) (e1 : y1.r = ((7 : Int) : Rat)) (e2 : y2.r = ((1 : Int) : Rat))
  (h : CmT [k1 1 g1 x1 y1, k1 2 g2 x2 y2] [p, q] 2 ts r) (hf : Fm ts) : ts = [((0 : Int), ((1 : Int) : Rat))] ∧ r = ((6 : Int) : Rat) := by
 have a0 : xf [p, q] ((0 : Nat) : Int) = p.r := xf_in rfl
 have a1 : xf [p, q] ((1 : Nat) : Int) = q.r := xf_in rfl
 constructor
 ·refine hf.unique (fm_one (by decide)) (fun c hc => ?_)
  rw [h.1 c hc]
  show 0 + xf [p, q] ((0 : Nat) : Int) * gsum [((0 : Int), x1.r)] c + xf [p, q] ((1 : Nat) : Int) * gsum [((0 : Int), x2.r)] c = _
  rw [a0, a1, hp, hq, h1, h2]
  simp only [gsum]
  split
  ·decide +kernel
  ·decide +kernel
 ·rw [h.2]
  show 0 + xf [p, q] ((0 : Nat) : Int) * y1.r + xf [p, q] ((1 : Nat) : Int) * y2.r = _
  rw [a0, a1, hp, hq, e1, e2]
  decide +kernel
theorem whl_one {fl : List Bool} (hb : bAt fl 0) : Whl [((0 : Int), ((1 : Int) : Rat))] (bAt fl) := by
 rw [whl_fm (fm_one (by decide)) (Alk.refl _)]
 intro t ht
 simp at ht
 subst ht
 exact ⟨hb, isw_int 1⟩
theorem bat0 : bAt [true] 0 := ⟨by omega, rfl⟩
theorem spk_dom {W W' : World} {B B' g g' : Nat} {x y x' y' : Rx} (h : OneG W B g x y 1 3) (h' : OneG W' B' g' x' y' 1 4) : Domi (k1 1 g x y).s (Go.Proofs.YtfnngcaalpknlaaGreat.tms (k1 1 g x y).d) (k1 1 g x y).x.r (k1 1 g' x' y').s (Go.Proofs.YtfnngcaalpknlaaGreat.tms (k1 1 g' x' y').d) (k1 1 g' x' y').x.r := by
 refine ⟨.inl rfl, .inl rfl, .inr (.inr ⟨.inl rfl, ?_, ?_⟩)⟩
 ·show Kpt 1 y.r y'.r
  rw [h.2.2.2, h'.2.2.2]
  exact .inl ⟨rfl, by decide⟩
 ·show Alk (Go.Proofs.YtfnngcaalpknlaaGreat.tms [(⟨0, x⟩ : Tx)]) (Go.Proofs.YtfnngcaalpknlaaGreat.tms [(⟨0, x'⟩ : Tx)])
  rw [h.tms, h'.tms]
  exact Alk.refl _
theorem spk_split {W W' : World} {B B' g g' : Nat} {x y x' y' : Rx} (h : OneG W B g x y 1 3) (h' : OneG W' B' g' x' y' 1 4) : Spl (k1 1 g x y).s (Go.Proofs.YtfnngcaalpknlaaGreat.tms (k1 1 g x y).d) (k1 1 g x y).x.r (k1 2 g' x' y').s (Go.Proofs.YtfnngcaalpknlaaGreat.tms (k1 2 g' x' y').d) (k1 2 g' x' y').x.r (bAt [true]) := by
 refine .inl ⟨rfl, rfl, ?_, ?_, ?_, ?_⟩
 ·show Alk (Go.Proofs.YtfnngcaalpknlaaGreat.tms [(⟨0, x⟩ : Tx)]) (Go.Proofs.YtfnngcaalpknlaaGreat.tms [(⟨0, x'⟩ : Tx)])
  rw [h.tms, h'.tms]
  exact Alk.refl _
 ·show Whl (Go.Proofs.YtfnngcaalpknlaaGreat.tms [(⟨0, x⟩ : Tx)]) (bAt [true])
  rw [h.tms]
  exact whl_one bat0
 ·show Isw y.r
  rw [h.2.2.2]
  exact isw_int 3
 ·show y'.r = y.r + 1
  rw [h.2.2.2, h'.2.2.2]
  decide +kernel
theorem spk_unsplit {W W' : World} {B B' g g' : Nat} {x y x' y' : Rx} (h : OneG W B g x y 1 3) (h' : OneG W' B' g' x' y' 1 4) : ¬ Spl (k1 1 g x y).s (Go.Proofs.YtfnngcaalpknlaaGreat.tms (k1 1 g x y).d) (k1 1 g x y).x.r (k1 2 g' x' y').s (Go.Proofs.YtfnngcaalpknlaaGreat.tms (k1 2 g' x' y').d) (k1 2 g' x' y').x.r (bAt []) := by
 rintro (⟨_, _, _, hw, _⟩ | ⟨e, _⟩)
 ·have hw : Whl (Go.Proofs.YtfnngcaalpknlaaGreat.tms [(⟨0, x⟩ : Tx)]) (bAt []) := hw
  rw [h.tms] at hw
  have := (hw 0 (by omega) (by show (1 : Rat) + 0 ≠ 0; decide +kernel)).1
  exact bAt_out (fl := []) (i := 0) (.inr (by simp)) this
 ·exact absurd (show (2 : Int) = 1 from e) (by decide)
theorem floor72 : (((7 : Int) : Rat) / ((2 : Int) : Rat)).floor = 3 := by decide +kernel
set_option maxHeartbeats 8000000 in
theorem kspeaks_true (w : World) : Calls Tryz.prog 22 #[] w fun e w' => e = .returned (.bool true) ∧ Below w.heap.size w w' := by
 go_enter Tryz.func22, Tryz.ntmps22
 go_wp2_with fail
 refine (one_c w 1 2 7 (by omega) (by omega) (by omega) (by omega)).mono ?_
 rintro e w1 ⟨g1, x1, y1, rfl, o1, b1⟩
 go_wp2_with fail
 refine (one_c w1 2 1 1 (by omega) (by omega) (by omega) (by omega)).mono ?_
 rintro e w2 ⟨g2, x2, y2, rfl, o2, b2⟩
 have L1 := hide (lrk2 (a := k1 1 g1 x1 y1) (b := k1 2 g2 x2 y2) (g := w2.heap.size) (OneG.kv (s := 1) (o1.step b2)) (OneG.kv (s := 2) o2) rfl)
 have V1 := hide (And.intro o1.2.2 o2.2.2)
 have al := alloc_below w2 (.cells #[.int .i64 1, .slice (some ⟨g1, 0, none⟩) 1 1, .bool y1.s, sv y1.u, sv y1.t, .int .i64 2, .slice (some ⟨g2, 0, none⟩) 1 1, .bool y2.s, sv y2.u, sv y2.t] 54)
 have B := hide (Below.step (Below.step b1 b1.size b2) (Below.step b1 b1.size b2).size al)
 clear b1 b2 o1 o2 al
 go_wp2_with fail
 generalize (w2.alloc (.cells #[.int .i64 1, .slice (some ⟨g1, 0, none⟩) 1 1, .bool y1.s, sv y1.u, sv y1.t, .int .i64 2, .slice (some ⟨g2, 0, none⟩) 1 1, .bool y2.s, sv y2.u, sv y2.t] 54)) = w3 at *
 generalize w2.heap.size = ga at *
 refine (whole11_g _ 1 (by omega) (by omega)).mono ?_
 rintro e w4 ⟨p, rfl, hp, rp, b1⟩
 go_wp2_with fail
 refine (whole11_g _ (-1) (by omega) (by omega)).mono ?_
 rintro e w5 ⟨q, rfl, hq, rq, b2⟩
 have F1 := hide (lrf2 (a := p) (b := q) (g := w5.heap.size) (rp.ra.step b2) rq.ra rfl)
 have al := alloc_below w5 (.cells #[.bool p.s, sv p.u, sv p.t, .bool q.s, sv q.u, sv q.t] 42)
 have bx := Below.step (Below.step b1 b1.size b2) (Below.step b1 b1.size b2).size al
 replace L1 := hide (L1.out.step bx)
 replace B := hide (Below.step B.out B.out.size bx)
 have V2 := hide (And.intro hp hq)
 clear b1 b2 rp rq al bx hp hq
 go_wp2_with fail
 generalize (w5.alloc (.cells #[.bool p.s, sv p.u, sv p.t, .bool q.s, sv q.u, sv q.t] 42)) = w6 at *
 generalize w5.heap.size = gb at *
 refine (kcombine_g (t := 1) L1.out F1.out (fun k hk => by simp at hk; rcases hk with rfl | rfl <;> simp) (by simp)).mono ?_
 rintro e w7 ⟨(⟨rfl, h⟩ | ⟨rfl, h, h2⟩ | ⟨k', rfl, h, h2, kg, es, ct, -⟩), bx⟩
 ·exact absurd h spk_arg
 ·exact absurd h2 (spk_rule V2.out.1 V2.out.2)
 have EE := hide (spk_sum V2.out.1 V2.out.2 V1.out.1.1 V1.out.2.1 V1.out.1.2 V1.out.2.2 ct kg.2.2)
 have ES := hide (show k'.s = 1 from es)
 have ET := hide EE.out.1
 have ER := hide EE.out.2
 have al := alloc_below w7 (kbox k')
 have KA := hide (kg.kc.step al)
 have PA := hide (Kq.new w7 k')
 replace B := hide (Below.step (Below.step B.out B.out.size bx) (Below.step B.out B.out.size bx).size al)
 clear h h2 kg es ct bx al L1 F1 V1 V2 EE
 go_wp2_with fail
 generalize (w7.alloc (kbox k')) = w8 at *
 generalize w7.heap.size = gA at *
 refine (one_c w8 1 2 7 (by omega) (by omega) (by omega) (by omega)).mono ?_
 rintro e w9 ⟨g3, x3, y3, rfl, o3, bx⟩
 have al := (alloc_below w9 (kbox (k1 1 g3 x3 y3))).drew
 have T := hide (o3.1.step al)
 have P3 := hide (show Kq (w9.alloc (kbox (k1 1 g3 x3 y3))).drew w9.heap.size (k1 1 g3 x3 y3) from (Kq.new w9 _).step (Below.refl _ _).drew)
 have C := hide (Below.step bx bx.size al)
 have GH := hide (show w8.heap.size ≤ w9.heap.size from bx.size)
 have G3 := hide (show w8.heap.size ≤ g3 from (o3.1.1.lt rfl).1)
 have hne : w9.heap.size ≠ g3 := by
  have := (o3.1.1.lt (g := g3) rfl).2
  omega
 clear o3 bx al
 go_wp2_with fail
 generalize (w9.alloc (kbox (k1 1 g3 x3 y3))) = w10 at *
 generalize w9.heap.size = gH at *
 go_region_held3 (fun W => W.cell? ⟨gH, 1, none⟩ = some (.slice (some ⟨g3, 0, none⟩) 1 1))
  (with_reducible first | exact P3.out.all.2.1 | exact (((P3.out.other hne _ _).other hne _ _).other hne _ _).all.2.1)
  (first
   | (go_at_call 47; refine Calls.mono (whole11_g _ 1 (by omega) (by omega)) ?_; rintro e wx ⟨z, rfl, hz, rz, bx⟩; replace P3 := hide (P3.out.step bx); replace T := hide (T.out.step bx); have RZ := hide (rz.mono (B' := w8.heap.size) C.out.size); replace C := hide (Below.step C.out C.out.size bx); have HZ := hide hz; obtain ⟨q0, q1, q2, q3⟩ := T.out.1.cells (i := 0) rfl; simp only [Nat.zero_mul, Nat.zero_add] at q0 q1 q2 q3; have f0 := T.out.1.frozen rfl 0; have f1 := T.out.1.frozen rfl 1; have f2 := T.out.1.frozen rfl 2; have f3 := T.out.1.frozen rfl 3; clear hz rz bx))
 all_goals
  have T4 : Hid (Tg (((wx.setCell ⟨g3, 1, none⟩ (.bool z.s)).setCell ⟨g3, 2, none⟩ (sv z.u)).setCell ⟨g3, 3, none⟩ (sv z.t)) w8.heap.size (.slice (some ⟨g3, 0, none⟩) 1 1) [⟨0, z⟩] 6) := hide (T.out.put3 (i := 0) rfl RZ.out (Nat.le_refl _))
  have P4 := hide (((P3.out.other hne 1 (.bool z.s)).other hne 2 (sv z.u)).other hne 3 (sv z.t))
  have C4 := hide (below_sets C.out G3.out 1 2 3 (.bool z.s) (sv z.u) (sv z.t))
  clear P3 T C RZ q0 q1 q2 q3 f0 f1 f2 f3
  go_wp2_with fail
  generalize (((wx.setCell ⟨g3, 1, none⟩ (.bool z.s)).setCell ⟨g3, 2, none⟩ (sv z.u)).setCell ⟨g3, 3, none⟩ (sv z.t)) = w11 at *
  refine (rqsmall_any _ 7 (by omega) (by omega)).mono ?_
  rintro e w12 ⟨v7, rfl, c7, b7⟩
  go_wp2_with fail
  refine (rqsmall_any _ 2 (by omega) (by omega)).mono ?_
  rintro e w13 ⟨v2, rfl, c2, b2⟩
  have DV := hide (rqdiv_any (c7.step b2) c2 (by decide +kernel) (by omega) (by omega))
  replace T4 := hide ((T4.out.step b7).step b2)
  replace P4 := hide ((P4.out.step b7).step b2)
  replace C4 := hide (Below.step (Below.step C4.out C4.out.size b7) (Below.step C4.out C4.out.size b7).size b2)
  clear c7 c2 b7 b2
  go_wp2_with fail
  refine DV.out.mono ?_
  rintro e w14 ⟨v9, rfl, c9, b9⟩
  have TO := hide (rfto_g c9 (by omega))
  replace T4 := hide (T4.out.step b9)
  replace P4 := hide (P4.out.step b9)
  replace C4 := hide (Below.step C4.out C4.out.size b9)
  clear DV c9 b9
  go_wp2_with fail
  refine TO.out.mono ?_
  rintro e w15 ⟨y, rfl, hy, ry, b9⟩
  replace T4 := hide (T4.out.step b9)
  replace P4 := hide (P4.out.step b9)
  have RY := hide (ry.mono (B' := w8.heap.size) C4.out.size)
  have HY := hide hy
  replace C4 := hide (Below.step C4.out C4.out.size b9)
  clear TO b9 ry hy
  obtain ⟨p0, p1, p2, p3, p4⟩ := P4.out.all
  have x2 := P4.out.fz 2
  have x3 := P4.out.fz 3
  have x4 := P4.out.fz 4
  have P5 := hide (P4.out.putx y)
  have T5 := hide (T4.out.grownK (only_putx w15 gH (.bool y.s) (sv y.u) (sv y.t)) P4.out.kb)
  have R5 := hide (RY.out.grownK (only_putx w15 gH (.bool y.s) (sv y.u) (sv y.t)) P4.out.kb)
  have C5 := hide (below_sets C4.out GH.out 2 3 4 (.bool y.s) (sv y.u) (sv y.t))
  obtain ⟨r0, r1, r2, r3, r4⟩ := P5.out.all
  dsimp only at r0 r1 r2 r3 r4
  have al := alloc_below (((w15.setCell ⟨gH, 2, none⟩ (.bool y.s)).setCell ⟨gH, 3, none⟩ (sv y.u)).setCell ⟨gH, 4, none⟩ (sv y.t)) (.cells #[.bool true] 4)
  have FL := hide (lrb1 (W := (((w15.setCell ⟨gH, 2, none⟩ (.bool y.s)).setCell ⟨gH, 3, none⟩ (sv y.u)).setCell ⟨gH, 4, none⟩ (sv y.t))) (g := w15.heap.size) (by simp))
  have KH := hide (show Kv _ (k1 1 g3 z y) 12 from ⟨(T5.out.step al).tv.more (by omega), (R5.out.step al).ra⟩)
  have C6 := hide (Below.step C5.out C5.out.size al)
  clear P4 T4 RY C4 T5 R5 C5 P5 al
  go_wp2_with fail
  generalize ((((w15.setCell ⟨gH, 2, none⟩ (.bool y.s)).setCell ⟨gH, 3, none⟩ (sv y.u)).setCell ⟨gH, 4, none⟩ (sv y.t)).alloc (.cells #[.bool true] 4)) = wy at *
  generalize w15.heap.size = gf at *
  refine (kround_g (k := k1 1 g3 z y) (fl := [true]) KH.out FL.out (by simp) (by omega) (by omega)).mono ?_
  have WT := hide (show tms [(⟨0, z⟩ : Tx)] = [((0 : Int), ((1 : Int) : Rat))] by show [((0 : Int), z.r)] = _; rw [HZ.out])
  rintro e w16 ⟨(⟨rfl, h⟩ | ⟨rfl, -, h⟩ | ⟨kr, rfl, -, -, kg, rn, -⟩), bx⟩
  ·exact absurd (.inl rfl) h
  ·exact absurd (show Whl (tms [(⟨0, z⟩ : Tx)]) (bAt [true]) by rw [WT.out]; exact whl_one bat0) h
  have EE := hide (show kr.s = 1 ∧ tms kr.d = [((0 : Int), ((1 : Int) : Rat))] ∧ kr.x.r = ((3 : Int) : Rat) by
   rcases rn with ⟨_, e1, e2, e3⟩ | ⟨e0, _⟩ | ⟨e0, _⟩ | ⟨e0, _⟩
   ·refine ⟨e1, kg.2.2.unique (fm_one (by decide +kernel)) (fun c hc => (e2 c hc).trans ?_), ?_⟩
    ·show gsum (tms [(⟨0, z⟩ : Tx)]) c = _
     rw [WT.out]
    ·rw [e3]
     show ((y.r.floor : Int) : Rat) = _
     rw [HY.out, floor72]
   ·exact absurd (show (1 : Int) = 2 from e0) (by decide)
   ·exact absurd (show (1 : Int) = 3 from e0) (by decide)
   ·exact absurd (show (1 : Int) = 3 from e0) (by decide))
  have FS := hide EE.out.1
  have FT := hide EE.out.2.1
  have FR := hide EE.out.2.2
  have al := (alloc_below w16 (kbox kr)).drew
  have KR0 := hide (show Kc _ kr 100 from (kg.kc.more (by simp)).step al)
  have PB0 := hide (show Kq (w16.alloc (kbox kr)).drew w16.heap.size kr from (Kq.new w16 kr).step (Below.refl _ _).drew)
  have C7 := hide (Below.step (Below.step C6.out C6.out.size bx) (Below.step C6.out C6.out.size bx).size al)
  have KA0 := hide (KA.out.step C7.out)
  have PA0 := hide (PA.out.step C7.out)
  have B7 := hide (Below.step B.out B.out.size C7.out)
  clear KH FL kg rn bx al EE C6 KA PA B p0 p1 p2 p3 p4 r0 r1 r2 r3 r4 x2 x3 x4
  have KA := KA0
  have PA := PA0
  have KR := KR0
  have PB := PB0
  have C := B7
  clear KA0 PA0 KR0 PB0 B7 C7
  go_wp2_with fail
  generalize (w16.alloc (kbox kr)) = w17 at *
  generalize w16.heap.size = gB at *
  go_region_held3 (fun W => (W.cell? ⟨gA, 0, none⟩ = some (.int .i64 k'.s) ∧ W.cell? ⟨gA, 1, none⟩ = some (sv k'.v) ∧ W.cell? ⟨gA, 2, none⟩ = some (.bool k'.x.s) ∧ W.cell? ⟨gA, 3, none⟩ = some (sv k'.x.u) ∧ W.cell? ⟨gA, 4, none⟩ = some (sv k'.x.t)) ∧ W.cell? ⟨gB, 0, none⟩ = some (.int .i64 kr.s) ∧ W.cell? ⟨gB, 1, none⟩ = some (sv kr.v) ∧ W.cell? ⟨gB, 2, none⟩ = some (.bool kr.x.s) ∧ W.cell? ⟨gB, 3, none⟩ = some (sv kr.x.u) ∧ W.cell? ⟨gB, 4, none⟩ = some (sv kr.x.t))
   (with_reducible first | exact ⟨PA.out.all, PB.out.all⟩ | exact ⟨(PA.out.step (alloc_below _ _)).all, (PB.out.step (alloc_below _ _)).all⟩)
   (first
       | (go_at_call 68; refine Calls.mono (one_c _ _ _ _ (by omega) (by omega) (by omega) (by omega)) ?_; rintro e wx ⟨ga, xa, ya, rfl, oo, bx⟩; (try (with_reducible first | replace PA := hide (PA.out.step bx) | replace PA := hide ((PA.out.step (alloc_below _ _)).step bx))); (try (with_reducible first | replace PB := hide (PB.out.step bx) | replace PB := hide ((PB.out.step (alloc_below _ _)).step bx))); (try (with_reducible first | replace KA := hide (KA.out.step bx) | replace KA := hide ((KA.out.step (alloc_below _ _)).step bx))); (try (with_reducible first | replace KR := hide (KR.out.step bx) | replace KR := hide ((KR.out.step (alloc_below _ _)).step bx))); (try (with_reducible first | replace O6 := hide (O6.out.step bx) | replace O6 := hide ((O6.out.step (alloc_below _ _)).step bx))); (try (with_reducible first | replace O3 := hide (O3.out.step bx) | replace O3 := hide ((O3.out.step (alloc_below _ _)).step bx))); (try (with_reducible first | replace O4 := hide (O4.out.step bx) | replace O4 := hide ((O4.out.step (alloc_below _ _)).step bx))); (try (with_reducible first | replace FL := hide (FL.out.step bx) | replace FL := hide ((FL.out.step (alloc_below _ _)).step bx))); (try (with_reducible have FL := hide ((lrb1 rfl).step bx))); (with_reducible first | replace C := hide (Below.step C.out C.out.size bx) | replace C := hide (Below.step (Below.step C.out C.out.size (alloc_below _ _)) (Below.step C.out C.out.size (alloc_below _ _)).size bx)); clear bx; (with_reducible first | have O6 : Hid (OneG wx _ ga xa ya 1 6) := hide oo | have O3 : Hid (OneG wx _ ga xa ya 1 3) := hide oo | have O4 : Hid (OneG wx _ ga xa ya 1 4) := hide oo); clear oo)
       | (go_at_call 29; first
        | (have K6 := OneG.kc (s := 1) O6.out (by decide); refine Calls.mono (samecons_x (L := 141200) (M := 6) KA.out K6) ?_; rintro e wx ⟨⟨b9, rfl, hb9⟩, bx⟩; obtain rfl : b9 = true := hb9.2 ⟨ES.out, ET.out.trans O6.out.tms.symm, ER.out.trans O6.out.2.2.2.symm⟩; (try (with_reducible first | replace PA := hide (PA.out.step bx) | replace PA := hide ((PA.out.step (alloc_below _ _)).step bx))); (try (with_reducible first | replace PB := hide (PB.out.step bx) | replace PB := hide ((PB.out.step (alloc_below _ _)).step bx))); (try (with_reducible first | replace KA := hide (KA.out.step bx) | replace KA := hide ((KA.out.step (alloc_below _ _)).step bx))); (try (with_reducible first | replace KR := hide (KR.out.step bx) | replace KR := hide ((KR.out.step (alloc_below _ _)).step bx))); (try (with_reducible first | replace O6 := hide (O6.out.step bx) | replace O6 := hide ((O6.out.step (alloc_below _ _)).step bx))); (try (with_reducible first | replace O3 := hide (O3.out.step bx) | replace O3 := hide ((O3.out.step (alloc_below _ _)).step bx))); (try (with_reducible first | replace O4 := hide (O4.out.step bx) | replace O4 := hide ((O4.out.step (alloc_below _ _)).step bx))); (try (with_reducible first | replace FL := hide (FL.out.step bx) | replace FL := hide ((FL.out.step (alloc_below _ _)).step bx))); (try (with_reducible have FL := hide ((lrb1 rfl).step bx))); (with_reducible first | replace C := hide (Below.step C.out C.out.size bx) | replace C := hide (Below.step (Below.step C.out C.out.size (alloc_below _ _)) (Below.step C.out C.out.size (alloc_below _ _)).size bx)); clear bx; clear hb9 O6 K6)
        | (have K3 := OneG.kc (s := 1) O3.out (by decide); refine Calls.mono (samecons_x (L := 100) (M := 6) KR.out K3) ?_; rintro e wx ⟨⟨b9, rfl, hb9⟩, bx⟩; obtain rfl : b9 = true := hb9.2 ⟨FS.out, FT.out.trans O3.out.tms.symm, FR.out.trans O3.out.2.2.2.symm⟩; (try (with_reducible first | replace PA := hide (PA.out.step bx) | replace PA := hide ((PA.out.step (alloc_below _ _)).step bx))); (try (with_reducible first | replace PB := hide (PB.out.step bx) | replace PB := hide ((PB.out.step (alloc_below _ _)).step bx))); (try (with_reducible first | replace KA := hide (KA.out.step bx) | replace KA := hide ((KA.out.step (alloc_below _ _)).step bx))); (try (with_reducible first | replace KR := hide (KR.out.step bx) | replace KR := hide ((KR.out.step (alloc_below _ _)).step bx))); (try (with_reducible first | replace O6 := hide (O6.out.step bx) | replace O6 := hide ((O6.out.step (alloc_below _ _)).step bx))); (try (with_reducible first | replace O3 := hide (O3.out.step bx) | replace O3 := hide ((O3.out.step (alloc_below _ _)).step bx))); (try (with_reducible first | replace O4 := hide (O4.out.step bx) | replace O4 := hide ((O4.out.step (alloc_below _ _)).step bx))); (try (with_reducible first | replace FL := hide (FL.out.step bx) | replace FL := hide ((FL.out.step (alloc_below _ _)).step bx))); (try (with_reducible have FL := hide ((lrb1 rfl).step bx))); (with_reducible first | replace C := hide (Below.step C.out C.out.size bx) | replace C := hide (Below.step (Below.step C.out C.out.size (alloc_below _ _)) (Below.step C.out C.out.size (alloc_below _ _)).size bx)); clear bx; clear hb9 O3 K3))
       | (go_at_call 42; have K3 := OneG.kv (s := 1) O3.out; have K4 := OneG.kv (s := 1) O4.out; refine Calls.mono (kdom_c (L := 6) (M := 6) K3 K4 (by simp) (by simp) (by omega) (by omega) (by omega) (by omega)) ?_; rintro e wx ⟨⟨b9, rfl, hb9⟩, bx⟩; obtain rfl : b9 = true := hb9.2 (spk_dom O3.out O4.out); (try (with_reducible first | replace PA := hide (PA.out.step bx) | replace PA := hide ((PA.out.step (alloc_below _ _)).step bx))); (try (with_reducible first | replace PB := hide (PB.out.step bx) | replace PB := hide ((PB.out.step (alloc_below _ _)).step bx))); (try (with_reducible first | replace KA := hide (KA.out.step bx) | replace KA := hide ((KA.out.step (alloc_below _ _)).step bx))); (try (with_reducible first | replace KR := hide (KR.out.step bx) | replace KR := hide ((KR.out.step (alloc_below _ _)).step bx))); (try (with_reducible first | replace O6 := hide (O6.out.step bx) | replace O6 := hide ((O6.out.step (alloc_below _ _)).step bx))); (try (with_reducible first | replace O3 := hide (O3.out.step bx) | replace O3 := hide ((O3.out.step (alloc_below _ _)).step bx))); (try (with_reducible first | replace O4 := hide (O4.out.step bx) | replace O4 := hide ((O4.out.step (alloc_below _ _)).step bx))); (try (with_reducible first | replace FL := hide (FL.out.step bx) | replace FL := hide ((FL.out.step (alloc_below _ _)).step bx))); (try (with_reducible have FL := hide ((lrb1 rfl).step bx))); (with_reducible first | replace C := hide (Below.step C.out C.out.size bx) | replace C := hide (Below.step (Below.step C.out C.out.size (alloc_below _ _)) (Below.step C.out C.out.size (alloc_below _ _)).size bx)); clear bx; clear hb9 O3 O4 K3 K4)
       | (go_at_call 44; first
        | (have K3 := OneG.kv (s := 1) O3.out; have K4 := OneG.kv (s := 2) O4.out; refine Calls.mono (ksplit_c (L := 6) (M := 6) (fl := [true]) K3 K4 FL.out (by simp) (by simp) (by omega) (by omega) (by omega) (by omega)) ?_; rintro e wx ⟨⟨b9, rfl, hb9⟩, bx⟩; obtain rfl : b9 = true := hb9.2 (spk_split O3.out O4.out); clear FL; (try (with_reducible first | replace PA := hide (PA.out.step bx) | replace PA := hide ((PA.out.step (alloc_below _ _)).step bx))); (try (with_reducible first | replace PB := hide (PB.out.step bx) | replace PB := hide ((PB.out.step (alloc_below _ _)).step bx))); (try (with_reducible first | replace KA := hide (KA.out.step bx) | replace KA := hide ((KA.out.step (alloc_below _ _)).step bx))); (try (with_reducible first | replace KR := hide (KR.out.step bx) | replace KR := hide ((KR.out.step (alloc_below _ _)).step bx))); (try (with_reducible first | replace O6 := hide (O6.out.step bx) | replace O6 := hide ((O6.out.step (alloc_below _ _)).step bx))); (try (with_reducible first | replace O3 := hide (O3.out.step bx) | replace O3 := hide ((O3.out.step (alloc_below _ _)).step bx))); (try (with_reducible first | replace O4 := hide (O4.out.step bx) | replace O4 := hide ((O4.out.step (alloc_below _ _)).step bx))); (try (with_reducible first | replace FL := hide (FL.out.step bx) | replace FL := hide ((FL.out.step (alloc_below _ _)).step bx))); (try (with_reducible have FL := hide ((lrb1 rfl).step bx))); (with_reducible first | replace C := hide (Below.step C.out C.out.size bx) | replace C := hide (Below.step (Below.step C.out C.out.size (alloc_below _ _)) (Below.step C.out C.out.size (alloc_below _ _)).size bx)); clear bx; clear hb9 O3 O4 K3 K4)
        | (have K3 := OneG.kv (s := 1) (O3.out.step (alloc_below _ (.cells #[.bool true] 4))); have K4 := OneG.kv (s := 2) (O4.out.step (alloc_below _ (.cells #[.bool true] 4))); have F3 := lrb1 (W := wx) rfl; refine Calls.mono (ksplit_c (L := 6) (M := 6) (fl := [true]) K3 K4 F3 (by simp) (by simp) (by omega) (by omega) (by omega) (by omega)) ?_; rintro e wx ⟨⟨b9, rfl, hb9⟩, bx⟩; obtain rfl : b9 = true := hb9.2 (spk_split O3.out O4.out); (try (with_reducible first | replace PA := hide (PA.out.step bx) | replace PA := hide ((PA.out.step (alloc_below _ _)).step bx))); (try (with_reducible first | replace PB := hide (PB.out.step bx) | replace PB := hide ((PB.out.step (alloc_below _ _)).step bx))); (try (with_reducible first | replace KA := hide (KA.out.step bx) | replace KA := hide ((KA.out.step (alloc_below _ _)).step bx))); (try (with_reducible first | replace KR := hide (KR.out.step bx) | replace KR := hide ((KR.out.step (alloc_below _ _)).step bx))); (try (with_reducible first | replace O6 := hide (O6.out.step bx) | replace O6 := hide ((O6.out.step (alloc_below _ _)).step bx))); (try (with_reducible first | replace O3 := hide (O3.out.step bx) | replace O3 := hide ((O3.out.step (alloc_below _ _)).step bx))); (try (with_reducible first | replace O4 := hide (O4.out.step bx) | replace O4 := hide ((O4.out.step (alloc_below _ _)).step bx))); (try (with_reducible first | replace FL := hide (FL.out.step bx) | replace FL := hide ((FL.out.step (alloc_below _ _)).step bx))); (try (with_reducible have FL := hide ((lrb1 rfl).step bx))); (with_reducible first | replace C := hide (Below.step C.out C.out.size bx) | replace C := hide (Below.step (Below.step C.out C.out.size (alloc_below _ _)) (Below.step C.out C.out.size (alloc_below _ _)).size bx)); clear bx; clear hb9 O3 O4 K3 K4 F3)
        | (have K3 := OneG.kv (s := 1) O3.out; have K4 := OneG.kv (s := 2) O4.out; have F3 := Lr.nil eb1 1 wx; refine Calls.mono (ksplit_c (L := 6) (M := 6) (fl := []) K3 K4 F3 (by simp) (by simp) (by omega) (by omega) (by omega) (by omega)) ?_; rintro e wx ⟨⟨b9, rfl, hb9⟩, bx⟩; obtain rfl : b9 = false := (Bool.eq_false_iff).2 (fun h => spk_unsplit O3.out O4.out (hb9.1 h)); (try (with_reducible first | replace PA := hide (PA.out.step bx) | replace PA := hide ((PA.out.step (alloc_below _ _)).step bx))); (try (with_reducible first | replace PB := hide (PB.out.step bx) | replace PB := hide ((PB.out.step (alloc_below _ _)).step bx))); (try (with_reducible first | replace KA := hide (KA.out.step bx) | replace KA := hide ((KA.out.step (alloc_below _ _)).step bx))); (try (with_reducible first | replace KR := hide (KR.out.step bx) | replace KR := hide ((KR.out.step (alloc_below _ _)).step bx))); (try (with_reducible first | replace O6 := hide (O6.out.step bx) | replace O6 := hide ((O6.out.step (alloc_below _ _)).step bx))); (try (with_reducible first | replace O3 := hide (O3.out.step bx) | replace O3 := hide ((O3.out.step (alloc_below _ _)).step bx))); (try (with_reducible first | replace O4 := hide (O4.out.step bx) | replace O4 := hide ((O4.out.step (alloc_below _ _)).step bx))); (try (with_reducible first | replace FL := hide (FL.out.step bx) | replace FL := hide ((FL.out.step (alloc_below _ _)).step bx))); (try (with_reducible have FL := hide ((lrb1 rfl).step bx))); (with_reducible first | replace C := hide (Below.step C.out C.out.size bx) | replace C := hide (Below.step (Below.step C.out C.out.size (alloc_below _ _)) (Below.step C.out C.out.size (alloc_below _ _)).size bx)); clear bx; clear hb9 O3 O4 K3 K4 F3)))
  all_goals
   go_wp2_with fail
   go_ret
   exact ⟨rfl, C.out⟩
end Go.Proofs.YtfnngcaalpknlaaGreat
