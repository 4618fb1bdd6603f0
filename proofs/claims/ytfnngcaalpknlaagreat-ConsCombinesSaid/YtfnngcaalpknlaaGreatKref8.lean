
/-
 Lists of constraints by their words: copied, compared.
-/
import Derived.Test.YtfnngcaalpknlaaGreatKxConsCombines
import Derived.Test.YtfnngcaalpknlaaGreatKref7
import Derived.Test.YtfnngcaalpknlaaGreatKref2
import Derived.Test.YtfnngcaalpknlaaGreatBundleN


namespace Go.Proofs.YtfnngcaalpknlaaGreat
open Go.RowKit Go.Proofs.YtfnngcaalpknlaaGreat.Num
set_option linter.unusedVariables false
set_option linter.unusedSimpArgs false
set_option maxRecDepth 100000
theorem info_kc : (Tryz.prog.info? 54).map (fun i => (i.zero, i.size, i.bytes)) = some (some (.agg #[.int .i64 0, .slice none 0 0, .bool false, .slice none 0 0, .slice none 0 0]), 5, 88) := by kernel_rfl
theorem ow_tk {α β : Type} {enc : α → List Value} {enc' : β → List Value} {k k' B B' : Nat} {T T' : TypeId} {W : World} {v v' : Value} {d : List α} {d' : List β} (h1 : Ow T enc k W B v d) (h2 : Ow T' enc' k' W B' v' d') (hne : T ≠ T') : v.ownBlock = none ∨ v.ownBlock ≠ v'.ownBlock := by
 rcases h1.form with ⟨rfl, _⟩ | ⟨g, cap, cur, rfl, _, _, hh, _⟩
 ·exact .inl rfl
 ·rcases h2.form with ⟨rfl, _⟩ | ⟨g', cap', cur', rfl, _, _, hh', _⟩
  ·exact .inr (by simp [Value.ownBlock])
  ·refine .inr (fun e => ?_)
   have e : g = g' := by simpa [Value.ownBlock] using e
   subst e
   rw [hh] at hh'
   injection hh' with hh'
   injection hh' with _ e2 _
   exact hne e2
theorem Ow.otK {W : World} {B : Nat} {v : Value} {d : List Kx} (ho : Ow 54 ek 5 W B v d) : ∀ g, v.ownBlock = some g → Ot W g := by
 intro g e
 rcases ho.form with ⟨rfl, _⟩ | ⟨g', cap, cur, rfl, hB, hlt, hh, r⟩
 ·cases e
 ·have e : g' = g := by simpa [Value.ownBlock] using e
  subst e
  exact ⟨cur, _, _, hh, by decide⟩
structure Kt where
 s : Int
 zs : List Zt
 z : Zt
def Kwl (W : World) (v : Value) (d : List Kx) (ts : List Kt) (L : Nat) : Prop := Lr ek 5 W v d ∧ d.length = ts.length ∧ ∀ (i : Nat) x t, d[i]? = some x → ts[i]? = some t → x.s = t.s ∧ Kw W x t.zs t.z L
theorem Kwl.step {W W' : World} {v : Value} {d : List Kx} {ts : List Kt} {L : Nat} (h : Kwl W v d ts L) (hb : Below W.heap.size W W') : Kwl W' v d ts L :=
 ⟨h.1.step hb, h.2.1, fun i x t hx ht => ⟨(h.2.2 i x t hx ht).1, (h.2.2 i x t hx ht).2.step hb⟩⟩
theorem kwl_of {W : World} {v : Value} {d : List Kx} {L : Nat} (h : Kl W v d L) : ∃ ts, Kwl W v d ts L := by
 obtain ⟨ts, hl, ht⟩ := list_choose (P := fun (x : Kx) (t : Kt) => x.s = t.s ∧ Kw W x t.zs t.z L) d (fun x hx => by
  obtain ⟨zs, z, h1⟩ := kw_of (h.2 x hx)
  exact ⟨⟨x.s, zs, z⟩, rfl, h1⟩)
 exact ⟨ts, h.1, hl, ht⟩
theorem Kwg.mono {W : World} {B B' : Nat} {k : Kx} {zs : List Zt} {z : Zt} {L : Nat} (h : Kwg W B k zs z L) (hB : B' ≤ B) : Kwg W B' k zs z L :=
 ⟨⟨h.1.1.mono hB, h.1.2.1, fun i x z hx hz => ⟨(h.1.2.2 i x z hx hz).1, (h.1.2.2 i x z hx hz).2.mono hB⟩⟩, h.2.mono hB⟩
theorem Kwg.kept {W W' : World} {B B' : Nat} {v : Value} {d : List Kx} {k : Kx} {zs : List Zt} {z : Zt} {L : Nat} (h : Kwg W B' k zs z L) (ho : Ow 54 ek 5 W B v d) (hg : W.grownBy W' v.ownBlock) : Kwg W' B' k zs z L :=
 ⟨⟨h.1.1.kept hg (ow_tk h.1.1 ho (by decide)), h.1.2.1, fun i x z hx hz => ⟨(h.1.2.2 i x z hx hz).1, (h.1.2.2 i x z hx hz).2.grownT hg (fun g e => ho.otK g e)⟩⟩, h.2.grownT hg (fun g e => ho.otK g e)⟩
def Kwo (W : World) (B : Nat) (v : Value) (d : List Kx) (ts : List Kt) (L : Nat) : Prop := Ow 54 ek 5 W B v d ∧ d.length = ts.length ∧ ∀ (i : Nat) x t, d[i]? = some x → ts[i]? = some t → x.s = t.s ∧ Kwg W B x t.zs t.z L
theorem Kwo.step {W W' : World} {B : Nat} {v : Value} {d : List Kx} {ts : List Kt} {L : Nat} (h : Kwo W B v d ts L) (hb : Below W.heap.size W W') : Kwo W' B v d ts L :=
 ⟨h.1.step hb, h.2.1, fun i x t hx ht => ⟨(h.2.2 i x t hx ht).1, (h.2.2 i x t hx ht).2.step hb⟩⟩
theorem Kwo.kwl {W : World} {B : Nat} {v : Value} {d : List Kx} {ts : List Kt} {L : Nat} (h : Kwo W B v d ts L) : Kwl W v d ts L :=
 ⟨h.1.rl ek_len, h.2.1, fun i x t hx ht => ⟨(h.2.2 i x t hx ht).1, (h.2.2 i x t hx ht).2.kw⟩⟩
theorem Kwo.push {W W' : World} {B L : Nat} {v v' : Value} {d : List Kx} {ts : List Kt} {x : Kx} {t : Kt} (T : Kwo W B v d ts L) (ho : Ow 54 ek 5 W' B v' (d ++ [x])) (hg : W.grownBy W' v.ownBlock) (hc : x.s = t.s) (hx : Kwg W B x t.zs t.z L) : Kwo W' B v' (d ++ [x]) (ts ++ [t]) L := by
 refine ⟨ho, by simp [T.2.1], fun i y u hy hu => ?_⟩
 by_cases hi : i < d.length
 ·rw [List.getElem?_append_left hi] at hy
  rw [List.getElem?_append_left (by have := T.2.1; omega)] at hu
  exact ⟨(T.2.2 i y u hy hu).1, (T.2.2 i y u hy hu).2.kept T.1 hg⟩
 ·rw [List.getElem?_append_right (by omega)] at hy
  rw [List.getElem?_append_right (by have := T.2.1; omega), ← T.2.1] at hu
  have hj : i - d.length = 0 := by
   have := (List.getElem?_eq_some_iff.1 hy).1
   simp at this
   omega
  rw [hj] at hy hu
  simp at hy hu
  subst hy hu
  exact ⟨hc, hx.kept T.1 hg⟩
set_option maxHeartbeats 8000000 in
theorem ccopy_w {w : World} {v : Value} {d : List Kx} {ts : List Kt} {L : Nat} (hv : Kwl w v d ts L) (hL : L ≤ 17592186044000) (hn : d.length ≤ 1000000) (hd : ∀ k ∈ d, k.d.length ≤ 1000000) :
  Calls Tryz.prog 24 #[v] w fun e w' => ∃ v' d', e = .returned v' ∧ Kwo w' w.heap.size v' d' ts L ∧ Below w.heap.size w w' := by
 obtain ⟨i0, hi, hz0, hz1, hz2⟩ := info_parts info_kc
 obtain ⟨A, c, e1, hc1, hc2, hc3⟩ := id hv.1
 obtain ⟨n, hlen⟩ : ∃ n, n = d.length := ⟨_, rfl⟩
 rw [← hlen] at e1 hc1
 subst e1
 have b0 := alloc_below w (.cells #[] 54)
 have HV := hide hv
 have T0 := hide (show Kwo (w.alloc (.cells #[] 54)) w.heap.size (.slice (some ⟨w.heap.size, 0, none⟩) 0 0) [] (ts.take 0) L from ⟨Ow.lit (B := w.heap.size) ek_len w 54 ([] : List Kx) #[] rfl (Nat.le_refl _) (by simp [maxLen]), by simp, fun i x z hx => by simp at hx⟩)
 have B0 := hide b0
 have DN := hide hn
 have HD := hide hd
 have HN := hide hlen
 have HZ := hide hv.2.1
 have HL := hide hL
 unfold maxLen at hc2
 clear hv b0 hn hc3 hlen hd
 go_enter Tryz.func24, Tryz.ntmps24
 go_wp2_with fail
 go_loopw [3, 4] (fun ov iv wr => ∃ (k : Nat) (os : List Kx), k ≤ n ∧ iv = .int .i64 (k : Int) ∧ Hid (os.length = k) ∧ Hid (Below w.heap.size w wr) ∧ Hid (Kwo wr w.heap.size ov os (ts.take k) L)) (fun _ iv _ => n - (intOf iv).toNat)
 case atStart => exact ⟨0, [], Nat.zero_le _, rfl, hide rfl, B0, T0⟩
 case round =>
  obtain ⟨k, os, hk, rfl, KL, B, T⟩ := hrel
  by_cases hlt : k < n
  ·obtain ⟨x, hx⟩ := len_of (d := d) (k := k) (by rw [← HN.out]; exact hlt)
   obtain ⟨t, ht⟩ := zs_at HZ.out hx
   have XD := hide (HD.out x (List.mem_of_getElem? hx))
   have X5 := hide ((HV.out.2.2 k x t hx ht).2.step B.out)
   have XC := hide (HV.out.2.2 k x t hx ht).1
   have HLEN := hide (show os.length + 1 ≤ 1000000000000 by have := KL.out; have := DN.out; have := HN.out; omega)
   have EZ := hide (show ts.take (k + 1) = ts.take k ++ [t] from take_snoc ht)
   have l0 : (0 : Int) ≤ (k : Int) := by omega
   have l1 : (k : Int) < (n : Int) := by omega
   obtain ⟨b, off, rfl, hb, hc⟩ := (HV.out.1.step B.out).get hx
   have c0 := hc 0 _ rfl
   have c1 := hc 1 _ rfl
   have c2 := hc 2 _ rfl
   have c3 := hc 3 _ rfl
   have c4 := hc 4 _ rfl
   rw [Nat.add_zero] at c0
   clear hx ht hb hc
   go_wp2_with fail
   refine (kcopy_w X5.out XD.out HL.out).mono ?_
   rintro e w5 ⟨y, rfl, ys, yg, bx⟩
   have YS := hide (ys.trans XC.out)
   have Y7 := hide (yg.mono (B' := w.heap.size) B.out.size)
   have T7 := hide (T.out.step bx)
   have B7 := hide (Below.step B.out B.out.size bx)
   clear ys yg bx c0 c1 c2 c3 c4 T B X5
   go_wp2_with (at_builtin; (refine wpList_pushE rfl (.tmp 12) (.tmp 18) 49 rfl Tryz.underlying49 hi hz0 hz1 hz2 rfl (by omega) ek_len ek_one w5 w.heap.size _ os y _ rfl T7.out.1 rfl rfl HLEN.out (by decide) B7.out.size ?_; intro v' w' ho hg; have TF := hide (T7.out.push ho hg.1 YS.out Y7.out); have CF := hide (below_own B7.out T7.out.1 hg.1 B7.out.size); clear ho hg))
   have TG := hide (show Kwo w' w.heap.size v' (os ++ [y]) (ts.take (k + 1)) L by rw [EZ.out]; exact TF.out)
   have K2 := hide (show (os ++ [y]).length = k + 1 by have := KL.out; simp; omega)
   exact ⟨⟨k + 1, os ++ [y], by omega, by go_num, K2, CF, TG⟩, by simp [intOf]; omega⟩
  ·obtain rfl : k = n := by omega
   have TT := hide (show Kwo wr w.heap.size _ os ts L by have h := T.out; rwa [List.take_of_length_le (by rw [← HZ.out, ← HN.out]; exact Nat.le_refl _)] at h)
   clear T
   go_wp2_with fail
   go_ret
   exact ⟨_, os, rfl, TT.out, B.out⟩
set_option maxHeartbeats 8000000 in
theorem csame_w {w : World} {u v : Value} {d f : List Kx} {ts : List Kt} {L M : Nat} (hu : Kwl w u d ts L) (hv : Kwl w v f ts M) :
  Calls Tryz.prog 31 #[u, v] w fun e w' => e = .returned (.bool true) ∧ Below w.heap.size w w' := by
 obtain ⟨A, c, e1, hc1, hc2, hc3⟩ := id hu.1
 obtain ⟨D, m, e2, hd1, hd2, hd3⟩ := id hv.1
 have hl : f.length = d.length := by rw [hv.2.1, hu.2.1]
 obtain ⟨n, hlen⟩ : ∃ n, n = d.length := ⟨_, rfl⟩
 rw [hl] at e2 hd1
 rw [← hlen] at e1 e2 hc1 hd1
 subst e1 e2
 have HU := hide hu
 have HV := hide hv
 have HN := hide hlen
 have HL := hide hl
 unfold maxLen at hc2
 have t0 : ((n : Int) != (n : Int)) = false := by simp
 clear hu hv hc3 hd3 hl hlen
 go_enter Tryz.func31, Tryz.ntmps31
 go_wp2_with fail
 go_loopw [5] (fun iv wr => ∃ k : Nat, k ≤ n ∧ iv = .int .i64 (k : Int) ∧ Hid (Below w.heap.size w wr)) (fun iv _ => n - (intOf iv).toNat)
 case atStart => exact ⟨0, Nat.zero_le _, rfl, hide (Below.refl _ _)⟩
 case round =>
  obtain ⟨k, hk, rfl, B⟩ := hrel
  by_cases hlt : k < n
  ·obtain ⟨x, hx⟩ := len_of (d := d) (k := k) (by rw [← HN.out]; exact hlt)
   obtain ⟨y, hy⟩ := len_of (d := f) (k := k) (by rw [HL.out, ← HN.out]; exact hlt)
   obtain ⟨t, ht⟩ := zs_at HU.out.2.1 hx
   have b8 := (Below.refl wr.heap.size wr).drew
   have B8 := hide (Below.step B.out B.out.size b8)
   have RX := hide (((HU.out.2.2 k x t hx ht).2.step B.out).step b8)
   have RY := hide (((HV.out.2.2 k y t hy ht).2.step B.out).step b8)
   have EC := hide ((HU.out.2.2 k x t hx ht).1.trans (HV.out.2.2 k y t hy ht).1.symm)
   obtain ⟨b, off, rfl, hb, hc⟩ := ((HU.out.1.step B.out).step b8).get hx
   obtain ⟨b', off', rfl, hb', hc'⟩ := ((HV.out.1.step B.out).step b8).get hy
   have c0 := hc 0 _ rfl
   have c1 := hc 1 _ rfl
   have c2 := hc 2 _ rfl
   have c3 := hc 3 _ rfl
   have c4 := hc 4 _ rfl
   have e0 := hc' 0 _ rfl
   have e1 := hc' 1 _ rfl
   have e2 := hc' 2 _ rfl
   have e3 := hc' 3 _ rfl
   have e4 := hc' 4 _ rfl
   rw [Nat.add_zero] at c0 e0
   have l0 : (0 : Int) ≤ (k : Int) := by omega
   have l1 : (k : Int) < (n : Int) := by omega
   have P := hide (And.intro (And.intro c0 (And.intro c1 (And.intro c2 (And.intro c3 c4)))) (And.intro e0 (And.intro e1 (And.intro e2 (And.intro e3 e4)))))
   clear hc hc' hb hb' hx hy ht b8
   go_wp2_with fail
   go_region_held3 (fun W => (W.cell? ⟨b, off + k * 5, none⟩ = some (.int .i64 x.s) ∧ W.cell? ⟨b, off + k * 5 + 1, none⟩ = some (sv x.v) ∧ W.cell? ⟨b, off + k * 5 + 2, none⟩ = some (.bool x.x.s) ∧ W.cell? ⟨b, off + k * 5 + 3, none⟩ = some (sv x.x.u) ∧ W.cell? ⟨b, off + k * 5 + 4, none⟩ = some (sv x.x.t)) ∧ W.cell? ⟨b', off' + k * 5, none⟩ = some (.int .i64 y.s) ∧ W.cell? ⟨b', off' + k * 5 + 1, none⟩ = some (sv y.v) ∧ W.cell? ⟨b', off' + k * 5 + 2, none⟩ = some (.bool y.x.s) ∧ W.cell? ⟨b', off' + k * 5 + 3, none⟩ = some (sv y.x.u) ∧ W.cell? ⟨b', off' + k * 5 + 4, none⟩ = some (sv y.x.t))
    (with_reducible exact P.out)
    (first
     | (go_at_call 29; refine Calls.mono (samecons_w RX.out RY.out EC.out) ?_; rintro e wx ⟨rfl, bx⟩; have P9 := hide (And.intro (And.intro (cell_keep P.out.1.1 bx) (And.intro (cell_keep P.out.1.2.1 bx) (And.intro (cell_keep P.out.1.2.2.1 bx) (And.intro (cell_keep P.out.1.2.2.2.1 bx) (cell_keep P.out.1.2.2.2.2 bx))))) (And.intro (cell_keep P.out.2.1 bx) (And.intro (cell_keep P.out.2.2.1 bx) (And.intro (cell_keep P.out.2.2.2.1 bx) (And.intro (cell_keep P.out.2.2.2.2.1 bx) (cell_keep P.out.2.2.2.2.2 bx)))))); replace P := P9; have B9 := hide (Below.step B8.out B8.out.size bx)))
   all_goals
    clear P c0 c1 c2 c3 c4 e0 e1 e2 e3 e4
    go_wp2_with fail
    exact ⟨⟨k + 1, by omega, by go_num, B9⟩, by simp [intOf]; omega⟩
  ·obtain rfl : k = n := by omega
   go_wp2_with fail
   go_ret
   exact ⟨rfl, B.out⟩
end Go.Proofs.YtfnngcaalpknlaaGreat
