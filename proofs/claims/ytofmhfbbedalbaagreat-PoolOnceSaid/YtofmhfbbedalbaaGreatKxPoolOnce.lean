/-
  What this law wants besides.
-/
import Derived.Test.YtofmhfbbedalbaaGreatBundleN
import Derived.Test.YtofmhfbbedalbaaGreatFrameP
import Derived.Test.YtofmhfbbedalbaaGreatBundleM
import Derived.Test.YtofmhfbbedalbaaGreatBundleH
import Derived.Test.YtofmhfbbedalbaaGreatBundleP
import Derived.Test.YtofmhfbbedalbaaGreatPlm
import Derived.Test.YtofmhfbbedalbaaGreatPl1
import Derived.Test.YtofmhfbbedalbaaGreatBundleQ


namespace Go.Proofs.YtofmhfbbedalbaaGreat.Num
set_option linter.unusedVariables false

def May (s : Int) (q : Rat) (t : Int) : Prop := q = 0 ∨ s = 3 ∨ (t ≠ 3 ∧ (s = t ↔ 0 < q))

theorem Alk.bare {ts us : List Tm} (h : Alk ts us) : Bare ts ↔ Bare us := ⟨fun k c hc => (h c hc).symm.trans (k c hc), fun k c hc => (h c hc).trans (k c hc)⟩
theorem kpt_eq {s : Int} (h : IsS s) {a r : Rat} (e : a = r) : Kpt s a r := by
  subst e
  rcases h with rfl | rfl | rfl
  · exact .inl ⟨rfl, Rat.le_refl⟩
  · exact .inr (.inl ⟨rfl, Rat.le_refl⟩)
  · exact .inr (.inr ⟨rfl, rfl⟩)
theorem kpt_le {s s' : Int} {a r r' : Rat} (h : Kpt s a r) (hs : s = s' ∨ s = 3) (k : Kpt s' r r') : Kpt s' a r' := by
  rcases h with ⟨rfl, h⟩ | ⟨rfl, h⟩ | ⟨rfl, h⟩
  · rcases k with ⟨k0, k⟩ | ⟨k0, k⟩ | ⟨k0, k⟩
    · exact .inl ⟨k0, by grind⟩
    · omega
    · omega
  · rcases k with ⟨k0, k⟩ | ⟨k0, k⟩ | ⟨k0, k⟩
    · omega
    · exact .inr (.inl ⟨k0, by grind⟩)
    · omega
  · subst h; exact k
theorem domi_trans {s1 s2 s3 : Int} {t1 t2 t3 : List Tm} {r1 r2 r3 : Rat} (h : Domi s1 t1 r1 s2 t2 r2) (k : Domi s2 t2 r2 s3 t3 r3) : Domi s1 t1 r1 s3 t3 r3 := by
  obtain ⟨h1, h2, h3⟩ := h
  obtain ⟨k1, k2, k3⟩ := k
  refine ⟨h1, k2, ?_⟩
  rcases h3 with h3 | ⟨hb, h3⟩ | ⟨ha, hb, hc⟩
  · exact .inl h3
  · rcases k3 with ⟨_, _, k3⟩ | k3 | ⟨ka, kb, kc⟩
    · exact absurd h3 k3
    · exact .inr (.inl k3)
    · exact .inr (.inl ⟨kc.bare.1 hb, kpt_le h3 ka kb⟩)
  · rcases k3 with ⟨_, kb, kc⟩ | k3 | ⟨ka, kb, kc⟩
    · exact .inl ⟨h1, hc.bare.2 kb, fun e => kc (kpt_le e ha hb)⟩
    · exact .inr (.inl k3)
    · exact .inr (.inr ⟨by omega, kpt_le hb ka kb, hc.trans kc⟩)
theorem domi_self {s : Int} {ts : List Tm} {r : Rat} : Domi s ts r s ts r ↔ IsS s :=
  ⟨fun h => h.1, fun h => ⟨h, h, .inr (.inr ⟨.inl rfl, kpt_eq h rfl, Alk.refl _⟩)⟩⟩
end Go.Proofs.YtofmhfbbedalbaaGreat.Num
namespace Go.Proofs.YtofmhfbbedalbaaGreat
open Go.RowKit Go.Proofs.YtofmhfbbedalbaaGreat.Num
set_option linter.unusedVariables false
set_option linter.unusedSimpArgs false
set_option maxRecDepth 100000

set_option maxHeartbeats 8000000 in
theorem vmake_f {w : World} {v : Value} {d : List Tx} {L : Nat} (hv : Tv w v d L) (hn : d.length ≤ 1000) (h1 : 1 ≤ L) (hL : L ≤ 100000) :
    Calls Tryz.prog 48 #[v] w fun e w' => ∃ v' d', e = .returned v' ∧ Tc w' v' d' (d.length * (5 * L + 1) + 6) ∧ Fm (tms d') ∧ (∀ c, 0 ≤ c → gsum (tms d') c = gsum (tms d) c) ∧ Below w.heap.size w w' := by
  obtain ⟨i0, hi, hz0, hz1, hz2⟩ := info_parts info_tm
  obtain ⟨A, n, c, rfl⟩ := rv_sl hv.1
  have b0 := alloc_below w (.cells #[] 59)
  have HV := hide hv
  obtain ⟨M, hM⟩ : ∃ M, M = d.length * (5 * L + 1) + 6 := ⟨_, rfl⟩
  have MB := hide (show M ≤ 1000000000 by have := Nat.mul_le_mul hn (show 5 * L + 1 ≤ 500001 by omega); omega)
  have GC := hide (show ∀ W (p : Nat), Below w.heap.size w W → Calls Tryz.prog 81 #[.slice A n c, .int .i64 (p : Int)] W (RxRet W (gsum (tms d) (p : Int)) M) from fun W p hb => by
    have h := vget_f (col := (p : Int)) (hv.step hb) hn h1 hL
    rw [← hM, gt, if_pos (Int.natCast_nonneg p)] at h
    exact h)
  rw [← hM]
  have PC := hide (places_c (hv.1.step b0) (by omega))
  have T0 := hide (show Tg (w.alloc (.cells #[] 59)) w.heap.size (.slice (some ⟨w.heap.size, 0, none⟩) 0 0) [] M from ⟨Ow.lit (B := w.heap.size) et_len w 59 ([] : List Tx) #[] rfl (Nat.le_refl _) (by simp [maxLen]), fun x hx => by cases hx⟩)
  have B0 := hide b0
  have DN := hide hn
  clear hv b0 hM hn
  go_enter Tryz.func48, Tryz.ntmps48
  go_wp2_with fail
  refine PC.out.mono ?_
  rintro e w1 ⟨pv, ps, rfl, o1, i1, b1⟩
  obtain ⟨P, cp, hpe, hpc, hpm, _, _⟩ := o1.form
  have OP := hide (o1.mono (B' := w.heap.size) B0.out.size)
  obtain ⟨m, hlen⟩ : ∃ m, m = ps.length := ⟨_, rfl⟩
  rw [← hlen] at hpe hpc
  subst hpe
  have HN := hide hlen
  have PL := hide i1
  have PN := hide (show ps.length ≤ 1000 by have := i1.2.2; rw [tms_len] at this; have := DN.out; omega)
  have hm9 : m ≤ 1000 := by rw [HN.out]; exact PN.out
  replace T0 := hide (T0.out.step b1)
  replace B0 := hide (Below.step B0.out B0.out.size b1)
  clear o1 i1 b1 PC hlen
  go_wp2_with fail
  go_loopw [3, 5] (fun ov iv wr => ∃ (k : Nat) (os : List Tx), k ≤ m ∧ iv = .int .i64 (k : Int) ∧ Hid (tms os = pk (tms d) (ps.take k)) ∧ Hid (os.length ≤ k) ∧ Hid (Below w.heap.size w wr) ∧ Hid (Own .i64 3 wr w.heap.size (.slice P m cp) ps) ∧ Hid (Tg wr w.heap.size ov os M)) (fun _ iv _ => m - (intOf iv).toNat)
  case atStart => exact ⟨0, [], Nat.zero_le _, rfl, hide rfl, hide (Nat.le_refl _), B0, OP, T0⟩
  case round =>
    obtain ⟨k, os, hk, rfl, E, KL, B, O, T⟩ := hrel
    by_cases hlt : k < m
    · obtain ⟨p, hp⟩ := len_of (d := ps) (k := k) (by rw [← HN.out]; exact hlt)
      obtain ⟨A', c', e9, _, _, hr9, _⟩ := O.out.form
      injection e9 with e1 e2 e3
      obtain ⟨b, off, e4, -, -⟩ := hr9.at_ (show k < ps.length by rw [← HN.out]; exact hlt)
      rw [← e1] at e4
      subst e4
      have c0 := own_cell O.out hp
      have l0 : (0 : Int) ≤ (k : Int) := by omega
      have l1 : (k : Int) < (m : Int) := by omega
      have HP := hide hp
      have SN := hide (pk_snoc (ts := tms d) hp)
      have GP := hide (GC.out wr p B.out)
      clear hr9 e1 e2 e3 hp
      go_wp2_with fail
      refine GP.out.mono ?_
      rintro e w2 ⟨x, rfl, hx, rg, b2⟩
      have bx := b2.trans ((alloc_below w2 (fqbox x.s (sv x.u) (sv x.t))).mono b2.size)
      have R3 := hide (rg.step (alloc_below w2 (fqbox x.s (sv x.u) (sv x.t))))
      have Q3 := hide (Fq.new w2 x.s (sv x.u) (sv x.t))
      have O3 := hide (O.out.step bx)
      have T3 := hide (T.out.step bx)
      have B3 := hide (Below.step B.out B.out.size bx)
      have X3 := hide hx
      have SC := hide (rqsign_any R3.out)
      obtain ⟨p0, p1, p2, _, _, _⟩ := Q3.out.all
      clear rg b2 bx hx c0 GP O T B
      go_wp2_with fail
      generalize (w2.alloc (fqbox x.s (sv x.u) (sv x.t))) = w3 at *
      generalize w2.heap.size = g6 at *
      refine SC.out.mono ?_
      rintro e w4 ⟨rfl, b4⟩
      have b5 := b4.trans ((Below.refl w4.heap.size w4).drew.mono b4.size)
      have O4 := hide (O3.out.step b4)
      have T4 := hide (T3.out.step b4)
      have B4 := hide (Below.step B3.out B3.out.size b4)
      have O5 := hide (O3.out.step b5)
      have T5 := hide (T3.out.step b5)
      have B5 := hide (Below.step B3.out B3.out.size b5)
      have R5 := hide (R3.out.step b5)
      have Q5 := hide (Q3.out.step b5)
      have C5 := hide (C4.of O5.out HP.out Q5.out)
      clear b4 b5 SC p0 p1 p2 Q3 O3 T3 B3 R3
      by_cases h0 : x.r = 0
      · have t2 : (cmpR x.r 0 != 0) = false := by rw [h0, cmpR_same]; rfl
        have E2 := hide (show tms os = pk (tms d) (ps.take (k + 1)) by rw [SN.out, ← X3.out, if_pos h0, List.append_nil]; exact E.out)
        clear h0 O5 T5 B5 R5 Q5 C5
        go_wp2_with fail
        exact ⟨⟨k + 1, os, by omega, by go_num, E2, hide (Nat.le_succ_of_le KL.out), B4, O4, T4⟩, by simp [intOf]; omega⟩
      · have t2 : (cmpR x.r 0 != 0) = true := cmpR_ne h0
        have HLEN := hide (show os.length + 1 ≤ 1000000000000 by have := KL.out; have := PN.out; have := HN.out; omega)
        clear O4 T4 B4
        go_wp2_with fail
        go_region_held3 (fun W => W.cell? ⟨b, off + k, none⟩ = some (.int .i64 (p : Int)) ∧ W.cell? ⟨g6, 0, none⟩ = some (.bool x.s) ∧ W.cell? ⟨g6, 1, none⟩ = some (sv x.u) ∧ W.cell? ⟨g6, 2, none⟩ = some (sv x.t))
          (with_reducible first | exact C5.out.cells | exact C7.out.cells | exact (C7.out.step (alloc_below _ _)).cells | exact C8.out.cells)
          (first
            | (go_at_call 42; refine Calls.mono (rfto_g R5.out (by have := MB.out; omega)) ?_; rintro e wx ⟨z, rfl, hz, rz, bx⟩; have O7 := hide (O5.out.step bx); have T7 := hide (T5.out.step bx); have B7 := hide (Below.step B5.out B5.out.size bx); have Q7 := hide (Q5.out.step bx); have Z7 := hide (rz.mono (B' := w.heap.size) B5.out.size); have H7 := hide hz; have C7 := hide (C5.out.step bx); clear rz hz bx)
            | (refine step_pushE rfl (.tmp 25) (.tmp 33) 22 rfl Tryz.underlying22 hi hz0 hz1 hz2 rfl (by omega) et_len et_one wx w.heap.size _ os ⟨(p : Int), z⟩ _ rfl T7.out.1 rfl rfl HLEN.out (by decide) B7.out.size ?_; intro v' w' ho hg; have TF := hide (T7.out.push ho hg.1 Z7.out (Nat.le_refl _)); have CF := hide (below_own B7.out T7.out.1 hg.1 B7.out.size); have O8 := hide (O7.out.grown hg.1 (own_ow_ne O7.out T7.out.1 int_term)); have C8 := hide (C4.of O8.out HP.out (fq_off T7.out.1 Q7.out hg.1)); clear ho hg))
        all_goals
          have E2 := hide (show tms (os ++ [⟨(p : Int), z⟩]) = pk (tms d) (ps.take (k + 1)) by rw [SN.out, ← X3.out, if_neg h0, tms_append, E.out, ← H7.out]; rfl)
          have K2 := hide (show (os ++ [(⟨(p : Int), z⟩ : Tx)]).length ≤ k + 1 by have := KL.out; simp; omega)
          clear h0 O5 T5 B5 R5 Q5 C5
          go_wp2_with fail
          exact ⟨⟨k + 1, os ++ [⟨(p : Int), z⟩], by omega, by go_num, E2, K2, CF, O8, TF⟩, by simp [intOf]; omega⟩
    · obtain rfl : k = m := by omega
      have E2 := hide (show tms os = pk (tms d) ps by have h := E.out; rwa [List.take_of_length_le (by rw [← HN.out]; exact Nat.le_refl _)] at h)
      clear E
      go_wp2_with fail
      go_ret
      exact ⟨_, os, rfl, T.out.tc, by rw [E2.out]; exact pk_fm PL.out.1, fun c hc => by rw [E2.out]; exact PL.out.sum c hc, B.out⟩
end Go.Proofs.YtofmhfbbedalbaaGreat
namespace Go.Proofs.YtofmhfbbedalbaaGreat
open Go.RowKit Go.Proofs.YtofmhfbbedalbaaGreat.Num
set_option linter.unusedVariables false
set_option linter.unusedSimpArgs false
set_option maxRecDepth 100000

theorem Kl.step {W W' : World} {v : Value} {l : List Kx} {L : Nat} (h : Kl W v l L) (hb : Below W.heap.size W W') : Kl W' v l L := ⟨h.1.step hb, fun k hk => (h.2 k hk).step hb⟩
end Go.Proofs.YtofmhfbbedalbaaGreat
namespace Go.Proofs.YtofmhfbbedalbaaGreat
open Go.ChangeShapes Go.WideShapes Go.ChangeAt Go.RowKit Go.Joins Go.Deep Go.Proofs.YtofmhfbbedalbaaGreat.Num
set_option linter.unusedVariables false
set_option maxRecDepth 100000

theorem open_list {H : Type} {enc : TypeId × Value → H} {W : World} {r : Reach} {b0 : Nat} {v : Value} {d : DataW H} {ps : List MemPlace}
    (hv : Value.okWide Tryz.prog W r b0 33 v) (h : DataW.Trod enc Tryz.prog W 0 (fun _ => true) true 33 v d ps)
    {ts : List TypeId} {ds : List (DataW H)} (hS : (DataW.weightsEach Tryz.prog ts ds).all (· ≤ reachBytes) = true) {j : Nat} (ht : ts[j]? = some 33) (hd : ds[j]? = some d) : ∃ l : List Kx, Kl W v l 17592186043904 := by
  obtain ⟨A, n, c, rfl⟩ := okWide_slice Tryz.underlying33 hv
  obtain ⟨fuel, hf⟩ := h
  have hf' : DataW.trod enc Tryz.prog W 0 (fun _ => true) true fuel 33 [.slice A n c] = some (d, ps) := by simpa [Value.cells] using hf
  rcases open_slice Tryz.underlying33 hf' with ⟨e, _⟩ | ⟨ad, len, cap, m, k, D, Pl, e, hb, hl, hm, hmm, hx, hel⟩
  · simp at e
    obtain ⟨rfl, rfl, rfl⟩ := e
    exact ⟨[], Lr.nil _ _ _, fun x hx => by cases hx⟩
  · simp at e
    obtain ⟨rfl, rfl, rfl⟩ := e
    have hlm : n ≤ m := by rw [hmm]; simp; omega
    have e4 : Tryz.prog.cellsOf 29 = 5 := by kernel_rfl
    rw [e4] at hel
    have hdx : d = .slice ((List.range n).map D) ((List.range (m - n)).map fun j => D (n + j)) := congrArg Prod.fst hx
    have hw : ∀ i, i < n → ∀ q ∈ (D i).weights Tryz.prog 29, q ≤ reachBytes := fun i hi q hq => by
      have := List.all_eq_true.1 hS q (DataW.weights_mem_each ht hd q (by
        rw [hdx]
        simp only [DataW.weights, Tryz.underlying33, List.mem_cons, List.mem_append]
        exact .inr (.inl (weightsAll_mem (List.mem_map.2 ⟨i, List.mem_range.2 hi, rfl⟩) hq))))
      simpa using this
    obtain ⟨X, hX⟩ := choose_lt (α := Kx) (p := fun i x => (∀ q u, (ek x)[q]? = some u → W.cell? (ad.add (i * 5 + q)) = some u) ∧ Kv W x 17592186043904) (n := n) (fun i hi => by
      obtain ⟨cs', h1, h2⟩ := hel i (by omega)
      obtain ⟨x, rfl, hkv⟩ := open_kcells h2 (hw i hi)
      obtain ⟨_, _, hc⟩ := World.cells?_some h1
      refine ⟨x, fun q u hq => ?_, hkv⟩
      have hq4 : q < 5 := by have := (List.getElem?_eq_some_iff.1 hq).1; rwa [ek_len] at this
      have h3 := hc q hq4
      rw [hq] at h3
      rw [← h3]
      congr 1
      obtain ⟨b, off, sp⟩ := ad
      unfold Addr.add
      by_cases hi0 : i * 5 = 0
      · by_cases hq0 : q = 0
        · simp [hi0, hq0]
        · simp [hi0, hq0]
      · by_cases hq0 : q = 0
        · simp [hi0, hq0]
        · have : i * 5 + q ≠ 0 := by omega
          simp [hi0, hq0]
          try omega)
    refine ⟨(List.range n).map X, ⟨some ad, c, by simp, by simpa using hl, hm, fun hn => ?_⟩, fun x hx => ?_⟩
    · simp at hn
      obtain ⟨h1, _⟩ := hX 0 hn
      have h2 := h1 0 _ rfl
      obtain ⟨b, off, spot⟩ := ad
      have hs : spot = none := by simpa [Addr.add] using World.cell?_spot h2
      subst hs
      refine ⟨b, off, rfl, ?_, fun i x hi q u hq => ?_⟩
      · unfold World.cell? at h2
        split at h2
        · rename_i hb2
          exact (Array.getElem?_eq_some_iff.1 hb2).1
        · cases h2
      · have hin : i < n := by have := (List.getElem?_eq_some_iff.1 hi).1; simpa using this
        have hxe : x = X i := by
          rw [List.getElem?_map, List.getElem?_range hin] at hi
          simpa using hi.symm
        subst hxe
        have h5 := (hX i hin).1 q u hq
        rw [add_addr] at h5
        rwa [Nat.add_assoc]
    · obtain ⟨i, hi, rfl⟩ := List.mem_map.1 hx
      exact (hX i (List.mem_range.1 hi)).2
end Go.Proofs.YtofmhfbbedalbaaGreat
namespace Go.Proofs.YtofmhfbbedalbaaGreat.Num
set_option linter.unusedVariables false

theorem Scl.bare {a b : List Tm} {x y : Rat} (h : Scl a x b y) : b = [] ↔ Bare a := by
  obtain ⟨h1, h2, q, h3, h4, h5, rfl⟩ := h
  constructor
  · rintro rfl c hc
    have := h5 c hc
    rw [h4 rfl, Rat.one_mul] at this
    exact this.symm
  · intro hb
    exact h1.unique Fm.nil (fun c hc => by rw [h5 c hc, hb c hc, Rat.mul_zero]; rfl)
def Pin (l : List Ct) : Prop := (∀ k ∈ l, IsS k.1 ∧ k.2.1 ≠ [] ∧ Fm k.2.1) ∧ ∀ (i j : Nat) a b, l[i]? = some a → l[j]? = some b → a.1 = b.1 → a.2.1 = b.2.1 → i = j
theorem Pin.nil : Pin [] := ⟨(fun k hk => (by cases hk)), fun i j a b h => (by simp at h)⟩
theorem Put.pin {l l' : List Ct} {c : Ct} {b : Bool} (h : Put l c b l') (hf : Fm c.2.1) (k : Pin l) : Pin l' := by
  rcases h with ⟨_, rfl, _⟩ | ⟨_, h1, h2, h3, ⟨rfl, h4⟩ | ⟨i, y, hi, h4, h5, rfl⟩⟩
  · exact k
  · refine ⟨fun x hx => ?_, fun i j x y hx hy e1 e2 => ?_⟩
    · rcases List.mem_append.1 hx with hx | hx
      · exact k.1 x hx
      · simp at hx
        subst hx
        exact ⟨h1, h2, hf⟩
    · rw [List.getElem?_append] at hx hy
      split at hx <;> split at hy
      · exact k.2 i j x y hx hy e1 e2
      · have hy' : y = c := by
          obtain ⟨hl, e⟩ := List.getElem?_eq_some_iff.1 hy
          simp at hl
          simp [hl] at e
          exact e.symm
        subst hy'
        exact absurd ⟨e1, e2⟩ (h4 x (List.mem_of_getElem? hx))
      · have hx' : x = c := by
          obtain ⟨hl, e⟩ := List.getElem?_eq_some_iff.1 hx
          simp at hl
          simp [hl] at e
          exact e.symm
        subst hx'
        exact absurd ⟨e1.symm, e2.symm⟩ (h4 y (List.mem_of_getElem? hy))
      · have l1 := (List.getElem?_eq_some_iff.1 hx).1
        have l2 := (List.getElem?_eq_some_iff.1 hy).1
        simp at l1 l2
        omega
  · have hil := (List.getElem?_eq_some_iff.1 hi).1
    have key : ∀ (j : Nat) x, (l.set i c)[j]? = some x → ∃ x', l[j]? = some x' ∧ x'.1 = x.1 ∧ x'.2.1 = x.2.1 := by
      intro j x hx
      rw [List.getElem?_set] at hx
      split at hx
      · rename_i e
        subst e
        first | rw [if_pos hil] at hx | skip
        cases hx
        exact ⟨y, hi, h4, h5⟩
      · exact ⟨x, hx, rfl, rfl⟩
    refine ⟨fun x hx => ?_, fun j m x z hx hz e1 e2 => ?_⟩
    · rcases List.mem_or_eq_of_mem_set hx with hx | rfl
      · exact k.1 x hx
      · exact ⟨h1, h2, hf⟩
    · obtain ⟨x', hx', e3, e4⟩ := key j x hx
      obtain ⟨z', hz', e5, e6⟩ := key m z hz
      exact k.2 j m x' z' hx' hz' (by rw [e3, e5, e1]) (by rw [e4, e6, e2])
def Cov (l cs : List Ct) : Prop := ∀ c ∈ cs, ∃ k ∈ l, Dc k c
def Cnt (c : Ct) : Prop := IsS c.1 ∧ c.2.1 ≠ []
theorem dc_self {c : Ct} (h : IsS c.1) : Dc c c := domi_self.2 h
theorem dc_turn {a b : Ct} (ha : IsS a.1) (h1 : a.1 = b.1) (h2 : a.2.1 = b.2.1) (h3 : a.1 ≠ 3) (h : ¬ Dc a b) : Dc b a := by
  obtain ⟨s, ts, r⟩ := a
  obtain ⟨s', ts', r'⟩ := b
  dsimp only at h1 h2 h3 ha
  subst h1 h2
  refine ⟨ha, ha, .inr (.inr ⟨.inl rfl, ?_, Alk.refl _⟩)⟩
  have hn : ¬ Kpt s r r' := fun e => h ⟨ha, ha, .inr (.inr ⟨.inl rfl, e, Alk.refl _⟩)⟩
  rcases ha with rfl | rfl | rfl
  · refine .inl ⟨rfl, ?_⟩
    have : ¬ r ≤ r' := fun e => hn (.inl ⟨rfl, e⟩)
    grind
  · refine .inr (.inl ⟨rfl, ?_⟩)
    have : ¬ r' ≤ r := fun e => hn (.inr (.inl ⟨rfl, e⟩))
    grind
  · exact absurd rfl h3
theorem Put.cov {l l' cs : List Ct} {c : Ct} {b : Bool} (h : Put l c b l') (hp : Pin l) (hc : c.1 ≠ 3) (k : Cov l cs) : Cov l' cs ∧ (Cnt c → ∃ x ∈ l', Dc x c) := by
  rcases h with ⟨_, rfl, h1⟩ | ⟨_, h1, h2, h3, ⟨rfl, h4⟩ | ⟨i, y, hi, h4, h5, rfl⟩⟩
  · refine ⟨k, fun hn => ?_⟩
    rcases h1 with h1 | h1 | ⟨x, hx, _, h1⟩
    · exact absurd hn.1 h1
    · exact absurd h1 hn.2
    · exact ⟨x, hx, h1⟩
  · refine ⟨fun x hx => ?_, fun _ => ⟨c, by simp, dc_self h1⟩⟩
    obtain ⟨z, hz, hd⟩ := k x hx
    exact ⟨z, by simp [hz], hd⟩
  · have hil := (List.getElem?_eq_some_iff.1 hi).1
    have hm : c ∈ l.set i c := List.mem_iff_getElem?.2 ⟨i, by rw [List.getElem?_set, if_pos rfl, if_pos hil]⟩
    have hy : Dc c y := dc_turn (hp.1 y (List.mem_of_getElem? hi)).1 h4 h5 (by rw [h4]; exact hc) (h3 y (List.mem_of_getElem? hi) h5)
    refine ⟨fun x hx => ?_, fun _ => ⟨c, hm, dc_self h1⟩⟩
    obtain ⟨z, hz, hd⟩ := k x hx
    obtain ⟨j, hj⟩ := List.mem_iff_getElem?.1 hz
    by_cases e : j = i
    · subst e
      rw [hi] at hj
      cases hj
      exact ⟨c, hm, domi_trans hy hd⟩
    · exact ⟨z, List.mem_iff_getElem?.2 ⟨j, by rw [List.getElem?_set, if_neg (Ne.symm e)]; exact hj⟩, hd⟩
end Go.Proofs.YtofmhfbbedalbaaGreat.Num
namespace Go.Proofs.YtofmhfbbedalbaaGreat
open Go.RowKit Go.Proofs.YtofmhfbbedalbaaGreat.Num
set_option linter.unusedVariables false
set_option linter.unusedSimpArgs false
set_option maxRecDepth 100000

theorem Plo.mono {W : World} {B B' g : Nat} {p : Int} {v : Sl} {l : List Cx} {M : Nat} (h : Plo W B g p v l M) (hB : B' ≤ B) : Plo W B' g p v l M :=
  ⟨h.1, Nat.le_trans hB h.2.1, h.2.2.1.mono hB, fun x hx => ⟨(h.2.2.2 x hx).1.mono hB, (h.2.2.2 x hx).2⟩⟩
end Go.Proofs.YtofmhfbbedalbaaGreat
namespace Go.Proofs.YtofmhfbbedalbaaGreat
open Go.RowKit Go.Proofs.YtofmhfbbedalbaaGreat.Num
set_option linter.unusedVariables false
set_option linter.unusedSimpArgs false
set_option maxRecDepth 100000

theorem sense_c (s : Int) (w : World) : Calls Tryz.prog 17 #[.int .i64 s] w fun e w' => BRet (IsS s) e ∧ w' = w := by
  by_cases h1 : 0 < s
  · have t1 : decide (0 < s) = true := decide_eq_true h1
    by_cases h2 : s < 4
    · have t2 : decide (s < 4) = true := decide_eq_true h2
      have H := hide (show IsS s by unfold IsS; omega)
      clear h1 h2
      go_enter Tryz.func17, Tryz.ntmps17
      go_wp2_with fail
      go_ret
      exact ⟨⟨true, rfl, by constructor <;> intro _; exact H.out; rfl⟩, rfl⟩
    · have t2 : decide (s < 4) = false := decide_eq_false h2
      have H := hide (show ¬ IsS s by unfold IsS; omega)
      clear h1 h2
      go_enter Tryz.func17, Tryz.ntmps17
      go_wp2_with fail
      go_ret
      exact ⟨⟨false, rfl, by constructor <;> intro h; cases h; exact absurd h H.out⟩, rfl⟩
  · have t1 : decide (0 < s) = false := decide_eq_false h1
    have H := hide (show ¬ IsS s by unfold IsS; omega)
    clear h1
    go_enter Tryz.func17, Tryz.ntmps17
    go_wp2_with fail
    go_ret
    exact ⟨⟨false, rfl, by constructor <;> intro h; cases h; exact absurd h H.out⟩, rfl⟩

set_option maxHeartbeats 2000000 in
theorem bare_f {w : World} {k : Kx} {L : Nat} (hk : Kv w k L) (hn : k.d.length ≤ 1000) (h1 : 1 ≤ L) (hL : L ≤ 100000) :
    Calls Tryz.prog 18 #[kx k] w fun e w' => BRet (Bare (tms k.d)) e ∧ Below w.heap.size w w' := by
  obtain ⟨hv, hr⟩ := hk
  have b2 : Below w.heap.size w (w.alloc (kbox k)) := (Below.refl _ _).alloc (Nat.le_refl _) _
  have HV := hide (hv.step b2)
  have B := hide b2
  have HN := hide hn
  clear hv hr b2 hn
  go_enter Tryz.func18, Tryz.ntmps18
  go_wp2_with fail
  refine (vmake_f (L := L) HV.out HN.out h1 hL).mono ?_
  rintro e w1 ⟨v1, d1, rfl, t1, f1, g1, bx⟩
  obtain ⟨A5, c5, rfl, -, -, -⟩ := t1.1
  have H := hide (show d1.length = 0 ↔ Bare (tms k.d) by
    rw [bare_fm f1 g1, ← tms_len, List.length_eq_zero_iff])
  replace B := hide (Below.step B.out B.out.size bx)
  generalize d1.length = m at *
  clear t1 f1 g1 bx
  go_wp2_with fail
  go_ret
  exact ⟨⟨_, rfl, by rw [← H.out, beq_iff_eq]; omega⟩, B.out⟩

set_option maxHeartbeats 4000000 in
theorem alike_f {w : World} {a b : Kx} {L M : Nat} (ha : Kv w a L) (hb : Kv w b M) (hn : a.d.length ≤ 1000) (hm : b.d.length ≤ 1000) (h1 : 1 ≤ L) (hL : L ≤ 100000) (h2 : 1 ≤ M) (hM : M ≤ 100000) :
    Calls Tryz.prog 51 #[kx a, kx b] w fun e w' => BRet (Alk (tms a.d) (tms b.d)) e ∧ Below w.heap.size w w' := by
  have b2 : Below w.heap.size w ((w.alloc (kbox a)).alloc (kbox b)).drew := (((Below.refl _ _).alloc (Nat.le_refl _) _).alloc (by simp) _).drew
  have P := hide (show Kq ((w.alloc (kbox a)).alloc (kbox b)).drew w.heap.size a from ((Kq.new w a).step ((Below.refl _ _).alloc (Nat.le_refl _) (kbox b))).step (Below.refl _ _).drew)
  have P2 := hide (show Kq ((w.alloc (kbox a)).alloc (kbox b)).drew (w.heap.size + 1) b by
    have h := Kq.new (w.alloc (kbox a)) b
    have h2 : Kq ((w.alloc (kbox a)).alloc (kbox b)) (w.heap.size + 1) b := by simpa using h
    exact h2)
  have HV := hide (ha.1.step b2)
  have HW := hide (hb.1.step b2)
  have B := hide b2
  have HN := hide hn
  have HM := hide hm
  clear ha hb b2 hn hm
  go_enter Tryz.func51, Tryz.ntmps51
  go_wp2_with fail
  generalize hW0 : ((w.alloc (kbox a)).alloc (kbox b)) = W0 at *
  go_region_held3 (fun W => W.cell? ⟨w.heap.size, 1, none⟩ = some (sv a.v) ∧ W.cell? ⟨w.heap.size + 1, 1, none⟩ = some (sv b.v))
    (with_reducible exact ⟨P.out.all.2.1, P2.out.all.2.1⟩)
    (first
      | (go_at_call 48; first | (refine Calls.mono (vmake_f (L := L) HV.out HN.out h1 hL) ?_; rintro e wx ⟨v1, d1, rfl, t1, f1, g1, bx⟩; have T1 := hide t1; have F1 := hide f1; have G1 := hide g1; replace P := hide (P.out.step bx); replace P2 := hide (P2.out.step bx); replace HW := hide (HW.out.step bx); replace B := hide (Below.step B.out B.out.size bx); clear t1 f1 g1 bx HV)
                                          | (refine Calls.mono (vmake_f (L := M) HW.out HM.out h2 hM) ?_; rintro e wx ⟨v2, d2, rfl, t2, f2, g2, bx⟩; have T2 := hide t2; have F2 := hide f2; have G2 := hide g2; replace P := hide (P.out.step bx); replace P2 := hide (P2.out.step bx); replace T1 := hide (T1.out.step bx); replace B := hide (Below.step B.out B.out.size bx); clear t2 f2 g2 bx HW))
      | (go_at_call 16; refine Calls.mono (vsame_x T1.out T2.out) ?_; rintro e wx ⟨⟨b9, rfl, hb9⟩, bx⟩; have H9 := hide hb9; replace P := hide (P.out.step bx); replace P2 := hide (P2.out.step bx); replace B := hide (Below.step B.out B.out.size bx); clear hb9 bx))
  all_goals
    go_wp2_with fail
    go_ret
    exact ⟨⟨_, rfl, by rw [H9.out, alk_fm F1.out G1.out F2.out G2.out]⟩, B.out⟩

end Go.Proofs.YtofmhfbbedalbaaGreat
namespace Go.Proofs.YtofmhfbbedalbaaGreat
open Go.RowKit Go.Proofs.YtofmhfbbedalbaaGreat.Num
set_option linter.unusedVariables false
set_option linter.unusedSimpArgs false
set_option maxRecDepth 100000

set_option maxHeartbeats 8000000 in
theorem rfalse_f {w : World} {k : Kx} {L : Nat} (hk : Kv w k L) (hn : k.d.length ≤ 1000) (h1 : 1 ≤ L) (hL : L ≤ 100000) :
    Calls Tryz.prog 49 #[kx k] w fun e w' => BRet (Fls k.s (tms k.d) k.x.r) e ∧ Below w.heap.size w w' := by
  have b2 : Below w.heap.size w (w.alloc (kbox k)).drew := ((Below.refl _ _).alloc (Nat.le_refl _) _).drew
  have P := hide (show Kq (w.alloc (kbox k)).drew w.heap.size k from (Kq.new w k).step (Below.refl _ _).drew)
  have HK := hide (hk.step b2)
  have B := hide b2
  have HN := hide hn
  clear hk b2 hn
  go_enter Tryz.func49, Tryz.ntmps49
  go_wp2_with fail
  generalize hW0 : (w.alloc (kbox k)) = W0 at *
  refine wp_region_held_drew (S := fun W => W.cell? ⟨w.heap.size, 0, none⟩ = some (.int .i64 k.s) ∧ W.cell? ⟨w.heap.size, 1, none⟩ = some (sv k.v) ∧ W.cell? ⟨w.heap.size, 2, none⟩ = some (.bool k.x.s) ∧ W.cell? ⟨w.heap.size, 3, none⟩ = some (sv k.x.u) ∧ W.cell? ⟨w.heap.size, 4, none⟩ = some (sv k.x.t)) (by kernel_rfl) ?_ (fun hHeld => ?_)
  · try dsimp only
    exact P.out.all
  refine tk 0 (v := ?_) hHeld ?_ ?_; rotate_left; (focus (intro w hSw; (try dsimp only at hSw); go_simp; (try with_reducible rfl)))
  try simp only [Act.put, s1, s2, s3, s4, s5, s6]
  refine tk 1 (v := ?_) hHeld ?_ ?_; rotate_left; (focus (intro w hSw; (try dsimp only at hSw); go_simp; (try with_reducible rfl)))
  try simp only [Act.put, s1, s2, s3, s4, s5, s6]
  refine r1 2 (fun K hK => ?_)
  go_simp
  go_at_call 17; refine Calls.mono (sense_c k.s _) ?_; rintro e wx ⟨⟨o, rfl, ho⟩, hw⟩; subst wx; have H1 := hide ho; clear ho
  try dsimp only
  refine hK.out _ _ ?_ (fun hHeld => ?_); (focus ((try dsimp only); exact P.out.all)); clear hK K
  try simp only [Act.put, s1, s2, s3, s4, s5, s6]
  cases o
  case false =>
    refine tk 3 (v := ?_) hHeld ?_ ?_; rotate_left; (focus (intro w hSw; (try dsimp only at hSw); go_simp; (try with_reducible rfl)))
    try simp only [Act.put, s1, s2, s3, s4, s5, s6]
    refine sh 4 hHeld ?_
    try simp only [Act.put, s1, s2, s3, s4, s5, s6]
    refine r1 5 (fun K hK => ?_)
    go_simp
    refine hK.out _ _ ?_ (fun hHeld => ?_); (focus ((try dsimp only); exact P.out.all)); clear hK K
    try simp only [Act.put, s1, s2, s3, s4, s5, s6]
    refine tk 6 (v := ?_) hHeld ?_ ?_; rotate_left; (focus (intro w hSw; (try dsimp only at hSw); go_simp; (try with_reducible rfl)))
    try simp only [Act.put, s1, s2, s3, s4, s5, s6]
    refine tk 7 (v := ?_) hHeld ?_ ?_; rotate_left; (focus (intro w hSw; (try dsimp only at hSw); go_simp; (try with_reducible rfl)))
    try simp only [Act.put, s1, s2, s3, s4, s5, s6]
    refine sh 8 hHeld ?_
    try simp only [Act.put, s1, s2, s3, s4, s5, s6]
    refine r1 9 (fun K hK => ?_)
    go_simp
    refine hK.out _ _ ?_ (fun hHeld => ?_); (focus ((try dsimp only); exact P.out.all)); clear hK K
    try simp only [Act.put, s1, s2, s3, s4, s5, s6]
    refine r1 10 (fun K hK => ?_)
    go_simp
    refine hK.out _ _ ?_ (fun hHeld => ?_); (focus ((try dsimp only); exact P.out.all)); clear hK K
    try simp only [Act.put, s1, s2, s3, s4, s5, s6]
    refine sh 11 hHeld ?_
    try simp only [Act.put, s1, s2, s3, s4, s5, s6]
    refine tk 12 (v := ?_) hHeld ?_ ?_; rotate_left; (focus (intro w hSw; (try dsimp only at hSw); go_simp; (try with_reducible rfl)))
    try simp only [Act.put, s1, s2, s3, s4, s5, s6]
    refine tk 13 (v := ?_) hHeld ?_ ?_; rotate_left; (focus (intro w hSw; (try dsimp only at hSw); go_simp; (try with_reducible rfl)))
    try simp only [Act.put, s1, s2, s3, s4, s5, s6]
    refine wpAnyH_done (by kernel_rfl) ?_ _
    go_wp2_with fail
    go_ret
    exact ⟨⟨false, rfl, by constructor <;> intro h; cases h; exact absurd (H1.out.2 h.1) (by simp)⟩, B.out⟩
  have E1 := hide (H1.out.1 (by simp))
  clear H1
  refine tk 3 (v := ?_) hHeld ?_ ?_; rotate_left; (focus (intro w hSw; (try dsimp only at hSw); go_simp; (try with_reducible rfl)))
  try simp only [Act.put, s1, s2, s3, s4, s5, s6]
  refine tk 4 (v := ?_) hHeld ?_ ?_; rotate_left; (focus (intro w hSw; (try dsimp only at hSw); go_simp; (try with_reducible rfl)))
  try simp only [Act.put, s1, s2, s3, s4, s5, s6]
  refine r1 5 (fun K hK => ?_)
  go_simp
  go_at_call 18; refine Calls.mono (bare_f (k := k) (L := L) HK.out HN.out h1 hL) ?_; rintro e wx ⟨⟨o, rfl, ho⟩, bx⟩; have H1 := hide ho; clear ho; replace P := hide (P.out.step bx); replace HK := hide (HK.out.step bx); replace B := hide (Below.step B.out B.out.size bx); clear bx
  try dsimp only
  refine hK.out _ _ ?_ (fun hHeld => ?_); (focus ((try dsimp only); exact P.out.all)); clear hK K
  try simp only [Act.put, s1, s2, s3, s4, s5, s6]
  cases o
  case false =>
    refine tk 6 (v := ?_) hHeld ?_ ?_; rotate_left; (focus (intro w hSw; (try dsimp only at hSw); go_simp; (try with_reducible rfl)))
    try simp only [Act.put, s1, s2, s3, s4, s5, s6]
    refine tk 7 (v := ?_) hHeld ?_ ?_; rotate_left; (focus (intro w hSw; (try dsimp only at hSw); go_simp; (try with_reducible rfl)))
    try simp only [Act.put, s1, s2, s3, s4, s5, s6]
    refine sh 8 hHeld ?_
    try simp only [Act.put, s1, s2, s3, s4, s5, s6]
    refine r1 9 (fun K hK => ?_)
    go_simp
    refine hK.out _ _ ?_ (fun hHeld => ?_); (focus ((try dsimp only); exact P.out.all)); clear hK K
    try simp only [Act.put, s1, s2, s3, s4, s5, s6]
    refine r1 10 (fun K hK => ?_)
    go_simp
    refine hK.out _ _ ?_ (fun hHeld => ?_); (focus ((try dsimp only); exact P.out.all)); clear hK K
    try simp only [Act.put, s1, s2, s3, s4, s5, s6]
    refine sh 11 hHeld ?_
    try simp only [Act.put, s1, s2, s3, s4, s5, s6]
    refine tk 12 (v := ?_) hHeld ?_ ?_; rotate_left; (focus (intro w hSw; (try dsimp only at hSw); go_simp; (try with_reducible rfl)))
    try simp only [Act.put, s1, s2, s3, s4, s5, s6]
    refine tk 13 (v := ?_) hHeld ?_ ?_; rotate_left; (focus (intro w hSw; (try dsimp only at hSw); go_simp; (try with_reducible rfl)))
    try simp only [Act.put, s1, s2, s3, s4, s5, s6]
    refine wpAnyH_done (by kernel_rfl) ?_ _
    go_wp2_with fail
    go_ret
    exact ⟨⟨false, rfl, by constructor <;> intro h; cases h; exact absurd (H1.out.2 h.2.1) (by simp)⟩, B.out⟩
  have E2 := hide (H1.out.1 (by simp))
  clear H1
  refine tk 6 (v := ?_) hHeld ?_ ?_; rotate_left; (focus (intro w hSw; (try dsimp only at hSw); go_simp; (try with_reducible rfl)))
  try simp only [Act.put, s1, s2, s3, s4, s5, s6]
  refine tk 7 (v := ?_) hHeld ?_ ?_; rotate_left; (focus (intro w hSw; (try dsimp only at hSw); go_simp; (try with_reducible rfl)))
  try simp only [Act.put, s1, s2, s3, s4, s5, s6]
  refine tk 8 (v := ?_) hHeld ?_ ?_; rotate_left; (focus (intro w hSw; (try dsimp only at hSw); go_simp; (try with_reducible rfl)))
  try simp only [Act.put, s1, s2, s3, s4, s5, s6]
  refine r1 9 (fun K hK => ?_)
  go_simp
  go_at_call 50; refine Calls.mono (rqsmall_f _ 0 (by omega) (by omega)) ?_; rintro e wx ⟨y, rfl, hy, ry, bx⟩; have HY := hide (show y.r = 0 from hy); have RY := hide ry; clear hy ry; replace P := hide (P.out.step bx); replace HK := hide (HK.out.step bx); replace B := hide (Below.step B.out B.out.size bx); clear bx
  try dsimp only
  refine hK.out _ _ ?_ (fun hHeld => ?_); (focus ((try dsimp only); exact P.out.all)); clear hK K
  try simp only [Act.put, s1, s2, s3, s4, s5, s6]
  refine r1 10 (fun K hK => ?_)
  go_simp
  go_at_call 44; refine Calls.mono (kept_f (k := k) (q := y) (L := L) HK.out.2 RY.out h1 (by omega) (by omega)) ?_; rintro e wx ⟨⟨o, rfl, ho⟩, bx⟩; have H1 := hide (show o = true ↔ Kpt k.s 0 k.x.r by rw [ho, HY.out]); clear ho; replace P := hide (P.out.step bx); replace B := hide (Below.step B.out B.out.size bx); clear bx
  try dsimp only
  refine hK.out _ _ ?_ (fun hHeld => ?_); (focus ((try dsimp only); exact P.out.all)); clear hK K
  try simp only [Act.put, s1, s2, s3, s4, s5, s6]
  refine tk 11 (v := ?_) hHeld ?_ ?_; rotate_left; (focus (intro w hSw; (try dsimp only at hSw); go_simp; (try with_reducible rfl)))
  try simp only [Act.put, s1, s2, s3, s4, s5, s6]
  refine tk 12 (v := ?_) hHeld ?_ ?_; rotate_left; (focus (intro w hSw; (try dsimp only at hSw); go_simp; (try with_reducible rfl)))
  try simp only [Act.put, s1, s2, s3, s4, s5, s6]
  refine tk 13 (v := ?_) hHeld ?_ ?_; rotate_left; (focus (intro w hSw; (try dsimp only at hSw); go_simp; (try with_reducible rfl)))
  try simp only [Act.put, s1, s2, s3, s4, s5, s6]
  refine wpAnyH_done (by kernel_rfl) ?_ _
  go_wp2_with fail
  go_ret
  exact ⟨⟨_, rfl, by
    have h9 := H1.out
    cases o
    · exact ⟨fun _ => ⟨E1.out, E2.out, fun h => absurd (h9.2 h) (by simp)⟩, fun _ => rfl⟩
    · exact ⟨fun h => absurd h (by simp), fun h => absurd (h9.1 rfl) h.2.2⟩⟩, B.out⟩
end Go.Proofs.YtofmhfbbedalbaaGreat
namespace Go.Proofs.YtofmhfbbedalbaaGreat
open Go.RowKit Go.Proofs.YtofmhfbbedalbaaGreat.Num
set_option linter.unusedVariables false
set_option linter.unusedSimpArgs false
set_option maxRecDepth 100000

theorem Kl.tight {W : World} {v : Value} {l : List Kx} {L : Nat} (h : Kl W v l L) (hk : ∀ k ∈ l, KsOk k) : Kl W v l 6 := ⟨h.1, fun k hm => (h.2 k hm).tight (hk k hm)⟩
end Go.Proofs.YtofmhfbbedalbaaGreat
