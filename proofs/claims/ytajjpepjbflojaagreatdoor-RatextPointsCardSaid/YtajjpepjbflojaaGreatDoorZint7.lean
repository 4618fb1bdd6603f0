/-
  Whole numbers: Parse.
-/
import Derived.Test.YtajjpepjbflojaaGreatDoorZint6

namespace Go.Proofs.YtajjpepjbflojaaGreatDoor
open Go.RowKit Go.Proofs.YtajjpepjbflojaaGreatDoor.Num
set_option linter.unusedVariables false
set_option maxRecDepth 100000

/-- A sign ahead of digits, and what is behind it. -/
def zsign (l : List UInt8) : Bool := match l with
  | 45 :: _ => true
  | _ => false
def zrest (l : List UInt8) : List UInt8 := match l with
  | 45 :: r => r
  | 43 :: r => r
  | l => l
def zpcode (l : List UInt8) : Nat := pcode (zrest l)
def zval (l : List UInt8) : Int := zi (zsign l) (dval (zrest l))

theorem zret2 {fn : Func} {p q : Tmp} (h : fn.results = #[.cell p 24, .tmp q]) (tmps : Array Value) (w : World) (g : Nat) (cs : Array Value) (hs : cs.size = 2)
    (hp : tmps.getD p undef = .pointer (some ⟨g, 0, none⟩)) (hg : w.heap[g]? = some (.cells cs 24 (0, 0))) : (results fn tmps).run Tryz.prog w = .ok (.tuple #[.agg cs, tmps.getD q undef]) w := by
  rw [results_cell_tmp h, hp]
  simp [asAddr, run_loadVar_row (P := Tryz.prog) w g 24 24 cs (0, 0) _ hg Tryz.underlying24 rfl (by rw [hs]; kernel_rfl), Result.andThen]

/-- What it leaves. -/
def ZpRet (w : World) (l : List UInt8) (e : Ending) (w' : World) : Prop :=
  (zpcode l ≠ 0 → e = .returned (.tuple #[zv false (.slice none 0 0), .int .i64 (zpcode l : Int)])) ∧
  (zpcode l = 0 → ∃ v, e = .returned (.tuple #[v, .int .i64 0]) ∧ Zi w' v (zval l) 200) ∧ Below w.heap.size w w'

theorem pcode_lt {l : List UInt8} (h : pcode l = 0) : dval l < Q ^ 200 := by
  unfold pcode at h
  split at h
  · omega
  · rename_i h1
    split at h
    · omega
    · have h3 : allDig l = true := by
        have h4 : ¬ allDig l = false := fun h' => h1 (Or.inr h')
        simpa using h4
      have h5 := dval_take_lt l h3 200
      rw [List.take_of_length_le (by omega)] at h5
      exact Nat.lt_of_lt_of_le h5 (Nat.pow_le_pow_left (by unfold Q; omega) 200)

/-- The rest of it, once sign and digits are parted. -/
theorem zparse_err {w W : World} {R : ByteArray} {l : List UInt8} {g c : Nat} (hl : zrest l = R.data.toList) (hm : R.size ≤ 9223372036854775807) (hz : Zb W g) (hb : Below w.heap.size w W) (hc : zpcode l = c) (h0 : c ≠ 0) :
    Calls Tryz.prog 71 #[.string R] W fun e w' => e = .returned (.tuple #[.slice none 0 0, .int .i64 (c : Int)]) ∧ Zb w' g ∧ Below w.heap.size w w' := by
  have hlt : g < W.heap.size := by have h1 := hz; unfold Zb at h1; exact (Array.getElem?_eq_some_iff.1 h1).1
  have h1 : pcode R.data.toList = c := by rw [← hl]; exact hc
  exact (nparse_err h1 h0 hm).mono fun e w' ⟨he, hb2⟩ => ⟨he, hz.step hlt hb2, hb.trans (hb2.mono hb.size)⟩
theorem zparse_ok {w W : World} {R : ByteArray} {l : List UInt8} {g : Nat} (hl : zrest l = R.data.toList) (hm : R.size ≤ 9223372036854775807) (hz : Zb W g) (hb : Below w.heap.size w W) (hc : zpcode l = 0) :
    Calls Tryz.prog 71 #[.string R] W fun e w' => ∃ v, e = .returned (.tuple #[v, .int .i64 0]) ∧ Cw w' v (dval (zrest l)) 200 ∧ Zb w' g ∧ Below w.heap.size w w' := by
  have hlt : g < W.heap.size := by have h1 := hz; unfold Zb at h1; exact (Array.getElem?_eq_some_iff.1 h1).1
  have h1 : pcode R.data.toList = 0 := by rw [← hl]; exact hc
  have h2 := pcode_lt h1
  rw [hl]
  exact (nparse_ok h1 rfl h2 hm).mono fun e w' ⟨v, he, _, hc, hb2⟩ => ⟨v, he, hc, hz.step hlt hb2, hb.trans (hb2.mono hb.size)⟩

theorem ZpRet.err {w w' : World} {l : List UInt8} {c : Nat} (hc : zpcode l = c) (h0 : c ≠ 0) (hb : Below w.heap.size w w') : ZpRet w l (.returned (.tuple #[zv false (.slice none 0 0), .int .i64 (c : Int)])) w' :=
  ⟨fun _ => by rw [hc], fun h => absurd (hc.symm.trans h) h0, hb⟩
theorem ZpRet.ok {w w' : World} {l : List UInt8} {v : Value} {s : Bool} (hc : zpcode l = 0) (hs : zsign l = s) (h : ZNew w s (dval (zrest l)) 200 (.returned v) w') : ZpRet w l (.returned (.tuple #[v, .int .i64 0])) w' := by
  obtain ⟨v', he, hz, hb⟩ := h
  injection he with he
  subst he
  exact ⟨fun h => absurd hc h, fun _ => ⟨v, rfl, hz.zi (by rw [← hs]; rfl)⟩, hb⟩
theorem zb_again {w : World} {g : Nat} (h : Zb w g) : ((w.setCell ⟨g, 0, none⟩ (.bool false)).setCell ⟨g, 1, none⟩ (.slice none 0 0)).heap[g]? = some (.cells #[.bool false, .slice none 0 0] 24 (0, 0)) := h.set _ _

set_option maxHeartbeats 8000000 in
theorem zparse_any (S : ByteArray) (w : World) (hs : S.size ≤ 9223372036854775807) : Calls Tryz.prog 52 #[.string S] w (ZpRet w S.data.toList) := by
  have a1 : Below w.heap.size w (w.alloc zblk) := (Below.refl _ _).alloc (Nat.le_refl _) _
  have hz := Zb.new w
  obtain ⟨l, hl⟩ : ∃ l, S.data.toList = l := ⟨_, rfl⟩
  have hlen : l.length = S.size := by rw [← hl, Array.length_toList]; rfl
  rw [hl]
  have HS := hide hs
  by_cases hsign : ∃ r, l = 45 :: r ∨ l = 43 :: r
  · obtain ⟨r, hsign⟩ := hsign
    have hrest : zrest l = (S.extract 1 S.size).data.toList := by
      rcases hsign with h | h
      · rw [cut_one S 45 r (by rw [hl, h]), h]; rfl
      · rw [cut_one S 43 r (by rw [hl, h]), h]; rfl
    have h0 : 0 < S.size := by rw [← hlen]; rcases hsign with h | h <;> rw [h] <;> simp
    have h1 : 1 ≤ S.size := h0
    have hemp : S.toList.isEmpty = false := by
      rw [toList_data, hl]
      rcases hsign with h | h <;> rw [h] <;> rfl
    have hm : (S.extract 1 S.size).size ≤ 9223372036854775807 := by rw [ByteArray.size_extract]; omega
    have hy : ∃ (y : Nat) (b : Bool), (S[0]'h0).toNat = y ∧ ((y = 45 ∧ b = true) ∨ (y = 43 ∧ b = false)) ∧ zsign l = b := by
      have h4 : S[0]'h0 = S.data.toList[0]'(by rw [hl]; rcases hsign with h | h <;> rw [h] <;> simp) := rfl
      rcases hsign with h | h
      · refine ⟨45, true, ?_, .inl ⟨rfl, rfl⟩, by rw [h]; rfl⟩
        rw [h4]
        have h5 : S.data.toList = 45 :: r := by rw [hl, h]
        simp only [h5, List.getElem_cons_zero]
        rfl
      · refine ⟨43, false, ?_, .inr ⟨rfl, rfl⟩, by rw [h]; rfl⟩
        rw [h4]
        have h5 : S.data.toList = 43 :: r := by rw [hl, h]
        simp only [h5, List.getElem_cons_zero]
        rfl
    obtain ⟨y, b, hy, hyb, hzs⟩ := hy
    have ZS := hide hzs
    by_cases hc0 : zpcode l = 0
    · have HC := hide hc0
      have HP := hide (fun nq => zparse_ok (w := w) (W := (w.alloc zblk).drewN nq) (g := w.heap.size) hrest hm hz (below_drewN a1 nq) hc0)
      clear hsign hrest hm hzs hc0 hl hlen a1 hz hs
      rcases hyb with ⟨rfl, rfl⟩ | ⟨rfl, rfl⟩
      · go_enter Tryz.func52, Tryz.ntmps52
        go_wp2_with fail
        go_quiet (fail)
        go_wp2_with fail
        refine (HP.out nq).mono ?_
        rintro e w1 ⟨v, rfl, hcw, hzb, hb⟩
        obtain ⟨sg, A1, n1, c1', rfl, hsg, hcall⟩ := signed_fit (w0 := w) (s := true) hcw hzb (Nat.le_refl _) hb
        have HL := hide hcall
        clear hcall hsg hcw hzb hb HP
        go_wp2_with fail
        refine HL.out.mono ?_
        rintro e w2 ⟨rfl, b2, k0, k1, f0, f1, fin⟩
        have F := hide fin
        have fin2 := ZpRet.ok HC.out ZS.out F.out.2
        clear fin HL b2
        go_wp2_with fail
        exact bodyPost_ret (zret2 (p := 2) (q := 3) rfl _ _ _ #[.bool sg, .slice A1 n1 c1'] rfl rfl F.out.1) rfl fin2
      · go_enter Tryz.func52, Tryz.ntmps52
        go_wp2_with fail
        go_quiet (fail)
        go_wp2_with fail
        refine (HP.out nq).mono ?_
        rintro e w1 ⟨v, rfl, hcw, hzb, hb⟩
        obtain ⟨sg, A1, n1, c1', rfl, hsg, hcall⟩ := signed_fit (w0 := w) (s := false) hcw hzb (Nat.le_refl _) hb
        have HL := hide hcall
        clear hcall hsg hcw hzb hb HP
        go_wp2_with fail
        refine HL.out.mono ?_
        rintro e w2 ⟨rfl, b2, k0, k1, f0, f1, fin⟩
        have F := hide fin
        have fin2 := ZpRet.ok HC.out ZS.out F.out.2
        clear fin HL b2
        go_wp2_with fail
        exact bodyPost_ret (zret2 (p := 2) (q := 3) rfl _ _ _ #[.bool sg, .slice A1 n1 c1'] rfl rfl F.out.1) rfl fin2
    · obtain ⟨c, hc⟩ : ∃ c, zpcode l = c := ⟨_, rfl⟩
      rw [hc] at hc0
      have HC := hide hc
      have HC0 := hide hc0
      have t0 : ((c : Int) != 0) = true := by rw [bne_iff_ne]; omega
      have HP := hide (fun nq => zparse_err (w := w) (W := (w.alloc zblk).drewN nq) (g := w.heap.size) hrest hm hz (below_drewN a1 nq) hc hc0)
      clear hsign hrest hm hzs hc0 hl hlen a1 hz hs hc
      rcases hyb with ⟨rfl, rfl⟩ | ⟨rfl, rfl⟩
      · go_enter Tryz.func52, Tryz.ntmps52
        go_wp2_with fail
        go_quiet (fail)
        go_wp2_with fail
        refine (HP.out nq).mono ?_
        rintro e w1 ⟨rfl, hzb, hb⟩
        have k0 := hzb.c0
        have k1 := hzb.c1
        have f0 := hzb.fz 0
        have f1 := hzb.fz 1
        have ZB := hide hzb
        have fin2 : ZpRet w l (.returned (.tuple #[zv false (.slice none 0 0), .int .i64 (c : Int)])) ((w1.setCell ⟨w.heap.size, 0, none⟩ (.bool false)).setCell ⟨w.heap.size, 1, none⟩ (.slice none 0 0)) :=
          ZpRet.err HC.out HC0.out ((hb.setCell (Nat.le_refl _) _).setCell (Nat.le_refl _) _)
        clear hzb hb HP
        go_wp2_with fail
        exact bodyPost_ret (zret2 (p := 2) (q := 3) rfl _ _ _ #[.bool false, .slice none 0 0] rfl rfl (zb_again ZB.out)) rfl fin2
      · go_enter Tryz.func52, Tryz.ntmps52
        go_wp2_with fail
        go_quiet (fail)
        go_wp2_with fail
        refine (HP.out nq).mono ?_
        rintro e w1 ⟨rfl, hzb, hb⟩
        have k0 := hzb.c0
        have k1 := hzb.c1
        have f0 := hzb.fz 0
        have f1 := hzb.fz 1
        have ZB := hide hzb
        have fin2 : ZpRet w l (.returned (.tuple #[zv false (.slice none 0 0), .int .i64 (c : Int)])) ((w1.setCell ⟨w.heap.size, 0, none⟩ (.bool false)).setCell ⟨w.heap.size, 1, none⟩ (.slice none 0 0)) :=
          ZpRet.err HC.out HC0.out ((hb.setCell (Nat.le_refl _) _).setCell (Nat.le_refl _) _)
        clear hzb hb HP
        go_wp2_with fail
        exact bodyPost_ret (zret2 (p := 2) (q := 3) rfl _ _ _ #[.bool false, .slice none 0 0] rfl rfl (zb_again ZB.out)) rfl fin2
  · have hrest : zrest l = S.data.toList := by
      rw [hl]
      unfold zrest
      split
      · rename_i r h; exact absurd ⟨_, .inl rfl⟩ hsign
      · rename_i r h; exact absurd ⟨_, .inr rfl⟩ hsign
      · rfl
    have hzs : zsign l = false := by
      unfold zsign
      split
      · rename_i r h; exact absurd ⟨_, .inl rfl⟩ hsign
      · rfl
    have ZS := hide hzs
    have hy : (S.toList.isEmpty = true) ∨ (S.toList.isEmpty = false ∧ ∃ (h0 : 0 < S.size) (y : Nat), (S[0]'h0).toNat = y ∧ ((y : Int) == 43) = false ∧ ((y : Int) == 45) = false) := by
      cases h : l with
      | nil => left; rw [toList_data, hl, h]; rfl
      | cons b r =>
        right
        have h0 : 0 < S.size := by rw [← hlen, h]; simp
        refine ⟨by rw [toList_data, hl, h]; rfl, h0, _, rfl, ?_, ?_⟩
        · have h4 : S[0]'h0 = S.data.toList[0]'(by rw [hl, h]; simp) := rfl
          rw [h4]
          simp only [hl, h, List.getElem_cons_zero]
          rw [beq_eq_false_iff_ne]
          intro h5
          have h6 : b = 43 := by rw [← UInt8.toNat_inj]; show b.toNat = 43; omega
          exact hsign ⟨r, .inr (by rw [h, h6])⟩
        · have h4 : S[0]'h0 = S.data.toList[0]'(by rw [hl, h]; simp) := rfl
          rw [h4]
          simp only [hl, h, List.getElem_cons_zero]
          rw [beq_eq_false_iff_ne]
          intro h5
          have h6 : b = 45 := by rw [← UInt8.toNat_inj]; show b.toNat = 45; omega
          exact hsign ⟨r, .inl (by rw [h, h6])⟩
    by_cases hc0 : zpcode l = 0
    · have HC := hide hc0
      have HP := hide (zparse_ok (w := w) (W := w.alloc zblk) (g := w.heap.size) hrest hs hz a1 hc0)
      clear hsign hrest hzs hc0 hl hlen a1 hz hs
      rcases hy with hemp | ⟨hemp, h0, y, hy, ty1, ty2⟩
      · go_enter Tryz.func52, Tryz.ntmps52
        go_wp2_with fail
        refine HP.out.mono ?_
        rintro e w1 ⟨v, rfl, hcw, hzb, hb⟩
        obtain ⟨sg, A1, n1, c1', rfl, hsg, hcall⟩ := signed_fit (w0 := w) (s := false) hcw hzb (Nat.le_refl _) hb
        have HL := hide hcall
        clear hcall hsg hcw hzb hb HP
        go_wp2_with fail
        refine HL.out.mono ?_
        rintro e w2 ⟨rfl, b2, k0, k1, f0, f1, fin⟩
        have F := hide fin
        have fin2 := ZpRet.ok HC.out ZS.out F.out.2
        clear fin HL b2
        go_wp2_with fail
        exact bodyPost_ret (zret2 (p := 2) (q := 3) rfl _ _ _ #[.bool sg, .slice A1 n1 c1'] rfl rfl F.out.1) rfl fin2
      · go_enter Tryz.func52, Tryz.ntmps52
        go_wp2_with fail
        refine HP.out.mono ?_
        rintro e w1 ⟨v, rfl, hcw, hzb, hb⟩
        obtain ⟨sg, A1, n1, c1', rfl, hsg, hcall⟩ := signed_fit (w0 := w) (s := false) hcw hzb (Nat.le_refl _) hb
        have HL := hide hcall
        clear hcall hsg hcw hzb hb HP
        go_wp2_with fail
        refine HL.out.mono ?_
        rintro e w2 ⟨rfl, b2, k0, k1, f0, f1, fin⟩
        have F := hide fin
        have fin2 := ZpRet.ok HC.out ZS.out F.out.2
        clear fin HL b2
        go_wp2_with fail
        exact bodyPost_ret (zret2 (p := 2) (q := 3) rfl _ _ _ #[.bool sg, .slice A1 n1 c1'] rfl rfl F.out.1) rfl fin2
    · obtain ⟨c, hc⟩ : ∃ c, zpcode l = c := ⟨_, rfl⟩
      rw [hc] at hc0
      have HC := hide hc
      have HC0 := hide hc0
      have t0 : ((c : Int) != 0) = true := by rw [bne_iff_ne]; omega
      have HP := hide (zparse_err (w := w) (W := w.alloc zblk) (g := w.heap.size) hrest hs hz a1 hc hc0)
      clear hsign hrest hzs hc0 hl hlen a1 hz hs hc
      rcases hy with hemp | ⟨hemp, h0, y, hy, ty1, ty2⟩
      · go_enter Tryz.func52, Tryz.ntmps52
        go_wp2_with fail
        refine HP.out.mono ?_
        rintro e w1 ⟨rfl, hzb, hb⟩
        have k0 := hzb.c0
        have k1 := hzb.c1
        have f0 := hzb.fz 0
        have f1 := hzb.fz 1
        have ZB := hide hzb
        have fin2 : ZpRet w l (.returned (.tuple #[zv false (.slice none 0 0), .int .i64 (c : Int)])) ((w1.setCell ⟨w.heap.size, 0, none⟩ (.bool false)).setCell ⟨w.heap.size, 1, none⟩ (.slice none 0 0)) :=
          ZpRet.err HC.out HC0.out ((hb.setCell (Nat.le_refl _) _).setCell (Nat.le_refl _) _)
        clear hzb hb HP
        go_wp2_with fail
        exact bodyPost_ret (zret2 (p := 2) (q := 3) rfl _ _ _ #[.bool false, .slice none 0 0] rfl rfl (zb_again ZB.out)) rfl fin2
      · go_enter Tryz.func52, Tryz.ntmps52
        go_wp2_with fail
        refine HP.out.mono ?_
        rintro e w1 ⟨rfl, hzb, hb⟩
        have k0 := hzb.c0
        have k1 := hzb.c1
        have f0 := hzb.fz 0
        have f1 := hzb.fz 1
        have ZB := hide hzb
        have fin2 : ZpRet w l (.returned (.tuple #[zv false (.slice none 0 0), .int .i64 (c : Int)])) ((w1.setCell ⟨w.heap.size, 0, none⟩ (.bool false)).setCell ⟨w.heap.size, 1, none⟩ (.slice none 0 0)) :=
          ZpRet.err HC.out HC0.out ((hb.setCell (Nat.le_refl _) _).setCell (Nat.le_refl _) _)
        clear hzb hb HP
        go_wp2_with fail
        exact bodyPost_ret (zret2 (p := 2) (q := 3) rfl _ _ _ #[.bool false, .slice none 0 0] rfl rfl (zb_again ZB.out)) rfl fin2
end Go.Proofs.YtajjpepjbflojaaGreatDoor
