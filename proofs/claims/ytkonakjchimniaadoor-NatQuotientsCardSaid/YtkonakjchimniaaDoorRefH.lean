/-
  The document's own answer: a number's words.
-/
import Derived.Test.YtkonakjchimniaaDoorRefG
namespace Go.Proofs.YtkonakjchimniaaDoor
open Go.RowKit Go.Proofs.YtkonakjchimniaaDoor.Num
set_option linter.unusedVariables false
set_option maxRecDepth 100000

theorem idivmod {w : World} {u v : Value} {x y L M : Nat} (hu : Ic w u x L) (hv : Iw w v y M) (hy : 0 < y) (hL : L ≤ 100000000000) (hM : M ≤ 100000000000) :
    Calls Tryd.prog 19 #[u, v] w (fun e w' => ∃ q r, e = .returned (.tuple #[q, r]) ∧ Own .i64 3 w' w.heap.size q (cn 10000 (x / y)) ∧ Own .i64 3 w' w.heap.size r (cn 10000 (x % y)) ∧
      Ic w' q (x / y) L ∧ Ic w' r (x % y) M ∧ Below w.heap.size w w') := by
  have lx := hu.iw.lt
  have ly := hv.lt
  obtain ⟨A, c, rfl, h1, h2⟩ := hu
  have h := rdivmod_any A _ c _ v y M w h1 hv (dg_cn B_two x) hy (by omega) hM
  rw [vl_cn B_two] at h
  refine h.mono fun e w' ⟨q, r, he, hq, hr, hb⟩ => ⟨q, r, he, hq, hr, Ic.of hq (Nat.lt_of_le_of_lt (Nat.div_le_self _ _) lx), Ic.of hr (Nat.lt_trans (Nat.mod_lt _ hy) ly), hb⟩

theorem half_new (w : World) : Calls Tryd.prog 58 #[.int .i64 4294967296] w (INew w 4294967296 3) := ismall (x := 4294967296) (L := 3) w (by omega) (by decide +kernel)

theorem own_apart {k k' : IntKind} {e e' : TypeId} {w w' : World} {B B' : Nat} {v v' : Value} {xs ys : List Nat} (h1 : Own k e w B v xs) (h2 : Own k' e' w' B' v' ys) (hB : w.heap.size ≤ B') :
    v'.ownBlock = none ∨ v'.ownBlock ≠ v.ownBlock := by
  rcases h2 with ⟨rfl, _⟩ | ⟨g', cap', C', rfl, hB', hr', _⟩
  · left; rfl
  · right
    rcases h1 with ⟨rfl, _⟩ | ⟨g, cap, C, rfl, hB1, hr, _⟩
    · simp [Value.ownBlock]
    · have := hr.lt
      simp [Value.ownBlock]; omega

def ToRel (tu ti : TypeId) (w : World) (X L : Nat) (half ov xv : Value) (wr : World) : Prop :=
  ∃ (ws : List Nat) (Z : Nat), Own .u64 tu wr w.heap.size ov ws ∧ Hid (cn Q X = ws ++ cn Q Z) ∧ Own .i64 ti wr w.heap.size xv (cn 10000 Z) ∧ Hid (Z ≤ X) ∧
    Own .i64 ti wr w.heap.size half (cn 10000 4294967296) ∧ Hid (half.ownBlock = none ∨ half.ownBlock ≠ ov.ownBlock) ∧ Below w.heap.size w wr

def lenV : Value → Nat
  | .slice _ n _ => n
  | _ => 0
theorem cn_len_le {B a b : Nat} (hB : 2 ≤ B) (h : a ≤ b) : (cn B a).length ≤ (cn B b).length :=
  cn_length_le hB (Nat.lt_of_le_of_lt h (lt_of_cn_length hB (Nat.le_refl _)))
theorem cn_len_less {Z : Nat} (hZ : Z ≠ 0) : (cn 10000 (Z / 4294967296 / 4294967296)).length < (cn 10000 Z).length := by
  rw [cn_pos B_two hZ, List.length_cons]
  have := cn_len_le B_two (show Z / 4294967296 / 4294967296 ≤ Z / 10000 by omega)
  omega
theorem word_parts {Z : Nat} (hZ : Z ≠ 0) : cn Q Z = (Z / 4294967296 % 4294967296 * 4294967296 + Z % 4294967296) :: cn Q (Z / 4294967296 / 4294967296) := by
  have hQ : Q = 4294967296 * 4294967296 := by decide +kernel
  rw [cn_pos Q_two hZ, Nat.div_div_eq_div_mul, ← hQ]
  congr 1
  rw [hQ]
  omega

set_option maxHeartbeats 4000000 in
theorem rto_any {w : World} {u : Value} {X L : Nat} (hu : Iw w u X L) (hL : L ≤ 100000000000) :
    Calls Tryd.prog 17 #[u] w (OwnRet .u64 71 w (cn Q X)) := by
  obtain ⟨i0, hi, hz0, hz1, hz2⟩ := info_parts info_u64
  have hXL := hu.lt
  have hlen : Hid ((cn Q X).length ≤ L) := hide (cn_length_le Q_two (Nat.lt_of_lt_of_le hXL (Nat.pow_le_pow_left (by decide +kernel) L)))
  have HXL := hide hXL
  have U := hide hu
  clear hu hXL
  go_enter Tryd.func17, Tryd.ntmps17
  go_wp2_with fail
  refine (half_new _).mono ?_
  rintro e w1 ⟨half, rfl, oh, ch, b1⟩
  have a0 : Below w.heap.size w (w.alloc (.cells #[] 71)) := (Below.refl _ _).alloc (Nat.le_refl _) _
  have B := hide (a0.trans (b1.mono a0.size))
  have U := hide (U.out.step B.out)
  have OV := hide ((own_empty .u64 71 w w.heap.size (Nat.le_refl _)).below b1 (Nat.le_refl _))
  have AP := hide (own_apart (own_empty .u64 71 w w.heap.size (Nat.le_refl _)) oh (Nat.le_refl _))
  have OH := hide (oh.mono a0.size)
  clear oh ch b1 a0
  go_wp2_with fail
  refine (itrim U.out (by omega)).mono ?_
  rintro e w2 ⟨x0, rfl, ox, cx, b2⟩
  have start : ToRel 71 3 w X L half (.slice (some ⟨w.heap.size, 0, none⟩) 0 0) x0 w2 :=
    ⟨[], X, OV.out.below b2 (Nat.le_refl _), hide rfl, ox.mono B.out.size, hide (Nat.le_refl _), OH.out.below b2 (Nat.le_refl _), AP, B.out.trans (b2.mono B.out.size)⟩
  clear U B OV AP OH ox cx b2
  go_wp2_with fail
  go_loopw [3, 5] (fun ov xv wr => ToRel 71 3 w X L half ov xv wr) (fun _ xv _ => lenV xv)
  case atStart => exact start
  case round => 
    clear start
    obtain ⟨ws, Z, ow, hcn, ox, hZX, oh, hap, hbel⟩ := hrel
    have hZL : Hid (Z < 10000 ^ L) := hide (Nat.lt_of_le_of_lt hZX.out HXL.out)
    have cx := Ic.of ox hZL.out
    by_cases h0 : Z = 0
    · subst h0
      rw [cn_zero, List.append_nil] at hcn
      obtain ⟨A, c, hxv, _, _⟩ := cx
      rw [cn_zero, List.length_nil] at hxv
      subst hxv
      have e := hcn.out
      rw [← e] at ow
      clear hcn e ox hZX oh hap hZL HXL hlen
      go_wp2_with fail
      go_ret
      exact ⟨_, rfl, ow, hbel⟩
    · obtain ⟨A, c, hxv, _, _⟩ := id cx
      obtain ⟨lz, hlz⟩ : ∃ lz, Hid ((cn 10000 Z).length = lz) := ⟨_, hide rfl⟩
      have hpos : 0 < lz := by
        rw [← hlz.out]
        exact List.length_pos_iff.2 (fun h => h0 ((cn_eq_nil B_two).1 h))
      rw [hlz.out] at hxv
      have hmeas := hide (cn_len_less h0)
      have hwp := hide (word_parts h0)
      have dm1 := hide (idivmod (w := wr) (y := 4294967296) (M := 3) cx (Ic.of oh (by decide +kernel)).iw (by omega) (by omega) (by omega))
      rw [hxv] at dm1 ox
      subst hxv
      obtain ⟨q, hq⟩ : ∃ q, Hid (Z / 4294967296 = q) := ⟨_, hide rfl⟩
      obtain ⟨p, hp⟩ : ∃ p, Hid (q / 4294967296 = p) := ⟨_, hide rfl⟩
      obtain ⟨hh, hhh⟩ : ∃ hh, Hid (q % 4294967296 = hh) := ⟨_, hide rfl⟩
      obtain ⟨ll, hll⟩ : ∃ ll, Hid (Z % 4294967296 = ll) := ⟨_, hide rfl⟩
      have bh : hh < 4294967296 := by rw [← hhh.out]; exact Nat.mod_lt _ (by omega)
      have bl : ll < 4294967296 := by rw [← hll.out]; exact Nat.mod_lt _ (by omega)
      rw [hq.out, hll.out] at dm1
      rw [hq.out, hp.out, hhh.out, hll.out] at hwp
      rw [hq.out, hp.out] at hmeas
      obtain ⟨word, hw⟩ : ∃ word, hh * 4294967296 + ll = word := ⟨_, rfl⟩
      rw [hw] at hwp
      have ew : (hh : Int) * 4294967296 + (ll : Int) = (word : Int) := by omega
      have wQ : (word : Int) ≤ 18446744073709551615 := by omega
      have hcn2 : Hid (cn Q X = (ws ++ [word]) ++ cn Q p) := hide (by rw [hcn.out, hwp.out, List.append_assoc]; rfl)
      have Hl : Hid (ws.length + 1 ≤ 17592186044416) := hide (by
        have h1 := congrArg List.length hcn2.out
        simp only [List.length_append, List.length_cons, List.length_nil] at h1
        have h2 := hlen.out
        omega)
      have hpX : Hid (p ≤ X) := hide (by
        have h1 := hZX.out
        have h2 := hq.out
        have h3 := hp.out
        omega)
      have OW := hide ow
      have OH := hide oh
      have BEL := hide hbel
      clear ow oh hbel ox cx hcn hwp hll h0 hZX hZL hlen HXL hw
      go_wp2_with fail
      refine dm1.out.mono ?_
      rintro e w1 ⟨qv, lowv, rfl, oq, olow, cq, clow, b1⟩
      have OW1 := hide (OW.out.below b1 (Nat.le_refl _))
      have OH1 := hide (OH.out.below b1 (Nat.le_refl _))
      have BEL1 := hide (BEL.out.trans (b1.mono BEL.out.size))
      have CL := hide clow
      have CQ := hide cq
      have SZ := hide b1.size
      clear dm1 OW OH oq olow cq clow b1
      have dm2 := hide (idivmod (w := w1) (y := 4294967296) (M := 3) CQ.out (Ic.of OH1.out (by decide +kernel)).iw (by omega) (by omega) (by omega))
      rw [hp.out, hhh.out] at dm2
      go_wp2_with fail
      refine dm2.out.mono ?_
      rintro e w2 ⟨pv, highv, rfl, op, ohigh, cp, chigh, b2⟩
      have OW2 := hide (OW1.out.below b2 (Nat.le_refl _))
      have OH2 := hide (OH1.out.below b2 (Nat.le_refl _))
      have BEL2 := hide (BEL1.out.trans (b2.mono BEL1.out.size))
      have CL2 := hide (CL.out.step b2)
      have CH2 := hide chigh
      have OP := hide op
      have APP := hide (own_apart OW1.out op (Nat.le_refl _))
      have Hsz := hide BEL2.out.size
      have hml : Hid (lenV pv < lz) := hide (by
        obtain ⟨A', c', hpv, _, _⟩ := cp
        rw [hpv, ← hlz.out]
        exact hmeas.out)
      have hpb : Hid (∀ g, half.ownBlock = some g → g < w2.heap.size) := hide (by
        intro g hg
        rcases OH2.out with ⟨rfl, _⟩ | ⟨g', cap', C', rfl, _, hr', _⟩
        · simp [Value.ownBlock] at hg
        · simp [Value.ownBlock] at hg
          have := hr'.lt
          omega)
      have fin : ∀ m v' w', Own .u64 71 w' w.heap.size v' (ws ++ [word]) → ((w2.drewN m).grownBy w' u3.ownBlock ∧ (v'.ownBlock = u3.ownBlock ∨ v'.ownBlock = some ((w2.drewN m).heap.size + 1))) → ToRel 71 3 w X L half v' pv w' := by
        intro m v' w' ho hg
        have OW3 : Own .u64 71 (w2.drewN m) w.heap.size u3 ws := OW2.out
        have OP3 : Own .i64 3 (w2.drewN m) w1.heap.size pv (cn 10000 p) := OP.out
        have OH3 : Own .i64 3 (w2.drewN m) w.heap.size half (cn 10000 4294967296) := OH2.out
        refine ⟨ws ++ [word], p, ho, hcn2, (OP3.grown hg.1 APP.out).mono BEL1.out.size, hpX, OH3.grown hg.1 hap.out, hide ?_, push_below (below_drewN BEL2.out m) OW3 hg.1 Hsz.out⟩
        rcases hg.2 with h | h
        · rw [h]; exact hap.out
        · rw [h]
          cases hb : half.ownBlock with
          | none => left; rfl
          | some g =>
            right
            have h3 := hpb.out g hb
            intro h4
            injection h4 with h4
            simp [World.drewN] at h4
            omega
      have Fin := hide fin
      clear dm2 OW1 OH1 BEL1 BEL OP op ohigh cp chigh b2 CL CQ fin APP hpb hap hcn2 hpX hmeas hp hq hhh OH2
      have val1 := hide (ivalue CH2.out.iw (by omega) (by omega))
      have val2 : Hid (∀ m, Calls Tryd.prog 62 #[lowv] (w2.drewN m) (QuietRet (w2.drewN m) (.int .i64 (ll : Int)))) := hide (fun m => by
        have h : Ic (w2.drewN m) lowv ll 3 := CL2.out
        exact ivalue h.iw (by omega) (by omega))
      clear CH2 CL2
      go_wp2_with fail
      refine val1.out.mono ?_
      rintro e w3 ⟨rfl, m1, rfl⟩
      go_wp2_with fail
      refine (val2.out m1).mono ?_
      rintro e w4 ⟨rfl, m2, rfl⟩
      go_wp2_with (at_builtin; go_must (refine wpList_push rfl (.tmp 29) (.tmp 38) 22 rfl Tryd.underlying22 hi hz0 hz1 hz2 rfl (w2.drewN (m1 + m2)) w.heap.size _ ws word OW2.out rfl rfl Hl.out (by decide) Hsz.out ?_); intro v' w' ho hg; have fin2 := Fin.out _ v' w' ho hg; clear ho hg)
      go_roundw
      case rel => exact fin2
      case measure => exact hml.out
end Go.Proofs.YtkonakjchimniaaDoor
