
/-
 Constraints that are written over, one behind another, whose terms may share memory.
-/
import Derived.Test.YtnhlomphdighnaaGreatPm16
import Derived.Test.YtnhlomphdighnaaGreatBundleQ
import Derived.Test.YtnhlomphdighnaaGreatSpq


namespace Go.Proofs.YtnhlomphdighnaaGreat
open Go.RowKit Go.Proofs.YtnhlomphdighnaaGreat.Num
set_option linter.unusedVariables false
set_option linter.unusedSimpArgs false
set_option maxRecDepth 100000
def KspC (W : World) (B C : Nat) (k : Kx) : Prop := SpC W B C (sv k.v) k.d ∧ ((Wr W B k.x.u ∧ k.x.u.2.1 ≤ maxLen) ∧ (Wr W B k.x.t ∧ k.x.t.2.1 ≤ maxLen)) ∧
 (0 < k.x.u.2.1 → ∀ b off, k.x.u.1 = some ⟨b, off, none⟩ → b < C) ∧ (0 < k.x.t.2.1 → ∀ b off, k.x.t.1 = some ⟨b, off, none⟩ → b < C)
theorem KspC.step {W W' : World} {B C : Nat} {k : Kx} (h : KspC W B C k) (hb : Below W.heap.size W W') : KspC W' B C k :=
 ⟨h.1.step hb, ⟨⟨h.2.1.1.1.step hb, h.2.1.1.2⟩, h.2.1.2.1.step hb, h.2.1.2.2⟩, h.2.2⟩
theorem KspC.spn {w w' : World} {B C B' C' : Nat} {k : Kx} (h : KspC w B C k) (s : Spn B' C' w w') : ∃ d', KspC w' B C ⟨k.s, k.v, d', k.x⟩ ∧ d'.length = k.d.length := by
 obtain ⟨d', h1, h2⟩ := h.1.spn s
 exact ⟨d', ⟨h1, ⟨⟨s.2.2.1 _ _ h.2.1.1.1, h.2.1.1.2⟩, s.2.2.1 _ _ h.2.1.2.1, h.2.1.2.2⟩, h.2.2⟩, h2⟩
theorem Kg.kspc {W : World} {B L : Nat} {k : Kx} (h : Kg W B k L) (hL : L ≤ 1000000000) : KspC W B W.heap.size k := by
 have h1 := h.2.1.1.n_le
 exact ⟨(h.1.sp hL).spc, ⟨⟨h.2.1.2.1, by unfold maxLen; omega⟩, h.2.1.2.2, by unfold maxLen; omega⟩, fun h0 => h.2.1.2.1.lt h0, fun h0 => h.2.1.2.2.lt h0⟩
set_option maxHeartbeats 4000000 in
theorem kspoil_n {w : World} {B C : Nat} {k : Kx} (hk : KspC w B C k) (hB : B ≤ w.heap.size) (hn : k.d.length ≤ 1000000) :
  Calls Tryz.prog 14 #[kx k] w fun e w' => e = .returned (.tuple #[]) ∧ Spn B C w w' := by
 have b2 := alloc_new_below w (kbox k)
 have P := hide (Kq.new w k)
 have HK := hide (hk.step b2)
 have S0 := hide (Spn.of_spu (Spu.of_below (C := C) b2 hB))
 have hs : B ≤ (w.alloc (kbox k)).heap.size := Nat.le_trans hB b2.size
 clear hk b2
 generalize hW0 : w.alloc (kbox k) = W0 at *
 obtain ⟨p0, p1, p2, p3, p4⟩ := P.out.all
 subst hW0
 go_enter Tryz.func14, Tryz.ntmps14
 go_wp2_with fail
 generalize (w.alloc (kbox k)) = W0 at *
 refine (spoil_n HK.out.1 hs hn).mono ?_
 rintro e w1 ⟨rfl, s1⟩
 have P1 := hide (show Kq w1 w.heap.size k from s1.2.2.2.2.1 _ _ _ _ (by decide) (by decide) P.out)
 obtain ⟨d', hd', -⟩ := HK.out.spn s1
 have H1 := hide hd'.2.1.1
 have H2 := hide hd'.2.1.2
 have H3 := hide hd'.2.2
 have S1 := hide (S0.out.trans s1)
 have hs1 : B ≤ w1.heap.size := Nat.le_trans hs s1.2.1
 clear p0 p1 p2 p3 p4 s1 P HK S0 hd'
 obtain ⟨p0, p1, p2, p3, p4⟩ := P1.out.all
 go_wp2_with fail
 refine (rspoil_u (C := C) H1.out.1 H2.out.1 H1.out.2 H2.out.2 hs1 H3.out.1 H3.out.2).mono ?_
 rintro e w2 ⟨rfl, s2⟩
 have S2 := hide (S1.out.trans (Spn.of_spu s2))
 clear p0 p1 p2 p3 p4 s2
 go_wp2_with fail
 go_end0
 exact ⟨rfl, S2.out⟩
end Go.Proofs.YtnhlomphdighnaaGreat
