
/-
 A constraint's numbers are written over.
-/
import Derived.Test.YtfnngcaalpknlaaGreatKxConsCombines
import Derived.Test.YtfnngcaalpknlaaGreatKref6
import Derived.Test.YtfnngcaalpknlaaGreatBundleH


namespace Go.Proofs.YtfnngcaalpknlaaGreat
open Go.RowKit Go.Proofs.YtfnngcaalpknlaaGreat.Num
set_option linter.unusedVariables false
set_option linter.unusedSimpArgs false
set_option maxRecDepth 100000
theorem Ow.notnew {W : World} {B : Nat} {v : Value} {d : List Tx} (ho : Ow 77 et 4 W B v d) : some W.heap.size ≠ v.ownBlock := by
 rcases ho.form with ⟨rfl, _⟩ | ⟨g', cap, cur, rfl, hB, hlt, hh, r⟩
 ·intro e; cases e
 ·intro e
  have e : W.heap.size = g' := by simpa [Value.ownBlock] using e
  omega
theorem Spo.kq {B : Nat} {row : Option Nat} {w w' : World} {g : Nat} {k : Kx} (h : Spo B row w w') (hq : Kq w g k) (hr : some g ≠ row) : Kq w' g k :=
 h.2.2.2 g _ _ _ (by decide) hr hq
def Ksp (W : World) (B : Nat) (k : Kx) : Prop := Sp W B (sv k.v) k.d ∧ (Wr W B k.x.u ∧ k.x.u.2.1 ≤ maxLen) ∧ Wr W B k.x.t ∧ k.x.t.2.1 ≤ maxLen
theorem Ksp.step {W W' : World} {B : Nat} {k : Kx} (h : Ksp W B k) (hb : Below W.heap.size W W') : Ksp W' B k := ⟨h.1.step hb, ⟨h.2.1.1.step hb, h.2.1.2⟩, h.2.2.1.step hb, h.2.2.2⟩
theorem Kg.ksp {W : World} {B L : Nat} {k : Kx} (h : Kg W B k L) (hL : L ≤ 1000000000) : Ksp W B k := by
 have h1 := h.2.1.1.n_le
 exact ⟨h.1.sp hL, ⟨h.2.1.2.1, by unfold maxLen; omega⟩, h.2.1.2.2, by unfold maxLen; omega⟩
set_option maxHeartbeats 4000000 in
theorem kspoil_w {w : World} {B : Nat} {k : Kx} (hk : Ksp w B k) (hB : B ≤ w.heap.size) (hn : k.d.length ≤ 1000000) :
  Calls Tryz.prog 30 #[kx k] w fun e w' => e = .returned (.tuple #[]) ∧ Spo B (sv k.v).ownBlock w w' := by
 have b2 := alloc_new_below w (kbox k)
 have P := hide (Kq.new w k)
 have HK := hide (hk.step b2)
 have S0 := hide (Spo.of_below (row := (sv k.v).ownBlock) b2 hB)
 have hr := hide hk.1.1.notnew
 have hs : B ≤ (w.alloc (kbox k)).heap.size := Nat.le_trans hB b2.size
 clear hk b2
 generalize hW0 : w.alloc (kbox k) = W0 at *
 obtain ⟨p0, p1, p2, p3, p4⟩ := P.out.all
 subst hW0
 go_enter Tryz.func30, Tryz.ntmps30
 go_wp2_with fail
 generalize (w.alloc (kbox k)) = W0 at *
 refine (spoil_v HK.out.1 hs hn).mono ?_
 rintro e w1 ⟨rfl, s1⟩
 have P1 := hide (s1.kq P.out hr.out)
 have H1 := hide (s1.2.2.1 _ _ HK.out.2.1.1)
 have H2 := hide (s1.2.2.1 _ _ HK.out.2.2.1)
 have H3 := hide HK.out.2.1.2
 have H4 := hide HK.out.2.2.2
 have S1 := hide (S0.out.trans s1)
 have hs1 : B ≤ w1.heap.size := Nat.le_trans hs s1.2.1
 clear p0 p1 p2 p3 p4 s1 P HK S0
 obtain ⟨p0, p1, p2, p3, p4⟩ := P1.out.all
 go_wp2_with fail
 refine (rspoil_w H1.out H2.out H3.out H4.out hs1).mono ?_
 rintro e w2 ⟨rfl, s2⟩
 have S2 := hide (S1.out.trans (Spo.of s2))
 clear p0 p1 p2 p3 p4 s2
 go_wp2_with fail
 go_end0
 exact ⟨rfl, S2.out⟩
end Go.Proofs.YtfnngcaalpknlaaGreat
