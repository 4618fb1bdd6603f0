/-
  Shared texts, one behind the other: Spu.
-/
import Derived.Test.YtpfeacdhplbblaaGreatBundleH
import Derived.Test.YtpfeacdhplbblaaGreatBundleO

namespace Go.Proofs.YtpfeacdhplbblaaGreat
open Go.RowKit Go.Proofs.YtpfeacdhplbblaaGreat.Num
set_option linter.unusedVariables false
set_option linter.unusedSimpArgs false
set_option maxRecDepth 100000
def Spu (B C : Nat) (w w' : World) : Prop := Spw B w w' ∧ ∀ b, C ≤ b → b < w.heap.size → w'.heap[b]? = w.heap[b]?
theorem Spu.refl (B C : Nat) (w : World) : Spu B C w w := ⟨Spw.refl _ _, fun _ _ _ => rfl⟩
theorem Spu.trans {B C : Nat} {a b c : World} (h : Spu B C a b) (k : Spu B C b c) : Spu B C a c := ⟨h.1.trans k.1, fun g h1 h2 => (k.2 g h1 (Nat.lt_of_lt_of_le h2 h.1.2.1)).trans (h.2 g h1 h2)⟩
theorem Spu.of_below {B C : Nat} {w w' : World} (h : Below w.heap.size w w') (hB : B ≤ w.heap.size) : Spu B C w w' := ⟨Spw.of_below h hB, fun b _ hb => h.block b hb⟩
theorem Spu.put {B C : Nat} {w w' : World} (h : Spu B C w w') {b j : Nat} (hB : B ≤ b) (hC : b < C) (hlb : ∃ cs fz, w'.heap[b]? = some (.cells cs 62 fz)) {z : Int} (hc : w'.cell? ⟨b, j, none⟩ = some (.int .u64 z)) (y : Int) : Spu B C w (w'.setCell ⟨b, j, none⟩ (.int .u64 y)) :=
  ⟨h.1.put hB hlb hc y, fun g h1 h2 => (Below.heap_setCell _ _ _ _ (show g ≠ b by omega)).trans (h.2 g h1 h2)⟩
set_option maxHeartbeats 4000000 in
theorem rspoil_u {w : World} {B C : Nat} {s : Bool} {A D : Option Addr} {n c m d : Nat} (hu : Wr w B (A, n, c)) (ht : Wr w B (D, m, d)) (hn : n ≤ maxLen) (hm : m ≤ maxLen) (hB : B ≤ w.heap.size) (hcu : 0 < n → ∀ b off, A = some ⟨b, off, none⟩ → b < C) (hct : 0 < m → ∀ b off, D = some ⟨b, off, none⟩ → b < C) :
    Calls Tryz.prog 9 #[rv s (.slice A n c) (.slice D m d)] w fun e w' => e = .returned (.tuple #[]) ∧ Spu B C w w' := by
  unfold maxLen at hn hm
  obtain ⟨b1, y0⟩ := fbox1 w s A n c D m d
  have S0 := hide (Spu.of_below (C := C) b1 hB)
  have U := hide (hu.step b1)
  have V := hide (ht.step b1)
  have hgb : Hid ((w.alloc (rbox s (.slice A n c) (.slice D m d))).heap.size = w.heap.size + 1) := hide (by simp)
  have HCU := hide hcu
  have HCT := hide hct
  clear b1 hu ht hB hcu hct
  go_enter Tryz.func9, Tryz.ntmps9
  obtain ⟨p0, p1, p2⟩ := id y0
  go_wp2_with fail
  generalize (w.alloc (rbox s (.slice A n c) (.slice D m d))) = w1 at *
  generalize w.heap.size = gb at *
  clear p0 p1 p2
  have Y := hide y0
  clear y0
  go_loopw [2] (fun iv wr => ∃ k : Nat, k ≤ n ∧ iv = .int .i64 (k : Int) ∧ Spu B C w1 wr) (fun iv _ => n - (intOf iv).toNat)
  case atStart => exact ⟨0, Nat.zero_le _, rfl, Spu.refl _ _ _⟩
  case round =>
    obtain ⟨k, hk, rfl, hs⟩ := hrel
    have x0 := hs.1.cell Y.out.1 (by intro z e; cases e)
    have x1 := hs.1.cell Y.out.2.1 (by intro z e; cases e)
    have x2 := hs.1.cell Y.out.2.2 (by intro z e; cases e)
    by_cases hlt : k < n
    · rcases hs.1.wr U.out with h0 | ⟨b, off, e, hBb, hlb, hc⟩
      · exact absurd h0 (by show n ≠ 0; omega)
      · obtain rfl : A = some ⟨b, off, none⟩ := e
        obtain ⟨⟨z, hz⟩, hf⟩ := hc k hlt
        have hs2 := hide (hs.put hBb (HCU.out (by omega) _ _ rfl) hlb hz 238)
        clear hc hs U hlb
        go_wp2_with fail
        go_roundw
        case rel => exact ⟨k + 1, by omega, by go_num, hs2.out⟩
        case measure => simp [intOf]; omega
    · obtain rfl : n = k := by omega
      have hs1 := hide hs
      clear hs
      go_wp2_with fail
      clear x0 x1 x2
      obtain ⟨wo, hwo⟩ : ∃ wo, wo = wr := ⟨_, rfl⟩
      subst hwo
      go_loopw [3] (fun iv wr => ∃ k : Nat, k ≤ m ∧ iv = .int .i64 (k : Int) ∧ Spu B C w1 wr) (fun iv _ => m - (intOf iv).toNat)
      case atStart => exact ⟨0, Nat.zero_le _, rfl, hs1.out⟩
      case round =>
        obtain ⟨k, hk, rfl, hs⟩ := hrel
        have x0 := hs.1.cell Y.out.1 (by intro z e; cases e)
        have x1 := hs.1.cell Y.out.2.1 (by intro z e; cases e)
        have x2 := hs.1.cell Y.out.2.2 (by intro z e; cases e)
        by_cases hlt : k < m
        · rcases hs.1.wr V.out with h0 | ⟨b, off, e, hBb, hlb, hc⟩
          · exact absurd h0 (by show m ≠ 0; omega)
          · obtain rfl : D = some ⟨b, off, none⟩ := e
            obtain ⟨⟨z, hz⟩, hf⟩ := hc k hlt
            have hs2 := hide (hs.put hBb (HCT.out (by omega) _ _ rfl) hlb hz 238)
            clear hc hs V hlb
            go_wp2_with fail
            go_roundw
            case rel => exact ⟨k + 1, by omega, by go_num, hs2.out⟩
            case measure => simp [intOf]; omega
        · obtain rfl : m = k := by omega
          go_wp2_with fail
          go_end0
          exact ⟨rfl, S0.out.trans hs⟩
end Go.Proofs.YtpfeacdhplbblaaGreat
