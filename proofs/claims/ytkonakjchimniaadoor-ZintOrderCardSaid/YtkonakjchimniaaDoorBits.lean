/-
  Words of 64 bits: sums with carry, differences with borrow, products, each told by numbers.
-/
import Derived.Test.YtkonakjchimniaaDoorBase
import Derived.Laws.Externs
import Derived.Laws.Bits64b
import Derived.Lib.Mul64
import Derived.Shelf.Bits.Mul64
import Derived.Shelf.Spec.BitsCarry
namespace Go.Proofs.YtkonakjchimniaaDoor
open Go.RowKit Go.Proofs.YtkonakjchimniaaDoor.Num
set_option linter.unusedVariables false

/-- The base of words. -/
def Q : Nat := 18446744073709551616
theorem Q_eq : Q = 18446744073709551616 := rfl
theorem Q_two : 2 ≤ Q := by unfold Q; omega
theorem Q_pos : 0 < Q := by unfold Q; omega

def addLo (x y c : Nat) : Nat := (x + y + c) % Q
def addCy (x y c : Nat) : Nat := (x + y + c) / Q
def subLo (x y b : Nat) : Nat := (x + Q - y - b) % Q
def subBw (x y b : Nat) : Nat := if x < y + b then 1 else 0
def mulHi (x y : Nat) : Nat := x * y / Q
def mulLo (x y : Nat) : Nat := x * y % Q

theorem add_spec (x y c : Nat) : addLo x y c + Q * addCy x y c = x + y + c := by unfold addLo addCy; exact Nat.mod_add_div _ _
theorem addLo_lt (x y c : Nat) : addLo x y c < Q := Nat.mod_lt _ Q_pos
theorem addCy_le {x y c : Nat} (hx : x < Q) (hy : y < Q) (hc : c ≤ 1) : addCy x y c ≤ 1 := by
  unfold addCy Q at *; omega
theorem sub_spec {x y b : Nat} (hy : y < Q) (hx : x < Q) (hb : b ≤ 1) : subLo x y b + y + b = x + Q * subBw x y b := by
  unfold subLo subBw Q at *
  split <;> omega
theorem subLo_lt (x y b : Nat) : subLo x y b < Q := Nat.mod_lt _ Q_pos
theorem subBw_le (x y b : Nat) : subBw x y b ≤ 1 := by unfold subBw; split <;> omega
theorem mul_spec (x y : Nat) : mulLo x y + Q * mulHi x y = x * y := by unfold mulLo mulHi; exact Nat.mod_add_div _ _
theorem mulLo_lt (x y : Nat) : mulLo x y < Q := Nat.mod_lt _ Q_pos
theorem mulHi_lt {x y : Nat} (hx : x < Q) (hy : y < Q) : mulHi x y < Q := by
  unfold mulHi
  rw [Nat.div_lt_iff_lt_mul Q_pos]
  exact Nat.mul_lt_mul'' hx hy
/-- A word times a word, two words added: no more than two words. -/
theorem mul_add_two {x y c d : Nat} (hx : x < Q) (hy : y < Q) (hc : c < Q) (hd : d < Q) : x * y + c + d < Q * Q := by
  have h : x * y ≤ (Q - 1) * (Q - 1) := Nat.mul_le_mul (by omega) (by omega)
  have e : (Q - 1) * (Q - 1) + (Q - 1) + (Q - 1) + 1 = Q * Q := by unfold Q; rfl
  omega

theorem add64 (x y c : Nat) (hc : c ≤ 1) (w : World) : (callFunc 95 #[.int .u64 (x : Int), .int .u64 (y : Int), .int .u64 (c : Int)]).run Tryd.prog w =
    .ok (.value (.tuple #[.int .u64 ((addLo x y c : Nat) : Int), .int .u64 ((addCy x y c : Nat) : Int)])) w := by
  rw [run_callFunc_extern Tryd.func95 (by kernel_rfl) (by kernel_rfl) (by kernel_rfl) (e := add64Entry) (by kernel_rfl), run_add64 x y c (by omega) (by omega) (by omega) (by omega)]
  simp only [Result.andThen]
  have e1 : ((addLo x y c : Nat) : Int) = ((x : Int) + y + c) % 18446744073709551616 := by unfold addLo Q; omega
  have e2 : ((addCy x y c : Nat) : Int) = ((x : Int) + y + c) / 18446744073709551616 := by unfold addCy Q; omega
  rw [e1, e2]
theorem add64_0 (x y : Nat) (w : World) : (callFunc 95 #[.int .u64 (x : Int), .int .u64 (y : Int), .int .u64 0]).run Tryd.prog w =
    .ok (.value (.tuple #[.int .u64 ((addLo x y 0 : Nat) : Int), .int .u64 ((addCy x y 0 : Nat) : Int)])) w := add64 x y 0 (by omega) w
theorem sub64 (x y b : Nat) (hb : b ≤ 1) (w : World) : (callFunc 96 #[.int .u64 (x : Int), .int .u64 (y : Int), .int .u64 (b : Int)]).run Tryd.prog w =
    .ok (.value (.tuple #[.int .u64 ((subLo x y b : Nat) : Int), .int .u64 ((subBw x y b : Nat) : Int)])) w := by
  rw [run_callFunc_extern Tryd.func96 (by kernel_rfl) (by kernel_rfl) (by kernel_rfl) (e := sub64Entry) (by kernel_rfl), run_sub64 x y b hb]
  rfl

set_option maxHeartbeats 1000000 in
theorem mul64 (x y : Nat) (hx : x < Q) (hy : y < Q) (w : World) :
    Calls Tryd.prog 94 #[.int .u64 (x : Int), .int .u64 (y : Int)] w fun e w' => e = .returned (.tuple #[.int .u64 ((mulHi x y : Nat) : Int), .int .u64 ((mulLo x y : Nat) : Int)]) ∧ w = w' := by
  unfold Q at hx hy
  obtain ⟨bd, bt, bw, hhi⟩ := Lib.mul64_hi x y hx hy
  have ba := Lib.half_mul_le (a := x / 4294967296) (b := y / 4294967296) (by omega) (by omega)
  have bb := Lib.half_mul_le (a := x / 4294967296) (b := y % 4294967296) (by omega) (by omega)
  have bc := Lib.half_mul_le (a := x % 4294967296) (b := y / 4294967296) (by omega) (by omega)
  have ba' : x / 4294967296 * (y / 4294967296) < 18446744073709551616 := by omega
  have bb' : x / 4294967296 * (y % 4294967296) < 18446744073709551616 := by omega
  have bc' : x % 4294967296 * (y / 4294967296) < 18446744073709551616 := by omega
  have bh1 : x / 4294967296 * (y / 4294967296) + (x / 4294967296 * (y % 4294967296) + x % 4294967296 * (y % 4294967296) / 4294967296) / 4294967296 < 18446744073709551616 := by omega
  have bh : x / 4294967296 * (y / 4294967296) + (x / 4294967296 * (y % 4294967296) + x % 4294967296 * (y % 4294967296) / 4294967296) / 4294967296 + ((x / 4294967296 * (y % 4294967296) + x % 4294967296 * (y % 4294967296) / 4294967296) % 4294967296 + x % 4294967296 * (y / 4294967296)) / 4294967296 < 18446744073709551616 := by omega
  go_enter Tryd.func94, Tryd.ntmps94
  go_wp2
  simp only [Mul64.maskN x hx, Mul64.maskN y hy, Mul64.divN, Mul64.mulN, Mul64.addN, Mul64.wrapN _ bd, Mul64.wrapN _ bb', Mul64.wrapN _ bt, Mul64.maskN _ bt, Mul64.wrapN _ bc', Mul64.wrapN _ bw, Mul64.wrapN _ ba', Mul64.wrapN _ bh1, Mul64.wrapN _ bh, Mul64.wrapM (x * y)]
  rw [hhi]
  go_ret2
  exact ⟨rfl, rfl⟩
end Go.Proofs.YtkonakjchimniaaDoor
