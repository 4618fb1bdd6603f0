/-
  The parts: power, long.
-/
import Derived.Test.YtajjpepjbflojaaGreatDoorRtx3

namespace Go.Proofs.YtajjpepjbflojaaGreatDoor
open Go.RowKit Go.Proofs.YtajjpepjbflojaaGreatDoor.Num
set_option linter.unusedVariables false
set_option maxRecDepth 100000

/-- The variable that Atoi's error of size takes is there. -/
def Ev (w : World) : Prop := ∃ ev, w.cell? ⟨4, 0, none⟩ = some ev ∧ (ev = .nilIface ∨ ∃ te pe, ev = .iface te pe)
theorem Ev.step {w w' : World} (h : Ev w) (hb : Below w.heap.size w w') : Ev w' := by
  obtain ⟨ev, h1, h2⟩ := h
  exact ⟨ev, cell_keep h1 hb, h2⟩
theorem cat48 (X : ByteArray) : ((⟨#[48]⟩ : ByteArray) ++ X).data.toList = 48 :: X.data.toList := by
  rw [ByteArray.data_append]
  simp
theorem atoi_x {w : World} {X : ByteArray} {l : List UInt8} (hX : X.data.toList = l) (hd : allDig l = true) (hl : X.size ≤ 200) (he : Ev w) :
    Calls Tryz.prog 70 #[.string ((⟨#[48]⟩ : ByteArray) ++ X)] w fun e w' => ∃ er, e = .returned (.tuple #[.int .i64 (pw l), er]) ∧ Below w.heap.size w w' := by
  have hc : ((⟨#[48]⟩ : ByteArray) ++ X).data.toList = 48 :: l := by rw [cat48, hX]
  have hs : ((⟨#[48]⟩ : ByteArray) ++ X).size ≤ 1000 := by rw [bsize, hc, List.length_cons, ← hX, ← bsize]; omega
  by_cases h : dval l < 9223372036854775808
  · have h1 := Tryz.strconv_Atoi_ok ((⟨#[48]⟩ : ByteArray) ++ X) (by omega) (dval l : Int) (by rw [hc, atoi_dig hd, if_pos h]) w
    have e : pw l = (dval l : Int) := by unfold pw; rw [if_pos h]
    rw [e]
    exact h1.mono fun e w' ⟨a, b⟩ => ⟨_, a, b⟩
  · obtain ⟨ev, hv, hev⟩ := he
    have h1 := Tryz.strconv_Atoi_range ((⟨#[48]⟩ : ByteArray) ++ X) (by omega) (by rw [hc, atoi_dig hd, if_neg h]) ev w hv hev
    have e : pw l = 9223372036854775807 := by unfold pw; rw [if_neg h]
    rw [hc, atoi_sat] at h1
    rw [e]
    exact h1

theorem pbox (w : World) (a b c d f x : ByteArray) : PB (w.alloc (pblk a b c d f x)) w.heap.size a b c d f x := heap_alloc_new w _

set_option maxHeartbeats 1000000 in
theorem power_any {w : World} {p : Pts} {v : Value} (hp : Pv p v) (hd : allDig p.ex = true) (hl : p.ex.length ≤ 200) (he : Ev w) :
    Calls Tryz.prog 51 #[v] w fun e w' => e = .returned (.int .i64 (pw p.ex)) ∧ Below w.heap.size w w' := by
  obtain ⟨a, b, c, d, f, x, rfl, -, -, -, -, -, hx⟩ := hp
  have b0 : Below w.heap.size w (w.alloc (pblk a b c d f x)) := (Below.refl _ _).alloc (Nat.le_refl _) _
  have AT := hide (atoi_x hx hd (by rw [bsize, hx]; exact hl) (he.step b0))
  have B := hide b0
  obtain ⟨-, -, -, -, -, p5⟩ := (pbox w a b c d f x).cells6
  have hs : x.size ≤ 1000 := by rw [bsize, hx]; omega
  clear b0 hx hd hl he
  go_enter Tryz.func51, Tryz.ntmps51
  go_wp2_with fail
  refine AT.out.mono ?_
  rintro e w1 ⟨er, rfl, b1⟩
  have B := hide (Below.step B.out B.out.size b1)
  clear b1 AT p5
  go_wp2_with fail
  go_ret
  exact ⟨rfl, B.out⟩

set_option maxHeartbeats 2000000 in
theorem long_any {w : World} {p : Pts} {v : Value} (hp : Pv p v) (hd : allDig p.ex = true) (h1 : p.ah.length ≤ 1000000000000000000) (h2 : p.un.length ≤ 1000000000000000000) (h3 : p.be.length ≤ 1000000000000000000) (h4 : p.ex.length ≤ 1000000000000000000) (he : Ev w) :
    Calls Tryz.prog 30 #[v] w fun e w' => e = .returned (.bool p.long) ∧ Below w.heap.size w w' := by
  have hp0 := hp
  obtain ⟨a, b, c, d, f, x, rfl, -, hb, hc, hdd, -, hx⟩ := hp
  have b0 : Below w.heap.size w (w.alloc (pblk a b c d f x)) := (Below.refl _ _).alloc (Nat.le_refl _) _
  have B := hide b0
  obtain ⟨p0, p1, p2, p3, p4, p5⟩ := (pbox w a b c d f x).cells6
  have s1 : b.size ≤ 1000000000000000000 := by rw [bsize, hb]; exact h1
  have s2 : c.size ≤ 1000000000000000000 := by rw [bsize, hc]; exact h2
  have s3 : d.size ≤ 1000000000000000000 := by rw [bsize, hdd]; exact h3
  have s4 : x.size ≤ 1000000000000000000 := by rw [bsize, hx]; exact h4
  have hcount : p.count = b.size + c.size + d.size + x.size := by unfold Pts.count; rw [bsize, bsize, bsize, bsize, hb, hc, hdd, hx]
  by_cases hbig : 200 < p.count
  · have e : p.long = true := by unfold Pts.long; rw [Bool.or_eq_true]; exact Or.inl (decide_eq_true hbig)
    have t1 : decide ((200 : Int) < (b.size : Int) + (c.size : Int) + (d.size : Int) + (x.size : Int)) = true := decide_eq_true (by omega)
    rw [e]
    clear h1 h2 h3 h4 hb hc hdd hx hcount hbig e b0 he hd hp0
    go_enter Tryz.func30, Tryz.ntmps30
    go_wp2_with fail
    go_ret
    exact ⟨rfl, B.out⟩
  · have hxl : p.ex.length ≤ 200 := by unfold Pts.count at hbig; omega
    have PW := hide (power_any hp0 hd hxl (he.step b0))
    have t1 : decide ((200 : Int) < (b.size : Int) + (c.size : Int) + (d.size : Int) + (x.size : Int)) = false := decide_eq_false (by omega)
    obtain ⟨k, hk⟩ : ∃ k : Bool, decide (99 < pw p.ex) = k := ⟨_, rfl⟩
    obtain ⟨n, hn⟩ : ∃ n, pw p.ex = n := ⟨_, rfl⟩
    have e : p.long = k := by
      unfold Pts.long
      rw [decide_eq_false hbig, Bool.false_or, ← hk]
      exact decide_eq_decide.2 pw_lt.symm
    rw [e]
    rw [hn] at PW hk
    clear h1 h2 h3 h4 hb hc hdd hx hcount hbig e b0 he hd hp0 hn hxl
    go_enter Tryz.func30, Tryz.ntmps30
    go_wp2_with fail
    refine PW.out.mono ?_
    rintro e w1 ⟨rfl, b1⟩
    have B := hide (Below.step B.out B.out.size b1)
    clear b1 PW p0 p1 p2 p3 p4 p5
    go_wp2_with fail
    go_ret
    exact ⟨rfl, B.out⟩
end Go.Proofs.YtajjpepjbflojaaGreatDoor
