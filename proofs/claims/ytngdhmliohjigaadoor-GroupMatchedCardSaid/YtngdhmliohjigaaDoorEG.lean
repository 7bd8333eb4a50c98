/- Greatest common divisors, the program's and the reference's. -/
import Derived.Test.YtngdhmliohjigaaDoorLEX
import Derived.WalkKit
import Derived.Handy
import Derived.Deep.RegionHeld3
import Derived.Lib.Hide
import Derived.BigRegion
set_option linter.unusedVariables false
set_option linter.unusedSimpArgs false
set_option linter.unusedSectionVars false
set_option linter.unnecessarySimpa false
namespace Go.Proofs.YtngdhmliohjigaaDoor
open Go.RowKit

/-- The pair that the divisor's loop holds. -/
def GcdRel (a b : Int) (u v : Value) : Prop := ∃ x y : Int, Int.gcd x y = Int.gcd a b ∧ -1000000000000000000 ≤ x ∧ x ≤ 1000000000000000000 ∧ -1000000000000000000 ≤ y ∧ y ≤ 1000000000000000000 ∧ u = .int .i64 x ∧ v = .int .i64 y
theorem gcd_step (x y : Int) : Int.gcd y (x.tmod y) = Int.gcd x y := by
  have e := Int.mul_tdiv_add_tmod x y
  have e2 : x.tmod y = x - y * (x.tdiv y) := by omega
  rw [e2, Int.gcd_sub_mul_left_right, Int.gcd_comm]
theorem tmod_abs (x y : Int) (hy : y ≠ 0) : (x.tmod y).natAbs < y.natAbs := by
  rw [Int.natAbs_tmod]
  exact Nat.mod_lt _ (by omega)
set_option maxHeartbeats 400000 in
theorem divisor_any (a b : Int) (w : World) (a0 : -1000000000000000000 ≤ a) (a1 : a ≤ 1000000000000000000) (b0 : -1000000000000000000 ≤ b) (b1 : b ≤ 1000000000000000000) :
    Calls Tryd.prog 141 #[.int .i64 a, .int .i64 b] w fun e w' => e = .returned (.int .i64 (Int.gcd a b)) ∧ Below w.heap.size w w' := by
  go_enter Tryd.func141, Tryd.ntmps141
  go_wp2
  go_loopw [0, 1] (fun u v wr => GcdRel a b u v ∧ Below w.heap.size w wr) (fun _ v _ => (intOf v).natAbs)
  case atStart => exact ⟨⟨a, b, rfl, a0, a1, b0, b1, rfl, rfl⟩, Below.refl _ _⟩
  case round =>
    obtain ⟨⟨x, y, hg, x0, x1, y0, y1, rfl, rfl⟩, hB⟩ := hrel
    have Hg := Lib.hid hg
    clear hg
    by_cases hy : y = 0
    · subst hy
      go_wp2
      all_goals go_returns
      all_goals (refine ⟨?_, by go_grown⟩; rw [← Hg.out, Int.gcd_zero_right])
      all_goals (first | exact congrArg (fun z => Ending.returned (Value.int IntKind.i64 z)) (show x = (x.natAbs : Int) by omega) | exact congrArg (fun z => Ending.returned (Value.int IntKind.i64 z)) (show -x = (x.natAbs : Int) by omega))
    · have ty : (y != 0) = true := by simpa using hy
      have Hy := Lib.hid hy
      go_wp2
      go_region
      go_wp2
      go_roundw
      case rel => exact ⟨⟨y, x.tmod y, by rw [gcd_step, Hg.out], y0, y1, by have := tmod_abs x y Hy.out; omega, by have := tmod_abs x y Hy.out; omega, rfl, rfl⟩, by go_grown⟩
      case measure => simp only [intOf]; exact tmod_abs x y Hy.out
set_option maxHeartbeats 400000 in
theorem size_any (x : Int) (w : World) (x0 : -1000000000000000000 ≤ x) (x1 : x ≤ 1000000000000000000) :
    Calls Tryd.prog 41 #[.int .i64 x] w fun e w' => e = .returned (.int .i64 (x.natAbs : Int)) ∧ Below w.heap.size w w' := by
  go_enter Tryd.func41, Tryd.ntmps41
  go_wp2
  all_goals go_returns
  all_goals (refine ⟨?_, by go_grown⟩)
  all_goals (first | exact congrArg (fun z => Ending.returned (Value.int IntKind.i64 z)) (show x = (x.natAbs : Int) by omega) | exact congrArg (fun z => Ending.returned (Value.int IntKind.i64 z)) (show -x = (x.natAbs : Int) by omega))
set_option maxHeartbeats 400000 in
theorem gcd_any (a b : Int) (w : World) (a0 : -1000000000000000000 ≤ a) (a1 : a ≤ 1000000000000000000) (b0 : -1000000000000000000 ≤ b) (b1 : b ≤ 1000000000000000000) :
    Calls Tryd.prog 130 #[.int .i64 a, .int .i64 b] w fun e w' => e = .returned (.int .i64 (Int.gcd a b)) ∧ Below w.heap.size w w' := by
  go_enter Tryd.func130, Tryd.ntmps130
  go_wp2
  go_loopw [0, 1] (fun u v wr => GcdRel a b u v ∧ Below w.heap.size w wr) (fun _ v _ => (intOf v).natAbs)
  case atStart => exact ⟨⟨a, b, rfl, a0, a1, b0, b1, rfl, rfl⟩, Below.refl _ _⟩
  case round =>
    obtain ⟨⟨x, y, hg, x0, x1, y0, y1, rfl, rfl⟩, hB⟩ := hrel
    have Hg := Lib.hid hg
    clear hg
    by_cases hy : y = 0
    · subst hy
      go_wp2_with (go_at_call 41; refine (size_any x _ x0 x1).mono ?_; rintro e w1 ⟨rfl, hb⟩; have qb : Below w.heap.size w w1 := hB.trans (hb.mono hB.size))
      all_goals go_returns
      all_goals (refine ⟨?_, by first | assumption | go_grown⟩; rw [← Hg.out, Int.gcd_zero_right]; rfl)
    · have ty : (y != 0) = true := by simpa using hy
      have Hy := Lib.hid hy
      go_wp2
      go_region
      go_wp2
      go_roundw
      case rel => exact ⟨⟨y, x.tmod y, by rw [gcd_step, Hg.out], y0, y1, by have := tmod_abs x y Hy.out; omega, by have := tmod_abs x y Hy.out; omega, rfl, rfl⟩, by go_grown⟩
      case measure => simp only [intOf]; exact tmod_abs x y Hy.out
theorem divisor_c (a b : Int) (a0 : -1000000000000000000 ≤ a) (a1 : a ≤ 1000000000000000000) (b0 : -1000000000000000000 ≤ b) (b1 : b ≤ 1000000000000000000) : Con 141 [.int .i64 a, .int .i64 b] (.int .i64 (Int.gcd a b)) := fun w _ => divisor_any a b w a0 a1 b0 b1
theorem gcd_c (a b : Int) (a0 : -1000000000000000000 ≤ a) (a1 : a ≤ 1000000000000000000) (b0 : -1000000000000000000 ≤ b) (b1 : b ≤ 1000000000000000000) : Con 130 [.int .i64 a, .int .i64 b] (.int .i64 (Int.gcd a b)) := fun w _ => gcd_any a b w a0 a1 b0 b1
end Go.Proofs.YtngdhmliohjigaaDoor
