/- Arrays of three whole numbers, and of three of these, compared. -/
import Derived.Test.YtngdhmliohjigaaDoorA
import Derived.Laws.StructEq
import Derived.Laws.Tables
import Derived.Laws.Cover2
import Derived.KernelRfl
import Derived.BigQuiet
import Derived.Deep.QuietTactic
namespace Go.Proofs.YtngdhmliohjigaaDoor
open Go.RowKit
theorem belowQ {B n : Nat} {w W : World} (h : Below B w W) : Below B w (W.drewN n) := ⟨h.os, h.tape, h.output, h.size, h.block⟩
theorem eq25 (d : Nat) (a b c x y z : Int) (w : World) : (Op.equalIn (d + 2) 25 (.agg #[.int .i64 a, .int .i64 b, .int .i64 c]) (.agg #[.int .i64 x, .int .i64 y, .int .i64 z])).run Tryd.prog w = .ok (a == x && b == y && c == z) w := by
  have u3 := Tryd.underlying3
  have a3 := Tryd.isAgg3
  have z3 := Tryd.sizeOf3
  rw [show d + 2 = (d + 1) + 1 from rfl, Op.equalIn]
  simp only [Sem.run_bind, run_underlying Tryd.underlying25, Result.andThen_ok]
  simp only [Std.Legacy.Range.forIn_eq_forIn_range', Std.Legacy.Range.size, Nat.sub_zero, Nat.add_sub_cancel, Nat.div_one, List.range'_succ, List.range'_zero, List.forIn_cons, List.forIn_nil]
  go_simp
  by_cases h1 : a = x <;> by_cases h2 : b = y <;> by_cases h3 : c = z <;> simp [h1, h2, h3]
theorem eq27 (d : Nat) (l0 l1 l2 l3 l4 l5 l6 l7 l8 m0 m1 m2 m3 m4 m5 m6 m7 m8 : Int) (w : World) : (Op.equalIn (d + 3) 27 (.agg #[.int .i64 l0, .int .i64 l1, .int .i64 l2, .int .i64 l3, .int .i64 l4, .int .i64 l5, .int .i64 l6, .int .i64 l7, .int .i64 l8]) (.agg #[.int .i64 m0, .int .i64 m1, .int .i64 m2, .int .i64 m3, .int .i64 m4, .int .i64 m5, .int .i64 m6, .int .i64 m7, .int .i64 m8])).run Tryd.prog w = .ok ((l0 == m0 && l1 == m1 && l2 == m2) && (l3 == m3 && l4 == m4 && l5 == m5) && (l6 == m6 && l7 == m7 && l8 == m8)) w := by
  have a25 := Tryd.isAgg25
  have z25 := Tryd.sizeOf25
  have e0 := eq25 d l0 l1 l2 m0 m1 m2
  have e1 := eq25 d l3 l4 l5 m3 m4 m5
  have e2 := eq25 d l6 l7 l8 m6 m7 m8
  rw [show d + 3 = (d + 2) + 1 from rfl, Op.equalIn]
  simp only [Sem.run_bind, run_underlying Tryd.underlying27, Result.andThen_ok]
  simp only [Std.Legacy.Range.forIn_eq_forIn_range', Std.Legacy.Range.size, Nat.sub_zero, Nat.add_sub_cancel, Nat.div_one, List.range'_succ, List.range'_zero, List.forIn_cons, List.forIn_nil]
  generalize hx : (l0 == m0 && l1 == m1 && l2 == m2) = X at *
  generalize hy : (l3 == m3 && l4 == m4 && l5 == m5) = Y at *
  generalize hz : (l6 == m6 && l7 == m7 && l8 == m8) = Z at *
  clear hx hy hz
  cases X <;> cases Y <;> cases Z <;> go_simp
theorem same27 (l0 l1 l2 l3 l4 l5 l6 l7 l8 : Int) (w : World) : (Op.equalIn 10000 27 (.agg #[.int .i64 l0, .int .i64 l1, .int .i64 l2, .int .i64 l3, .int .i64 l4, .int .i64 l5, .int .i64 l6, .int .i64 l7, .int .i64 l8]) (.agg #[.int .i64 l0, .int .i64 l1, .int .i64 l2, .int .i64 l3, .int .i64 l4, .int .i64 l5, .int .i64 l6, .int .i64 l7, .int .i64 l8])).run Tryd.prog w = .ok true w := by
  rw [show (10000 : Nat) = 9997 + 3 from rfl, eq27]
  simp
theorem eql27 (l0 l1 l2 l3 l4 l5 l6 l7 l8 : Int) (w : World) : (binOp .eql 27 (.agg #[.int .i64 l0, .int .i64 l1, .int .i64 l2, .int .i64 l3, .int .i64 l4, .int .i64 l5, .int .i64 l6, .int .i64 l7, .int .i64 l8]) (.agg #[.int .i64 l0, .int .i64 l1, .int .i64 l2, .int .i64 l3, .int .i64 l4, .int .i64 l5, .int .i64 l6, .int .i64 l7, .int .i64 l8])).run Tryd.prog w = .ok (.bool true) w := by
  rw [run_eql_struct, same27]
  rfl
theorem neq27 (l0 l1 l2 l3 l4 l5 l6 l7 l8 : Int) (w : World) : (binOp .neq 27 (.agg #[.int .i64 l0, .int .i64 l1, .int .i64 l2, .int .i64 l3, .int .i64 l4, .int .i64 l5, .int .i64 l6, .int .i64 l7, .int .i64 l8]) (.agg #[.int .i64 l0, .int .i64 l1, .int .i64 l2, .int .i64 l3, .int .i64 l4, .int .i64 l5, .int .i64 l6, .int .i64 l7, .int .i64 l8])).run Tryd.prog w = .ok (.bool false) w := by
  rw [run_neq_struct, same27]
  rfl
end Go.Proofs.YtngdhmliohjigaaDoor
