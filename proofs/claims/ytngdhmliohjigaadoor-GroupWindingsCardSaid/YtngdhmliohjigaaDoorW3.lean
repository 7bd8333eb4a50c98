/- THE LAW OF WINDINGS: its walk, for a valid winding and for one that is not. -/
import Derived.Test.YtngdhmliohjigaaDoorW2
import Derived.Test.YtngdhmliohjigaaDoorU
import Derived.Test.YtngdhmliohjigaaDoorEQ
namespace Go.Proofs.YtngdhmliohjigaaDoor
open Go.RowKit
set_option maxRecDepth 100000 in
set_option maxHeartbeats 8000000 in
theorem windings_bad (k n s E : Int) (r : Bool) (w : World) (ht : Tabs w) (tE : (E != 0) = true) (KL : Hid (∀ w, Calls Tryd.prog 17 #[.agg #[.int .i64 k, .int .i64 n, .int .i64 s, .bool r]] w fun e w' => e = .returned (.tuple #[.agg #[.int .i64 0, .int .i64 0, .int .i64 0, .int .i64 0, .int .i64 0, .int .i64 0, .int .i64 0, .int .i64 0, .int .i64 0], .int .i64 E]) ∧ Below w.heap.size w w')) (KZ : Hid (∀ w, Calls Tryd.prog 18 #[.agg #[.int .i64 k, .int .i64 n, .int .i64 s, .bool r]] w fun e w' => e = .returned (.tuple #[.int .i64 0, .int .i64 E]) ∧ Below w.heap.size w w')) (KE : Hid (∀ w, Calls Tryd.prog 19 #[.agg #[.int .i64 k, .int .i64 n, .int .i64 s, .bool r]] w fun e w' => e = .returned (.int .i64 E) ∧ Below w.heap.size w w')) (KC : Hid (∀ w, Calls Tryd.prog 20 #[.agg #[.int .i64 k, .int .i64 n, .int .i64 s, .bool r]] w fun e w' => e = .returned (.int .i64 E) ∧ Below w.heap.size w w')) :
    Calls Tryd.prog 3 #[.agg #[.int .i64 k, .int .i64 n, .int .i64 s, .bool r]] w fun e w' => e = .returned (.bool true) ∧ Below w.heap.size w w' := by
  have s27 := same27 0 0 0 0 0 0 0 0 0
  go_enter Tryd.func3, Tryd.ntmps3
  go_wp2_with fail
  refine (awake_any _ (ht.below (by go_grown))).mono ?_
  rintro e w1 ⟨rfl, hb1⟩
  have p1xb : Below w.heap.size w w1 := belowT (by first | (go_grown; done) | exact And.left (by assumption)) hb1
  have p1x0 : w1.cell? ⟨w.heap.size, 0, none⟩ = some (.int .i64 k) := keep1 hb1 (by first | (with_reducible assumption) | (go_simp; done) | ((repeat' (first | (with_reducible assumption) | refine allocC ?_ | refine drewC ?_)); done) | (go_keep; done))
  have p1x1 : w1.cell? ⟨w.heap.size, 1, none⟩ = some (.int .i64 n) := keep1 hb1 (by first | (with_reducible assumption) | (go_simp; done) | ((repeat' (first | (with_reducible assumption) | refine allocC ?_ | refine drewC ?_)); done) | (go_keep; done))
  have p1x2 : w1.cell? ⟨w.heap.size, 2, none⟩ = some (.int .i64 s) := keep1 hb1 (by first | (with_reducible assumption) | (go_simp; done) | ((repeat' (first | (with_reducible assumption) | refine allocC ?_ | refine drewC ?_)); done) | (go_keep; done))
  have p1x3 : w1.cell? ⟨w.heap.size, 3, none⟩ = some (.bool r) := keep1 hb1 (by first | (with_reducible assumption) | (go_simp; done) | ((repeat' (first | (with_reducible assumption) | refine allocC ?_ | refine drewC ?_)); done) | (go_keep; done))
  have p1xz0 : w.heap.size < w1.heap.size := block_lt p1x0
  have p1xs := p1xb.size
  go_wp2_with fail
  refine (KL.out _).mono ?_
  rintro e w2 ⟨rfl, hb2⟩
  have p2xb : Below w.heap.size w w2 := belowT (by first | (go_grown; done) | exact And.left (by assumption)) hb2
  have p2x0 : w2.cell? ⟨w.heap.size, 0, none⟩ = some (.int .i64 k) := keep1 hb2 (by first | (with_reducible assumption) | (go_simp; done) | ((repeat' (first | (with_reducible assumption) | refine allocC ?_ | refine drewC ?_)); done) | (go_keep; done))
  have p2x1 : w2.cell? ⟨w.heap.size, 1, none⟩ = some (.int .i64 n) := keep1 hb2 (by first | (with_reducible assumption) | (go_simp; done) | ((repeat' (first | (with_reducible assumption) | refine allocC ?_ | refine drewC ?_)); done) | (go_keep; done))
  have p2x2 : w2.cell? ⟨w.heap.size, 2, none⟩ = some (.int .i64 s) := keep1 hb2 (by first | (with_reducible assumption) | (go_simp; done) | ((repeat' (first | (with_reducible assumption) | refine allocC ?_ | refine drewC ?_)); done) | (go_keep; done))
  have p2x3 : w2.cell? ⟨w.heap.size, 3, none⟩ = some (.bool r) := keep1 hb2 (by first | (with_reducible assumption) | (go_simp; done) | ((repeat' (first | (with_reducible assumption) | refine allocC ?_ | refine drewC ?_)); done) | (go_keep; done))
  have p2xz0 : w.heap.size < w2.heap.size := block_lt p2x0
  have p2xs := p2xb.size
  go_wp2_with fail
  refine (KZ.out _).mono ?_
  rintro e w3 ⟨rfl, hb3⟩
  have p3xb : Below w.heap.size w w3 := belowT (by first | (go_grown; done) | exact And.left (by assumption)) hb3
  have p3x0 : w3.cell? ⟨w.heap.size, 0, none⟩ = some (.int .i64 k) := keep1 hb3 (by first | (with_reducible assumption) | (go_simp; done) | ((repeat' (first | (with_reducible assumption) | refine allocC ?_ | refine drewC ?_)); done) | (go_keep; done))
  have p3x1 : w3.cell? ⟨w.heap.size, 1, none⟩ = some (.int .i64 n) := keep1 hb3 (by first | (with_reducible assumption) | (go_simp; done) | ((repeat' (first | (with_reducible assumption) | refine allocC ?_ | refine drewC ?_)); done) | (go_keep; done))
  have p3x2 : w3.cell? ⟨w.heap.size, 2, none⟩ = some (.int .i64 s) := keep1 hb3 (by first | (with_reducible assumption) | (go_simp; done) | ((repeat' (first | (with_reducible assumption) | refine allocC ?_ | refine drewC ?_)); done) | (go_keep; done))
  have p3x3 : w3.cell? ⟨w.heap.size, 3, none⟩ = some (.bool r) := keep1 hb3 (by first | (with_reducible assumption) | (go_simp; done) | ((repeat' (first | (with_reducible assumption) | refine allocC ?_ | refine drewC ?_)); done) | (go_keep; done))
  have p3x4 : w3.cell? ⟨w2.heap.size, 0, none⟩ = some (.int .i64 0) := keep1 hb3 (by first | (with_reducible assumption) | (go_simp; done) | ((repeat' (first | (with_reducible assumption) | refine allocC ?_ | refine drewC ?_)); done) | (go_keep; done))
  have p3x5 : w3.cell? ⟨w2.heap.size, 1, none⟩ = some (.int .i64 0) := keep1 hb3 (by first | (with_reducible assumption) | (go_simp; done) | ((repeat' (first | (with_reducible assumption) | refine allocC ?_ | refine drewC ?_)); done) | (go_keep; done))
  have p3x6 : w3.cell? ⟨w2.heap.size, 2, none⟩ = some (.int .i64 0) := keep1 hb3 (by first | (with_reducible assumption) | (go_simp; done) | ((repeat' (first | (with_reducible assumption) | refine allocC ?_ | refine drewC ?_)); done) | (go_keep; done))
  have p3x7 : w3.cell? ⟨w2.heap.size, 3, none⟩ = some (.int .i64 0) := keep1 hb3 (by first | (with_reducible assumption) | (go_simp; done) | ((repeat' (first | (with_reducible assumption) | refine allocC ?_ | refine drewC ?_)); done) | (go_keep; done))
  have p3x8 : w3.cell? ⟨w2.heap.size, 4, none⟩ = some (.int .i64 0) := keep1 hb3 (by first | (with_reducible assumption) | (go_simp; done) | ((repeat' (first | (with_reducible assumption) | refine allocC ?_ | refine drewC ?_)); done) | (go_keep; done))
  have p3x9 : w3.cell? ⟨w2.heap.size, 5, none⟩ = some (.int .i64 0) := keep1 hb3 (by first | (with_reducible assumption) | (go_simp; done) | ((repeat' (first | (with_reducible assumption) | refine allocC ?_ | refine drewC ?_)); done) | (go_keep; done))
  have p3x10 : w3.cell? ⟨w2.heap.size, 6, none⟩ = some (.int .i64 0) := keep1 hb3 (by first | (with_reducible assumption) | (go_simp; done) | ((repeat' (first | (with_reducible assumption) | refine allocC ?_ | refine drewC ?_)); done) | (go_keep; done))
  have p3x11 : w3.cell? ⟨w2.heap.size, 7, none⟩ = some (.int .i64 0) := keep1 hb3 (by first | (with_reducible assumption) | (go_simp; done) | ((repeat' (first | (with_reducible assumption) | refine allocC ?_ | refine drewC ?_)); done) | (go_keep; done))
  have p3x12 : w3.cell? ⟨w2.heap.size, 8, none⟩ = some (.int .i64 0) := keep1 hb3 (by first | (with_reducible assumption) | (go_simp; done) | ((repeat' (first | (with_reducible assumption) | refine allocC ?_ | refine drewC ?_)); done) | (go_keep; done))
  have p3xz0 : w.heap.size < w3.heap.size := block_lt p3x0
  have p3xz4 : w2.heap.size < w3.heap.size := block_lt p3x4
  have p3xs := p3xb.size
  go_wp2_with fail
  refine (KE.out _).mono ?_
  rintro e w4 ⟨rfl, hb4⟩
  have p4xb : Below w.heap.size w w4 := belowT (by first | (go_grown; done) | exact And.left (by assumption)) hb4
  have p4x0 : w4.cell? ⟨w.heap.size, 0, none⟩ = some (.int .i64 k) := keep1 hb4 (by first | (with_reducible assumption) | (go_simp; done) | ((repeat' (first | (with_reducible assumption) | refine allocC ?_ | refine drewC ?_)); done) | (go_keep; done))
  have p4x1 : w4.cell? ⟨w.heap.size, 1, none⟩ = some (.int .i64 n) := keep1 hb4 (by first | (with_reducible assumption) | (go_simp; done) | ((repeat' (first | (with_reducible assumption) | refine allocC ?_ | refine drewC ?_)); done) | (go_keep; done))
  have p4x2 : w4.cell? ⟨w.heap.size, 2, none⟩ = some (.int .i64 s) := keep1 hb4 (by first | (with_reducible assumption) | (go_simp; done) | ((repeat' (first | (with_reducible assumption) | refine allocC ?_ | refine drewC ?_)); done) | (go_keep; done))
  have p4x3 : w4.cell? ⟨w.heap.size, 3, none⟩ = some (.bool r) := keep1 hb4 (by first | (with_reducible assumption) | (go_simp; done) | ((repeat' (first | (with_reducible assumption) | refine allocC ?_ | refine drewC ?_)); done) | (go_keep; done))
  have p4x4 : w4.cell? ⟨w2.heap.size, 0, none⟩ = some (.int .i64 0) := keep1 hb4 (by first | (with_reducible assumption) | (go_simp; done) | ((repeat' (first | (with_reducible assumption) | refine allocC ?_ | refine drewC ?_)); done) | (go_keep; done))
  have p4x5 : w4.cell? ⟨w2.heap.size, 1, none⟩ = some (.int .i64 0) := keep1 hb4 (by first | (with_reducible assumption) | (go_simp; done) | ((repeat' (first | (with_reducible assumption) | refine allocC ?_ | refine drewC ?_)); done) | (go_keep; done))
  have p4x6 : w4.cell? ⟨w2.heap.size, 2, none⟩ = some (.int .i64 0) := keep1 hb4 (by first | (with_reducible assumption) | (go_simp; done) | ((repeat' (first | (with_reducible assumption) | refine allocC ?_ | refine drewC ?_)); done) | (go_keep; done))
  have p4x7 : w4.cell? ⟨w2.heap.size, 3, none⟩ = some (.int .i64 0) := keep1 hb4 (by first | (with_reducible assumption) | (go_simp; done) | ((repeat' (first | (with_reducible assumption) | refine allocC ?_ | refine drewC ?_)); done) | (go_keep; done))
  have p4x8 : w4.cell? ⟨w2.heap.size, 4, none⟩ = some (.int .i64 0) := keep1 hb4 (by first | (with_reducible assumption) | (go_simp; done) | ((repeat' (first | (with_reducible assumption) | refine allocC ?_ | refine drewC ?_)); done) | (go_keep; done))
  have p4x9 : w4.cell? ⟨w2.heap.size, 5, none⟩ = some (.int .i64 0) := keep1 hb4 (by first | (with_reducible assumption) | (go_simp; done) | ((repeat' (first | (with_reducible assumption) | refine allocC ?_ | refine drewC ?_)); done) | (go_keep; done))
  have p4x10 : w4.cell? ⟨w2.heap.size, 6, none⟩ = some (.int .i64 0) := keep1 hb4 (by first | (with_reducible assumption) | (go_simp; done) | ((repeat' (first | (with_reducible assumption) | refine allocC ?_ | refine drewC ?_)); done) | (go_keep; done))
  have p4x11 : w4.cell? ⟨w2.heap.size, 7, none⟩ = some (.int .i64 0) := keep1 hb4 (by first | (with_reducible assumption) | (go_simp; done) | ((repeat' (first | (with_reducible assumption) | refine allocC ?_ | refine drewC ?_)); done) | (go_keep; done))
  have p4x12 : w4.cell? ⟨w2.heap.size, 8, none⟩ = some (.int .i64 0) := keep1 hb4 (by first | (with_reducible assumption) | (go_simp; done) | ((repeat' (first | (with_reducible assumption) | refine allocC ?_ | refine drewC ?_)); done) | (go_keep; done))
  have p4xz0 : w.heap.size < w4.heap.size := block_lt p4x0
  have p4xz4 : w2.heap.size < w4.heap.size := block_lt p4x4
  have p4xs := p4xb.size
  go_wp2_with fail
  refine (KC.out _).mono ?_
  rintro e w5 ⟨rfl, hb5⟩
  have p5xb : Below w.heap.size w w5 := belowT (by first | (go_grown; done) | exact And.left (by assumption)) hb5
  have p5x0 : w5.cell? ⟨w.heap.size, 0, none⟩ = some (.int .i64 k) := keep1 hb5 (by first | (with_reducible assumption) | (go_simp; done) | ((repeat' (first | (with_reducible assumption) | refine allocC ?_ | refine drewC ?_)); done) | (go_keep; done))
  have p5x1 : w5.cell? ⟨w.heap.size, 1, none⟩ = some (.int .i64 n) := keep1 hb5 (by first | (with_reducible assumption) | (go_simp; done) | ((repeat' (first | (with_reducible assumption) | refine allocC ?_ | refine drewC ?_)); done) | (go_keep; done))
  have p5x2 : w5.cell? ⟨w.heap.size, 2, none⟩ = some (.int .i64 s) := keep1 hb5 (by first | (with_reducible assumption) | (go_simp; done) | ((repeat' (first | (with_reducible assumption) | refine allocC ?_ | refine drewC ?_)); done) | (go_keep; done))
  have p5x3 : w5.cell? ⟨w.heap.size, 3, none⟩ = some (.bool r) := keep1 hb5 (by first | (with_reducible assumption) | (go_simp; done) | ((repeat' (first | (with_reducible assumption) | refine allocC ?_ | refine drewC ?_)); done) | (go_keep; done))
  have p5x4 : w5.cell? ⟨w2.heap.size, 0, none⟩ = some (.int .i64 0) := keep1 hb5 (by first | (with_reducible assumption) | (go_simp; done) | ((repeat' (first | (with_reducible assumption) | refine allocC ?_ | refine drewC ?_)); done) | (go_keep; done))
  have p5x5 : w5.cell? ⟨w2.heap.size, 1, none⟩ = some (.int .i64 0) := keep1 hb5 (by first | (with_reducible assumption) | (go_simp; done) | ((repeat' (first | (with_reducible assumption) | refine allocC ?_ | refine drewC ?_)); done) | (go_keep; done))
  have p5x6 : w5.cell? ⟨w2.heap.size, 2, none⟩ = some (.int .i64 0) := keep1 hb5 (by first | (with_reducible assumption) | (go_simp; done) | ((repeat' (first | (with_reducible assumption) | refine allocC ?_ | refine drewC ?_)); done) | (go_keep; done))
  have p5x7 : w5.cell? ⟨w2.heap.size, 3, none⟩ = some (.int .i64 0) := keep1 hb5 (by first | (with_reducible assumption) | (go_simp; done) | ((repeat' (first | (with_reducible assumption) | refine allocC ?_ | refine drewC ?_)); done) | (go_keep; done))
  have p5x8 : w5.cell? ⟨w2.heap.size, 4, none⟩ = some (.int .i64 0) := keep1 hb5 (by first | (with_reducible assumption) | (go_simp; done) | ((repeat' (first | (with_reducible assumption) | refine allocC ?_ | refine drewC ?_)); done) | (go_keep; done))
  have p5x9 : w5.cell? ⟨w2.heap.size, 5, none⟩ = some (.int .i64 0) := keep1 hb5 (by first | (with_reducible assumption) | (go_simp; done) | ((repeat' (first | (with_reducible assumption) | refine allocC ?_ | refine drewC ?_)); done) | (go_keep; done))
  have p5x10 : w5.cell? ⟨w2.heap.size, 6, none⟩ = some (.int .i64 0) := keep1 hb5 (by first | (with_reducible assumption) | (go_simp; done) | ((repeat' (first | (with_reducible assumption) | refine allocC ?_ | refine drewC ?_)); done) | (go_keep; done))
  have p5x11 : w5.cell? ⟨w2.heap.size, 7, none⟩ = some (.int .i64 0) := keep1 hb5 (by first | (with_reducible assumption) | (go_simp; done) | ((repeat' (first | (with_reducible assumption) | refine allocC ?_ | refine drewC ?_)); done) | (go_keep; done))
  have p5x12 : w5.cell? ⟨w2.heap.size, 8, none⟩ = some (.int .i64 0) := keep1 hb5 (by first | (with_reducible assumption) | (go_simp; done) | ((repeat' (first | (with_reducible assumption) | refine allocC ?_ | refine drewC ?_)); done) | (go_keep; done))
  have p5xz0 : w.heap.size < w5.heap.size := block_lt p5x0
  have p5xz4 : w2.heap.size < w5.heap.size := block_lt p5x4
  have p5xs := p5xb.size
  go_wp2
  go_returns
  exact ⟨rfl, by first | (go_grown; done) | assumption⟩
set_option maxRecDepth 100000 in
set_option maxHeartbeats 8000000 in
theorem windings_good (k n s z c l0 l1 l2 l3 l4 l5 l6 l7 l8 : Int) (r : Bool) (w : World) (ht : Tabs w) (KL : Hid (∀ w, Tabs w → Calls Tryd.prog 17 #[.agg #[.int .i64 k, .int .i64 n, .int .i64 s, .bool r]] w fun e w' => e = .returned (.tuple #[.agg #[.int .i64 l0, .int .i64 l1, .int .i64 l2, .int .i64 l3, .int .i64 l4, .int .i64 l5, .int .i64 l6, .int .i64 l7, .int .i64 l8], .int .i64 0]) ∧ Below w.heap.size w w')) (KZ : Hid (∀ w, Calls Tryd.prog 18 #[.agg #[.int .i64 k, .int .i64 n, .int .i64 s, .bool r]] w fun e w' => e = .returned (.tuple #[.int .i64 z, .int .i64 c]) ∧ Below w.heap.size w w')) (KE : Hid (∀ w, Calls Tryd.prog 19 #[.agg #[.int .i64 k, .int .i64 n, .int .i64 s, .bool r]] w fun e w' => e = .returned (.int .i64 0) ∧ Below w.heap.size w w')) (KC : Hid (∀ w, Calls Tryd.prog 20 #[.agg #[.int .i64 k, .int .i64 n, .int .i64 s, .bool r]] w fun e w' => e = .returned (.int .i64 0) ∧ Below w.heap.size w w')) (KR : Hid (∀ w, Calls Tryd.prog 21 #[.agg #[.int .i64 k, .int .i64 n, .int .i64 s, .bool r]] w fun e w' => e = .returned (.tuple #[.int .i64 z, .int .i64 c]) ∧ Below w.heap.size w w')) (KM : Hid (∀ w, Calls Tryd.prog 22 #[.agg #[.int .i64 k, .int .i64 n, .int .i64 s, .bool r]] w fun e w' => e = .returned (.agg #[.int .i64 l0, .int .i64 l1, .int .i64 l2, .int .i64 l3, .int .i64 l4, .int .i64 l5, .int .i64 l6, .int .i64 l7, .int .i64 l8]) ∧ Below w.heap.size w w')) :
    Calls Tryd.prog 3 #[.agg #[.int .i64 k, .int .i64 n, .int .i64 s, .bool r]] w fun e w' => e = .returned (.bool true) ∧ Below w.heap.size w w' := by
  have s27 := same27 l0 l1 l2 l3 l4 l5 l6 l7 l8
  go_enter Tryd.func3, Tryd.ntmps3
  go_wp2_with fail
  refine (awake_any _ (ht.below (by go_grown))).mono ?_
  rintro e w1 ⟨rfl, hb1⟩
  have p1xb : Below w.heap.size w w1 := belowT (by first | (go_grown; done) | exact And.left (by assumption)) hb1
  have p1x0 : w1.cell? ⟨w.heap.size, 0, none⟩ = some (.int .i64 k) := keep1 hb1 (by first | (with_reducible assumption) | (go_simp; done) | ((repeat' (first | (with_reducible assumption) | refine allocC ?_ | refine drewC ?_)); done) | (go_keep; done))
  have p1x1 : w1.cell? ⟨w.heap.size, 1, none⟩ = some (.int .i64 n) := keep1 hb1 (by first | (with_reducible assumption) | (go_simp; done) | ((repeat' (first | (with_reducible assumption) | refine allocC ?_ | refine drewC ?_)); done) | (go_keep; done))
  have p1x2 : w1.cell? ⟨w.heap.size, 2, none⟩ = some (.int .i64 s) := keep1 hb1 (by first | (with_reducible assumption) | (go_simp; done) | ((repeat' (first | (with_reducible assumption) | refine allocC ?_ | refine drewC ?_)); done) | (go_keep; done))
  have p1x3 : w1.cell? ⟨w.heap.size, 3, none⟩ = some (.bool r) := keep1 hb1 (by first | (with_reducible assumption) | (go_simp; done) | ((repeat' (first | (with_reducible assumption) | refine allocC ?_ | refine drewC ?_)); done) | (go_keep; done))
  have p1xz0 : w.heap.size < w1.heap.size := block_lt p1x0
  have p1xs := p1xb.size
  go_wp2_with fail
  refine (KL.out _ (ht.below (by first | (with_reducible assumption) | (go_grown; done)))).mono ?_
  rintro e w2 ⟨rfl, hb2⟩
  have p2xb : Below w.heap.size w w2 := belowT (by first | (go_grown; done) | exact And.left (by assumption)) hb2
  have p2x0 : w2.cell? ⟨w.heap.size, 0, none⟩ = some (.int .i64 k) := keep1 hb2 (by first | (with_reducible assumption) | (go_simp; done) | ((repeat' (first | (with_reducible assumption) | refine allocC ?_ | refine drewC ?_)); done) | (go_keep; done))
  have p2x1 : w2.cell? ⟨w.heap.size, 1, none⟩ = some (.int .i64 n) := keep1 hb2 (by first | (with_reducible assumption) | (go_simp; done) | ((repeat' (first | (with_reducible assumption) | refine allocC ?_ | refine drewC ?_)); done) | (go_keep; done))
  have p2x2 : w2.cell? ⟨w.heap.size, 2, none⟩ = some (.int .i64 s) := keep1 hb2 (by first | (with_reducible assumption) | (go_simp; done) | ((repeat' (first | (with_reducible assumption) | refine allocC ?_ | refine drewC ?_)); done) | (go_keep; done))
  have p2x3 : w2.cell? ⟨w.heap.size, 3, none⟩ = some (.bool r) := keep1 hb2 (by first | (with_reducible assumption) | (go_simp; done) | ((repeat' (first | (with_reducible assumption) | refine allocC ?_ | refine drewC ?_)); done) | (go_keep; done))
  have p2xz0 : w.heap.size < w2.heap.size := block_lt p2x0
  have p2xs := p2xb.size
  go_wp2_with fail
  refine (KZ.out _).mono ?_
  rintro e w3 ⟨rfl, hb3⟩
  have p3xb : Below w.heap.size w w3 := belowT (by first | (go_grown; done) | exact And.left (by assumption)) hb3
  have p3x0 : w3.cell? ⟨w.heap.size, 0, none⟩ = some (.int .i64 k) := keep1 hb3 (by first | (with_reducible assumption) | (go_simp; done) | ((repeat' (first | (with_reducible assumption) | refine allocC ?_ | refine drewC ?_)); done) | (go_keep; done))
  have p3x1 : w3.cell? ⟨w.heap.size, 1, none⟩ = some (.int .i64 n) := keep1 hb3 (by first | (with_reducible assumption) | (go_simp; done) | ((repeat' (first | (with_reducible assumption) | refine allocC ?_ | refine drewC ?_)); done) | (go_keep; done))
  have p3x2 : w3.cell? ⟨w.heap.size, 2, none⟩ = some (.int .i64 s) := keep1 hb3 (by first | (with_reducible assumption) | (go_simp; done) | ((repeat' (first | (with_reducible assumption) | refine allocC ?_ | refine drewC ?_)); done) | (go_keep; done))
  have p3x3 : w3.cell? ⟨w.heap.size, 3, none⟩ = some (.bool r) := keep1 hb3 (by first | (with_reducible assumption) | (go_simp; done) | ((repeat' (first | (with_reducible assumption) | refine allocC ?_ | refine drewC ?_)); done) | (go_keep; done))
  have p3x4 : w3.cell? ⟨w2.heap.size, 0, none⟩ = some (.int .i64 l0) := keep1 hb3 (by first | (with_reducible assumption) | (go_simp; done) | ((repeat' (first | (with_reducible assumption) | refine allocC ?_ | refine drewC ?_)); done) | (go_keep; done))
  have p3x5 : w3.cell? ⟨w2.heap.size, 1, none⟩ = some (.int .i64 l1) := keep1 hb3 (by first | (with_reducible assumption) | (go_simp; done) | ((repeat' (first | (with_reducible assumption) | refine allocC ?_ | refine drewC ?_)); done) | (go_keep; done))
  have p3x6 : w3.cell? ⟨w2.heap.size, 2, none⟩ = some (.int .i64 l2) := keep1 hb3 (by first | (with_reducible assumption) | (go_simp; done) | ((repeat' (first | (with_reducible assumption) | refine allocC ?_ | refine drewC ?_)); done) | (go_keep; done))
  have p3x7 : w3.cell? ⟨w2.heap.size, 3, none⟩ = some (.int .i64 l3) := keep1 hb3 (by first | (with_reducible assumption) | (go_simp; done) | ((repeat' (first | (with_reducible assumption) | refine allocC ?_ | refine drewC ?_)); done) | (go_keep; done))
  have p3x8 : w3.cell? ⟨w2.heap.size, 4, none⟩ = some (.int .i64 l4) := keep1 hb3 (by first | (with_reducible assumption) | (go_simp; done) | ((repeat' (first | (with_reducible assumption) | refine allocC ?_ | refine drewC ?_)); done) | (go_keep; done))
  have p3x9 : w3.cell? ⟨w2.heap.size, 5, none⟩ = some (.int .i64 l5) := keep1 hb3 (by first | (with_reducible assumption) | (go_simp; done) | ((repeat' (first | (with_reducible assumption) | refine allocC ?_ | refine drewC ?_)); done) | (go_keep; done))
  have p3x10 : w3.cell? ⟨w2.heap.size, 6, none⟩ = some (.int .i64 l6) := keep1 hb3 (by first | (with_reducible assumption) | (go_simp; done) | ((repeat' (first | (with_reducible assumption) | refine allocC ?_ | refine drewC ?_)); done) | (go_keep; done))
  have p3x11 : w3.cell? ⟨w2.heap.size, 7, none⟩ = some (.int .i64 l7) := keep1 hb3 (by first | (with_reducible assumption) | (go_simp; done) | ((repeat' (first | (with_reducible assumption) | refine allocC ?_ | refine drewC ?_)); done) | (go_keep; done))
  have p3x12 : w3.cell? ⟨w2.heap.size, 8, none⟩ = some (.int .i64 l8) := keep1 hb3 (by first | (with_reducible assumption) | (go_simp; done) | ((repeat' (first | (with_reducible assumption) | refine allocC ?_ | refine drewC ?_)); done) | (go_keep; done))
  have p3xz0 : w.heap.size < w3.heap.size := block_lt p3x0
  have p3xz4 : w2.heap.size < w3.heap.size := block_lt p3x4
  have p3xs := p3xb.size
  go_wp2_with fail
  refine (KE.out _).mono ?_
  rintro e w4 ⟨rfl, hb4⟩
  have p4xb : Below w.heap.size w w4 := belowT (by first | (go_grown; done) | exact And.left (by assumption)) hb4
  have p4x0 : w4.cell? ⟨w.heap.size, 0, none⟩ = some (.int .i64 k) := keep1 hb4 (by first | (with_reducible assumption) | (go_simp; done) | ((repeat' (first | (with_reducible assumption) | refine allocC ?_ | refine drewC ?_)); done) | (go_keep; done))
  have p4x1 : w4.cell? ⟨w.heap.size, 1, none⟩ = some (.int .i64 n) := keep1 hb4 (by first | (with_reducible assumption) | (go_simp; done) | ((repeat' (first | (with_reducible assumption) | refine allocC ?_ | refine drewC ?_)); done) | (go_keep; done))
  have p4x2 : w4.cell? ⟨w.heap.size, 2, none⟩ = some (.int .i64 s) := keep1 hb4 (by first | (with_reducible assumption) | (go_simp; done) | ((repeat' (first | (with_reducible assumption) | refine allocC ?_ | refine drewC ?_)); done) | (go_keep; done))
  have p4x3 : w4.cell? ⟨w.heap.size, 3, none⟩ = some (.bool r) := keep1 hb4 (by first | (with_reducible assumption) | (go_simp; done) | ((repeat' (first | (with_reducible assumption) | refine allocC ?_ | refine drewC ?_)); done) | (go_keep; done))
  have p4x4 : w4.cell? ⟨w2.heap.size, 0, none⟩ = some (.int .i64 l0) := keep1 hb4 (by first | (with_reducible assumption) | (go_simp; done) | ((repeat' (first | (with_reducible assumption) | refine allocC ?_ | refine drewC ?_)); done) | (go_keep; done))
  have p4x5 : w4.cell? ⟨w2.heap.size, 1, none⟩ = some (.int .i64 l1) := keep1 hb4 (by first | (with_reducible assumption) | (go_simp; done) | ((repeat' (first | (with_reducible assumption) | refine allocC ?_ | refine drewC ?_)); done) | (go_keep; done))
  have p4x6 : w4.cell? ⟨w2.heap.size, 2, none⟩ = some (.int .i64 l2) := keep1 hb4 (by first | (with_reducible assumption) | (go_simp; done) | ((repeat' (first | (with_reducible assumption) | refine allocC ?_ | refine drewC ?_)); done) | (go_keep; done))
  have p4x7 : w4.cell? ⟨w2.heap.size, 3, none⟩ = some (.int .i64 l3) := keep1 hb4 (by first | (with_reducible assumption) | (go_simp; done) | ((repeat' (first | (with_reducible assumption) | refine allocC ?_ | refine drewC ?_)); done) | (go_keep; done))
  have p4x8 : w4.cell? ⟨w2.heap.size, 4, none⟩ = some (.int .i64 l4) := keep1 hb4 (by first | (with_reducible assumption) | (go_simp; done) | ((repeat' (first | (with_reducible assumption) | refine allocC ?_ | refine drewC ?_)); done) | (go_keep; done))
  have p4x9 : w4.cell? ⟨w2.heap.size, 5, none⟩ = some (.int .i64 l5) := keep1 hb4 (by first | (with_reducible assumption) | (go_simp; done) | ((repeat' (first | (with_reducible assumption) | refine allocC ?_ | refine drewC ?_)); done) | (go_keep; done))
  have p4x10 : w4.cell? ⟨w2.heap.size, 6, none⟩ = some (.int .i64 l6) := keep1 hb4 (by first | (with_reducible assumption) | (go_simp; done) | ((repeat' (first | (with_reducible assumption) | refine allocC ?_ | refine drewC ?_)); done) | (go_keep; done))
  have p4x11 : w4.cell? ⟨w2.heap.size, 7, none⟩ = some (.int .i64 l7) := keep1 hb4 (by first | (with_reducible assumption) | (go_simp; done) | ((repeat' (first | (with_reducible assumption) | refine allocC ?_ | refine drewC ?_)); done) | (go_keep; done))
  have p4x12 : w4.cell? ⟨w2.heap.size, 8, none⟩ = some (.int .i64 l8) := keep1 hb4 (by first | (with_reducible assumption) | (go_simp; done) | ((repeat' (first | (with_reducible assumption) | refine allocC ?_ | refine drewC ?_)); done) | (go_keep; done))
  have p4xz0 : w.heap.size < w4.heap.size := block_lt p4x0
  have p4xz4 : w2.heap.size < w4.heap.size := block_lt p4x4
  have p4xs := p4xb.size
  go_wp2_with fail
  refine (KC.out _).mono ?_
  rintro e w5 ⟨rfl, hb5⟩
  have p5xb : Below w.heap.size w w5 := belowT (by first | (go_grown; done) | exact And.left (by assumption)) hb5
  have p5x0 : w5.cell? ⟨w.heap.size, 0, none⟩ = some (.int .i64 k) := keep1 hb5 (by first | (with_reducible assumption) | (go_simp; done) | ((repeat' (first | (with_reducible assumption) | refine allocC ?_ | refine drewC ?_)); done) | (go_keep; done))
  have p5x1 : w5.cell? ⟨w.heap.size, 1, none⟩ = some (.int .i64 n) := keep1 hb5 (by first | (with_reducible assumption) | (go_simp; done) | ((repeat' (first | (with_reducible assumption) | refine allocC ?_ | refine drewC ?_)); done) | (go_keep; done))
  have p5x2 : w5.cell? ⟨w.heap.size, 2, none⟩ = some (.int .i64 s) := keep1 hb5 (by first | (with_reducible assumption) | (go_simp; done) | ((repeat' (first | (with_reducible assumption) | refine allocC ?_ | refine drewC ?_)); done) | (go_keep; done))
  have p5x3 : w5.cell? ⟨w.heap.size, 3, none⟩ = some (.bool r) := keep1 hb5 (by first | (with_reducible assumption) | (go_simp; done) | ((repeat' (first | (with_reducible assumption) | refine allocC ?_ | refine drewC ?_)); done) | (go_keep; done))
  have p5x4 : w5.cell? ⟨w2.heap.size, 0, none⟩ = some (.int .i64 l0) := keep1 hb5 (by first | (with_reducible assumption) | (go_simp; done) | ((repeat' (first | (with_reducible assumption) | refine allocC ?_ | refine drewC ?_)); done) | (go_keep; done))
  have p5x5 : w5.cell? ⟨w2.heap.size, 1, none⟩ = some (.int .i64 l1) := keep1 hb5 (by first | (with_reducible assumption) | (go_simp; done) | ((repeat' (first | (with_reducible assumption) | refine allocC ?_ | refine drewC ?_)); done) | (go_keep; done))
  have p5x6 : w5.cell? ⟨w2.heap.size, 2, none⟩ = some (.int .i64 l2) := keep1 hb5 (by first | (with_reducible assumption) | (go_simp; done) | ((repeat' (first | (with_reducible assumption) | refine allocC ?_ | refine drewC ?_)); done) | (go_keep; done))
  have p5x7 : w5.cell? ⟨w2.heap.size, 3, none⟩ = some (.int .i64 l3) := keep1 hb5 (by first | (with_reducible assumption) | (go_simp; done) | ((repeat' (first | (with_reducible assumption) | refine allocC ?_ | refine drewC ?_)); done) | (go_keep; done))
  have p5x8 : w5.cell? ⟨w2.heap.size, 4, none⟩ = some (.int .i64 l4) := keep1 hb5 (by first | (with_reducible assumption) | (go_simp; done) | ((repeat' (first | (with_reducible assumption) | refine allocC ?_ | refine drewC ?_)); done) | (go_keep; done))
  have p5x9 : w5.cell? ⟨w2.heap.size, 5, none⟩ = some (.int .i64 l5) := keep1 hb5 (by first | (with_reducible assumption) | (go_simp; done) | ((repeat' (first | (with_reducible assumption) | refine allocC ?_ | refine drewC ?_)); done) | (go_keep; done))
  have p5x10 : w5.cell? ⟨w2.heap.size, 6, none⟩ = some (.int .i64 l6) := keep1 hb5 (by first | (with_reducible assumption) | (go_simp; done) | ((repeat' (first | (with_reducible assumption) | refine allocC ?_ | refine drewC ?_)); done) | (go_keep; done))
  have p5x11 : w5.cell? ⟨w2.heap.size, 7, none⟩ = some (.int .i64 l7) := keep1 hb5 (by first | (with_reducible assumption) | (go_simp; done) | ((repeat' (first | (with_reducible assumption) | refine allocC ?_ | refine drewC ?_)); done) | (go_keep; done))
  have p5x12 : w5.cell? ⟨w2.heap.size, 8, none⟩ = some (.int .i64 l8) := keep1 hb5 (by first | (with_reducible assumption) | (go_simp; done) | ((repeat' (first | (with_reducible assumption) | refine allocC ?_ | refine drewC ?_)); done) | (go_keep; done))
  have p5xz0 : w.heap.size < w5.heap.size := block_lt p5x0
  have p5xz4 : w2.heap.size < w5.heap.size := block_lt p5x4
  have p5xs := p5xb.size
  go_wp2_with fail
  refine (KR.out _).mono ?_
  rintro e w6 ⟨rfl, hb6⟩
  have p6xb : Below w.heap.size w w6 := belowT (by first | (go_grown; done) | exact And.left (by assumption)) hb6
  have p6x0 : w6.cell? ⟨w.heap.size, 0, none⟩ = some (.int .i64 k) := keep1 hb6 (by first | (with_reducible assumption) | (go_simp; done) | ((repeat' (first | (with_reducible assumption) | refine allocC ?_ | refine drewC ?_)); done) | (go_keep; done))
  have p6x1 : w6.cell? ⟨w.heap.size, 1, none⟩ = some (.int .i64 n) := keep1 hb6 (by first | (with_reducible assumption) | (go_simp; done) | ((repeat' (first | (with_reducible assumption) | refine allocC ?_ | refine drewC ?_)); done) | (go_keep; done))
  have p6x2 : w6.cell? ⟨w.heap.size, 2, none⟩ = some (.int .i64 s) := keep1 hb6 (by first | (with_reducible assumption) | (go_simp; done) | ((repeat' (first | (with_reducible assumption) | refine allocC ?_ | refine drewC ?_)); done) | (go_keep; done))
  have p6x3 : w6.cell? ⟨w.heap.size, 3, none⟩ = some (.bool r) := keep1 hb6 (by first | (with_reducible assumption) | (go_simp; done) | ((repeat' (first | (with_reducible assumption) | refine allocC ?_ | refine drewC ?_)); done) | (go_keep; done))
  have p6x4 : w6.cell? ⟨w2.heap.size, 0, none⟩ = some (.int .i64 l0) := keep1 hb6 (by first | (with_reducible assumption) | (go_simp; done) | ((repeat' (first | (with_reducible assumption) | refine allocC ?_ | refine drewC ?_)); done) | (go_keep; done))
  have p6x5 : w6.cell? ⟨w2.heap.size, 1, none⟩ = some (.int .i64 l1) := keep1 hb6 (by first | (with_reducible assumption) | (go_simp; done) | ((repeat' (first | (with_reducible assumption) | refine allocC ?_ | refine drewC ?_)); done) | (go_keep; done))
  have p6x6 : w6.cell? ⟨w2.heap.size, 2, none⟩ = some (.int .i64 l2) := keep1 hb6 (by first | (with_reducible assumption) | (go_simp; done) | ((repeat' (first | (with_reducible assumption) | refine allocC ?_ | refine drewC ?_)); done) | (go_keep; done))
  have p6x7 : w6.cell? ⟨w2.heap.size, 3, none⟩ = some (.int .i64 l3) := keep1 hb6 (by first | (with_reducible assumption) | (go_simp; done) | ((repeat' (first | (with_reducible assumption) | refine allocC ?_ | refine drewC ?_)); done) | (go_keep; done))
  have p6x8 : w6.cell? ⟨w2.heap.size, 4, none⟩ = some (.int .i64 l4) := keep1 hb6 (by first | (with_reducible assumption) | (go_simp; done) | ((repeat' (first | (with_reducible assumption) | refine allocC ?_ | refine drewC ?_)); done) | (go_keep; done))
  have p6x9 : w6.cell? ⟨w2.heap.size, 5, none⟩ = some (.int .i64 l5) := keep1 hb6 (by first | (with_reducible assumption) | (go_simp; done) | ((repeat' (first | (with_reducible assumption) | refine allocC ?_ | refine drewC ?_)); done) | (go_keep; done))
  have p6x10 : w6.cell? ⟨w2.heap.size, 6, none⟩ = some (.int .i64 l6) := keep1 hb6 (by first | (with_reducible assumption) | (go_simp; done) | ((repeat' (first | (with_reducible assumption) | refine allocC ?_ | refine drewC ?_)); done) | (go_keep; done))
  have p6x11 : w6.cell? ⟨w2.heap.size, 7, none⟩ = some (.int .i64 l7) := keep1 hb6 (by first | (with_reducible assumption) | (go_simp; done) | ((repeat' (first | (with_reducible assumption) | refine allocC ?_ | refine drewC ?_)); done) | (go_keep; done))
  have p6x12 : w6.cell? ⟨w2.heap.size, 8, none⟩ = some (.int .i64 l8) := keep1 hb6 (by first | (with_reducible assumption) | (go_simp; done) | ((repeat' (first | (with_reducible assumption) | refine allocC ?_ | refine drewC ?_)); done) | (go_keep; done))
  have p6xz0 : w.heap.size < w6.heap.size := block_lt p6x0
  have p6xz4 : w2.heap.size < w6.heap.size := block_lt p6x4
  have p6xs := p6xb.size
  go_wp2_with fail
  go_region_held3 (fun W : World => Below w.heap.size w W ∧ W.cell? ⟨w.heap.size, 0, none⟩ = some (.int .i64 k) ∧ W.cell? ⟨w.heap.size, 1, none⟩ = some (.int .i64 n) ∧ W.cell? ⟨w.heap.size, 2, none⟩ = some (.int .i64 s) ∧ W.cell? ⟨w.heap.size, 3, none⟩ = some (.bool r) ∧ W.cell? ⟨w2.heap.size, 0, none⟩ = some (.int .i64 l0) ∧ W.cell? ⟨w2.heap.size, 1, none⟩ = some (.int .i64 l1) ∧ W.cell? ⟨w2.heap.size, 2, none⟩ = some (.int .i64 l2) ∧ W.cell? ⟨w2.heap.size, 3, none⟩ = some (.int .i64 l3) ∧ W.cell? ⟨w2.heap.size, 4, none⟩ = some (.int .i64 l4) ∧ W.cell? ⟨w2.heap.size, 5, none⟩ = some (.int .i64 l5) ∧ W.cell? ⟨w2.heap.size, 6, none⟩ = some (.int .i64 l6) ∧ W.cell? ⟨w2.heap.size, 7, none⟩ = some (.int .i64 l7) ∧ W.cell? ⟨w2.heap.size, 8, none⟩ = some (.int .i64 l8)) ((repeat' apply And.intro) <;> (first | (with_reducible assumption) | (refine belowT ?_ ‹_›; first | (go_grown; done) | exact And.left (by assumption)) | (refine belowT (And.left (by assumption)) ?_; go_grown; done) | (go_simp; done) | exact keep1 ‹_› (by first | (go_simp; done) | (go_keep; done)) | (go_keep; done) | omega | (go_grown; done) | (refine Nat.lt_of_lt_of_le ?_ (Below.size ‹_›); first | omega | (simp; done)) | exact keepF ‹_› (by first | omega | (simp; done)) (by first | (go_simp; done) | (go_keep; done)) | (simp; omega) | (simp only [World.size_alloc, World.size_drew, World.size_setCell] at *; omega))) (first | (go_at_call 22; refine (KM.out _).mono ?_; rintro e wa ⟨rfl, hba⟩))
  obtain ⟨p7xb, p7x0, p7x1, p7x2, p7x3, p7x4, p7x5, p7x6, p7x7, p7x8, p7x9, p7x10, p7x11, p7x12⟩ := (by assumption : Below w.heap.size w _ ∧ _)
  have p7xz0 := block_lt p7x0
  have p7xz4 := block_lt p7x4
  have p7xs := p7xb.size
  go_wp2
  go_returns
  exact ⟨rfl, by first | (go_grown; done) | assumption⟩
def IntsNine (a : Array Value) : Prop := ∃ l0 l1 l2 l3 l4 l5 l6 l7 l8 : Int, a = #[.int .i64 l0, .int .i64 l1, .int .i64 l2, .int .i64 l3, .int .i64 l4, .int .i64 l5, .int .i64 l6, .int .i64 l7, .int .i64 l8]
theorem linesA_ints (k t s : Int) : IntsNine (linesA k t s) := by
  unfold linesA
  (repeat' split) <;> exact ⟨_, _, _, _, _, _, _, _, _, rfl⟩
theorem windings_any (k n s : Int) (r : Bool) (w : World) (ht : Tabs w) :
    Calls Tryd.prog 3 #[.agg #[.int .i64 k, .int .i64 n, .int .i64 s, .bool r]] w fun e w' => e = .returned (.bool true) ∧ Below w.heap.size w w' := by
  by_cases hE : wErr k n s = 0
  · obtain ⟨k0, k1, h1, h2, s0, s1⟩ := wErr_val hE
    obtain ⟨l0, l1, l2, l3, l4, l5, l6, l7, l8, hl⟩ := linesA_ints k (sg n r) s
    have L := fun w ht => linesOf_ok k n s r w k0 k1 h1 h2 s0 s1 ht
    have M := fun w => rlines_all k n s r w k0 k1 h1 h2 s0 s1
    have E := fun w => rwindingErr_any k n s r w
    have C : ∀ w, Calls Tryd.prog 20 #[.agg #[.int .i64 k, .int .i64 n, .int .i64 s, .bool r]] w fun e w' => e = .returned (.int .i64 (wErr k n s)) ∧ Below w.heap.size w w' := fun w => checkWinding_any k n s r w
    rw [hE] at E C
    rw [hl] at L M
    exact windings_good k n s (zV k (sg n r)) (zE k) l0 l1 l2 l3 l4 l5 l6 l7 l8 r w ht (Lib.hid L) (Lib.hid (fun w => zeroOf_ok k n s r w k0 k1 h1 h2 s0 s1)) (Lib.hid E) (Lib.hid C) (Lib.hid (fun w => rzero_ok k n s r w k0 k1 h1 h2)) (Lib.hid M)
  · exact windings_bad k n s (wErr k n s) r w ht (by simpa using hE) (Lib.hid (fun w => linesOf_err k n s r w hE)) (Lib.hid (fun w => zeroOf_err k n s r w hE)) (Lib.hid (fun w => rwindingErr_any k n s r w)) (Lib.hid (fun w => checkWinding_any k n s r w))
end Go.Proofs.YtngdhmliohjigaaDoor
