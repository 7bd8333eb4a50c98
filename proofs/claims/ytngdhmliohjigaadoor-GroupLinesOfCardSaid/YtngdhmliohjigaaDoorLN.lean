/- THE LAW OF LINES: its walk. -/
import Derived.Test.YtngdhmliohjigaaDoorSQ10
import Derived.Test.YtngdhmliohjigaaDoorSQ8a
import Derived.Test.YtngdhmliohjigaaDoorSQ8b
import Derived.Test.YtngdhmliohjigaaDoorU
namespace Go.Proofs.YtngdhmliohjigaaDoor
open Go.RowKit
theorem same42 (p q : Int) (w : World) : (binOp .eql 42 (.agg #[.int .i64 p, .int .i64 q]) (.agg #[.int .i64 p, .int .i64 q])).run Tryd.prog w = .ok (.bool true) w := by
  rw [run_eql_struct, eq42]
  simp
theorem nsame42 (p q : Int) (w : World) : (binOp .neq 42 (.agg #[.int .i64 p, .int .i64 q]) (.agg #[.int .i64 p, .int .i64 q])).run Tryd.prog w = .ok (.bool false) w := by
  rw [run_neq_struct, eq42]
  simp
set_option maxRecDepth 100000 in
set_option maxHeartbeats 8000000 in
theorem lines_bad (x0 x1 x2 x3 x4 x5 x6 x7 x8 p0 p1 p2 E : Int) (w : World) (ht : Tabs w) (hr : w.rangeAt 0 0 permL) (tE : (E != 0) = true) (KF : Hid (∀ w, Calls Tryd.prog 24 #[.agg #[.int .i64 x0, .int .i64 x1, .int .i64 x2, .int .i64 x3, .int .i64 x4, .int .i64 x5, .int .i64 x6, .int .i64 x7, .int .i64 x8]] w fun e w' => e = .returned (.tuple #[.agg #[.int .i64 0, .int .i64 0], .int .i64 E]) ∧ Below w.heap.size w w')) (KS : Hid (∀ w, Calls Tryd.prog 23 #[.agg #[.int .i64 x0, .int .i64 x1, .int .i64 x2, .int .i64 x3, .int .i64 x4, .int .i64 x5, .int .i64 x6, .int .i64 x7, .int .i64 x8]] w fun e w' => e = .returned (.tuple #[.int .i64 0, .int .i64 E]) ∧ Below w.heap.size w w')) (KR : Hid (∀ w, w.rangeAt 0 0 permL → Calls Tryd.prog 28 #[.agg #[.int .i64 x0, .int .i64 x1, .int .i64 x2, .int .i64 x3, .int .i64 x4, .int .i64 x5, .int .i64 x6, .int .i64 x7, .int .i64 x8], .agg #[.int .i64 p0, .int .i64 p1, .int .i64 p2]] w fun e w' => e = .returned (.tuple #[.agg #[.int .i64 0, .int .i64 0, .int .i64 0, .int .i64 0, .int .i64 0, .int .i64 0, .int .i64 0, .int .i64 0, .int .i64 0], .int .i64 E]) ∧ Below w.heap.size w w')) (KL : Hid (∀ w, Calls Tryd.prog 29 #[.agg #[.int .i64 x0, .int .i64 x1, .int .i64 x2, .int .i64 x3, .int .i64 x4, .int .i64 x5, .int .i64 x6, .int .i64 x7, .int .i64 x8]] w fun e w' => e = .returned (.int .i64 E) ∧ Below w.heap.size w w')) (KC : Hid (∀ w, Calls Tryd.prog 30 #[.agg #[.int .i64 x0, .int .i64 x1, .int .i64 x2, .int .i64 x3, .int .i64 x4, .int .i64 x5, .int .i64 x6, .int .i64 x7, .int .i64 x8]] w fun e w' => e = .returned (.int .i64 E) ∧ Below w.heap.size w w')) :
    Calls Tryd.prog 5 #[.agg #[.int .i64 x0, .int .i64 x1, .int .i64 x2, .int .i64 x3, .int .i64 x4, .int .i64 x5, .int .i64 x6, .int .i64 x7, .int .i64 x8], .agg #[.int .i64 p0, .int .i64 p1, .int .i64 p2]] w fun e w' => e = .returned (.bool true) ∧ Below w.heap.size w w' := by
  have s27 := same27 0 0 0 0 0 0 0 0 0
  have s42 := same42 0 0
  go_enter Tryd.func5, Tryd.ntmps5
  go_wp2_with fail
  refine (awake_any _ (ht.below (by go_grown))).mono ?_
  rintro e w1 ⟨rfl, hb1⟩
  have p1xb : Below w.heap.size w w1 := belowT (by first | (go_grown; done) | exact And.left (by assumption)) hb1
  have p1x0 : w1.cell? ⟨w.heap.size, 0, none⟩ = some (.int .i64 x0) := keep1 hb1 (by first | (with_reducible assumption) | (go_simp; done) | ((repeat' (first | (with_reducible assumption) | refine allocC ?_ | refine drewC ?_)); done) | (go_keep; done))
  have p1x1 : w1.cell? ⟨w.heap.size, 1, none⟩ = some (.int .i64 x1) := keep1 hb1 (by first | (with_reducible assumption) | (go_simp; done) | ((repeat' (first | (with_reducible assumption) | refine allocC ?_ | refine drewC ?_)); done) | (go_keep; done))
  have p1x2 : w1.cell? ⟨w.heap.size, 2, none⟩ = some (.int .i64 x2) := keep1 hb1 (by first | (with_reducible assumption) | (go_simp; done) | ((repeat' (first | (with_reducible assumption) | refine allocC ?_ | refine drewC ?_)); done) | (go_keep; done))
  have p1x3 : w1.cell? ⟨w.heap.size, 3, none⟩ = some (.int .i64 x3) := keep1 hb1 (by first | (with_reducible assumption) | (go_simp; done) | ((repeat' (first | (with_reducible assumption) | refine allocC ?_ | refine drewC ?_)); done) | (go_keep; done))
  have p1x4 : w1.cell? ⟨w.heap.size, 4, none⟩ = some (.int .i64 x4) := keep1 hb1 (by first | (with_reducible assumption) | (go_simp; done) | ((repeat' (first | (with_reducible assumption) | refine allocC ?_ | refine drewC ?_)); done) | (go_keep; done))
  have p1x5 : w1.cell? ⟨w.heap.size, 5, none⟩ = some (.int .i64 x5) := keep1 hb1 (by first | (with_reducible assumption) | (go_simp; done) | ((repeat' (first | (with_reducible assumption) | refine allocC ?_ | refine drewC ?_)); done) | (go_keep; done))
  have p1x6 : w1.cell? ⟨w.heap.size, 6, none⟩ = some (.int .i64 x6) := keep1 hb1 (by first | (with_reducible assumption) | (go_simp; done) | ((repeat' (first | (with_reducible assumption) | refine allocC ?_ | refine drewC ?_)); done) | (go_keep; done))
  have p1x7 : w1.cell? ⟨w.heap.size, 7, none⟩ = some (.int .i64 x7) := keep1 hb1 (by first | (with_reducible assumption) | (go_simp; done) | ((repeat' (first | (with_reducible assumption) | refine allocC ?_ | refine drewC ?_)); done) | (go_keep; done))
  have p1x8 : w1.cell? ⟨w.heap.size, 8, none⟩ = some (.int .i64 x8) := keep1 hb1 (by first | (with_reducible assumption) | (go_simp; done) | ((repeat' (first | (with_reducible assumption) | refine allocC ?_ | refine drewC ?_)); done) | (go_keep; done))
  have p1x9 : w1.cell? ⟨w.heap.size + 1, 0, none⟩ = some (.int .i64 p0) := keep1 hb1 (by first | (with_reducible assumption) | (go_simp; done) | ((repeat' (first | (with_reducible assumption) | refine allocC ?_ | refine drewC ?_)); done) | (go_keep; done))
  have p1x10 : w1.cell? ⟨w.heap.size + 1, 1, none⟩ = some (.int .i64 p1) := keep1 hb1 (by first | (with_reducible assumption) | (go_simp; done) | ((repeat' (first | (with_reducible assumption) | refine allocC ?_ | refine drewC ?_)); done) | (go_keep; done))
  have p1x11 : w1.cell? ⟨w.heap.size + 1, 2, none⟩ = some (.int .i64 p2) := keep1 hb1 (by first | (with_reducible assumption) | (go_simp; done) | ((repeat' (first | (with_reducible assumption) | refine allocC ?_ | refine drewC ?_)); done) | (go_keep; done))
  have p1xz0 : w.heap.size < w1.heap.size := block_lt p1x0
  have p1xz9 : w.heap.size + 1 < w1.heap.size := block_lt p1x9
  have p1xs := p1xb.size
  go_wp2_with fail
  refine (KF.out _).mono ?_
  rintro e w2 ⟨rfl, hb2⟩
  have p2xb : Below w.heap.size w w2 := belowT (by first | (go_grown; done) | exact And.left (by assumption)) hb2
  have p2x0 : w2.cell? ⟨w.heap.size, 0, none⟩ = some (.int .i64 x0) := keep1 hb2 (by first | (with_reducible assumption) | (go_simp; done) | ((repeat' (first | (with_reducible assumption) | refine allocC ?_ | refine drewC ?_)); done) | (go_keep; done))
  have p2x1 : w2.cell? ⟨w.heap.size, 1, none⟩ = some (.int .i64 x1) := keep1 hb2 (by first | (with_reducible assumption) | (go_simp; done) | ((repeat' (first | (with_reducible assumption) | refine allocC ?_ | refine drewC ?_)); done) | (go_keep; done))
  have p2x2 : w2.cell? ⟨w.heap.size, 2, none⟩ = some (.int .i64 x2) := keep1 hb2 (by first | (with_reducible assumption) | (go_simp; done) | ((repeat' (first | (with_reducible assumption) | refine allocC ?_ | refine drewC ?_)); done) | (go_keep; done))
  have p2x3 : w2.cell? ⟨w.heap.size, 3, none⟩ = some (.int .i64 x3) := keep1 hb2 (by first | (with_reducible assumption) | (go_simp; done) | ((repeat' (first | (with_reducible assumption) | refine allocC ?_ | refine drewC ?_)); done) | (go_keep; done))
  have p2x4 : w2.cell? ⟨w.heap.size, 4, none⟩ = some (.int .i64 x4) := keep1 hb2 (by first | (with_reducible assumption) | (go_simp; done) | ((repeat' (first | (with_reducible assumption) | refine allocC ?_ | refine drewC ?_)); done) | (go_keep; done))
  have p2x5 : w2.cell? ⟨w.heap.size, 5, none⟩ = some (.int .i64 x5) := keep1 hb2 (by first | (with_reducible assumption) | (go_simp; done) | ((repeat' (first | (with_reducible assumption) | refine allocC ?_ | refine drewC ?_)); done) | (go_keep; done))
  have p2x6 : w2.cell? ⟨w.heap.size, 6, none⟩ = some (.int .i64 x6) := keep1 hb2 (by first | (with_reducible assumption) | (go_simp; done) | ((repeat' (first | (with_reducible assumption) | refine allocC ?_ | refine drewC ?_)); done) | (go_keep; done))
  have p2x7 : w2.cell? ⟨w.heap.size, 7, none⟩ = some (.int .i64 x7) := keep1 hb2 (by first | (with_reducible assumption) | (go_simp; done) | ((repeat' (first | (with_reducible assumption) | refine allocC ?_ | refine drewC ?_)); done) | (go_keep; done))
  have p2x8 : w2.cell? ⟨w.heap.size, 8, none⟩ = some (.int .i64 x8) := keep1 hb2 (by first | (with_reducible assumption) | (go_simp; done) | ((repeat' (first | (with_reducible assumption) | refine allocC ?_ | refine drewC ?_)); done) | (go_keep; done))
  have p2x9 : w2.cell? ⟨w.heap.size + 1, 0, none⟩ = some (.int .i64 p0) := keep1 hb2 (by first | (with_reducible assumption) | (go_simp; done) | ((repeat' (first | (with_reducible assumption) | refine allocC ?_ | refine drewC ?_)); done) | (go_keep; done))
  have p2x10 : w2.cell? ⟨w.heap.size + 1, 1, none⟩ = some (.int .i64 p1) := keep1 hb2 (by first | (with_reducible assumption) | (go_simp; done) | ((repeat' (first | (with_reducible assumption) | refine allocC ?_ | refine drewC ?_)); done) | (go_keep; done))
  have p2x11 : w2.cell? ⟨w.heap.size + 1, 2, none⟩ = some (.int .i64 p2) := keep1 hb2 (by first | (with_reducible assumption) | (go_simp; done) | ((repeat' (first | (with_reducible assumption) | refine allocC ?_ | refine drewC ?_)); done) | (go_keep; done))
  have p2xz0 : w.heap.size < w2.heap.size := block_lt p2x0
  have p2xz9 : w.heap.size + 1 < w2.heap.size := block_lt p2x9
  have p2xs := p2xb.size
  go_wp2_with fail
  refine (KS.out _).mono ?_
  rintro e w3 ⟨rfl, hb3⟩
  have p3xb : Below w.heap.size w w3 := belowT (by first | (go_grown; done) | exact And.left (by assumption)) hb3
  have p3x0 : w3.cell? ⟨w.heap.size, 0, none⟩ = some (.int .i64 x0) := keep1 hb3 (by first | (with_reducible assumption) | (go_simp; done) | ((repeat' (first | (with_reducible assumption) | refine allocC ?_ | refine drewC ?_)); done) | (go_keep; done))
  have p3x1 : w3.cell? ⟨w.heap.size, 1, none⟩ = some (.int .i64 x1) := keep1 hb3 (by first | (with_reducible assumption) | (go_simp; done) | ((repeat' (first | (with_reducible assumption) | refine allocC ?_ | refine drewC ?_)); done) | (go_keep; done))
  have p3x2 : w3.cell? ⟨w.heap.size, 2, none⟩ = some (.int .i64 x2) := keep1 hb3 (by first | (with_reducible assumption) | (go_simp; done) | ((repeat' (first | (with_reducible assumption) | refine allocC ?_ | refine drewC ?_)); done) | (go_keep; done))
  have p3x3 : w3.cell? ⟨w.heap.size, 3, none⟩ = some (.int .i64 x3) := keep1 hb3 (by first | (with_reducible assumption) | (go_simp; done) | ((repeat' (first | (with_reducible assumption) | refine allocC ?_ | refine drewC ?_)); done) | (go_keep; done))
  have p3x4 : w3.cell? ⟨w.heap.size, 4, none⟩ = some (.int .i64 x4) := keep1 hb3 (by first | (with_reducible assumption) | (go_simp; done) | ((repeat' (first | (with_reducible assumption) | refine allocC ?_ | refine drewC ?_)); done) | (go_keep; done))
  have p3x5 : w3.cell? ⟨w.heap.size, 5, none⟩ = some (.int .i64 x5) := keep1 hb3 (by first | (with_reducible assumption) | (go_simp; done) | ((repeat' (first | (with_reducible assumption) | refine allocC ?_ | refine drewC ?_)); done) | (go_keep; done))
  have p3x6 : w3.cell? ⟨w.heap.size, 6, none⟩ = some (.int .i64 x6) := keep1 hb3 (by first | (with_reducible assumption) | (go_simp; done) | ((repeat' (first | (with_reducible assumption) | refine allocC ?_ | refine drewC ?_)); done) | (go_keep; done))
  have p3x7 : w3.cell? ⟨w.heap.size, 7, none⟩ = some (.int .i64 x7) := keep1 hb3 (by first | (with_reducible assumption) | (go_simp; done) | ((repeat' (first | (with_reducible assumption) | refine allocC ?_ | refine drewC ?_)); done) | (go_keep; done))
  have p3x8 : w3.cell? ⟨w.heap.size, 8, none⟩ = some (.int .i64 x8) := keep1 hb3 (by first | (with_reducible assumption) | (go_simp; done) | ((repeat' (first | (with_reducible assumption) | refine allocC ?_ | refine drewC ?_)); done) | (go_keep; done))
  have p3x9 : w3.cell? ⟨w.heap.size + 1, 0, none⟩ = some (.int .i64 p0) := keep1 hb3 (by first | (with_reducible assumption) | (go_simp; done) | ((repeat' (first | (with_reducible assumption) | refine allocC ?_ | refine drewC ?_)); done) | (go_keep; done))
  have p3x10 : w3.cell? ⟨w.heap.size + 1, 1, none⟩ = some (.int .i64 p1) := keep1 hb3 (by first | (with_reducible assumption) | (go_simp; done) | ((repeat' (first | (with_reducible assumption) | refine allocC ?_ | refine drewC ?_)); done) | (go_keep; done))
  have p3x11 : w3.cell? ⟨w.heap.size + 1, 2, none⟩ = some (.int .i64 p2) := keep1 hb3 (by first | (with_reducible assumption) | (go_simp; done) | ((repeat' (first | (with_reducible assumption) | refine allocC ?_ | refine drewC ?_)); done) | (go_keep; done))
  have p3x12 : w3.cell? ⟨w2.heap.size, 0, none⟩ = some (.int .i64 0) := keep1 hb3 (by first | (with_reducible assumption) | (go_simp; done) | ((repeat' (first | (with_reducible assumption) | refine allocC ?_ | refine drewC ?_)); done) | (go_keep; done))
  have p3x13 : w3.cell? ⟨w2.heap.size, 1, none⟩ = some (.int .i64 0) := keep1 hb3 (by first | (with_reducible assumption) | (go_simp; done) | ((repeat' (first | (with_reducible assumption) | refine allocC ?_ | refine drewC ?_)); done) | (go_keep; done))
  have p3xz0 : w.heap.size < w3.heap.size := block_lt p3x0
  have p3xz9 : w.heap.size + 1 < w3.heap.size := block_lt p3x9
  have p3xz12 : w2.heap.size < w3.heap.size := block_lt p3x12
  have p3xs := p3xb.size
  go_wp2_with fail
  refine (KR.out _ (rangeB (w := w) (by first | (with_reducible assumption) | (go_grown; done)) hr)).mono ?_
  rintro e w4 ⟨rfl, hb4⟩
  have p4xb : Below w.heap.size w w4 := belowT (by first | (go_grown; done) | exact And.left (by assumption)) hb4
  have p4x0 : w4.cell? ⟨w.heap.size, 0, none⟩ = some (.int .i64 x0) := keep1 hb4 (by first | (with_reducible assumption) | (go_simp; done) | ((repeat' (first | (with_reducible assumption) | refine allocC ?_ | refine drewC ?_)); done) | (go_keep; done))
  have p4x1 : w4.cell? ⟨w.heap.size, 1, none⟩ = some (.int .i64 x1) := keep1 hb4 (by first | (with_reducible assumption) | (go_simp; done) | ((repeat' (first | (with_reducible assumption) | refine allocC ?_ | refine drewC ?_)); done) | (go_keep; done))
  have p4x2 : w4.cell? ⟨w.heap.size, 2, none⟩ = some (.int .i64 x2) := keep1 hb4 (by first | (with_reducible assumption) | (go_simp; done) | ((repeat' (first | (with_reducible assumption) | refine allocC ?_ | refine drewC ?_)); done) | (go_keep; done))
  have p4x3 : w4.cell? ⟨w.heap.size, 3, none⟩ = some (.int .i64 x3) := keep1 hb4 (by first | (with_reducible assumption) | (go_simp; done) | ((repeat' (first | (with_reducible assumption) | refine allocC ?_ | refine drewC ?_)); done) | (go_keep; done))
  have p4x4 : w4.cell? ⟨w.heap.size, 4, none⟩ = some (.int .i64 x4) := keep1 hb4 (by first | (with_reducible assumption) | (go_simp; done) | ((repeat' (first | (with_reducible assumption) | refine allocC ?_ | refine drewC ?_)); done) | (go_keep; done))
  have p4x5 : w4.cell? ⟨w.heap.size, 5, none⟩ = some (.int .i64 x5) := keep1 hb4 (by first | (with_reducible assumption) | (go_simp; done) | ((repeat' (first | (with_reducible assumption) | refine allocC ?_ | refine drewC ?_)); done) | (go_keep; done))
  have p4x6 : w4.cell? ⟨w.heap.size, 6, none⟩ = some (.int .i64 x6) := keep1 hb4 (by first | (with_reducible assumption) | (go_simp; done) | ((repeat' (first | (with_reducible assumption) | refine allocC ?_ | refine drewC ?_)); done) | (go_keep; done))
  have p4x7 : w4.cell? ⟨w.heap.size, 7, none⟩ = some (.int .i64 x7) := keep1 hb4 (by first | (with_reducible assumption) | (go_simp; done) | ((repeat' (first | (with_reducible assumption) | refine allocC ?_ | refine drewC ?_)); done) | (go_keep; done))
  have p4x8 : w4.cell? ⟨w.heap.size, 8, none⟩ = some (.int .i64 x8) := keep1 hb4 (by first | (with_reducible assumption) | (go_simp; done) | ((repeat' (first | (with_reducible assumption) | refine allocC ?_ | refine drewC ?_)); done) | (go_keep; done))
  have p4x9 : w4.cell? ⟨w.heap.size + 1, 0, none⟩ = some (.int .i64 p0) := keep1 hb4 (by first | (with_reducible assumption) | (go_simp; done) | ((repeat' (first | (with_reducible assumption) | refine allocC ?_ | refine drewC ?_)); done) | (go_keep; done))
  have p4x10 : w4.cell? ⟨w.heap.size + 1, 1, none⟩ = some (.int .i64 p1) := keep1 hb4 (by first | (with_reducible assumption) | (go_simp; done) | ((repeat' (first | (with_reducible assumption) | refine allocC ?_ | refine drewC ?_)); done) | (go_keep; done))
  have p4x11 : w4.cell? ⟨w.heap.size + 1, 2, none⟩ = some (.int .i64 p2) := keep1 hb4 (by first | (with_reducible assumption) | (go_simp; done) | ((repeat' (first | (with_reducible assumption) | refine allocC ?_ | refine drewC ?_)); done) | (go_keep; done))
  have p4x12 : w4.cell? ⟨w2.heap.size, 0, none⟩ = some (.int .i64 0) := keep1 hb4 (by first | (with_reducible assumption) | (go_simp; done) | ((repeat' (first | (with_reducible assumption) | refine allocC ?_ | refine drewC ?_)); done) | (go_keep; done))
  have p4x13 : w4.cell? ⟨w2.heap.size, 1, none⟩ = some (.int .i64 0) := keep1 hb4 (by first | (with_reducible assumption) | (go_simp; done) | ((repeat' (first | (with_reducible assumption) | refine allocC ?_ | refine drewC ?_)); done) | (go_keep; done))
  have p4xz0 : w.heap.size < w4.heap.size := block_lt p4x0
  have p4xz9 : w.heap.size + 1 < w4.heap.size := block_lt p4x9
  have p4xz12 : w2.heap.size < w4.heap.size := block_lt p4x12
  have p4xs := p4xb.size
  go_wp2_with fail
  refine (KL.out _).mono ?_
  rintro e w5 ⟨rfl, hb5⟩
  have p5xb : Below w.heap.size w w5 := belowT (by first | (go_grown; done) | exact And.left (by assumption)) hb5
  have p5x0 : w5.cell? ⟨w.heap.size, 0, none⟩ = some (.int .i64 x0) := keep1 hb5 (by first | (with_reducible assumption) | (go_simp; done) | ((repeat' (first | (with_reducible assumption) | refine allocC ?_ | refine drewC ?_)); done) | (go_keep; done))
  have p5x1 : w5.cell? ⟨w.heap.size, 1, none⟩ = some (.int .i64 x1) := keep1 hb5 (by first | (with_reducible assumption) | (go_simp; done) | ((repeat' (first | (with_reducible assumption) | refine allocC ?_ | refine drewC ?_)); done) | (go_keep; done))
  have p5x2 : w5.cell? ⟨w.heap.size, 2, none⟩ = some (.int .i64 x2) := keep1 hb5 (by first | (with_reducible assumption) | (go_simp; done) | ((repeat' (first | (with_reducible assumption) | refine allocC ?_ | refine drewC ?_)); done) | (go_keep; done))
  have p5x3 : w5.cell? ⟨w.heap.size, 3, none⟩ = some (.int .i64 x3) := keep1 hb5 (by first | (with_reducible assumption) | (go_simp; done) | ((repeat' (first | (with_reducible assumption) | refine allocC ?_ | refine drewC ?_)); done) | (go_keep; done))
  have p5x4 : w5.cell? ⟨w.heap.size, 4, none⟩ = some (.int .i64 x4) := keep1 hb5 (by first | (with_reducible assumption) | (go_simp; done) | ((repeat' (first | (with_reducible assumption) | refine allocC ?_ | refine drewC ?_)); done) | (go_keep; done))
  have p5x5 : w5.cell? ⟨w.heap.size, 5, none⟩ = some (.int .i64 x5) := keep1 hb5 (by first | (with_reducible assumption) | (go_simp; done) | ((repeat' (first | (with_reducible assumption) | refine allocC ?_ | refine drewC ?_)); done) | (go_keep; done))
  have p5x6 : w5.cell? ⟨w.heap.size, 6, none⟩ = some (.int .i64 x6) := keep1 hb5 (by first | (with_reducible assumption) | (go_simp; done) | ((repeat' (first | (with_reducible assumption) | refine allocC ?_ | refine drewC ?_)); done) | (go_keep; done))
  have p5x7 : w5.cell? ⟨w.heap.size, 7, none⟩ = some (.int .i64 x7) := keep1 hb5 (by first | (with_reducible assumption) | (go_simp; done) | ((repeat' (first | (with_reducible assumption) | refine allocC ?_ | refine drewC ?_)); done) | (go_keep; done))
  have p5x8 : w5.cell? ⟨w.heap.size, 8, none⟩ = some (.int .i64 x8) := keep1 hb5 (by first | (with_reducible assumption) | (go_simp; done) | ((repeat' (first | (with_reducible assumption) | refine allocC ?_ | refine drewC ?_)); done) | (go_keep; done))
  have p5x9 : w5.cell? ⟨w.heap.size + 1, 0, none⟩ = some (.int .i64 p0) := keep1 hb5 (by first | (with_reducible assumption) | (go_simp; done) | ((repeat' (first | (with_reducible assumption) | refine allocC ?_ | refine drewC ?_)); done) | (go_keep; done))
  have p5x10 : w5.cell? ⟨w.heap.size + 1, 1, none⟩ = some (.int .i64 p1) := keep1 hb5 (by first | (with_reducible assumption) | (go_simp; done) | ((repeat' (first | (with_reducible assumption) | refine allocC ?_ | refine drewC ?_)); done) | (go_keep; done))
  have p5x11 : w5.cell? ⟨w.heap.size + 1, 2, none⟩ = some (.int .i64 p2) := keep1 hb5 (by first | (with_reducible assumption) | (go_simp; done) | ((repeat' (first | (with_reducible assumption) | refine allocC ?_ | refine drewC ?_)); done) | (go_keep; done))
  have p5x12 : w5.cell? ⟨w2.heap.size, 0, none⟩ = some (.int .i64 0) := keep1 hb5 (by first | (with_reducible assumption) | (go_simp; done) | ((repeat' (first | (with_reducible assumption) | refine allocC ?_ | refine drewC ?_)); done) | (go_keep; done))
  have p5x13 : w5.cell? ⟨w2.heap.size, 1, none⟩ = some (.int .i64 0) := keep1 hb5 (by first | (with_reducible assumption) | (go_simp; done) | ((repeat' (first | (with_reducible assumption) | refine allocC ?_ | refine drewC ?_)); done) | (go_keep; done))
  have p5x14 : w5.cell? ⟨w4.heap.size, 0, none⟩ = some (.int .i64 0) := keep1 hb5 (by first | (with_reducible assumption) | (go_simp; done) | ((repeat' (first | (with_reducible assumption) | refine allocC ?_ | refine drewC ?_)); done) | (go_keep; done))
  have p5x15 : w5.cell? ⟨w4.heap.size, 1, none⟩ = some (.int .i64 0) := keep1 hb5 (by first | (with_reducible assumption) | (go_simp; done) | ((repeat' (first | (with_reducible assumption) | refine allocC ?_ | refine drewC ?_)); done) | (go_keep; done))
  have p5x16 : w5.cell? ⟨w4.heap.size, 2, none⟩ = some (.int .i64 0) := keep1 hb5 (by first | (with_reducible assumption) | (go_simp; done) | ((repeat' (first | (with_reducible assumption) | refine allocC ?_ | refine drewC ?_)); done) | (go_keep; done))
  have p5x17 : w5.cell? ⟨w4.heap.size, 3, none⟩ = some (.int .i64 0) := keep1 hb5 (by first | (with_reducible assumption) | (go_simp; done) | ((repeat' (first | (with_reducible assumption) | refine allocC ?_ | refine drewC ?_)); done) | (go_keep; done))
  have p5x18 : w5.cell? ⟨w4.heap.size, 4, none⟩ = some (.int .i64 0) := keep1 hb5 (by first | (with_reducible assumption) | (go_simp; done) | ((repeat' (first | (with_reducible assumption) | refine allocC ?_ | refine drewC ?_)); done) | (go_keep; done))
  have p5x19 : w5.cell? ⟨w4.heap.size, 5, none⟩ = some (.int .i64 0) := keep1 hb5 (by first | (with_reducible assumption) | (go_simp; done) | ((repeat' (first | (with_reducible assumption) | refine allocC ?_ | refine drewC ?_)); done) | (go_keep; done))
  have p5x20 : w5.cell? ⟨w4.heap.size, 6, none⟩ = some (.int .i64 0) := keep1 hb5 (by first | (with_reducible assumption) | (go_simp; done) | ((repeat' (first | (with_reducible assumption) | refine allocC ?_ | refine drewC ?_)); done) | (go_keep; done))
  have p5x21 : w5.cell? ⟨w4.heap.size, 7, none⟩ = some (.int .i64 0) := keep1 hb5 (by first | (with_reducible assumption) | (go_simp; done) | ((repeat' (first | (with_reducible assumption) | refine allocC ?_ | refine drewC ?_)); done) | (go_keep; done))
  have p5x22 : w5.cell? ⟨w4.heap.size, 8, none⟩ = some (.int .i64 0) := keep1 hb5 (by first | (with_reducible assumption) | (go_simp; done) | ((repeat' (first | (with_reducible assumption) | refine allocC ?_ | refine drewC ?_)); done) | (go_keep; done))
  have p5xz0 : w.heap.size < w5.heap.size := block_lt p5x0
  have p5xz9 : w.heap.size + 1 < w5.heap.size := block_lt p5x9
  have p5xz12 : w2.heap.size < w5.heap.size := block_lt p5x12
  have p5xz14 : w4.heap.size < w5.heap.size := block_lt p5x14
  have p5xs := p5xb.size
  go_wp2_with fail
  refine (KC.out _).mono ?_
  rintro e w6 ⟨rfl, hb6⟩
  have p6xb : Below w.heap.size w w6 := belowT (by first | (go_grown; done) | exact And.left (by assumption)) hb6
  have p6x0 : w6.cell? ⟨w.heap.size, 0, none⟩ = some (.int .i64 x0) := keep1 hb6 (by first | (with_reducible assumption) | (go_simp; done) | ((repeat' (first | (with_reducible assumption) | refine allocC ?_ | refine drewC ?_)); done) | (go_keep; done))
  have p6x1 : w6.cell? ⟨w.heap.size, 1, none⟩ = some (.int .i64 x1) := keep1 hb6 (by first | (with_reducible assumption) | (go_simp; done) | ((repeat' (first | (with_reducible assumption) | refine allocC ?_ | refine drewC ?_)); done) | (go_keep; done))
  have p6x2 : w6.cell? ⟨w.heap.size, 2, none⟩ = some (.int .i64 x2) := keep1 hb6 (by first | (with_reducible assumption) | (go_simp; done) | ((repeat' (first | (with_reducible assumption) | refine allocC ?_ | refine drewC ?_)); done) | (go_keep; done))
  have p6x3 : w6.cell? ⟨w.heap.size, 3, none⟩ = some (.int .i64 x3) := keep1 hb6 (by first | (with_reducible assumption) | (go_simp; done) | ((repeat' (first | (with_reducible assumption) | refine allocC ?_ | refine drewC ?_)); done) | (go_keep; done))
  have p6x4 : w6.cell? ⟨w.heap.size, 4, none⟩ = some (.int .i64 x4) := keep1 hb6 (by first | (with_reducible assumption) | (go_simp; done) | ((repeat' (first | (with_reducible assumption) | refine allocC ?_ | refine drewC ?_)); done) | (go_keep; done))
  have p6x5 : w6.cell? ⟨w.heap.size, 5, none⟩ = some (.int .i64 x5) := keep1 hb6 (by first | (with_reducible assumption) | (go_simp; done) | ((repeat' (first | (with_reducible assumption) | refine allocC ?_ | refine drewC ?_)); done) | (go_keep; done))
  have p6x6 : w6.cell? ⟨w.heap.size, 6, none⟩ = some (.int .i64 x6) := keep1 hb6 (by first | (with_reducible assumption) | (go_simp; done) | ((repeat' (first | (with_reducible assumption) | refine allocC ?_ | refine drewC ?_)); done) | (go_keep; done))
  have p6x7 : w6.cell? ⟨w.heap.size, 7, none⟩ = some (.int .i64 x7) := keep1 hb6 (by first | (with_reducible assumption) | (go_simp; done) | ((repeat' (first | (with_reducible assumption) | refine allocC ?_ | refine drewC ?_)); done) | (go_keep; done))
  have p6x8 : w6.cell? ⟨w.heap.size, 8, none⟩ = some (.int .i64 x8) := keep1 hb6 (by first | (with_reducible assumption) | (go_simp; done) | ((repeat' (first | (with_reducible assumption) | refine allocC ?_ | refine drewC ?_)); done) | (go_keep; done))
  have p6x9 : w6.cell? ⟨w.heap.size + 1, 0, none⟩ = some (.int .i64 p0) := keep1 hb6 (by first | (with_reducible assumption) | (go_simp; done) | ((repeat' (first | (with_reducible assumption) | refine allocC ?_ | refine drewC ?_)); done) | (go_keep; done))
  have p6x10 : w6.cell? ⟨w.heap.size + 1, 1, none⟩ = some (.int .i64 p1) := keep1 hb6 (by first | (with_reducible assumption) | (go_simp; done) | ((repeat' (first | (with_reducible assumption) | refine allocC ?_ | refine drewC ?_)); done) | (go_keep; done))
  have p6x11 : w6.cell? ⟨w.heap.size + 1, 2, none⟩ = some (.int .i64 p2) := keep1 hb6 (by first | (with_reducible assumption) | (go_simp; done) | ((repeat' (first | (with_reducible assumption) | refine allocC ?_ | refine drewC ?_)); done) | (go_keep; done))
  have p6x12 : w6.cell? ⟨w2.heap.size, 0, none⟩ = some (.int .i64 0) := keep1 hb6 (by first | (with_reducible assumption) | (go_simp; done) | ((repeat' (first | (with_reducible assumption) | refine allocC ?_ | refine drewC ?_)); done) | (go_keep; done))
  have p6x13 : w6.cell? ⟨w2.heap.size, 1, none⟩ = some (.int .i64 0) := keep1 hb6 (by first | (with_reducible assumption) | (go_simp; done) | ((repeat' (first | (with_reducible assumption) | refine allocC ?_ | refine drewC ?_)); done) | (go_keep; done))
  have p6x14 : w6.cell? ⟨w4.heap.size, 0, none⟩ = some (.int .i64 0) := keep1 hb6 (by first | (with_reducible assumption) | (go_simp; done) | ((repeat' (first | (with_reducible assumption) | refine allocC ?_ | refine drewC ?_)); done) | (go_keep; done))
  have p6x15 : w6.cell? ⟨w4.heap.size, 1, none⟩ = some (.int .i64 0) := keep1 hb6 (by first | (with_reducible assumption) | (go_simp; done) | ((repeat' (first | (with_reducible assumption) | refine allocC ?_ | refine drewC ?_)); done) | (go_keep; done))
  have p6x16 : w6.cell? ⟨w4.heap.size, 2, none⟩ = some (.int .i64 0) := keep1 hb6 (by first | (with_reducible assumption) | (go_simp; done) | ((repeat' (first | (with_reducible assumption) | refine allocC ?_ | refine drewC ?_)); done) | (go_keep; done))
  have p6x17 : w6.cell? ⟨w4.heap.size, 3, none⟩ = some (.int .i64 0) := keep1 hb6 (by first | (with_reducible assumption) | (go_simp; done) | ((repeat' (first | (with_reducible assumption) | refine allocC ?_ | refine drewC ?_)); done) | (go_keep; done))
  have p6x18 : w6.cell? ⟨w4.heap.size, 4, none⟩ = some (.int .i64 0) := keep1 hb6 (by first | (with_reducible assumption) | (go_simp; done) | ((repeat' (first | (with_reducible assumption) | refine allocC ?_ | refine drewC ?_)); done) | (go_keep; done))
  have p6x19 : w6.cell? ⟨w4.heap.size, 5, none⟩ = some (.int .i64 0) := keep1 hb6 (by first | (with_reducible assumption) | (go_simp; done) | ((repeat' (first | (with_reducible assumption) | refine allocC ?_ | refine drewC ?_)); done) | (go_keep; done))
  have p6x20 : w6.cell? ⟨w4.heap.size, 6, none⟩ = some (.int .i64 0) := keep1 hb6 (by first | (with_reducible assumption) | (go_simp; done) | ((repeat' (first | (with_reducible assumption) | refine allocC ?_ | refine drewC ?_)); done) | (go_keep; done))
  have p6x21 : w6.cell? ⟨w4.heap.size, 7, none⟩ = some (.int .i64 0) := keep1 hb6 (by first | (with_reducible assumption) | (go_simp; done) | ((repeat' (first | (with_reducible assumption) | refine allocC ?_ | refine drewC ?_)); done) | (go_keep; done))
  have p6x22 : w6.cell? ⟨w4.heap.size, 8, none⟩ = some (.int .i64 0) := keep1 hb6 (by first | (with_reducible assumption) | (go_simp; done) | ((repeat' (first | (with_reducible assumption) | refine allocC ?_ | refine drewC ?_)); done) | (go_keep; done))
  have p6xz0 : w.heap.size < w6.heap.size := block_lt p6x0
  have p6xz9 : w.heap.size + 1 < w6.heap.size := block_lt p6x9
  have p6xz12 : w2.heap.size < w6.heap.size := block_lt p6x12
  have p6xz14 : w4.heap.size < w6.heap.size := block_lt p6x14
  have p6xs := p6xb.size
  go_wp2
  go_returns
  exact ⟨rfl, by first | (go_grown; done) | assumption⟩
set_option maxRecDepth 100000 in
set_option maxHeartbeats 8000000 in
theorem lines_form (x0 x1 x2 x3 x4 x5 x6 x7 x8 p0 p1 p2 u v sv se  : Int) (w : World) (ht : Tabs w) (hr : w.rangeAt 0 0 permL) (KF : Hid (∀ w, Tabs w → Calls Tryd.prog 24 #[.agg #[.int .i64 x0, .int .i64 x1, .int .i64 x2, .int .i64 x3, .int .i64 x4, .int .i64 x5, .int .i64 x6, .int .i64 x7, .int .i64 x8]] w fun e w' => e = .returned (.tuple #[.agg #[.int .i64 u, .int .i64 v], .int .i64 0]) ∧ Below w.heap.size w w')) (KS : Hid (∀ w, Tabs w → Calls Tryd.prog 23 #[.agg #[.int .i64 x0, .int .i64 x1, .int .i64 x2, .int .i64 x3, .int .i64 x4, .int .i64 x5, .int .i64 x6, .int .i64 x7, .int .i64 x8]] w fun e w' => e = .returned (.tuple #[.int .i64 sv, .int .i64 se]) ∧ Below w.heap.size w w')) (KR : Hid (∀ w, w.rangeAt 0 0 permL → Calls Tryd.prog 28 #[.agg #[.int .i64 x0, .int .i64 x1, .int .i64 x2, .int .i64 x3, .int .i64 x4, .int .i64 x5, .int .i64 x6, .int .i64 x7, .int .i64 x8], .agg #[.int .i64 p0, .int .i64 p1, .int .i64 p2]] w fun e w' => e = .returned (.tuple #[.agg #[.int .i64 0, .int .i64 0, .int .i64 0, .int .i64 0, .int .i64 0, .int .i64 0, .int .i64 0, .int .i64 0, .int .i64 0], .int .i64 3]) ∧ Below w.heap.size w w')) (KL : Hid (∀ w, Calls Tryd.prog 29 #[.agg #[.int .i64 x0, .int .i64 x1, .int .i64 x2, .int .i64 x3, .int .i64 x4, .int .i64 x5, .int .i64 x6, .int .i64 x7, .int .i64 x8]] w fun e w' => e = .returned (.int .i64 0) ∧ Below w.heap.size w w')) (KC : Hid (∀ w, Calls Tryd.prog 30 #[.agg #[.int .i64 x0, .int .i64 x1, .int .i64 x2, .int .i64 x3, .int .i64 x4, .int .i64 x5, .int .i64 x6, .int .i64 x7, .int .i64 x8]] w fun e w' => e = .returned (.int .i64 0) ∧ Below w.heap.size w w')) (KQ : Hid (∀ w, Calls Tryd.prog 31 #[.agg #[.int .i64 x0, .int .i64 x1, .int .i64 x2, .int .i64 x3, .int .i64 x4, .int .i64 x5, .int .i64 x6, .int .i64 x7, .int .i64 x8]] w fun e w' => e = .returned (.tuple #[.int .i64 sv, .int .i64 se]) ∧ Below w.heap.size w w')) (KP : Hid (∀ w, Calls Tryd.prog 32 #[.agg #[.int .i64 x0, .int .i64 x1, .int .i64 x2]] w fun e w' => e = .returned (.agg #[.int .i64 u, .int .i64 v]) ∧ Below w.heap.size w w')) (KI : Hid (∀ w, Calls Tryd.prog 33 #[.agg #[.int .i64 p0, .int .i64 p1, .int .i64 p2]] w fun e w' => e = .returned (.bool false) ∧ Below w.heap.size w w')) :
    Calls Tryd.prog 5 #[.agg #[.int .i64 x0, .int .i64 x1, .int .i64 x2, .int .i64 x3, .int .i64 x4, .int .i64 x5, .int .i64 x6, .int .i64 x7, .int .i64 x8], .agg #[.int .i64 p0, .int .i64 p1, .int .i64 p2]] w fun e w' => e = .returned (.bool true) ∧ Below w.heap.size w w' := by
  have s27 := same27 0 0 0 0 0 0 0 0 0
  have n27 := eql27 0 0 0 0 0 0 0 0 0
  have n42 := nsame42 u v
  go_enter Tryd.func5, Tryd.ntmps5
  go_wp2_with fail
  refine (awake_any _ (ht.below (by go_grown))).mono ?_
  rintro e w1 ⟨rfl, hb1⟩
  have p1xb : Below w.heap.size w w1 := belowT (by first | (go_grown; done) | exact And.left (by assumption)) hb1
  have p1x0 : w1.cell? ⟨w.heap.size, 0, none⟩ = some (.int .i64 x0) := keep1 hb1 (by first | (with_reducible assumption) | (go_simp; done) | ((repeat' (first | (with_reducible assumption) | refine allocC ?_ | refine drewC ?_)); done) | (go_keep; done))
  have p1x1 : w1.cell? ⟨w.heap.size, 1, none⟩ = some (.int .i64 x1) := keep1 hb1 (by first | (with_reducible assumption) | (go_simp; done) | ((repeat' (first | (with_reducible assumption) | refine allocC ?_ | refine drewC ?_)); done) | (go_keep; done))
  have p1x2 : w1.cell? ⟨w.heap.size, 2, none⟩ = some (.int .i64 x2) := keep1 hb1 (by first | (with_reducible assumption) | (go_simp; done) | ((repeat' (first | (with_reducible assumption) | refine allocC ?_ | refine drewC ?_)); done) | (go_keep; done))
  have p1x3 : w1.cell? ⟨w.heap.size, 3, none⟩ = some (.int .i64 x3) := keep1 hb1 (by first | (with_reducible assumption) | (go_simp; done) | ((repeat' (first | (with_reducible assumption) | refine allocC ?_ | refine drewC ?_)); done) | (go_keep; done))
  have p1x4 : w1.cell? ⟨w.heap.size, 4, none⟩ = some (.int .i64 x4) := keep1 hb1 (by first | (with_reducible assumption) | (go_simp; done) | ((repeat' (first | (with_reducible assumption) | refine allocC ?_ | refine drewC ?_)); done) | (go_keep; done))
  have p1x5 : w1.cell? ⟨w.heap.size, 5, none⟩ = some (.int .i64 x5) := keep1 hb1 (by first | (with_reducible assumption) | (go_simp; done) | ((repeat' (first | (with_reducible assumption) | refine allocC ?_ | refine drewC ?_)); done) | (go_keep; done))
  have p1x6 : w1.cell? ⟨w.heap.size, 6, none⟩ = some (.int .i64 x6) := keep1 hb1 (by first | (with_reducible assumption) | (go_simp; done) | ((repeat' (first | (with_reducible assumption) | refine allocC ?_ | refine drewC ?_)); done) | (go_keep; done))
  have p1x7 : w1.cell? ⟨w.heap.size, 7, none⟩ = some (.int .i64 x7) := keep1 hb1 (by first | (with_reducible assumption) | (go_simp; done) | ((repeat' (first | (with_reducible assumption) | refine allocC ?_ | refine drewC ?_)); done) | (go_keep; done))
  have p1x8 : w1.cell? ⟨w.heap.size, 8, none⟩ = some (.int .i64 x8) := keep1 hb1 (by first | (with_reducible assumption) | (go_simp; done) | ((repeat' (first | (with_reducible assumption) | refine allocC ?_ | refine drewC ?_)); done) | (go_keep; done))
  have p1x9 : w1.cell? ⟨w.heap.size + 1, 0, none⟩ = some (.int .i64 p0) := keep1 hb1 (by first | (with_reducible assumption) | (go_simp; done) | ((repeat' (first | (with_reducible assumption) | refine allocC ?_ | refine drewC ?_)); done) | (go_keep; done))
  have p1x10 : w1.cell? ⟨w.heap.size + 1, 1, none⟩ = some (.int .i64 p1) := keep1 hb1 (by first | (with_reducible assumption) | (go_simp; done) | ((repeat' (first | (with_reducible assumption) | refine allocC ?_ | refine drewC ?_)); done) | (go_keep; done))
  have p1x11 : w1.cell? ⟨w.heap.size + 1, 2, none⟩ = some (.int .i64 p2) := keep1 hb1 (by first | (with_reducible assumption) | (go_simp; done) | ((repeat' (first | (with_reducible assumption) | refine allocC ?_ | refine drewC ?_)); done) | (go_keep; done))
  have p1xz0 : w.heap.size < w1.heap.size := block_lt p1x0
  have p1xz9 : w.heap.size + 1 < w1.heap.size := block_lt p1x9
  have p1xs := p1xb.size
  go_wp2_with fail
  refine (KF.out _ (ht.below (by first | (with_reducible assumption) | (go_grown; done)))).mono ?_
  rintro e w2 ⟨rfl, hb2⟩
  have p2xb : Below w.heap.size w w2 := belowT (by first | (go_grown; done) | exact And.left (by assumption)) hb2
  have p2x0 : w2.cell? ⟨w.heap.size, 0, none⟩ = some (.int .i64 x0) := keep1 hb2 (by first | (with_reducible assumption) | (go_simp; done) | ((repeat' (first | (with_reducible assumption) | refine allocC ?_ | refine drewC ?_)); done) | (go_keep; done))
  have p2x1 : w2.cell? ⟨w.heap.size, 1, none⟩ = some (.int .i64 x1) := keep1 hb2 (by first | (with_reducible assumption) | (go_simp; done) | ((repeat' (first | (with_reducible assumption) | refine allocC ?_ | refine drewC ?_)); done) | (go_keep; done))
  have p2x2 : w2.cell? ⟨w.heap.size, 2, none⟩ = some (.int .i64 x2) := keep1 hb2 (by first | (with_reducible assumption) | (go_simp; done) | ((repeat' (first | (with_reducible assumption) | refine allocC ?_ | refine drewC ?_)); done) | (go_keep; done))
  have p2x3 : w2.cell? ⟨w.heap.size, 3, none⟩ = some (.int .i64 x3) := keep1 hb2 (by first | (with_reducible assumption) | (go_simp; done) | ((repeat' (first | (with_reducible assumption) | refine allocC ?_ | refine drewC ?_)); done) | (go_keep; done))
  have p2x4 : w2.cell? ⟨w.heap.size, 4, none⟩ = some (.int .i64 x4) := keep1 hb2 (by first | (with_reducible assumption) | (go_simp; done) | ((repeat' (first | (with_reducible assumption) | refine allocC ?_ | refine drewC ?_)); done) | (go_keep; done))
  have p2x5 : w2.cell? ⟨w.heap.size, 5, none⟩ = some (.int .i64 x5) := keep1 hb2 (by first | (with_reducible assumption) | (go_simp; done) | ((repeat' (first | (with_reducible assumption) | refine allocC ?_ | refine drewC ?_)); done) | (go_keep; done))
  have p2x6 : w2.cell? ⟨w.heap.size, 6, none⟩ = some (.int .i64 x6) := keep1 hb2 (by first | (with_reducible assumption) | (go_simp; done) | ((repeat' (first | (with_reducible assumption) | refine allocC ?_ | refine drewC ?_)); done) | (go_keep; done))
  have p2x7 : w2.cell? ⟨w.heap.size, 7, none⟩ = some (.int .i64 x7) := keep1 hb2 (by first | (with_reducible assumption) | (go_simp; done) | ((repeat' (first | (with_reducible assumption) | refine allocC ?_ | refine drewC ?_)); done) | (go_keep; done))
  have p2x8 : w2.cell? ⟨w.heap.size, 8, none⟩ = some (.int .i64 x8) := keep1 hb2 (by first | (with_reducible assumption) | (go_simp; done) | ((repeat' (first | (with_reducible assumption) | refine allocC ?_ | refine drewC ?_)); done) | (go_keep; done))
  have p2x9 : w2.cell? ⟨w.heap.size + 1, 0, none⟩ = some (.int .i64 p0) := keep1 hb2 (by first | (with_reducible assumption) | (go_simp; done) | ((repeat' (first | (with_reducible assumption) | refine allocC ?_ | refine drewC ?_)); done) | (go_keep; done))
  have p2x10 : w2.cell? ⟨w.heap.size + 1, 1, none⟩ = some (.int .i64 p1) := keep1 hb2 (by first | (with_reducible assumption) | (go_simp; done) | ((repeat' (first | (with_reducible assumption) | refine allocC ?_ | refine drewC ?_)); done) | (go_keep; done))
  have p2x11 : w2.cell? ⟨w.heap.size + 1, 2, none⟩ = some (.int .i64 p2) := keep1 hb2 (by first | (with_reducible assumption) | (go_simp; done) | ((repeat' (first | (with_reducible assumption) | refine allocC ?_ | refine drewC ?_)); done) | (go_keep; done))
  have p2xz0 : w.heap.size < w2.heap.size := block_lt p2x0
  have p2xz9 : w.heap.size + 1 < w2.heap.size := block_lt p2x9
  have p2xs := p2xb.size
  go_wp2_with fail
  refine (KS.out _ (ht.below (by first | (with_reducible assumption) | (go_grown; done)))).mono ?_
  rintro e w3 ⟨rfl, hb3⟩
  have p3xb : Below w.heap.size w w3 := belowT (by first | (go_grown; done) | exact And.left (by assumption)) hb3
  have p3x0 : w3.cell? ⟨w.heap.size, 0, none⟩ = some (.int .i64 x0) := keep1 hb3 (by first | (with_reducible assumption) | (go_simp; done) | ((repeat' (first | (with_reducible assumption) | refine allocC ?_ | refine drewC ?_)); done) | (go_keep; done))
  have p3x1 : w3.cell? ⟨w.heap.size, 1, none⟩ = some (.int .i64 x1) := keep1 hb3 (by first | (with_reducible assumption) | (go_simp; done) | ((repeat' (first | (with_reducible assumption) | refine allocC ?_ | refine drewC ?_)); done) | (go_keep; done))
  have p3x2 : w3.cell? ⟨w.heap.size, 2, none⟩ = some (.int .i64 x2) := keep1 hb3 (by first | (with_reducible assumption) | (go_simp; done) | ((repeat' (first | (with_reducible assumption) | refine allocC ?_ | refine drewC ?_)); done) | (go_keep; done))
  have p3x3 : w3.cell? ⟨w.heap.size, 3, none⟩ = some (.int .i64 x3) := keep1 hb3 (by first | (with_reducible assumption) | (go_simp; done) | ((repeat' (first | (with_reducible assumption) | refine allocC ?_ | refine drewC ?_)); done) | (go_keep; done))
  have p3x4 : w3.cell? ⟨w.heap.size, 4, none⟩ = some (.int .i64 x4) := keep1 hb3 (by first | (with_reducible assumption) | (go_simp; done) | ((repeat' (first | (with_reducible assumption) | refine allocC ?_ | refine drewC ?_)); done) | (go_keep; done))
  have p3x5 : w3.cell? ⟨w.heap.size, 5, none⟩ = some (.int .i64 x5) := keep1 hb3 (by first | (with_reducible assumption) | (go_simp; done) | ((repeat' (first | (with_reducible assumption) | refine allocC ?_ | refine drewC ?_)); done) | (go_keep; done))
  have p3x6 : w3.cell? ⟨w.heap.size, 6, none⟩ = some (.int .i64 x6) := keep1 hb3 (by first | (with_reducible assumption) | (go_simp; done) | ((repeat' (first | (with_reducible assumption) | refine allocC ?_ | refine drewC ?_)); done) | (go_keep; done))
  have p3x7 : w3.cell? ⟨w.heap.size, 7, none⟩ = some (.int .i64 x7) := keep1 hb3 (by first | (with_reducible assumption) | (go_simp; done) | ((repeat' (first | (with_reducible assumption) | refine allocC ?_ | refine drewC ?_)); done) | (go_keep; done))
  have p3x8 : w3.cell? ⟨w.heap.size, 8, none⟩ = some (.int .i64 x8) := keep1 hb3 (by first | (with_reducible assumption) | (go_simp; done) | ((repeat' (first | (with_reducible assumption) | refine allocC ?_ | refine drewC ?_)); done) | (go_keep; done))
  have p3x9 : w3.cell? ⟨w.heap.size + 1, 0, none⟩ = some (.int .i64 p0) := keep1 hb3 (by first | (with_reducible assumption) | (go_simp; done) | ((repeat' (first | (with_reducible assumption) | refine allocC ?_ | refine drewC ?_)); done) | (go_keep; done))
  have p3x10 : w3.cell? ⟨w.heap.size + 1, 1, none⟩ = some (.int .i64 p1) := keep1 hb3 (by first | (with_reducible assumption) | (go_simp; done) | ((repeat' (first | (with_reducible assumption) | refine allocC ?_ | refine drewC ?_)); done) | (go_keep; done))
  have p3x11 : w3.cell? ⟨w.heap.size + 1, 2, none⟩ = some (.int .i64 p2) := keep1 hb3 (by first | (with_reducible assumption) | (go_simp; done) | ((repeat' (first | (with_reducible assumption) | refine allocC ?_ | refine drewC ?_)); done) | (go_keep; done))
  have p3x12 : w3.cell? ⟨w2.heap.size, 0, none⟩ = some (.int .i64 u) := keep1 hb3 (by first | (with_reducible assumption) | (go_simp; done) | ((repeat' (first | (with_reducible assumption) | refine allocC ?_ | refine drewC ?_)); done) | (go_keep; done))
  have p3x13 : w3.cell? ⟨w2.heap.size, 1, none⟩ = some (.int .i64 v) := keep1 hb3 (by first | (with_reducible assumption) | (go_simp; done) | ((repeat' (first | (with_reducible assumption) | refine allocC ?_ | refine drewC ?_)); done) | (go_keep; done))
  have p3xz0 : w.heap.size < w3.heap.size := block_lt p3x0
  have p3xz9 : w.heap.size + 1 < w3.heap.size := block_lt p3x9
  have p3xz12 : w2.heap.size < w3.heap.size := block_lt p3x12
  have p3xs := p3xb.size
  go_wp2_with fail
  refine (KR.out _ (rangeB (w := w) (by first | (with_reducible assumption) | (go_grown; done)) hr)).mono ?_
  rintro e w4 ⟨rfl, hb4⟩
  have p4xb : Below w.heap.size w w4 := belowT (by first | (go_grown; done) | exact And.left (by assumption)) hb4
  have p4x0 : w4.cell? ⟨w.heap.size, 0, none⟩ = some (.int .i64 x0) := keep1 hb4 (by first | (with_reducible assumption) | (go_simp; done) | ((repeat' (first | (with_reducible assumption) | refine allocC ?_ | refine drewC ?_)); done) | (go_keep; done))
  have p4x1 : w4.cell? ⟨w.heap.size, 1, none⟩ = some (.int .i64 x1) := keep1 hb4 (by first | (with_reducible assumption) | (go_simp; done) | ((repeat' (first | (with_reducible assumption) | refine allocC ?_ | refine drewC ?_)); done) | (go_keep; done))
  have p4x2 : w4.cell? ⟨w.heap.size, 2, none⟩ = some (.int .i64 x2) := keep1 hb4 (by first | (with_reducible assumption) | (go_simp; done) | ((repeat' (first | (with_reducible assumption) | refine allocC ?_ | refine drewC ?_)); done) | (go_keep; done))
  have p4x3 : w4.cell? ⟨w.heap.size, 3, none⟩ = some (.int .i64 x3) := keep1 hb4 (by first | (with_reducible assumption) | (go_simp; done) | ((repeat' (first | (with_reducible assumption) | refine allocC ?_ | refine drewC ?_)); done) | (go_keep; done))
  have p4x4 : w4.cell? ⟨w.heap.size, 4, none⟩ = some (.int .i64 x4) := keep1 hb4 (by first | (with_reducible assumption) | (go_simp; done) | ((repeat' (first | (with_reducible assumption) | refine allocC ?_ | refine drewC ?_)); done) | (go_keep; done))
  have p4x5 : w4.cell? ⟨w.heap.size, 5, none⟩ = some (.int .i64 x5) := keep1 hb4 (by first | (with_reducible assumption) | (go_simp; done) | ((repeat' (first | (with_reducible assumption) | refine allocC ?_ | refine drewC ?_)); done) | (go_keep; done))
  have p4x6 : w4.cell? ⟨w.heap.size, 6, none⟩ = some (.int .i64 x6) := keep1 hb4 (by first | (with_reducible assumption) | (go_simp; done) | ((repeat' (first | (with_reducible assumption) | refine allocC ?_ | refine drewC ?_)); done) | (go_keep; done))
  have p4x7 : w4.cell? ⟨w.heap.size, 7, none⟩ = some (.int .i64 x7) := keep1 hb4 (by first | (with_reducible assumption) | (go_simp; done) | ((repeat' (first | (with_reducible assumption) | refine allocC ?_ | refine drewC ?_)); done) | (go_keep; done))
  have p4x8 : w4.cell? ⟨w.heap.size, 8, none⟩ = some (.int .i64 x8) := keep1 hb4 (by first | (with_reducible assumption) | (go_simp; done) | ((repeat' (first | (with_reducible assumption) | refine allocC ?_ | refine drewC ?_)); done) | (go_keep; done))
  have p4x9 : w4.cell? ⟨w.heap.size + 1, 0, none⟩ = some (.int .i64 p0) := keep1 hb4 (by first | (with_reducible assumption) | (go_simp; done) | ((repeat' (first | (with_reducible assumption) | refine allocC ?_ | refine drewC ?_)); done) | (go_keep; done))
  have p4x10 : w4.cell? ⟨w.heap.size + 1, 1, none⟩ = some (.int .i64 p1) := keep1 hb4 (by first | (with_reducible assumption) | (go_simp; done) | ((repeat' (first | (with_reducible assumption) | refine allocC ?_ | refine drewC ?_)); done) | (go_keep; done))
  have p4x11 : w4.cell? ⟨w.heap.size + 1, 2, none⟩ = some (.int .i64 p2) := keep1 hb4 (by first | (with_reducible assumption) | (go_simp; done) | ((repeat' (first | (with_reducible assumption) | refine allocC ?_ | refine drewC ?_)); done) | (go_keep; done))
  have p4x12 : w4.cell? ⟨w2.heap.size, 0, none⟩ = some (.int .i64 u) := keep1 hb4 (by first | (with_reducible assumption) | (go_simp; done) | ((repeat' (first | (with_reducible assumption) | refine allocC ?_ | refine drewC ?_)); done) | (go_keep; done))
  have p4x13 : w4.cell? ⟨w2.heap.size, 1, none⟩ = some (.int .i64 v) := keep1 hb4 (by first | (with_reducible assumption) | (go_simp; done) | ((repeat' (first | (with_reducible assumption) | refine allocC ?_ | refine drewC ?_)); done) | (go_keep; done))
  have p4xz0 : w.heap.size < w4.heap.size := block_lt p4x0
  have p4xz9 : w.heap.size + 1 < w4.heap.size := block_lt p4x9
  have p4xz12 : w2.heap.size < w4.heap.size := block_lt p4x12
  have p4xs := p4xb.size
  go_wp2_with fail
  refine (KL.out _).mono ?_
  rintro e w5 ⟨rfl, hb5⟩
  have p5xb : Below w.heap.size w w5 := belowT (by first | (go_grown; done) | exact And.left (by assumption)) hb5
  have p5x0 : w5.cell? ⟨w.heap.size, 0, none⟩ = some (.int .i64 x0) := keep1 hb5 (by first | (with_reducible assumption) | (go_simp; done) | ((repeat' (first | (with_reducible assumption) | refine allocC ?_ | refine drewC ?_)); done) | (go_keep; done))
  have p5x1 : w5.cell? ⟨w.heap.size, 1, none⟩ = some (.int .i64 x1) := keep1 hb5 (by first | (with_reducible assumption) | (go_simp; done) | ((repeat' (first | (with_reducible assumption) | refine allocC ?_ | refine drewC ?_)); done) | (go_keep; done))
  have p5x2 : w5.cell? ⟨w.heap.size, 2, none⟩ = some (.int .i64 x2) := keep1 hb5 (by first | (with_reducible assumption) | (go_simp; done) | ((repeat' (first | (with_reducible assumption) | refine allocC ?_ | refine drewC ?_)); done) | (go_keep; done))
  have p5x3 : w5.cell? ⟨w.heap.size, 3, none⟩ = some (.int .i64 x3) := keep1 hb5 (by first | (with_reducible assumption) | (go_simp; done) | ((repeat' (first | (with_reducible assumption) | refine allocC ?_ | refine drewC ?_)); done) | (go_keep; done))
  have p5x4 : w5.cell? ⟨w.heap.size, 4, none⟩ = some (.int .i64 x4) := keep1 hb5 (by first | (with_reducible assumption) | (go_simp; done) | ((repeat' (first | (with_reducible assumption) | refine allocC ?_ | refine drewC ?_)); done) | (go_keep; done))
  have p5x5 : w5.cell? ⟨w.heap.size, 5, none⟩ = some (.int .i64 x5) := keep1 hb5 (by first | (with_reducible assumption) | (go_simp; done) | ((repeat' (first | (with_reducible assumption) | refine allocC ?_ | refine drewC ?_)); done) | (go_keep; done))
  have p5x6 : w5.cell? ⟨w.heap.size, 6, none⟩ = some (.int .i64 x6) := keep1 hb5 (by first | (with_reducible assumption) | (go_simp; done) | ((repeat' (first | (with_reducible assumption) | refine allocC ?_ | refine drewC ?_)); done) | (go_keep; done))
  have p5x7 : w5.cell? ⟨w.heap.size, 7, none⟩ = some (.int .i64 x7) := keep1 hb5 (by first | (with_reducible assumption) | (go_simp; done) | ((repeat' (first | (with_reducible assumption) | refine allocC ?_ | refine drewC ?_)); done) | (go_keep; done))
  have p5x8 : w5.cell? ⟨w.heap.size, 8, none⟩ = some (.int .i64 x8) := keep1 hb5 (by first | (with_reducible assumption) | (go_simp; done) | ((repeat' (first | (with_reducible assumption) | refine allocC ?_ | refine drewC ?_)); done) | (go_keep; done))
  have p5x9 : w5.cell? ⟨w.heap.size + 1, 0, none⟩ = some (.int .i64 p0) := keep1 hb5 (by first | (with_reducible assumption) | (go_simp; done) | ((repeat' (first | (with_reducible assumption) | refine allocC ?_ | refine drewC ?_)); done) | (go_keep; done))
  have p5x10 : w5.cell? ⟨w.heap.size + 1, 1, none⟩ = some (.int .i64 p1) := keep1 hb5 (by first | (with_reducible assumption) | (go_simp; done) | ((repeat' (first | (with_reducible assumption) | refine allocC ?_ | refine drewC ?_)); done) | (go_keep; done))
  have p5x11 : w5.cell? ⟨w.heap.size + 1, 2, none⟩ = some (.int .i64 p2) := keep1 hb5 (by first | (with_reducible assumption) | (go_simp; done) | ((repeat' (first | (with_reducible assumption) | refine allocC ?_ | refine drewC ?_)); done) | (go_keep; done))
  have p5x12 : w5.cell? ⟨w2.heap.size, 0, none⟩ = some (.int .i64 u) := keep1 hb5 (by first | (with_reducible assumption) | (go_simp; done) | ((repeat' (first | (with_reducible assumption) | refine allocC ?_ | refine drewC ?_)); done) | (go_keep; done))
  have p5x13 : w5.cell? ⟨w2.heap.size, 1, none⟩ = some (.int .i64 v) := keep1 hb5 (by first | (with_reducible assumption) | (go_simp; done) | ((repeat' (first | (with_reducible assumption) | refine allocC ?_ | refine drewC ?_)); done) | (go_keep; done))
  have p5x14 : w5.cell? ⟨w4.heap.size, 0, none⟩ = some (.int .i64 0) := keep1 hb5 (by first | (with_reducible assumption) | (go_simp; done) | ((repeat' (first | (with_reducible assumption) | refine allocC ?_ | refine drewC ?_)); done) | (go_keep; done))
  have p5x15 : w5.cell? ⟨w4.heap.size, 1, none⟩ = some (.int .i64 0) := keep1 hb5 (by first | (with_reducible assumption) | (go_simp; done) | ((repeat' (first | (with_reducible assumption) | refine allocC ?_ | refine drewC ?_)); done) | (go_keep; done))
  have p5x16 : w5.cell? ⟨w4.heap.size, 2, none⟩ = some (.int .i64 0) := keep1 hb5 (by first | (with_reducible assumption) | (go_simp; done) | ((repeat' (first | (with_reducible assumption) | refine allocC ?_ | refine drewC ?_)); done) | (go_keep; done))
  have p5x17 : w5.cell? ⟨w4.heap.size, 3, none⟩ = some (.int .i64 0) := keep1 hb5 (by first | (with_reducible assumption) | (go_simp; done) | ((repeat' (first | (with_reducible assumption) | refine allocC ?_ | refine drewC ?_)); done) | (go_keep; done))
  have p5x18 : w5.cell? ⟨w4.heap.size, 4, none⟩ = some (.int .i64 0) := keep1 hb5 (by first | (with_reducible assumption) | (go_simp; done) | ((repeat' (first | (with_reducible assumption) | refine allocC ?_ | refine drewC ?_)); done) | (go_keep; done))
  have p5x19 : w5.cell? ⟨w4.heap.size, 5, none⟩ = some (.int .i64 0) := keep1 hb5 (by first | (with_reducible assumption) | (go_simp; done) | ((repeat' (first | (with_reducible assumption) | refine allocC ?_ | refine drewC ?_)); done) | (go_keep; done))
  have p5x20 : w5.cell? ⟨w4.heap.size, 6, none⟩ = some (.int .i64 0) := keep1 hb5 (by first | (with_reducible assumption) | (go_simp; done) | ((repeat' (first | (with_reducible assumption) | refine allocC ?_ | refine drewC ?_)); done) | (go_keep; done))
  have p5x21 : w5.cell? ⟨w4.heap.size, 7, none⟩ = some (.int .i64 0) := keep1 hb5 (by first | (with_reducible assumption) | (go_simp; done) | ((repeat' (first | (with_reducible assumption) | refine allocC ?_ | refine drewC ?_)); done) | (go_keep; done))
  have p5x22 : w5.cell? ⟨w4.heap.size, 8, none⟩ = some (.int .i64 0) := keep1 hb5 (by first | (with_reducible assumption) | (go_simp; done) | ((repeat' (first | (with_reducible assumption) | refine allocC ?_ | refine drewC ?_)); done) | (go_keep; done))
  have p5xz0 : w.heap.size < w5.heap.size := block_lt p5x0
  have p5xz9 : w.heap.size + 1 < w5.heap.size := block_lt p5x9
  have p5xz12 : w2.heap.size < w5.heap.size := block_lt p5x12
  have p5xz14 : w4.heap.size < w5.heap.size := block_lt p5x14
  have p5xs := p5xb.size
  go_wp2_with fail
  refine (KC.out _).mono ?_
  rintro e w6 ⟨rfl, hb6⟩
  have p6xb : Below w.heap.size w w6 := belowT (by first | (go_grown; done) | exact And.left (by assumption)) hb6
  have p6x0 : w6.cell? ⟨w.heap.size, 0, none⟩ = some (.int .i64 x0) := keep1 hb6 (by first | (with_reducible assumption) | (go_simp; done) | ((repeat' (first | (with_reducible assumption) | refine allocC ?_ | refine drewC ?_)); done) | (go_keep; done))
  have p6x1 : w6.cell? ⟨w.heap.size, 1, none⟩ = some (.int .i64 x1) := keep1 hb6 (by first | (with_reducible assumption) | (go_simp; done) | ((repeat' (first | (with_reducible assumption) | refine allocC ?_ | refine drewC ?_)); done) | (go_keep; done))
  have p6x2 : w6.cell? ⟨w.heap.size, 2, none⟩ = some (.int .i64 x2) := keep1 hb6 (by first | (with_reducible assumption) | (go_simp; done) | ((repeat' (first | (with_reducible assumption) | refine allocC ?_ | refine drewC ?_)); done) | (go_keep; done))
  have p6x3 : w6.cell? ⟨w.heap.size, 3, none⟩ = some (.int .i64 x3) := keep1 hb6 (by first | (with_reducible assumption) | (go_simp; done) | ((repeat' (first | (with_reducible assumption) | refine allocC ?_ | refine drewC ?_)); done) | (go_keep; done))
  have p6x4 : w6.cell? ⟨w.heap.size, 4, none⟩ = some (.int .i64 x4) := keep1 hb6 (by first | (with_reducible assumption) | (go_simp; done) | ((repeat' (first | (with_reducible assumption) | refine allocC ?_ | refine drewC ?_)); done) | (go_keep; done))
  have p6x5 : w6.cell? ⟨w.heap.size, 5, none⟩ = some (.int .i64 x5) := keep1 hb6 (by first | (with_reducible assumption) | (go_simp; done) | ((repeat' (first | (with_reducible assumption) | refine allocC ?_ | refine drewC ?_)); done) | (go_keep; done))
  have p6x6 : w6.cell? ⟨w.heap.size, 6, none⟩ = some (.int .i64 x6) := keep1 hb6 (by first | (with_reducible assumption) | (go_simp; done) | ((repeat' (first | (with_reducible assumption) | refine allocC ?_ | refine drewC ?_)); done) | (go_keep; done))
  have p6x7 : w6.cell? ⟨w.heap.size, 7, none⟩ = some (.int .i64 x7) := keep1 hb6 (by first | (with_reducible assumption) | (go_simp; done) | ((repeat' (first | (with_reducible assumption) | refine allocC ?_ | refine drewC ?_)); done) | (go_keep; done))
  have p6x8 : w6.cell? ⟨w.heap.size, 8, none⟩ = some (.int .i64 x8) := keep1 hb6 (by first | (with_reducible assumption) | (go_simp; done) | ((repeat' (first | (with_reducible assumption) | refine allocC ?_ | refine drewC ?_)); done) | (go_keep; done))
  have p6x9 : w6.cell? ⟨w.heap.size + 1, 0, none⟩ = some (.int .i64 p0) := keep1 hb6 (by first | (with_reducible assumption) | (go_simp; done) | ((repeat' (first | (with_reducible assumption) | refine allocC ?_ | refine drewC ?_)); done) | (go_keep; done))
  have p6x10 : w6.cell? ⟨w.heap.size + 1, 1, none⟩ = some (.int .i64 p1) := keep1 hb6 (by first | (with_reducible assumption) | (go_simp; done) | ((repeat' (first | (with_reducible assumption) | refine allocC ?_ | refine drewC ?_)); done) | (go_keep; done))
  have p6x11 : w6.cell? ⟨w.heap.size + 1, 2, none⟩ = some (.int .i64 p2) := keep1 hb6 (by first | (with_reducible assumption) | (go_simp; done) | ((repeat' (first | (with_reducible assumption) | refine allocC ?_ | refine drewC ?_)); done) | (go_keep; done))
  have p6x12 : w6.cell? ⟨w2.heap.size, 0, none⟩ = some (.int .i64 u) := keep1 hb6 (by first | (with_reducible assumption) | (go_simp; done) | ((repeat' (first | (with_reducible assumption) | refine allocC ?_ | refine drewC ?_)); done) | (go_keep; done))
  have p6x13 : w6.cell? ⟨w2.heap.size, 1, none⟩ = some (.int .i64 v) := keep1 hb6 (by first | (with_reducible assumption) | (go_simp; done) | ((repeat' (first | (with_reducible assumption) | refine allocC ?_ | refine drewC ?_)); done) | (go_keep; done))
  have p6x14 : w6.cell? ⟨w4.heap.size, 0, none⟩ = some (.int .i64 0) := keep1 hb6 (by first | (with_reducible assumption) | (go_simp; done) | ((repeat' (first | (with_reducible assumption) | refine allocC ?_ | refine drewC ?_)); done) | (go_keep; done))
  have p6x15 : w6.cell? ⟨w4.heap.size, 1, none⟩ = some (.int .i64 0) := keep1 hb6 (by first | (with_reducible assumption) | (go_simp; done) | ((repeat' (first | (with_reducible assumption) | refine allocC ?_ | refine drewC ?_)); done) | (go_keep; done))
  have p6x16 : w6.cell? ⟨w4.heap.size, 2, none⟩ = some (.int .i64 0) := keep1 hb6 (by first | (with_reducible assumption) | (go_simp; done) | ((repeat' (first | (with_reducible assumption) | refine allocC ?_ | refine drewC ?_)); done) | (go_keep; done))
  have p6x17 : w6.cell? ⟨w4.heap.size, 3, none⟩ = some (.int .i64 0) := keep1 hb6 (by first | (with_reducible assumption) | (go_simp; done) | ((repeat' (first | (with_reducible assumption) | refine allocC ?_ | refine drewC ?_)); done) | (go_keep; done))
  have p6x18 : w6.cell? ⟨w4.heap.size, 4, none⟩ = some (.int .i64 0) := keep1 hb6 (by first | (with_reducible assumption) | (go_simp; done) | ((repeat' (first | (with_reducible assumption) | refine allocC ?_ | refine drewC ?_)); done) | (go_keep; done))
  have p6x19 : w6.cell? ⟨w4.heap.size, 5, none⟩ = some (.int .i64 0) := keep1 hb6 (by first | (with_reducible assumption) | (go_simp; done) | ((repeat' (first | (with_reducible assumption) | refine allocC ?_ | refine drewC ?_)); done) | (go_keep; done))
  have p6x20 : w6.cell? ⟨w4.heap.size, 6, none⟩ = some (.int .i64 0) := keep1 hb6 (by first | (with_reducible assumption) | (go_simp; done) | ((repeat' (first | (with_reducible assumption) | refine allocC ?_ | refine drewC ?_)); done) | (go_keep; done))
  have p6x21 : w6.cell? ⟨w4.heap.size, 7, none⟩ = some (.int .i64 0) := keep1 hb6 (by first | (with_reducible assumption) | (go_simp; done) | ((repeat' (first | (with_reducible assumption) | refine allocC ?_ | refine drewC ?_)); done) | (go_keep; done))
  have p6x22 : w6.cell? ⟨w4.heap.size, 8, none⟩ = some (.int .i64 0) := keep1 hb6 (by first | (with_reducible assumption) | (go_simp; done) | ((repeat' (first | (with_reducible assumption) | refine allocC ?_ | refine drewC ?_)); done) | (go_keep; done))
  have p6xz0 : w.heap.size < w6.heap.size := block_lt p6x0
  have p6xz9 : w.heap.size + 1 < w6.heap.size := block_lt p6x9
  have p6xz12 : w2.heap.size < w6.heap.size := block_lt p6x12
  have p6xz14 : w4.heap.size < w6.heap.size := block_lt p6x14
  have p6xs := p6xb.size
  go_wp2_with fail
  refine (KQ.out _).mono ?_
  rintro e w7 ⟨rfl, hb7⟩
  have p7xb : Below w.heap.size w w7 := belowT (by first | (go_grown; done) | exact And.left (by assumption)) hb7
  have p7x0 : w7.cell? ⟨w.heap.size, 0, none⟩ = some (.int .i64 x0) := keep1 hb7 (by first | (with_reducible assumption) | (go_simp; done) | ((repeat' (first | (with_reducible assumption) | refine allocC ?_ | refine drewC ?_)); done) | (go_keep; done))
  have p7x1 : w7.cell? ⟨w.heap.size, 1, none⟩ = some (.int .i64 x1) := keep1 hb7 (by first | (with_reducible assumption) | (go_simp; done) | ((repeat' (first | (with_reducible assumption) | refine allocC ?_ | refine drewC ?_)); done) | (go_keep; done))
  have p7x2 : w7.cell? ⟨w.heap.size, 2, none⟩ = some (.int .i64 x2) := keep1 hb7 (by first | (with_reducible assumption) | (go_simp; done) | ((repeat' (first | (with_reducible assumption) | refine allocC ?_ | refine drewC ?_)); done) | (go_keep; done))
  have p7x3 : w7.cell? ⟨w.heap.size, 3, none⟩ = some (.int .i64 x3) := keep1 hb7 (by first | (with_reducible assumption) | (go_simp; done) | ((repeat' (first | (with_reducible assumption) | refine allocC ?_ | refine drewC ?_)); done) | (go_keep; done))
  have p7x4 : w7.cell? ⟨w.heap.size, 4, none⟩ = some (.int .i64 x4) := keep1 hb7 (by first | (with_reducible assumption) | (go_simp; done) | ((repeat' (first | (with_reducible assumption) | refine allocC ?_ | refine drewC ?_)); done) | (go_keep; done))
  have p7x5 : w7.cell? ⟨w.heap.size, 5, none⟩ = some (.int .i64 x5) := keep1 hb7 (by first | (with_reducible assumption) | (go_simp; done) | ((repeat' (first | (with_reducible assumption) | refine allocC ?_ | refine drewC ?_)); done) | (go_keep; done))
  have p7x6 : w7.cell? ⟨w.heap.size, 6, none⟩ = some (.int .i64 x6) := keep1 hb7 (by first | (with_reducible assumption) | (go_simp; done) | ((repeat' (first | (with_reducible assumption) | refine allocC ?_ | refine drewC ?_)); done) | (go_keep; done))
  have p7x7 : w7.cell? ⟨w.heap.size, 7, none⟩ = some (.int .i64 x7) := keep1 hb7 (by first | (with_reducible assumption) | (go_simp; done) | ((repeat' (first | (with_reducible assumption) | refine allocC ?_ | refine drewC ?_)); done) | (go_keep; done))
  have p7x8 : w7.cell? ⟨w.heap.size, 8, none⟩ = some (.int .i64 x8) := keep1 hb7 (by first | (with_reducible assumption) | (go_simp; done) | ((repeat' (first | (with_reducible assumption) | refine allocC ?_ | refine drewC ?_)); done) | (go_keep; done))
  have p7x9 : w7.cell? ⟨w.heap.size + 1, 0, none⟩ = some (.int .i64 p0) := keep1 hb7 (by first | (with_reducible assumption) | (go_simp; done) | ((repeat' (first | (with_reducible assumption) | refine allocC ?_ | refine drewC ?_)); done) | (go_keep; done))
  have p7x10 : w7.cell? ⟨w.heap.size + 1, 1, none⟩ = some (.int .i64 p1) := keep1 hb7 (by first | (with_reducible assumption) | (go_simp; done) | ((repeat' (first | (with_reducible assumption) | refine allocC ?_ | refine drewC ?_)); done) | (go_keep; done))
  have p7x11 : w7.cell? ⟨w.heap.size + 1, 2, none⟩ = some (.int .i64 p2) := keep1 hb7 (by first | (with_reducible assumption) | (go_simp; done) | ((repeat' (first | (with_reducible assumption) | refine allocC ?_ | refine drewC ?_)); done) | (go_keep; done))
  have p7x12 : w7.cell? ⟨w2.heap.size, 0, none⟩ = some (.int .i64 u) := keep1 hb7 (by first | (with_reducible assumption) | (go_simp; done) | ((repeat' (first | (with_reducible assumption) | refine allocC ?_ | refine drewC ?_)); done) | (go_keep; done))
  have p7x13 : w7.cell? ⟨w2.heap.size, 1, none⟩ = some (.int .i64 v) := keep1 hb7 (by first | (with_reducible assumption) | (go_simp; done) | ((repeat' (first | (with_reducible assumption) | refine allocC ?_ | refine drewC ?_)); done) | (go_keep; done))
  have p7x14 : w7.cell? ⟨w4.heap.size, 0, none⟩ = some (.int .i64 0) := keep1 hb7 (by first | (with_reducible assumption) | (go_simp; done) | ((repeat' (first | (with_reducible assumption) | refine allocC ?_ | refine drewC ?_)); done) | (go_keep; done))
  have p7x15 : w7.cell? ⟨w4.heap.size, 1, none⟩ = some (.int .i64 0) := keep1 hb7 (by first | (with_reducible assumption) | (go_simp; done) | ((repeat' (first | (with_reducible assumption) | refine allocC ?_ | refine drewC ?_)); done) | (go_keep; done))
  have p7x16 : w7.cell? ⟨w4.heap.size, 2, none⟩ = some (.int .i64 0) := keep1 hb7 (by first | (with_reducible assumption) | (go_simp; done) | ((repeat' (first | (with_reducible assumption) | refine allocC ?_ | refine drewC ?_)); done) | (go_keep; done))
  have p7x17 : w7.cell? ⟨w4.heap.size, 3, none⟩ = some (.int .i64 0) := keep1 hb7 (by first | (with_reducible assumption) | (go_simp; done) | ((repeat' (first | (with_reducible assumption) | refine allocC ?_ | refine drewC ?_)); done) | (go_keep; done))
  have p7x18 : w7.cell? ⟨w4.heap.size, 4, none⟩ = some (.int .i64 0) := keep1 hb7 (by first | (with_reducible assumption) | (go_simp; done) | ((repeat' (first | (with_reducible assumption) | refine allocC ?_ | refine drewC ?_)); done) | (go_keep; done))
  have p7x19 : w7.cell? ⟨w4.heap.size, 5, none⟩ = some (.int .i64 0) := keep1 hb7 (by first | (with_reducible assumption) | (go_simp; done) | ((repeat' (first | (with_reducible assumption) | refine allocC ?_ | refine drewC ?_)); done) | (go_keep; done))
  have p7x20 : w7.cell? ⟨w4.heap.size, 6, none⟩ = some (.int .i64 0) := keep1 hb7 (by first | (with_reducible assumption) | (go_simp; done) | ((repeat' (first | (with_reducible assumption) | refine allocC ?_ | refine drewC ?_)); done) | (go_keep; done))
  have p7x21 : w7.cell? ⟨w4.heap.size, 7, none⟩ = some (.int .i64 0) := keep1 hb7 (by first | (with_reducible assumption) | (go_simp; done) | ((repeat' (first | (with_reducible assumption) | refine allocC ?_ | refine drewC ?_)); done) | (go_keep; done))
  have p7x22 : w7.cell? ⟨w4.heap.size, 8, none⟩ = some (.int .i64 0) := keep1 hb7 (by first | (with_reducible assumption) | (go_simp; done) | ((repeat' (first | (with_reducible assumption) | refine allocC ?_ | refine drewC ?_)); done) | (go_keep; done))
  have p7xz0 : w.heap.size < w7.heap.size := block_lt p7x0
  have p7xz9 : w.heap.size + 1 < w7.heap.size := block_lt p7x9
  have p7xz12 : w2.heap.size < w7.heap.size := block_lt p7x12
  have p7xz14 : w4.heap.size < w7.heap.size := block_lt p7x14
  have p7xs := p7xb.size
  go_wp2_with fail
  go_region_held3 (fun W : World => Below w.heap.size w W ∧ W.cell? ⟨w.heap.size, 0, none⟩ = some (.int .i64 x0) ∧ W.cell? ⟨w.heap.size, 1, none⟩ = some (.int .i64 x1) ∧ W.cell? ⟨w.heap.size, 2, none⟩ = some (.int .i64 x2) ∧ W.cell? ⟨w.heap.size, 3, none⟩ = some (.int .i64 x3) ∧ W.cell? ⟨w.heap.size, 4, none⟩ = some (.int .i64 x4) ∧ W.cell? ⟨w.heap.size, 5, none⟩ = some (.int .i64 x5) ∧ W.cell? ⟨w.heap.size, 6, none⟩ = some (.int .i64 x6) ∧ W.cell? ⟨w.heap.size, 7, none⟩ = some (.int .i64 x7) ∧ W.cell? ⟨w.heap.size, 8, none⟩ = some (.int .i64 x8) ∧ W.cell? ⟨w.heap.size + 1, 0, none⟩ = some (.int .i64 p0) ∧ W.cell? ⟨w.heap.size + 1, 1, none⟩ = some (.int .i64 p1) ∧ W.cell? ⟨w.heap.size + 1, 2, none⟩ = some (.int .i64 p2) ∧ W.cell? ⟨w2.heap.size, 0, none⟩ = some (.int .i64 u) ∧ W.cell? ⟨w2.heap.size, 1, none⟩ = some (.int .i64 v) ∧ W.cell? ⟨w4.heap.size, 0, none⟩ = some (.int .i64 0) ∧ W.cell? ⟨w4.heap.size, 1, none⟩ = some (.int .i64 0) ∧ W.cell? ⟨w4.heap.size, 2, none⟩ = some (.int .i64 0) ∧ W.cell? ⟨w4.heap.size, 3, none⟩ = some (.int .i64 0) ∧ W.cell? ⟨w4.heap.size, 4, none⟩ = some (.int .i64 0) ∧ W.cell? ⟨w4.heap.size, 5, none⟩ = some (.int .i64 0) ∧ W.cell? ⟨w4.heap.size, 6, none⟩ = some (.int .i64 0) ∧ W.cell? ⟨w4.heap.size, 7, none⟩ = some (.int .i64 0) ∧ W.cell? ⟨w4.heap.size, 8, none⟩ = some (.int .i64 0)) ((repeat' apply And.intro) <;> (first | (with_reducible assumption) | (refine belowT ?_ ‹_›; first | (go_grown; done) | exact And.left (by assumption)) | (refine belowT (And.left (by assumption)) ?_; go_grown; done) | (go_simp; done) | exact keep1 ‹_› (by first | (go_simp; done) | (go_keep; done)) | (go_keep; done) | omega | (go_grown; done) | (refine Nat.lt_of_lt_of_le ?_ (Below.size ‹_›); first | omega | (simp; done)) | exact keepF ‹_› (by first | omega | (simp; done)) (by first | (go_simp; done) | (go_keep; done)) | (simp; omega) | (simp only [World.size_alloc, World.size_drew, World.size_setCell] at *; omega))) (first | (go_at_call 32; refine (KP.out _).mono ?_; rintro e wa ⟨rfl, hba⟩))
  obtain ⟨p8xb, p8x0, p8x1, p8x2, p8x3, p8x4, p8x5, p8x6, p8x7, p8x8, p8x9, p8x10, p8x11, p8x12, p8x13, p8x14, p8x15, p8x16, p8x17, p8x18, p8x19, p8x20, p8x21, p8x22⟩ := (by assumption : Below w.heap.size w _ ∧ _)
  have p8xz0 := block_lt p8x0
  have p8xz9 := block_lt p8x9
  have p8xz12 := block_lt p8x12
  have p8xz14 := block_lt p8x14
  have p8xs := p8xb.size
  go_wp2_with fail
  refine (KI.out _).mono ?_
  rintro e w9 ⟨rfl, hb9⟩
  have p9xb : Below w.heap.size w w9 := belowT (by first | (go_grown; done) | exact And.left (by assumption)) hb9
  have p9x0 : w9.cell? ⟨w.heap.size, 0, none⟩ = some (.int .i64 x0) := keep1 hb9 (by first | (with_reducible assumption) | (go_simp; done) | ((repeat' (first | (with_reducible assumption) | refine allocC ?_ | refine drewC ?_)); done) | (go_keep; done))
  have p9x1 : w9.cell? ⟨w.heap.size, 1, none⟩ = some (.int .i64 x1) := keep1 hb9 (by first | (with_reducible assumption) | (go_simp; done) | ((repeat' (first | (with_reducible assumption) | refine allocC ?_ | refine drewC ?_)); done) | (go_keep; done))
  have p9x2 : w9.cell? ⟨w.heap.size, 2, none⟩ = some (.int .i64 x2) := keep1 hb9 (by first | (with_reducible assumption) | (go_simp; done) | ((repeat' (first | (with_reducible assumption) | refine allocC ?_ | refine drewC ?_)); done) | (go_keep; done))
  have p9x3 : w9.cell? ⟨w.heap.size, 3, none⟩ = some (.int .i64 x3) := keep1 hb9 (by first | (with_reducible assumption) | (go_simp; done) | ((repeat' (first | (with_reducible assumption) | refine allocC ?_ | refine drewC ?_)); done) | (go_keep; done))
  have p9x4 : w9.cell? ⟨w.heap.size, 4, none⟩ = some (.int .i64 x4) := keep1 hb9 (by first | (with_reducible assumption) | (go_simp; done) | ((repeat' (first | (with_reducible assumption) | refine allocC ?_ | refine drewC ?_)); done) | (go_keep; done))
  have p9x5 : w9.cell? ⟨w.heap.size, 5, none⟩ = some (.int .i64 x5) := keep1 hb9 (by first | (with_reducible assumption) | (go_simp; done) | ((repeat' (first | (with_reducible assumption) | refine allocC ?_ | refine drewC ?_)); done) | (go_keep; done))
  have p9x6 : w9.cell? ⟨w.heap.size, 6, none⟩ = some (.int .i64 x6) := keep1 hb9 (by first | (with_reducible assumption) | (go_simp; done) | ((repeat' (first | (with_reducible assumption) | refine allocC ?_ | refine drewC ?_)); done) | (go_keep; done))
  have p9x7 : w9.cell? ⟨w.heap.size, 7, none⟩ = some (.int .i64 x7) := keep1 hb9 (by first | (with_reducible assumption) | (go_simp; done) | ((repeat' (first | (with_reducible assumption) | refine allocC ?_ | refine drewC ?_)); done) | (go_keep; done))
  have p9x8 : w9.cell? ⟨w.heap.size, 8, none⟩ = some (.int .i64 x8) := keep1 hb9 (by first | (with_reducible assumption) | (go_simp; done) | ((repeat' (first | (with_reducible assumption) | refine allocC ?_ | refine drewC ?_)); done) | (go_keep; done))
  have p9x9 : w9.cell? ⟨w.heap.size + 1, 0, none⟩ = some (.int .i64 p0) := keep1 hb9 (by first | (with_reducible assumption) | (go_simp; done) | ((repeat' (first | (with_reducible assumption) | refine allocC ?_ | refine drewC ?_)); done) | (go_keep; done))
  have p9x10 : w9.cell? ⟨w.heap.size + 1, 1, none⟩ = some (.int .i64 p1) := keep1 hb9 (by first | (with_reducible assumption) | (go_simp; done) | ((repeat' (first | (with_reducible assumption) | refine allocC ?_ | refine drewC ?_)); done) | (go_keep; done))
  have p9x11 : w9.cell? ⟨w.heap.size + 1, 2, none⟩ = some (.int .i64 p2) := keep1 hb9 (by first | (with_reducible assumption) | (go_simp; done) | ((repeat' (first | (with_reducible assumption) | refine allocC ?_ | refine drewC ?_)); done) | (go_keep; done))
  have p9x12 : w9.cell? ⟨w2.heap.size, 0, none⟩ = some (.int .i64 u) := keep1 hb9 (by first | (with_reducible assumption) | (go_simp; done) | ((repeat' (first | (with_reducible assumption) | refine allocC ?_ | refine drewC ?_)); done) | (go_keep; done))
  have p9x13 : w9.cell? ⟨w2.heap.size, 1, none⟩ = some (.int .i64 v) := keep1 hb9 (by first | (with_reducible assumption) | (go_simp; done) | ((repeat' (first | (with_reducible assumption) | refine allocC ?_ | refine drewC ?_)); done) | (go_keep; done))
  have p9x14 : w9.cell? ⟨w4.heap.size, 0, none⟩ = some (.int .i64 0) := keep1 hb9 (by first | (with_reducible assumption) | (go_simp; done) | ((repeat' (first | (with_reducible assumption) | refine allocC ?_ | refine drewC ?_)); done) | (go_keep; done))
  have p9x15 : w9.cell? ⟨w4.heap.size, 1, none⟩ = some (.int .i64 0) := keep1 hb9 (by first | (with_reducible assumption) | (go_simp; done) | ((repeat' (first | (with_reducible assumption) | refine allocC ?_ | refine drewC ?_)); done) | (go_keep; done))
  have p9x16 : w9.cell? ⟨w4.heap.size, 2, none⟩ = some (.int .i64 0) := keep1 hb9 (by first | (with_reducible assumption) | (go_simp; done) | ((repeat' (first | (with_reducible assumption) | refine allocC ?_ | refine drewC ?_)); done) | (go_keep; done))
  have p9x17 : w9.cell? ⟨w4.heap.size, 3, none⟩ = some (.int .i64 0) := keep1 hb9 (by first | (with_reducible assumption) | (go_simp; done) | ((repeat' (first | (with_reducible assumption) | refine allocC ?_ | refine drewC ?_)); done) | (go_keep; done))
  have p9x18 : w9.cell? ⟨w4.heap.size, 4, none⟩ = some (.int .i64 0) := keep1 hb9 (by first | (with_reducible assumption) | (go_simp; done) | ((repeat' (first | (with_reducible assumption) | refine allocC ?_ | refine drewC ?_)); done) | (go_keep; done))
  have p9x19 : w9.cell? ⟨w4.heap.size, 5, none⟩ = some (.int .i64 0) := keep1 hb9 (by first | (with_reducible assumption) | (go_simp; done) | ((repeat' (first | (with_reducible assumption) | refine allocC ?_ | refine drewC ?_)); done) | (go_keep; done))
  have p9x20 : w9.cell? ⟨w4.heap.size, 6, none⟩ = some (.int .i64 0) := keep1 hb9 (by first | (with_reducible assumption) | (go_simp; done) | ((repeat' (first | (with_reducible assumption) | refine allocC ?_ | refine drewC ?_)); done) | (go_keep; done))
  have p9x21 : w9.cell? ⟨w4.heap.size, 7, none⟩ = some (.int .i64 0) := keep1 hb9 (by first | (with_reducible assumption) | (go_simp; done) | ((repeat' (first | (with_reducible assumption) | refine allocC ?_ | refine drewC ?_)); done) | (go_keep; done))
  have p9x22 : w9.cell? ⟨w4.heap.size, 8, none⟩ = some (.int .i64 0) := keep1 hb9 (by first | (with_reducible assumption) | (go_simp; done) | ((repeat' (first | (with_reducible assumption) | refine allocC ?_ | refine drewC ?_)); done) | (go_keep; done))
  have p9xz0 : w.heap.size < w9.heap.size := block_lt p9x0
  have p9xz9 : w.heap.size + 1 < w9.heap.size := block_lt p9x9
  have p9xz12 : w2.heap.size < w9.heap.size := block_lt p9x12
  have p9xz14 : w4.heap.size < w9.heap.size := block_lt p9x14
  have p9xs := p9xb.size
  go_wp2
  go_returns
  exact ⟨rfl, by first | (go_grown; done) | assumption⟩
set_option maxRecDepth 100000 in
set_option maxHeartbeats 8000000 in
theorem lines_good (x0 x1 x2 x3 x4 x5 x6 x7 x8 p0 p1 p2 u v sv se r0 r1 r2 r3 r4 r5 r6 r7 r8 : Int) (w : World) (ht : Tabs w) (hr : w.rangeAt 0 0 permL) (KF : Hid (∀ w, Tabs w → Calls Tryd.prog 24 #[.agg #[.int .i64 x0, .int .i64 x1, .int .i64 x2, .int .i64 x3, .int .i64 x4, .int .i64 x5, .int .i64 x6, .int .i64 x7, .int .i64 x8]] w fun e w' => e = .returned (.tuple #[.agg #[.int .i64 u, .int .i64 v], .int .i64 0]) ∧ Below w.heap.size w w')) (KS : Hid (∀ w, Tabs w → Calls Tryd.prog 23 #[.agg #[.int .i64 x0, .int .i64 x1, .int .i64 x2, .int .i64 x3, .int .i64 x4, .int .i64 x5, .int .i64 x6, .int .i64 x7, .int .i64 x8]] w fun e w' => e = .returned (.tuple #[.int .i64 sv, .int .i64 se]) ∧ Below w.heap.size w w')) (KR : Hid (∀ w, w.rangeAt 0 0 permL → Calls Tryd.prog 28 #[.agg #[.int .i64 x0, .int .i64 x1, .int .i64 x2, .int .i64 x3, .int .i64 x4, .int .i64 x5, .int .i64 x6, .int .i64 x7, .int .i64 x8], .agg #[.int .i64 p0, .int .i64 p1, .int .i64 p2]] w fun e w' => e = .returned (.tuple #[.agg #[.int .i64 r0, .int .i64 r1, .int .i64 r2, .int .i64 r3, .int .i64 r4, .int .i64 r5, .int .i64 r6, .int .i64 r7, .int .i64 r8], .int .i64 0]) ∧ Below w.heap.size w w')) (KL : Hid (∀ w, Calls Tryd.prog 29 #[.agg #[.int .i64 x0, .int .i64 x1, .int .i64 x2, .int .i64 x3, .int .i64 x4, .int .i64 x5, .int .i64 x6, .int .i64 x7, .int .i64 x8]] w fun e w' => e = .returned (.int .i64 0) ∧ Below w.heap.size w w')) (KC : Hid (∀ w, Calls Tryd.prog 30 #[.agg #[.int .i64 x0, .int .i64 x1, .int .i64 x2, .int .i64 x3, .int .i64 x4, .int .i64 x5, .int .i64 x6, .int .i64 x7, .int .i64 x8]] w fun e w' => e = .returned (.int .i64 0) ∧ Below w.heap.size w w')) (KQ : Hid (∀ w, Calls Tryd.prog 31 #[.agg #[.int .i64 x0, .int .i64 x1, .int .i64 x2, .int .i64 x3, .int .i64 x4, .int .i64 x5, .int .i64 x6, .int .i64 x7, .int .i64 x8]] w fun e w' => e = .returned (.tuple #[.int .i64 sv, .int .i64 se]) ∧ Below w.heap.size w w')) (KP : Hid (∀ w, Calls Tryd.prog 32 #[.agg #[.int .i64 x0, .int .i64 x1, .int .i64 x2]] w fun e w' => e = .returned (.agg #[.int .i64 u, .int .i64 v]) ∧ Below w.heap.size w w')) (KI : Hid (∀ w, Calls Tryd.prog 33 #[.agg #[.int .i64 p0, .int .i64 p1, .int .i64 p2]] w fun e w' => e = .returned (.bool true) ∧ Below w.heap.size w w')) (KN : Hid (∀ w, Calls Tryd.prog 34 #[.agg #[.int .i64 x0, .int .i64 x1, .int .i64 x2, .int .i64 x3, .int .i64 x4, .int .i64 x5, .int .i64 x6, .int .i64 x7, .int .i64 x8], .agg #[.int .i64 p0, .int .i64 p1, .int .i64 p2]] w fun e w' => e = .returned (.agg #[.int .i64 r0, .int .i64 r1, .int .i64 r2, .int .i64 r3, .int .i64 r4, .int .i64 r5, .int .i64 r6, .int .i64 r7, .int .i64 r8]) ∧ Below w.heap.size w w')) :
    Calls Tryd.prog 5 #[.agg #[.int .i64 x0, .int .i64 x1, .int .i64 x2, .int .i64 x3, .int .i64 x4, .int .i64 x5, .int .i64 x6, .int .i64 x7, .int .i64 x8], .agg #[.int .i64 p0, .int .i64 p1, .int .i64 p2]] w fun e w' => e = .returned (.bool true) ∧ Below w.heap.size w w' := by
  have s27 := same27 r0 r1 r2 r3 r4 r5 r6 r7 r8
  have n27 := eql27 r0 r1 r2 r3 r4 r5 r6 r7 r8
  have n42 := nsame42 u v
  go_enter Tryd.func5, Tryd.ntmps5
  go_wp2_with fail
  refine (awake_any _ (ht.below (by go_grown))).mono ?_
  rintro e w1 ⟨rfl, hb1⟩
  have p1xb : Below w.heap.size w w1 := belowT (by first | (go_grown; done) | exact And.left (by assumption)) hb1
  have p1x0 : w1.cell? ⟨w.heap.size, 0, none⟩ = some (.int .i64 x0) := keep1 hb1 (by first | (with_reducible assumption) | (go_simp; done) | ((repeat' (first | (with_reducible assumption) | refine allocC ?_ | refine drewC ?_)); done) | (go_keep; done))
  have p1x1 : w1.cell? ⟨w.heap.size, 1, none⟩ = some (.int .i64 x1) := keep1 hb1 (by first | (with_reducible assumption) | (go_simp; done) | ((repeat' (first | (with_reducible assumption) | refine allocC ?_ | refine drewC ?_)); done) | (go_keep; done))
  have p1x2 : w1.cell? ⟨w.heap.size, 2, none⟩ = some (.int .i64 x2) := keep1 hb1 (by first | (with_reducible assumption) | (go_simp; done) | ((repeat' (first | (with_reducible assumption) | refine allocC ?_ | refine drewC ?_)); done) | (go_keep; done))
  have p1x3 : w1.cell? ⟨w.heap.size, 3, none⟩ = some (.int .i64 x3) := keep1 hb1 (by first | (with_reducible assumption) | (go_simp; done) | ((repeat' (first | (with_reducible assumption) | refine allocC ?_ | refine drewC ?_)); done) | (go_keep; done))
  have p1x4 : w1.cell? ⟨w.heap.size, 4, none⟩ = some (.int .i64 x4) := keep1 hb1 (by first | (with_reducible assumption) | (go_simp; done) | ((repeat' (first | (with_reducible assumption) | refine allocC ?_ | refine drewC ?_)); done) | (go_keep; done))
  have p1x5 : w1.cell? ⟨w.heap.size, 5, none⟩ = some (.int .i64 x5) := keep1 hb1 (by first | (with_reducible assumption) | (go_simp; done) | ((repeat' (first | (with_reducible assumption) | refine allocC ?_ | refine drewC ?_)); done) | (go_keep; done))
  have p1x6 : w1.cell? ⟨w.heap.size, 6, none⟩ = some (.int .i64 x6) := keep1 hb1 (by first | (with_reducible assumption) | (go_simp; done) | ((repeat' (first | (with_reducible assumption) | refine allocC ?_ | refine drewC ?_)); done) | (go_keep; done))
  have p1x7 : w1.cell? ⟨w.heap.size, 7, none⟩ = some (.int .i64 x7) := keep1 hb1 (by first | (with_reducible assumption) | (go_simp; done) | ((repeat' (first | (with_reducible assumption) | refine allocC ?_ | refine drewC ?_)); done) | (go_keep; done))
  have p1x8 : w1.cell? ⟨w.heap.size, 8, none⟩ = some (.int .i64 x8) := keep1 hb1 (by first | (with_reducible assumption) | (go_simp; done) | ((repeat' (first | (with_reducible assumption) | refine allocC ?_ | refine drewC ?_)); done) | (go_keep; done))
  have p1x9 : w1.cell? ⟨w.heap.size + 1, 0, none⟩ = some (.int .i64 p0) := keep1 hb1 (by first | (with_reducible assumption) | (go_simp; done) | ((repeat' (first | (with_reducible assumption) | refine allocC ?_ | refine drewC ?_)); done) | (go_keep; done))
  have p1x10 : w1.cell? ⟨w.heap.size + 1, 1, none⟩ = some (.int .i64 p1) := keep1 hb1 (by first | (with_reducible assumption) | (go_simp; done) | ((repeat' (first | (with_reducible assumption) | refine allocC ?_ | refine drewC ?_)); done) | (go_keep; done))
  have p1x11 : w1.cell? ⟨w.heap.size + 1, 2, none⟩ = some (.int .i64 p2) := keep1 hb1 (by first | (with_reducible assumption) | (go_simp; done) | ((repeat' (first | (with_reducible assumption) | refine allocC ?_ | refine drewC ?_)); done) | (go_keep; done))
  have p1xz0 : w.heap.size < w1.heap.size := block_lt p1x0
  have p1xz9 : w.heap.size + 1 < w1.heap.size := block_lt p1x9
  have p1xs := p1xb.size
  go_wp2_with fail
  refine (KF.out _ (ht.below (by first | (with_reducible assumption) | (go_grown; done)))).mono ?_
  rintro e w2 ⟨rfl, hb2⟩
  have p2xb : Below w.heap.size w w2 := belowT (by first | (go_grown; done) | exact And.left (by assumption)) hb2
  have p2x0 : w2.cell? ⟨w.heap.size, 0, none⟩ = some (.int .i64 x0) := keep1 hb2 (by first | (with_reducible assumption) | (go_simp; done) | ((repeat' (first | (with_reducible assumption) | refine allocC ?_ | refine drewC ?_)); done) | (go_keep; done))
  have p2x1 : w2.cell? ⟨w.heap.size, 1, none⟩ = some (.int .i64 x1) := keep1 hb2 (by first | (with_reducible assumption) | (go_simp; done) | ((repeat' (first | (with_reducible assumption) | refine allocC ?_ | refine drewC ?_)); done) | (go_keep; done))
  have p2x2 : w2.cell? ⟨w.heap.size, 2, none⟩ = some (.int .i64 x2) := keep1 hb2 (by first | (with_reducible assumption) | (go_simp; done) | ((repeat' (first | (with_reducible assumption) | refine allocC ?_ | refine drewC ?_)); done) | (go_keep; done))
  have p2x3 : w2.cell? ⟨w.heap.size, 3, none⟩ = some (.int .i64 x3) := keep1 hb2 (by first | (with_reducible assumption) | (go_simp; done) | ((repeat' (first | (with_reducible assumption) | refine allocC ?_ | refine drewC ?_)); done) | (go_keep; done))
  have p2x4 : w2.cell? ⟨w.heap.size, 4, none⟩ = some (.int .i64 x4) := keep1 hb2 (by first | (with_reducible assumption) | (go_simp; done) | ((repeat' (first | (with_reducible assumption) | refine allocC ?_ | refine drewC ?_)); done) | (go_keep; done))
  have p2x5 : w2.cell? ⟨w.heap.size, 5, none⟩ = some (.int .i64 x5) := keep1 hb2 (by first | (with_reducible assumption) | (go_simp; done) | ((repeat' (first | (with_reducible assumption) | refine allocC ?_ | refine drewC ?_)); done) | (go_keep; done))
  have p2x6 : w2.cell? ⟨w.heap.size, 6, none⟩ = some (.int .i64 x6) := keep1 hb2 (by first | (with_reducible assumption) | (go_simp; done) | ((repeat' (first | (with_reducible assumption) | refine allocC ?_ | refine drewC ?_)); done) | (go_keep; done))
  have p2x7 : w2.cell? ⟨w.heap.size, 7, none⟩ = some (.int .i64 x7) := keep1 hb2 (by first | (with_reducible assumption) | (go_simp; done) | ((repeat' (first | (with_reducible assumption) | refine allocC ?_ | refine drewC ?_)); done) | (go_keep; done))
  have p2x8 : w2.cell? ⟨w.heap.size, 8, none⟩ = some (.int .i64 x8) := keep1 hb2 (by first | (with_reducible assumption) | (go_simp; done) | ((repeat' (first | (with_reducible assumption) | refine allocC ?_ | refine drewC ?_)); done) | (go_keep; done))
  have p2x9 : w2.cell? ⟨w.heap.size + 1, 0, none⟩ = some (.int .i64 p0) := keep1 hb2 (by first | (with_reducible assumption) | (go_simp; done) | ((repeat' (first | (with_reducible assumption) | refine allocC ?_ | refine drewC ?_)); done) | (go_keep; done))
  have p2x10 : w2.cell? ⟨w.heap.size + 1, 1, none⟩ = some (.int .i64 p1) := keep1 hb2 (by first | (with_reducible assumption) | (go_simp; done) | ((repeat' (first | (with_reducible assumption) | refine allocC ?_ | refine drewC ?_)); done) | (go_keep; done))
  have p2x11 : w2.cell? ⟨w.heap.size + 1, 2, none⟩ = some (.int .i64 p2) := keep1 hb2 (by first | (with_reducible assumption) | (go_simp; done) | ((repeat' (first | (with_reducible assumption) | refine allocC ?_ | refine drewC ?_)); done) | (go_keep; done))
  have p2xz0 : w.heap.size < w2.heap.size := block_lt p2x0
  have p2xz9 : w.heap.size + 1 < w2.heap.size := block_lt p2x9
  have p2xs := p2xb.size
  go_wp2_with fail
  refine (KS.out _ (ht.below (by first | (with_reducible assumption) | (go_grown; done)))).mono ?_
  rintro e w3 ⟨rfl, hb3⟩
  have p3xb : Below w.heap.size w w3 := belowT (by first | (go_grown; done) | exact And.left (by assumption)) hb3
  have p3x0 : w3.cell? ⟨w.heap.size, 0, none⟩ = some (.int .i64 x0) := keep1 hb3 (by first | (with_reducible assumption) | (go_simp; done) | ((repeat' (first | (with_reducible assumption) | refine allocC ?_ | refine drewC ?_)); done) | (go_keep; done))
  have p3x1 : w3.cell? ⟨w.heap.size, 1, none⟩ = some (.int .i64 x1) := keep1 hb3 (by first | (with_reducible assumption) | (go_simp; done) | ((repeat' (first | (with_reducible assumption) | refine allocC ?_ | refine drewC ?_)); done) | (go_keep; done))
  have p3x2 : w3.cell? ⟨w.heap.size, 2, none⟩ = some (.int .i64 x2) := keep1 hb3 (by first | (with_reducible assumption) | (go_simp; done) | ((repeat' (first | (with_reducible assumption) | refine allocC ?_ | refine drewC ?_)); done) | (go_keep; done))
  have p3x3 : w3.cell? ⟨w.heap.size, 3, none⟩ = some (.int .i64 x3) := keep1 hb3 (by first | (with_reducible assumption) | (go_simp; done) | ((repeat' (first | (with_reducible assumption) | refine allocC ?_ | refine drewC ?_)); done) | (go_keep; done))
  have p3x4 : w3.cell? ⟨w.heap.size, 4, none⟩ = some (.int .i64 x4) := keep1 hb3 (by first | (with_reducible assumption) | (go_simp; done) | ((repeat' (first | (with_reducible assumption) | refine allocC ?_ | refine drewC ?_)); done) | (go_keep; done))
  have p3x5 : w3.cell? ⟨w.heap.size, 5, none⟩ = some (.int .i64 x5) := keep1 hb3 (by first | (with_reducible assumption) | (go_simp; done) | ((repeat' (first | (with_reducible assumption) | refine allocC ?_ | refine drewC ?_)); done) | (go_keep; done))
  have p3x6 : w3.cell? ⟨w.heap.size, 6, none⟩ = some (.int .i64 x6) := keep1 hb3 (by first | (with_reducible assumption) | (go_simp; done) | ((repeat' (first | (with_reducible assumption) | refine allocC ?_ | refine drewC ?_)); done) | (go_keep; done))
  have p3x7 : w3.cell? ⟨w.heap.size, 7, none⟩ = some (.int .i64 x7) := keep1 hb3 (by first | (with_reducible assumption) | (go_simp; done) | ((repeat' (first | (with_reducible assumption) | refine allocC ?_ | refine drewC ?_)); done) | (go_keep; done))
  have p3x8 : w3.cell? ⟨w.heap.size, 8, none⟩ = some (.int .i64 x8) := keep1 hb3 (by first | (with_reducible assumption) | (go_simp; done) | ((repeat' (first | (with_reducible assumption) | refine allocC ?_ | refine drewC ?_)); done) | (go_keep; done))
  have p3x9 : w3.cell? ⟨w.heap.size + 1, 0, none⟩ = some (.int .i64 p0) := keep1 hb3 (by first | (with_reducible assumption) | (go_simp; done) | ((repeat' (first | (with_reducible assumption) | refine allocC ?_ | refine drewC ?_)); done) | (go_keep; done))
  have p3x10 : w3.cell? ⟨w.heap.size + 1, 1, none⟩ = some (.int .i64 p1) := keep1 hb3 (by first | (with_reducible assumption) | (go_simp; done) | ((repeat' (first | (with_reducible assumption) | refine allocC ?_ | refine drewC ?_)); done) | (go_keep; done))
  have p3x11 : w3.cell? ⟨w.heap.size + 1, 2, none⟩ = some (.int .i64 p2) := keep1 hb3 (by first | (with_reducible assumption) | (go_simp; done) | ((repeat' (first | (with_reducible assumption) | refine allocC ?_ | refine drewC ?_)); done) | (go_keep; done))
  have p3x12 : w3.cell? ⟨w2.heap.size, 0, none⟩ = some (.int .i64 u) := keep1 hb3 (by first | (with_reducible assumption) | (go_simp; done) | ((repeat' (first | (with_reducible assumption) | refine allocC ?_ | refine drewC ?_)); done) | (go_keep; done))
  have p3x13 : w3.cell? ⟨w2.heap.size, 1, none⟩ = some (.int .i64 v) := keep1 hb3 (by first | (with_reducible assumption) | (go_simp; done) | ((repeat' (first | (with_reducible assumption) | refine allocC ?_ | refine drewC ?_)); done) | (go_keep; done))
  have p3xz0 : w.heap.size < w3.heap.size := block_lt p3x0
  have p3xz9 : w.heap.size + 1 < w3.heap.size := block_lt p3x9
  have p3xz12 : w2.heap.size < w3.heap.size := block_lt p3x12
  have p3xs := p3xb.size
  go_wp2_with fail
  refine (KR.out _ (rangeB (w := w) (by first | (with_reducible assumption) | (go_grown; done)) hr)).mono ?_
  rintro e w4 ⟨rfl, hb4⟩
  have p4xb : Below w.heap.size w w4 := belowT (by first | (go_grown; done) | exact And.left (by assumption)) hb4
  have p4x0 : w4.cell? ⟨w.heap.size, 0, none⟩ = some (.int .i64 x0) := keep1 hb4 (by first | (with_reducible assumption) | (go_simp; done) | ((repeat' (first | (with_reducible assumption) | refine allocC ?_ | refine drewC ?_)); done) | (go_keep; done))
  have p4x1 : w4.cell? ⟨w.heap.size, 1, none⟩ = some (.int .i64 x1) := keep1 hb4 (by first | (with_reducible assumption) | (go_simp; done) | ((repeat' (first | (with_reducible assumption) | refine allocC ?_ | refine drewC ?_)); done) | (go_keep; done))
  have p4x2 : w4.cell? ⟨w.heap.size, 2, none⟩ = some (.int .i64 x2) := keep1 hb4 (by first | (with_reducible assumption) | (go_simp; done) | ((repeat' (first | (with_reducible assumption) | refine allocC ?_ | refine drewC ?_)); done) | (go_keep; done))
  have p4x3 : w4.cell? ⟨w.heap.size, 3, none⟩ = some (.int .i64 x3) := keep1 hb4 (by first | (with_reducible assumption) | (go_simp; done) | ((repeat' (first | (with_reducible assumption) | refine allocC ?_ | refine drewC ?_)); done) | (go_keep; done))
  have p4x4 : w4.cell? ⟨w.heap.size, 4, none⟩ = some (.int .i64 x4) := keep1 hb4 (by first | (with_reducible assumption) | (go_simp; done) | ((repeat' (first | (with_reducible assumption) | refine allocC ?_ | refine drewC ?_)); done) | (go_keep; done))
  have p4x5 : w4.cell? ⟨w.heap.size, 5, none⟩ = some (.int .i64 x5) := keep1 hb4 (by first | (with_reducible assumption) | (go_simp; done) | ((repeat' (first | (with_reducible assumption) | refine allocC ?_ | refine drewC ?_)); done) | (go_keep; done))
  have p4x6 : w4.cell? ⟨w.heap.size, 6, none⟩ = some (.int .i64 x6) := keep1 hb4 (by first | (with_reducible assumption) | (go_simp; done) | ((repeat' (first | (with_reducible assumption) | refine allocC ?_ | refine drewC ?_)); done) | (go_keep; done))
  have p4x7 : w4.cell? ⟨w.heap.size, 7, none⟩ = some (.int .i64 x7) := keep1 hb4 (by first | (with_reducible assumption) | (go_simp; done) | ((repeat' (first | (with_reducible assumption) | refine allocC ?_ | refine drewC ?_)); done) | (go_keep; done))
  have p4x8 : w4.cell? ⟨w.heap.size, 8, none⟩ = some (.int .i64 x8) := keep1 hb4 (by first | (with_reducible assumption) | (go_simp; done) | ((repeat' (first | (with_reducible assumption) | refine allocC ?_ | refine drewC ?_)); done) | (go_keep; done))
  have p4x9 : w4.cell? ⟨w.heap.size + 1, 0, none⟩ = some (.int .i64 p0) := keep1 hb4 (by first | (with_reducible assumption) | (go_simp; done) | ((repeat' (first | (with_reducible assumption) | refine allocC ?_ | refine drewC ?_)); done) | (go_keep; done))
  have p4x10 : w4.cell? ⟨w.heap.size + 1, 1, none⟩ = some (.int .i64 p1) := keep1 hb4 (by first | (with_reducible assumption) | (go_simp; done) | ((repeat' (first | (with_reducible assumption) | refine allocC ?_ | refine drewC ?_)); done) | (go_keep; done))
  have p4x11 : w4.cell? ⟨w.heap.size + 1, 2, none⟩ = some (.int .i64 p2) := keep1 hb4 (by first | (with_reducible assumption) | (go_simp; done) | ((repeat' (first | (with_reducible assumption) | refine allocC ?_ | refine drewC ?_)); done) | (go_keep; done))
  have p4x12 : w4.cell? ⟨w2.heap.size, 0, none⟩ = some (.int .i64 u) := keep1 hb4 (by first | (with_reducible assumption) | (go_simp; done) | ((repeat' (first | (with_reducible assumption) | refine allocC ?_ | refine drewC ?_)); done) | (go_keep; done))
  have p4x13 : w4.cell? ⟨w2.heap.size, 1, none⟩ = some (.int .i64 v) := keep1 hb4 (by first | (with_reducible assumption) | (go_simp; done) | ((repeat' (first | (with_reducible assumption) | refine allocC ?_ | refine drewC ?_)); done) | (go_keep; done))
  have p4xz0 : w.heap.size < w4.heap.size := block_lt p4x0
  have p4xz9 : w.heap.size + 1 < w4.heap.size := block_lt p4x9
  have p4xz12 : w2.heap.size < w4.heap.size := block_lt p4x12
  have p4xs := p4xb.size
  go_wp2_with fail
  refine (KL.out _).mono ?_
  rintro e w5 ⟨rfl, hb5⟩
  have p5xb : Below w.heap.size w w5 := belowT (by first | (go_grown; done) | exact And.left (by assumption)) hb5
  have p5x0 : w5.cell? ⟨w.heap.size, 0, none⟩ = some (.int .i64 x0) := keep1 hb5 (by first | (with_reducible assumption) | (go_simp; done) | ((repeat' (first | (with_reducible assumption) | refine allocC ?_ | refine drewC ?_)); done) | (go_keep; done))
  have p5x1 : w5.cell? ⟨w.heap.size, 1, none⟩ = some (.int .i64 x1) := keep1 hb5 (by first | (with_reducible assumption) | (go_simp; done) | ((repeat' (first | (with_reducible assumption) | refine allocC ?_ | refine drewC ?_)); done) | (go_keep; done))
  have p5x2 : w5.cell? ⟨w.heap.size, 2, none⟩ = some (.int .i64 x2) := keep1 hb5 (by first | (with_reducible assumption) | (go_simp; done) | ((repeat' (first | (with_reducible assumption) | refine allocC ?_ | refine drewC ?_)); done) | (go_keep; done))
  have p5x3 : w5.cell? ⟨w.heap.size, 3, none⟩ = some (.int .i64 x3) := keep1 hb5 (by first | (with_reducible assumption) | (go_simp; done) | ((repeat' (first | (with_reducible assumption) | refine allocC ?_ | refine drewC ?_)); done) | (go_keep; done))
  have p5x4 : w5.cell? ⟨w.heap.size, 4, none⟩ = some (.int .i64 x4) := keep1 hb5 (by first | (with_reducible assumption) | (go_simp; done) | ((repeat' (first | (with_reducible assumption) | refine allocC ?_ | refine drewC ?_)); done) | (go_keep; done))
  have p5x5 : w5.cell? ⟨w.heap.size, 5, none⟩ = some (.int .i64 x5) := keep1 hb5 (by first | (with_reducible assumption) | (go_simp; done) | ((repeat' (first | (with_reducible assumption) | refine allocC ?_ | refine drewC ?_)); done) | (go_keep; done))
  have p5x6 : w5.cell? ⟨w.heap.size, 6, none⟩ = some (.int .i64 x6) := keep1 hb5 (by first | (with_reducible assumption) | (go_simp; done) | ((repeat' (first | (with_reducible assumption) | refine allocC ?_ | refine drewC ?_)); done) | (go_keep; done))
  have p5x7 : w5.cell? ⟨w.heap.size, 7, none⟩ = some (.int .i64 x7) := keep1 hb5 (by first | (with_reducible assumption) | (go_simp; done) | ((repeat' (first | (with_reducible assumption) | refine allocC ?_ | refine drewC ?_)); done) | (go_keep; done))
  have p5x8 : w5.cell? ⟨w.heap.size, 8, none⟩ = some (.int .i64 x8) := keep1 hb5 (by first | (with_reducible assumption) | (go_simp; done) | ((repeat' (first | (with_reducible assumption) | refine allocC ?_ | refine drewC ?_)); done) | (go_keep; done))
  have p5x9 : w5.cell? ⟨w.heap.size + 1, 0, none⟩ = some (.int .i64 p0) := keep1 hb5 (by first | (with_reducible assumption) | (go_simp; done) | ((repeat' (first | (with_reducible assumption) | refine allocC ?_ | refine drewC ?_)); done) | (go_keep; done))
  have p5x10 : w5.cell? ⟨w.heap.size + 1, 1, none⟩ = some (.int .i64 p1) := keep1 hb5 (by first | (with_reducible assumption) | (go_simp; done) | ((repeat' (first | (with_reducible assumption) | refine allocC ?_ | refine drewC ?_)); done) | (go_keep; done))
  have p5x11 : w5.cell? ⟨w.heap.size + 1, 2, none⟩ = some (.int .i64 p2) := keep1 hb5 (by first | (with_reducible assumption) | (go_simp; done) | ((repeat' (first | (with_reducible assumption) | refine allocC ?_ | refine drewC ?_)); done) | (go_keep; done))
  have p5x12 : w5.cell? ⟨w2.heap.size, 0, none⟩ = some (.int .i64 u) := keep1 hb5 (by first | (with_reducible assumption) | (go_simp; done) | ((repeat' (first | (with_reducible assumption) | refine allocC ?_ | refine drewC ?_)); done) | (go_keep; done))
  have p5x13 : w5.cell? ⟨w2.heap.size, 1, none⟩ = some (.int .i64 v) := keep1 hb5 (by first | (with_reducible assumption) | (go_simp; done) | ((repeat' (first | (with_reducible assumption) | refine allocC ?_ | refine drewC ?_)); done) | (go_keep; done))
  have p5x14 : w5.cell? ⟨w4.heap.size, 0, none⟩ = some (.int .i64 r0) := keep1 hb5 (by first | (with_reducible assumption) | (go_simp; done) | ((repeat' (first | (with_reducible assumption) | refine allocC ?_ | refine drewC ?_)); done) | (go_keep; done))
  have p5x15 : w5.cell? ⟨w4.heap.size, 1, none⟩ = some (.int .i64 r1) := keep1 hb5 (by first | (with_reducible assumption) | (go_simp; done) | ((repeat' (first | (with_reducible assumption) | refine allocC ?_ | refine drewC ?_)); done) | (go_keep; done))
  have p5x16 : w5.cell? ⟨w4.heap.size, 2, none⟩ = some (.int .i64 r2) := keep1 hb5 (by first | (with_reducible assumption) | (go_simp; done) | ((repeat' (first | (with_reducible assumption) | refine allocC ?_ | refine drewC ?_)); done) | (go_keep; done))
  have p5x17 : w5.cell? ⟨w4.heap.size, 3, none⟩ = some (.int .i64 r3) := keep1 hb5 (by first | (with_reducible assumption) | (go_simp; done) | ((repeat' (first | (with_reducible assumption) | refine allocC ?_ | refine drewC ?_)); done) | (go_keep; done))
  have p5x18 : w5.cell? ⟨w4.heap.size, 4, none⟩ = some (.int .i64 r4) := keep1 hb5 (by first | (with_reducible assumption) | (go_simp; done) | ((repeat' (first | (with_reducible assumption) | refine allocC ?_ | refine drewC ?_)); done) | (go_keep; done))
  have p5x19 : w5.cell? ⟨w4.heap.size, 5, none⟩ = some (.int .i64 r5) := keep1 hb5 (by first | (with_reducible assumption) | (go_simp; done) | ((repeat' (first | (with_reducible assumption) | refine allocC ?_ | refine drewC ?_)); done) | (go_keep; done))
  have p5x20 : w5.cell? ⟨w4.heap.size, 6, none⟩ = some (.int .i64 r6) := keep1 hb5 (by first | (with_reducible assumption) | (go_simp; done) | ((repeat' (first | (with_reducible assumption) | refine allocC ?_ | refine drewC ?_)); done) | (go_keep; done))
  have p5x21 : w5.cell? ⟨w4.heap.size, 7, none⟩ = some (.int .i64 r7) := keep1 hb5 (by first | (with_reducible assumption) | (go_simp; done) | ((repeat' (first | (with_reducible assumption) | refine allocC ?_ | refine drewC ?_)); done) | (go_keep; done))
  have p5x22 : w5.cell? ⟨w4.heap.size, 8, none⟩ = some (.int .i64 r8) := keep1 hb5 (by first | (with_reducible assumption) | (go_simp; done) | ((repeat' (first | (with_reducible assumption) | refine allocC ?_ | refine drewC ?_)); done) | (go_keep; done))
  have p5xz0 : w.heap.size < w5.heap.size := block_lt p5x0
  have p5xz9 : w.heap.size + 1 < w5.heap.size := block_lt p5x9
  have p5xz12 : w2.heap.size < w5.heap.size := block_lt p5x12
  have p5xz14 : w4.heap.size < w5.heap.size := block_lt p5x14
  have p5xs := p5xb.size
  go_wp2_with fail
  refine (KC.out _).mono ?_
  rintro e w6 ⟨rfl, hb6⟩
  have p6xb : Below w.heap.size w w6 := belowT (by first | (go_grown; done) | exact And.left (by assumption)) hb6
  have p6x0 : w6.cell? ⟨w.heap.size, 0, none⟩ = some (.int .i64 x0) := keep1 hb6 (by first | (with_reducible assumption) | (go_simp; done) | ((repeat' (first | (with_reducible assumption) | refine allocC ?_ | refine drewC ?_)); done) | (go_keep; done))
  have p6x1 : w6.cell? ⟨w.heap.size, 1, none⟩ = some (.int .i64 x1) := keep1 hb6 (by first | (with_reducible assumption) | (go_simp; done) | ((repeat' (first | (with_reducible assumption) | refine allocC ?_ | refine drewC ?_)); done) | (go_keep; done))
  have p6x2 : w6.cell? ⟨w.heap.size, 2, none⟩ = some (.int .i64 x2) := keep1 hb6 (by first | (with_reducible assumption) | (go_simp; done) | ((repeat' (first | (with_reducible assumption) | refine allocC ?_ | refine drewC ?_)); done) | (go_keep; done))
  have p6x3 : w6.cell? ⟨w.heap.size, 3, none⟩ = some (.int .i64 x3) := keep1 hb6 (by first | (with_reducible assumption) | (go_simp; done) | ((repeat' (first | (with_reducible assumption) | refine allocC ?_ | refine drewC ?_)); done) | (go_keep; done))
  have p6x4 : w6.cell? ⟨w.heap.size, 4, none⟩ = some (.int .i64 x4) := keep1 hb6 (by first | (with_reducible assumption) | (go_simp; done) | ((repeat' (first | (with_reducible assumption) | refine allocC ?_ | refine drewC ?_)); done) | (go_keep; done))
  have p6x5 : w6.cell? ⟨w.heap.size, 5, none⟩ = some (.int .i64 x5) := keep1 hb6 (by first | (with_reducible assumption) | (go_simp; done) | ((repeat' (first | (with_reducible assumption) | refine allocC ?_ | refine drewC ?_)); done) | (go_keep; done))
  have p6x6 : w6.cell? ⟨w.heap.size, 6, none⟩ = some (.int .i64 x6) := keep1 hb6 (by first | (with_reducible assumption) | (go_simp; done) | ((repeat' (first | (with_reducible assumption) | refine allocC ?_ | refine drewC ?_)); done) | (go_keep; done))
  have p6x7 : w6.cell? ⟨w.heap.size, 7, none⟩ = some (.int .i64 x7) := keep1 hb6 (by first | (with_reducible assumption) | (go_simp; done) | ((repeat' (first | (with_reducible assumption) | refine allocC ?_ | refine drewC ?_)); done) | (go_keep; done))
  have p6x8 : w6.cell? ⟨w.heap.size, 8, none⟩ = some (.int .i64 x8) := keep1 hb6 (by first | (with_reducible assumption) | (go_simp; done) | ((repeat' (first | (with_reducible assumption) | refine allocC ?_ | refine drewC ?_)); done) | (go_keep; done))
  have p6x9 : w6.cell? ⟨w.heap.size + 1, 0, none⟩ = some (.int .i64 p0) := keep1 hb6 (by first | (with_reducible assumption) | (go_simp; done) | ((repeat' (first | (with_reducible assumption) | refine allocC ?_ | refine drewC ?_)); done) | (go_keep; done))
  have p6x10 : w6.cell? ⟨w.heap.size + 1, 1, none⟩ = some (.int .i64 p1) := keep1 hb6 (by first | (with_reducible assumption) | (go_simp; done) | ((repeat' (first | (with_reducible assumption) | refine allocC ?_ | refine drewC ?_)); done) | (go_keep; done))
  have p6x11 : w6.cell? ⟨w.heap.size + 1, 2, none⟩ = some (.int .i64 p2) := keep1 hb6 (by first | (with_reducible assumption) | (go_simp; done) | ((repeat' (first | (with_reducible assumption) | refine allocC ?_ | refine drewC ?_)); done) | (go_keep; done))
  have p6x12 : w6.cell? ⟨w2.heap.size, 0, none⟩ = some (.int .i64 u) := keep1 hb6 (by first | (with_reducible assumption) | (go_simp; done) | ((repeat' (first | (with_reducible assumption) | refine allocC ?_ | refine drewC ?_)); done) | (go_keep; done))
  have p6x13 : w6.cell? ⟨w2.heap.size, 1, none⟩ = some (.int .i64 v) := keep1 hb6 (by first | (with_reducible assumption) | (go_simp; done) | ((repeat' (first | (with_reducible assumption) | refine allocC ?_ | refine drewC ?_)); done) | (go_keep; done))
  have p6x14 : w6.cell? ⟨w4.heap.size, 0, none⟩ = some (.int .i64 r0) := keep1 hb6 (by first | (with_reducible assumption) | (go_simp; done) | ((repeat' (first | (with_reducible assumption) | refine allocC ?_ | refine drewC ?_)); done) | (go_keep; done))
  have p6x15 : w6.cell? ⟨w4.heap.size, 1, none⟩ = some (.int .i64 r1) := keep1 hb6 (by first | (with_reducible assumption) | (go_simp; done) | ((repeat' (first | (with_reducible assumption) | refine allocC ?_ | refine drewC ?_)); done) | (go_keep; done))
  have p6x16 : w6.cell? ⟨w4.heap.size, 2, none⟩ = some (.int .i64 r2) := keep1 hb6 (by first | (with_reducible assumption) | (go_simp; done) | ((repeat' (first | (with_reducible assumption) | refine allocC ?_ | refine drewC ?_)); done) | (go_keep; done))
  have p6x17 : w6.cell? ⟨w4.heap.size, 3, none⟩ = some (.int .i64 r3) := keep1 hb6 (by first | (with_reducible assumption) | (go_simp; done) | ((repeat' (first | (with_reducible assumption) | refine allocC ?_ | refine drewC ?_)); done) | (go_keep; done))
  have p6x18 : w6.cell? ⟨w4.heap.size, 4, none⟩ = some (.int .i64 r4) := keep1 hb6 (by first | (with_reducible assumption) | (go_simp; done) | ((repeat' (first | (with_reducible assumption) | refine allocC ?_ | refine drewC ?_)); done) | (go_keep; done))
  have p6x19 : w6.cell? ⟨w4.heap.size, 5, none⟩ = some (.int .i64 r5) := keep1 hb6 (by first | (with_reducible assumption) | (go_simp; done) | ((repeat' (first | (with_reducible assumption) | refine allocC ?_ | refine drewC ?_)); done) | (go_keep; done))
  have p6x20 : w6.cell? ⟨w4.heap.size, 6, none⟩ = some (.int .i64 r6) := keep1 hb6 (by first | (with_reducible assumption) | (go_simp; done) | ((repeat' (first | (with_reducible assumption) | refine allocC ?_ | refine drewC ?_)); done) | (go_keep; done))
  have p6x21 : w6.cell? ⟨w4.heap.size, 7, none⟩ = some (.int .i64 r7) := keep1 hb6 (by first | (with_reducible assumption) | (go_simp; done) | ((repeat' (first | (with_reducible assumption) | refine allocC ?_ | refine drewC ?_)); done) | (go_keep; done))
  have p6x22 : w6.cell? ⟨w4.heap.size, 8, none⟩ = some (.int .i64 r8) := keep1 hb6 (by first | (with_reducible assumption) | (go_simp; done) | ((repeat' (first | (with_reducible assumption) | refine allocC ?_ | refine drewC ?_)); done) | (go_keep; done))
  have p6xz0 : w.heap.size < w6.heap.size := block_lt p6x0
  have p6xz9 : w.heap.size + 1 < w6.heap.size := block_lt p6x9
  have p6xz12 : w2.heap.size < w6.heap.size := block_lt p6x12
  have p6xz14 : w4.heap.size < w6.heap.size := block_lt p6x14
  have p6xs := p6xb.size
  go_wp2_with fail
  refine (KQ.out _).mono ?_
  rintro e w7 ⟨rfl, hb7⟩
  have p7xb : Below w.heap.size w w7 := belowT (by first | (go_grown; done) | exact And.left (by assumption)) hb7
  have p7x0 : w7.cell? ⟨w.heap.size, 0, none⟩ = some (.int .i64 x0) := keep1 hb7 (by first | (with_reducible assumption) | (go_simp; done) | ((repeat' (first | (with_reducible assumption) | refine allocC ?_ | refine drewC ?_)); done) | (go_keep; done))
  have p7x1 : w7.cell? ⟨w.heap.size, 1, none⟩ = some (.int .i64 x1) := keep1 hb7 (by first | (with_reducible assumption) | (go_simp; done) | ((repeat' (first | (with_reducible assumption) | refine allocC ?_ | refine drewC ?_)); done) | (go_keep; done))
  have p7x2 : w7.cell? ⟨w.heap.size, 2, none⟩ = some (.int .i64 x2) := keep1 hb7 (by first | (with_reducible assumption) | (go_simp; done) | ((repeat' (first | (with_reducible assumption) | refine allocC ?_ | refine drewC ?_)); done) | (go_keep; done))
  have p7x3 : w7.cell? ⟨w.heap.size, 3, none⟩ = some (.int .i64 x3) := keep1 hb7 (by first | (with_reducible assumption) | (go_simp; done) | ((repeat' (first | (with_reducible assumption) | refine allocC ?_ | refine drewC ?_)); done) | (go_keep; done))
  have p7x4 : w7.cell? ⟨w.heap.size, 4, none⟩ = some (.int .i64 x4) := keep1 hb7 (by first | (with_reducible assumption) | (go_simp; done) | ((repeat' (first | (with_reducible assumption) | refine allocC ?_ | refine drewC ?_)); done) | (go_keep; done))
  have p7x5 : w7.cell? ⟨w.heap.size, 5, none⟩ = some (.int .i64 x5) := keep1 hb7 (by first | (with_reducible assumption) | (go_simp; done) | ((repeat' (first | (with_reducible assumption) | refine allocC ?_ | refine drewC ?_)); done) | (go_keep; done))
  have p7x6 : w7.cell? ⟨w.heap.size, 6, none⟩ = some (.int .i64 x6) := keep1 hb7 (by first | (with_reducible assumption) | (go_simp; done) | ((repeat' (first | (with_reducible assumption) | refine allocC ?_ | refine drewC ?_)); done) | (go_keep; done))
  have p7x7 : w7.cell? ⟨w.heap.size, 7, none⟩ = some (.int .i64 x7) := keep1 hb7 (by first | (with_reducible assumption) | (go_simp; done) | ((repeat' (first | (with_reducible assumption) | refine allocC ?_ | refine drewC ?_)); done) | (go_keep; done))
  have p7x8 : w7.cell? ⟨w.heap.size, 8, none⟩ = some (.int .i64 x8) := keep1 hb7 (by first | (with_reducible assumption) | (go_simp; done) | ((repeat' (first | (with_reducible assumption) | refine allocC ?_ | refine drewC ?_)); done) | (go_keep; done))
  have p7x9 : w7.cell? ⟨w.heap.size + 1, 0, none⟩ = some (.int .i64 p0) := keep1 hb7 (by first | (with_reducible assumption) | (go_simp; done) | ((repeat' (first | (with_reducible assumption) | refine allocC ?_ | refine drewC ?_)); done) | (go_keep; done))
  have p7x10 : w7.cell? ⟨w.heap.size + 1, 1, none⟩ = some (.int .i64 p1) := keep1 hb7 (by first | (with_reducible assumption) | (go_simp; done) | ((repeat' (first | (with_reducible assumption) | refine allocC ?_ | refine drewC ?_)); done) | (go_keep; done))
  have p7x11 : w7.cell? ⟨w.heap.size + 1, 2, none⟩ = some (.int .i64 p2) := keep1 hb7 (by first | (with_reducible assumption) | (go_simp; done) | ((repeat' (first | (with_reducible assumption) | refine allocC ?_ | refine drewC ?_)); done) | (go_keep; done))
  have p7x12 : w7.cell? ⟨w2.heap.size, 0, none⟩ = some (.int .i64 u) := keep1 hb7 (by first | (with_reducible assumption) | (go_simp; done) | ((repeat' (first | (with_reducible assumption) | refine allocC ?_ | refine drewC ?_)); done) | (go_keep; done))
  have p7x13 : w7.cell? ⟨w2.heap.size, 1, none⟩ = some (.int .i64 v) := keep1 hb7 (by first | (with_reducible assumption) | (go_simp; done) | ((repeat' (first | (with_reducible assumption) | refine allocC ?_ | refine drewC ?_)); done) | (go_keep; done))
  have p7x14 : w7.cell? ⟨w4.heap.size, 0, none⟩ = some (.int .i64 r0) := keep1 hb7 (by first | (with_reducible assumption) | (go_simp; done) | ((repeat' (first | (with_reducible assumption) | refine allocC ?_ | refine drewC ?_)); done) | (go_keep; done))
  have p7x15 : w7.cell? ⟨w4.heap.size, 1, none⟩ = some (.int .i64 r1) := keep1 hb7 (by first | (with_reducible assumption) | (go_simp; done) | ((repeat' (first | (with_reducible assumption) | refine allocC ?_ | refine drewC ?_)); done) | (go_keep; done))
  have p7x16 : w7.cell? ⟨w4.heap.size, 2, none⟩ = some (.int .i64 r2) := keep1 hb7 (by first | (with_reducible assumption) | (go_simp; done) | ((repeat' (first | (with_reducible assumption) | refine allocC ?_ | refine drewC ?_)); done) | (go_keep; done))
  have p7x17 : w7.cell? ⟨w4.heap.size, 3, none⟩ = some (.int .i64 r3) := keep1 hb7 (by first | (with_reducible assumption) | (go_simp; done) | ((repeat' (first | (with_reducible assumption) | refine allocC ?_ | refine drewC ?_)); done) | (go_keep; done))
  have p7x18 : w7.cell? ⟨w4.heap.size, 4, none⟩ = some (.int .i64 r4) := keep1 hb7 (by first | (with_reducible assumption) | (go_simp; done) | ((repeat' (first | (with_reducible assumption) | refine allocC ?_ | refine drewC ?_)); done) | (go_keep; done))
  have p7x19 : w7.cell? ⟨w4.heap.size, 5, none⟩ = some (.int .i64 r5) := keep1 hb7 (by first | (with_reducible assumption) | (go_simp; done) | ((repeat' (first | (with_reducible assumption) | refine allocC ?_ | refine drewC ?_)); done) | (go_keep; done))
  have p7x20 : w7.cell? ⟨w4.heap.size, 6, none⟩ = some (.int .i64 r6) := keep1 hb7 (by first | (with_reducible assumption) | (go_simp; done) | ((repeat' (first | (with_reducible assumption) | refine allocC ?_ | refine drewC ?_)); done) | (go_keep; done))
  have p7x21 : w7.cell? ⟨w4.heap.size, 7, none⟩ = some (.int .i64 r7) := keep1 hb7 (by first | (with_reducible assumption) | (go_simp; done) | ((repeat' (first | (with_reducible assumption) | refine allocC ?_ | refine drewC ?_)); done) | (go_keep; done))
  have p7x22 : w7.cell? ⟨w4.heap.size, 8, none⟩ = some (.int .i64 r8) := keep1 hb7 (by first | (with_reducible assumption) | (go_simp; done) | ((repeat' (first | (with_reducible assumption) | refine allocC ?_ | refine drewC ?_)); done) | (go_keep; done))
  have p7xz0 : w.heap.size < w7.heap.size := block_lt p7x0
  have p7xz9 : w.heap.size + 1 < w7.heap.size := block_lt p7x9
  have p7xz12 : w2.heap.size < w7.heap.size := block_lt p7x12
  have p7xz14 : w4.heap.size < w7.heap.size := block_lt p7x14
  have p7xs := p7xb.size
  go_wp2_with fail
  go_region_held3 (fun W : World => Below w.heap.size w W ∧ W.cell? ⟨w.heap.size, 0, none⟩ = some (.int .i64 x0) ∧ W.cell? ⟨w.heap.size, 1, none⟩ = some (.int .i64 x1) ∧ W.cell? ⟨w.heap.size, 2, none⟩ = some (.int .i64 x2) ∧ W.cell? ⟨w.heap.size, 3, none⟩ = some (.int .i64 x3) ∧ W.cell? ⟨w.heap.size, 4, none⟩ = some (.int .i64 x4) ∧ W.cell? ⟨w.heap.size, 5, none⟩ = some (.int .i64 x5) ∧ W.cell? ⟨w.heap.size, 6, none⟩ = some (.int .i64 x6) ∧ W.cell? ⟨w.heap.size, 7, none⟩ = some (.int .i64 x7) ∧ W.cell? ⟨w.heap.size, 8, none⟩ = some (.int .i64 x8) ∧ W.cell? ⟨w.heap.size + 1, 0, none⟩ = some (.int .i64 p0) ∧ W.cell? ⟨w.heap.size + 1, 1, none⟩ = some (.int .i64 p1) ∧ W.cell? ⟨w.heap.size + 1, 2, none⟩ = some (.int .i64 p2) ∧ W.cell? ⟨w2.heap.size, 0, none⟩ = some (.int .i64 u) ∧ W.cell? ⟨w2.heap.size, 1, none⟩ = some (.int .i64 v) ∧ W.cell? ⟨w4.heap.size, 0, none⟩ = some (.int .i64 r0) ∧ W.cell? ⟨w4.heap.size, 1, none⟩ = some (.int .i64 r1) ∧ W.cell? ⟨w4.heap.size, 2, none⟩ = some (.int .i64 r2) ∧ W.cell? ⟨w4.heap.size, 3, none⟩ = some (.int .i64 r3) ∧ W.cell? ⟨w4.heap.size, 4, none⟩ = some (.int .i64 r4) ∧ W.cell? ⟨w4.heap.size, 5, none⟩ = some (.int .i64 r5) ∧ W.cell? ⟨w4.heap.size, 6, none⟩ = some (.int .i64 r6) ∧ W.cell? ⟨w4.heap.size, 7, none⟩ = some (.int .i64 r7) ∧ W.cell? ⟨w4.heap.size, 8, none⟩ = some (.int .i64 r8)) ((repeat' apply And.intro) <;> (first | (with_reducible assumption) | (refine belowT ?_ ‹_›; first | (go_grown; done) | exact And.left (by assumption)) | (refine belowT (And.left (by assumption)) ?_; go_grown; done) | (go_simp; done) | exact keep1 ‹_› (by first | (go_simp; done) | (go_keep; done)) | (go_keep; done) | omega | (go_grown; done) | (refine Nat.lt_of_lt_of_le ?_ (Below.size ‹_›); first | omega | (simp; done)) | exact keepF ‹_› (by first | omega | (simp; done)) (by first | (go_simp; done) | (go_keep; done)) | (simp; omega) | (simp only [World.size_alloc, World.size_drew, World.size_setCell] at *; omega))) (first | (go_at_call 32; refine (KP.out _).mono ?_; rintro e wa ⟨rfl, hba⟩))
  obtain ⟨p8xb, p8x0, p8x1, p8x2, p8x3, p8x4, p8x5, p8x6, p8x7, p8x8, p8x9, p8x10, p8x11, p8x12, p8x13, p8x14, p8x15, p8x16, p8x17, p8x18, p8x19, p8x20, p8x21, p8x22⟩ := (by assumption : Below w.heap.size w _ ∧ _)
  have p8xz0 := block_lt p8x0
  have p8xz9 := block_lt p8x9
  have p8xz12 := block_lt p8x12
  have p8xz14 := block_lt p8x14
  have p8xs := p8xb.size
  go_wp2_with fail
  refine (KI.out _).mono ?_
  rintro e w9 ⟨rfl, hb9⟩
  have p9xb : Below w.heap.size w w9 := belowT (by first | (go_grown; done) | exact And.left (by assumption)) hb9
  have p9x0 : w9.cell? ⟨w.heap.size, 0, none⟩ = some (.int .i64 x0) := keep1 hb9 (by first | (with_reducible assumption) | (go_simp; done) | ((repeat' (first | (with_reducible assumption) | refine allocC ?_ | refine drewC ?_)); done) | (go_keep; done))
  have p9x1 : w9.cell? ⟨w.heap.size, 1, none⟩ = some (.int .i64 x1) := keep1 hb9 (by first | (with_reducible assumption) | (go_simp; done) | ((repeat' (first | (with_reducible assumption) | refine allocC ?_ | refine drewC ?_)); done) | (go_keep; done))
  have p9x2 : w9.cell? ⟨w.heap.size, 2, none⟩ = some (.int .i64 x2) := keep1 hb9 (by first | (with_reducible assumption) | (go_simp; done) | ((repeat' (first | (with_reducible assumption) | refine allocC ?_ | refine drewC ?_)); done) | (go_keep; done))
  have p9x3 : w9.cell? ⟨w.heap.size, 3, none⟩ = some (.int .i64 x3) := keep1 hb9 (by first | (with_reducible assumption) | (go_simp; done) | ((repeat' (first | (with_reducible assumption) | refine allocC ?_ | refine drewC ?_)); done) | (go_keep; done))
  have p9x4 : w9.cell? ⟨w.heap.size, 4, none⟩ = some (.int .i64 x4) := keep1 hb9 (by first | (with_reducible assumption) | (go_simp; done) | ((repeat' (first | (with_reducible assumption) | refine allocC ?_ | refine drewC ?_)); done) | (go_keep; done))
  have p9x5 : w9.cell? ⟨w.heap.size, 5, none⟩ = some (.int .i64 x5) := keep1 hb9 (by first | (with_reducible assumption) | (go_simp; done) | ((repeat' (first | (with_reducible assumption) | refine allocC ?_ | refine drewC ?_)); done) | (go_keep; done))
  have p9x6 : w9.cell? ⟨w.heap.size, 6, none⟩ = some (.int .i64 x6) := keep1 hb9 (by first | (with_reducible assumption) | (go_simp; done) | ((repeat' (first | (with_reducible assumption) | refine allocC ?_ | refine drewC ?_)); done) | (go_keep; done))
  have p9x7 : w9.cell? ⟨w.heap.size, 7, none⟩ = some (.int .i64 x7) := keep1 hb9 (by first | (with_reducible assumption) | (go_simp; done) | ((repeat' (first | (with_reducible assumption) | refine allocC ?_ | refine drewC ?_)); done) | (go_keep; done))
  have p9x8 : w9.cell? ⟨w.heap.size, 8, none⟩ = some (.int .i64 x8) := keep1 hb9 (by first | (with_reducible assumption) | (go_simp; done) | ((repeat' (first | (with_reducible assumption) | refine allocC ?_ | refine drewC ?_)); done) | (go_keep; done))
  have p9x9 : w9.cell? ⟨w.heap.size + 1, 0, none⟩ = some (.int .i64 p0) := keep1 hb9 (by first | (with_reducible assumption) | (go_simp; done) | ((repeat' (first | (with_reducible assumption) | refine allocC ?_ | refine drewC ?_)); done) | (go_keep; done))
  have p9x10 : w9.cell? ⟨w.heap.size + 1, 1, none⟩ = some (.int .i64 p1) := keep1 hb9 (by first | (with_reducible assumption) | (go_simp; done) | ((repeat' (first | (with_reducible assumption) | refine allocC ?_ | refine drewC ?_)); done) | (go_keep; done))
  have p9x11 : w9.cell? ⟨w.heap.size + 1, 2, none⟩ = some (.int .i64 p2) := keep1 hb9 (by first | (with_reducible assumption) | (go_simp; done) | ((repeat' (first | (with_reducible assumption) | refine allocC ?_ | refine drewC ?_)); done) | (go_keep; done))
  have p9x12 : w9.cell? ⟨w2.heap.size, 0, none⟩ = some (.int .i64 u) := keep1 hb9 (by first | (with_reducible assumption) | (go_simp; done) | ((repeat' (first | (with_reducible assumption) | refine allocC ?_ | refine drewC ?_)); done) | (go_keep; done))
  have p9x13 : w9.cell? ⟨w2.heap.size, 1, none⟩ = some (.int .i64 v) := keep1 hb9 (by first | (with_reducible assumption) | (go_simp; done) | ((repeat' (first | (with_reducible assumption) | refine allocC ?_ | refine drewC ?_)); done) | (go_keep; done))
  have p9x14 : w9.cell? ⟨w4.heap.size, 0, none⟩ = some (.int .i64 r0) := keep1 hb9 (by first | (with_reducible assumption) | (go_simp; done) | ((repeat' (first | (with_reducible assumption) | refine allocC ?_ | refine drewC ?_)); done) | (go_keep; done))
  have p9x15 : w9.cell? ⟨w4.heap.size, 1, none⟩ = some (.int .i64 r1) := keep1 hb9 (by first | (with_reducible assumption) | (go_simp; done) | ((repeat' (first | (with_reducible assumption) | refine allocC ?_ | refine drewC ?_)); done) | (go_keep; done))
  have p9x16 : w9.cell? ⟨w4.heap.size, 2, none⟩ = some (.int .i64 r2) := keep1 hb9 (by first | (with_reducible assumption) | (go_simp; done) | ((repeat' (first | (with_reducible assumption) | refine allocC ?_ | refine drewC ?_)); done) | (go_keep; done))
  have p9x17 : w9.cell? ⟨w4.heap.size, 3, none⟩ = some (.int .i64 r3) := keep1 hb9 (by first | (with_reducible assumption) | (go_simp; done) | ((repeat' (first | (with_reducible assumption) | refine allocC ?_ | refine drewC ?_)); done) | (go_keep; done))
  have p9x18 : w9.cell? ⟨w4.heap.size, 4, none⟩ = some (.int .i64 r4) := keep1 hb9 (by first | (with_reducible assumption) | (go_simp; done) | ((repeat' (first | (with_reducible assumption) | refine allocC ?_ | refine drewC ?_)); done) | (go_keep; done))
  have p9x19 : w9.cell? ⟨w4.heap.size, 5, none⟩ = some (.int .i64 r5) := keep1 hb9 (by first | (with_reducible assumption) | (go_simp; done) | ((repeat' (first | (with_reducible assumption) | refine allocC ?_ | refine drewC ?_)); done) | (go_keep; done))
  have p9x20 : w9.cell? ⟨w4.heap.size, 6, none⟩ = some (.int .i64 r6) := keep1 hb9 (by first | (with_reducible assumption) | (go_simp; done) | ((repeat' (first | (with_reducible assumption) | refine allocC ?_ | refine drewC ?_)); done) | (go_keep; done))
  have p9x21 : w9.cell? ⟨w4.heap.size, 7, none⟩ = some (.int .i64 r7) := keep1 hb9 (by first | (with_reducible assumption) | (go_simp; done) | ((repeat' (first | (with_reducible assumption) | refine allocC ?_ | refine drewC ?_)); done) | (go_keep; done))
  have p9x22 : w9.cell? ⟨w4.heap.size, 8, none⟩ = some (.int .i64 r8) := keep1 hb9 (by first | (with_reducible assumption) | (go_simp; done) | ((repeat' (first | (with_reducible assumption) | refine allocC ?_ | refine drewC ?_)); done) | (go_keep; done))
  have p9xz0 : w.heap.size < w9.heap.size := block_lt p9x0
  have p9xz9 : w.heap.size + 1 < w9.heap.size := block_lt p9x9
  have p9xz12 : w2.heap.size < w9.heap.size := block_lt p9x12
  have p9xz14 : w4.heap.size < w9.heap.size := block_lt p9x14
  have p9xs := p9xb.size
  go_wp2_with fail
  go_region_held3 (fun W : World => Below w.heap.size w W ∧ W.cell? ⟨w.heap.size, 0, none⟩ = some (.int .i64 x0) ∧ W.cell? ⟨w.heap.size, 1, none⟩ = some (.int .i64 x1) ∧ W.cell? ⟨w.heap.size, 2, none⟩ = some (.int .i64 x2) ∧ W.cell? ⟨w.heap.size, 3, none⟩ = some (.int .i64 x3) ∧ W.cell? ⟨w.heap.size, 4, none⟩ = some (.int .i64 x4) ∧ W.cell? ⟨w.heap.size, 5, none⟩ = some (.int .i64 x5) ∧ W.cell? ⟨w.heap.size, 6, none⟩ = some (.int .i64 x6) ∧ W.cell? ⟨w.heap.size, 7, none⟩ = some (.int .i64 x7) ∧ W.cell? ⟨w.heap.size, 8, none⟩ = some (.int .i64 x8) ∧ W.cell? ⟨w.heap.size + 1, 0, none⟩ = some (.int .i64 p0) ∧ W.cell? ⟨w.heap.size + 1, 1, none⟩ = some (.int .i64 p1) ∧ W.cell? ⟨w.heap.size + 1, 2, none⟩ = some (.int .i64 p2) ∧ W.cell? ⟨w2.heap.size, 0, none⟩ = some (.int .i64 u) ∧ W.cell? ⟨w2.heap.size, 1, none⟩ = some (.int .i64 v) ∧ W.cell? ⟨w4.heap.size, 0, none⟩ = some (.int .i64 r0) ∧ W.cell? ⟨w4.heap.size, 1, none⟩ = some (.int .i64 r1) ∧ W.cell? ⟨w4.heap.size, 2, none⟩ = some (.int .i64 r2) ∧ W.cell? ⟨w4.heap.size, 3, none⟩ = some (.int .i64 r3) ∧ W.cell? ⟨w4.heap.size, 4, none⟩ = some (.int .i64 r4) ∧ W.cell? ⟨w4.heap.size, 5, none⟩ = some (.int .i64 r5) ∧ W.cell? ⟨w4.heap.size, 6, none⟩ = some (.int .i64 r6) ∧ W.cell? ⟨w4.heap.size, 7, none⟩ = some (.int .i64 r7) ∧ W.cell? ⟨w4.heap.size, 8, none⟩ = some (.int .i64 r8)) ((repeat' apply And.intro) <;> (first | (with_reducible assumption) | (refine belowT ?_ ‹_›; first | (go_grown; done) | exact And.left (by assumption)) | (refine belowT (And.left (by assumption)) ?_; go_grown; done) | (go_simp; done) | exact keep1 ‹_› (by first | (go_simp; done) | (go_keep; done)) | (go_keep; done) | omega | (go_grown; done) | (refine Nat.lt_of_lt_of_le ?_ (Below.size ‹_›); first | omega | (simp; done)) | exact keepF ‹_› (by first | omega | (simp; done)) (by first | (go_simp; done) | (go_keep; done)) | (simp; omega) | (simp only [World.size_alloc, World.size_drew, World.size_setCell] at *; omega))) (first | (go_at_call 34; refine (KN.out _).mono ?_; rintro e wc ⟨rfl, hbc⟩))
  obtain ⟨p10xb, p10x0, p10x1, p10x2, p10x3, p10x4, p10x5, p10x6, p10x7, p10x8, p10x9, p10x10, p10x11, p10x12, p10x13, p10x14, p10x15, p10x16, p10x17, p10x18, p10x19, p10x20, p10x21, p10x22⟩ := (by assumption : Below w.heap.size w _ ∧ _)
  have p10xz0 := block_lt p10x0
  have p10xz9 := block_lt p10x9
  have p10xz12 := block_lt p10x12
  have p10xz14 := block_lt p10x14
  have p10xs := p10xb.size
  go_wp2
  go_returns
  exact ⟨rfl, by first | (go_grown; done) | assumption⟩
theorem lines_law (x0 x1 x2 x3 x4 x5 x6 x7 x8 p0 p1 p2 : Int) (w : World) (ht : Tabs w) (hr : w.rangeAt 0 0 permL) :
    Calls Tryd.prog 5 #[.agg #[.int .i64 x0, .int .i64 x1, .int .i64 x2, .int .i64 x3, .int .i64 x4, .int .i64 x5, .int .i64 x6, .int .i64 x7, .int .i64 x8], .agg #[.int .i64 p0, .int .i64 p1, .int .i64 p2]] w fun e w' => e = .returned (.bool true) ∧ Below w.heap.size w w' := by
  by_cases hE : lErr x0 x1 x2 x3 x4 x5 x6 x7 x8 = 0
  · have hL := lErr_val hE
    have E := fun w => rlinesErr_any x0 x1 x2 x3 x4 x5 x6 x7 x8 w
    have C := fun w => checkLines_all x0 x1 x2 x3 x4 x5 x6 x7 x8 w
    rw [hE] at E C
    have F := Lib.hid (fun w ht => phasorOf_all x0 x1 x2 x3 x4 x5 x6 x7 x8 w hL ht)
    have S := Lib.hid (fun w ht => sequenceOf_ok x0 x1 x2 x3 x4 x5 x6 x7 x8 w hL ht)
    have Q := Lib.hid (fun w => rsequence_any x0 x1 x2 x3 x4 x5 x6 x7 x8 w hL)
    have P := Lib.hid (fun w => rphasor_any x0 x1 x2 w hL.1.1 hL.1.2.1 hL.1.2.2)
    have I := fun w => isPermutation_any p0 p1 p2 w
    cases hP : permB p0 p1 p2 with
    | false =>
      have hq : fst2 (lErr x0 x1 x2 x3 x4 x5 x6 x7 x8) (permE p0 p1 p2) = 3 := by
        unfold permE fst2
        rw [hE, hP]
        rfl
      have R := fun w hr => renamedOf_err x0 x1 x2 x3 x4 x5 x6 x7 x8 p0 p1 p2 w hr (by rw [hq]; decide)
      rw [hq] at R
      rw [hP] at I
      exact lines_form x0 x1 x2 x3 x4 x5 x6 x7 x8 p0 p1 p2 _ _ _ _ w ht hr F S (Lib.hid R) (Lib.hid E) (Lib.hid C) Q P (Lib.hid I)
    | true =>
      rw [hP] at I
      have go : ∀ (r0 r1 r2 r3 r4 r5 r6 r7 r8 : Int), Hid (∀ w, Calls Tryd.prog 94 #[.agg #[.int .i64 x0, .int .i64 x1, .int .i64 x2, .int .i64 x3, .int .i64 x4, .int .i64 x5, .int .i64 x6, .int .i64 x7, .int .i64 x8], .agg #[.int .i64 p0, .int .i64 p1, .int .i64 p2]] w fun e w' => e = .returned (.agg #[.int .i64 r0, .int .i64 r1, .int .i64 r2, .int .i64 r3, .int .i64 r4, .int .i64 r5, .int .i64 r6, .int .i64 r7, .int .i64 r8]) ∧ Below w.heap.size w w') → Hid (∀ w, Calls Tryd.prog 34 #[.agg #[.int .i64 x0, .int .i64 x1, .int .i64 x2, .int .i64 x3, .int .i64 x4, .int .i64 x5, .int .i64 x6, .int .i64 x7, .int .i64 x8], .agg #[.int .i64 p0, .int .i64 p1, .int .i64 p2]] w fun e w' => e = .returned (.agg #[.int .i64 r0, .int .i64 r1, .int .i64 r2, .int .i64 r3, .int .i64 r4, .int .i64 r5, .int .i64 r6, .int .i64 r7, .int .i64 r8]) ∧ Below w.heap.size w w') → Calls Tryd.prog 5 #[.agg #[.int .i64 x0, .int .i64 x1, .int .i64 x2, .int .i64 x3, .int .i64 x4, .int .i64 x5, .int .i64 x6, .int .i64 x7, .int .i64 x8], .agg #[.int .i64 p0, .int .i64 p1, .int .i64 p2]] w fun e w' => e = .returned (.bool true) ∧ Below w.heap.size w w' := fun r0 r1 r2 r3 r4 r5 r6 r7 r8 KR KN =>
        lines_good x0 x1 x2 x3 x4 x5 x6 x7 x8 p0 p1 p2 _ _ _ _ r0 r1 r2 r3 r4 r5 r6 r7 r8 w ht hr F S (Lib.hid (fun w hr => renamedOf_ok x0 x1 x2 x3 x4 x5 x6 x7 x8 p0 p1 p2 r0 r1 r2 r3 r4 r5 r6 r7 r8 w hr hE hP KR)) (Lib.hid E) (Lib.hid C) Q P (Lib.hid I) KN
      obtain ⟨⟨h0, h1, h2⟩, ⟨h3, h4, h5⟩, ⟨h6, h7, h8⟩⟩ := hL
      have hc : (p0 = 0 ∧ p1 = 1 ∧ p2 = 2) ∨ (p0 = 0 ∧ p1 = 2 ∧ p2 = 1) ∨ (p0 = 1 ∧ p1 = 0 ∧ p2 = 2) ∨ (p0 = 1 ∧ p1 = 2 ∧ p2 = 0) ∨ (p0 = 2 ∧ p1 = 0 ∧ p2 = 1) ∨ (p0 = 2 ∧ p1 = 1 ∧ p2 = 0) := by
        have := (permB_iff p0 p1 p2).1 hP
        omega
      rcases hc with ⟨rfl, rfl, rfl⟩ | ⟨rfl, rfl, rfl⟩ | ⟨rfl, rfl, rfl⟩ | ⟨rfl, rfl, rfl⟩ | ⟨rfl, rfl, rfl⟩ | ⟨rfl, rfl, rfl⟩
      · exact go _ _ _ _ _ _ _ _ _ (Lib.hid (fun w => renamed_0 x0 x1 x2 x3 x4 x5 x6 x7 x8 w h0 h1 h2 h3 h4 h5 h6 h7 h8)) (Lib.hid (fun w => rrenamed_0 x0 x1 x2 x3 x4 x5 x6 x7 x8 w h0 h1 h2 h3 h4 h5 h6 h7 h8))
      · exact go _ _ _ _ _ _ _ _ _ (Lib.hid (fun w => renamed_1 x0 x1 x2 x3 x4 x5 x6 x7 x8 w h0 h1 h2 h3 h4 h5 h6 h7 h8)) (Lib.hid (fun w => rrenamed_1 x0 x1 x2 x3 x4 x5 x6 x7 x8 w h0 h1 h2 h3 h4 h5 h6 h7 h8))
      · exact go _ _ _ _ _ _ _ _ _ (Lib.hid (fun w => renamed_2 x0 x1 x2 x3 x4 x5 x6 x7 x8 w h0 h1 h2 h3 h4 h5 h6 h7 h8)) (Lib.hid (fun w => rrenamed_2 x0 x1 x2 x3 x4 x5 x6 x7 x8 w h0 h1 h2 h3 h4 h5 h6 h7 h8))
      · exact go _ _ _ _ _ _ _ _ _ (Lib.hid (fun w => renamed_3 x0 x1 x2 x3 x4 x5 x6 x7 x8 w h0 h1 h2 h3 h4 h5 h6 h7 h8)) (Lib.hid (fun w => rrenamed_3 x0 x1 x2 x3 x4 x5 x6 x7 x8 w h0 h1 h2 h3 h4 h5 h6 h7 h8))
      · exact go _ _ _ _ _ _ _ _ _ (Lib.hid (fun w => renamed_4 x0 x1 x2 x3 x4 x5 x6 x7 x8 w h0 h1 h2 h3 h4 h5 h6 h7 h8)) (Lib.hid (fun w => rrenamed_4 x0 x1 x2 x3 x4 x5 x6 x7 x8 w h0 h1 h2 h3 h4 h5 h6 h7 h8))
      · exact go _ _ _ _ _ _ _ _ _ (Lib.hid (fun w => renamed_5 x0 x1 x2 x3 x4 x5 x6 x7 x8 w h0 h1 h2 h3 h4 h5 h6 h7 h8)) (Lib.hid (fun w => rrenamed_5 x0 x1 x2 x3 x4 x5 x6 x7 x8 w h0 h1 h2 h3 h4 h5 h6 h7 h8))
  · have hq : fst2 (lErr x0 x1 x2 x3 x4 x5 x6 x7 x8) (permE p0 p1 p2) = lErr x0 x1 x2 x3 x4 x5 x6 x7 x8 := by
      unfold fst2
      rw [if_neg hE]
    have R := fun w hr => renamedOf_err x0 x1 x2 x3 x4 x5 x6 x7 x8 p0 p1 p2 w hr (by rw [hq]; exact hE)
    rw [hq] at R
    exact lines_bad x0 x1 x2 x3 x4 x5 x6 x7 x8 p0 p1 p2 (lErr x0 x1 x2 x3 x4 x5 x6 x7 x8) w ht hr (by simpa using hE) (Lib.hid (fun w => phasorOf_err x0 x1 x2 x3 x4 x5 x6 x7 x8 w hE)) (Lib.hid (fun w => sequenceOf_err x0 x1 x2 x3 x4 x5 x6 x7 x8 w hE)) (Lib.hid R) (Lib.hid (fun w => rlinesErr_any x0 x1 x2 x3 x4 x5 x6 x7 x8 w)) (Lib.hid (fun w => checkLines_all x0 x1 x2 x3 x4 x5 x6 x7 x8 w))
end Go.Proofs.YtngdhmliohjigaaDoor
