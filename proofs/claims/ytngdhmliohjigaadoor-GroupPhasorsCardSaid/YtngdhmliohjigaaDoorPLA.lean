/- THE LAW OF PHASORS: its walk, case by case (PLA). -/
import Derived.Test.YtngdhmliohjigaaDoorV
import Derived.Test.YtngdhmliohjigaaDoorHM
import Derived.Test.YtngdhmliohjigaaDoorEQ
import Derived.BigQuiet
import Derived.Deep.QuietTactic
namespace Go.Proofs.YtngdhmliohjigaaDoor
open Go.RowKit
set_option maxRecDepth 100000 in
set_option maxHeartbeats 16000000 in
theorem phasors_a (p q r s E : Int) (w : World) (ht : Tabs w) (tE : (E != 0) = true) (tF : (E == 0) = false) (KP : Hid (∀ w, Calls Tryd.prog 37 #[.agg #[.int .i64 p, .int .i64 q], .agg #[.int .i64 r, .int .i64 s]] w fun e w' => e = .returned (.tuple #[.agg #[.int .i64 0, .int .i64 0], .int .i64 E]) ∧ Below w.heap.size w w')) (KS : Hid (∀ w, Calls Tryd.prog 25 #[.agg #[.int .i64 p, .int .i64 q]] w fun e w' => e = .returned (.tuple #[.int .i64 0, .int .i64 E]) ∧ Below w.heap.size w w')) (KH : Hid (∀ w, Tabs w → Calls Tryd.prog 26 #[.agg #[.int .i64 p, .int .i64 q]] w fun e w' => e = .returned (.tuple #[.int .i64 0, .int .i64 E]) ∧ Below w.heap.size w w')) (KE : Hid (∀ w, Calls Tryd.prog 38 #[.agg #[.int .i64 p, .int .i64 q]] w fun e w' => e = .returned (.int .i64 E) ∧ Below w.heap.size w w')) :
    Calls Tryd.prog 7 #[.agg #[.int .i64 p, .int .i64 q], .agg #[.int .i64 r, .int .i64 s]] w fun e w' => e = .returned (.bool true) ∧ Below w.heap.size w w' := by
  go_enter Tryd.func7, Tryd.ntmps7
  go_wp2_with fail
  refine (awake_any _ (ht.below (by go_grown))).mono ?_
  rintro e w1 ⟨rfl, hb1⟩
  have p1xb : Below w.heap.size w w1 := belowT (by first | (go_grown; done) | exact And.left (by assumption)) hb1
  have p1x0 : w1.cell? ⟨w.heap.size, 0, none⟩ = some (.int .i64 p) := keep1 hb1 (by first | (with_reducible assumption) | (go_simp; done) | ((repeat' (first | (with_reducible assumption) | refine allocC ?_ | refine drewC ?_)); done) | (go_keep; done))
  have p1x1 : w1.cell? ⟨w.heap.size, 1, none⟩ = some (.int .i64 q) := keep1 hb1 (by first | (with_reducible assumption) | (go_simp; done) | ((repeat' (first | (with_reducible assumption) | refine allocC ?_ | refine drewC ?_)); done) | (go_keep; done))
  have p1x2 : w1.cell? ⟨w.heap.size + 1, 0, none⟩ = some (.int .i64 r) := keep1 hb1 (by first | (with_reducible assumption) | (go_simp; done) | ((repeat' (first | (with_reducible assumption) | refine allocC ?_ | refine drewC ?_)); done) | (go_keep; done))
  have p1x3 : w1.cell? ⟨w.heap.size + 1, 1, none⟩ = some (.int .i64 s) := keep1 hb1 (by first | (with_reducible assumption) | (go_simp; done) | ((repeat' (first | (with_reducible assumption) | refine allocC ?_ | refine drewC ?_)); done) | (go_keep; done))
  have p1xz0 : w.heap.size < w1.heap.size := block_lt p1x0
  have p1xz2 : w.heap.size + 1 < w1.heap.size := block_lt p1x2
  have p1xs := p1xb.size
  go_wp2_with fail
  refine (KP.out _).mono ?_
  rintro e w2 ⟨rfl, hb2⟩
  have p2xb : Below w.heap.size w w2 := belowT (by first | (go_grown; done) | exact And.left (by assumption)) hb2
  have p2x0 : w2.cell? ⟨w.heap.size, 0, none⟩ = some (.int .i64 p) := keep1 hb2 (by first | (with_reducible assumption) | (go_simp; done) | ((repeat' (first | (with_reducible assumption) | refine allocC ?_ | refine drewC ?_)); done) | (go_keep; done))
  have p2x1 : w2.cell? ⟨w.heap.size, 1, none⟩ = some (.int .i64 q) := keep1 hb2 (by first | (with_reducible assumption) | (go_simp; done) | ((repeat' (first | (with_reducible assumption) | refine allocC ?_ | refine drewC ?_)); done) | (go_keep; done))
  have p2x2 : w2.cell? ⟨w.heap.size + 1, 0, none⟩ = some (.int .i64 r) := keep1 hb2 (by first | (with_reducible assumption) | (go_simp; done) | ((repeat' (first | (with_reducible assumption) | refine allocC ?_ | refine drewC ?_)); done) | (go_keep; done))
  have p2x3 : w2.cell? ⟨w.heap.size + 1, 1, none⟩ = some (.int .i64 s) := keep1 hb2 (by first | (with_reducible assumption) | (go_simp; done) | ((repeat' (first | (with_reducible assumption) | refine allocC ?_ | refine drewC ?_)); done) | (go_keep; done))
  have p2xz0 : w.heap.size < w2.heap.size := block_lt p2x0
  have p2xz2 : w.heap.size + 1 < w2.heap.size := block_lt p2x2
  have p2xs := p2xb.size
  go_wp2_with fail
  refine (KS.out _).mono ?_
  rintro e w3 ⟨rfl, hb3⟩
  have p3xb : Below w.heap.size w w3 := belowT (by first | (go_grown; done) | exact And.left (by assumption)) hb3
  have p3x0 : w3.cell? ⟨w.heap.size, 0, none⟩ = some (.int .i64 p) := keep1 hb3 (by first | (with_reducible assumption) | (go_simp; done) | ((repeat' (first | (with_reducible assumption) | refine allocC ?_ | refine drewC ?_)); done) | (go_keep; done))
  have p3x1 : w3.cell? ⟨w.heap.size, 1, none⟩ = some (.int .i64 q) := keep1 hb3 (by first | (with_reducible assumption) | (go_simp; done) | ((repeat' (first | (with_reducible assumption) | refine allocC ?_ | refine drewC ?_)); done) | (go_keep; done))
  have p3x2 : w3.cell? ⟨w.heap.size + 1, 0, none⟩ = some (.int .i64 r) := keep1 hb3 (by first | (with_reducible assumption) | (go_simp; done) | ((repeat' (first | (with_reducible assumption) | refine allocC ?_ | refine drewC ?_)); done) | (go_keep; done))
  have p3x3 : w3.cell? ⟨w.heap.size + 1, 1, none⟩ = some (.int .i64 s) := keep1 hb3 (by first | (with_reducible assumption) | (go_simp; done) | ((repeat' (first | (with_reducible assumption) | refine allocC ?_ | refine drewC ?_)); done) | (go_keep; done))
  have p3x4 : w3.cell? ⟨w2.heap.size, 0, none⟩ = some (.int .i64 0) := keep1 hb3 (by first | (with_reducible assumption) | (go_simp; done) | ((repeat' (first | (with_reducible assumption) | refine allocC ?_ | refine drewC ?_)); done) | (go_keep; done))
  have p3x5 : w3.cell? ⟨w2.heap.size, 1, none⟩ = some (.int .i64 0) := keep1 hb3 (by first | (with_reducible assumption) | (go_simp; done) | ((repeat' (first | (with_reducible assumption) | refine allocC ?_ | refine drewC ?_)); done) | (go_keep; done))
  have p3xz0 : w.heap.size < w3.heap.size := block_lt p3x0
  have p3xz2 : w.heap.size + 1 < w3.heap.size := block_lt p3x2
  have p3xz4 : w2.heap.size < w3.heap.size := block_lt p3x4
  have p3xs := p3xb.size
  go_wp2_with fail
  refine (KH.out _ (ht.below (by first | (with_reducible assumption) | (go_grown; done)))).mono ?_
  rintro e w4 ⟨rfl, hb4⟩
  have p4xb : Below w.heap.size w w4 := belowT (by first | (go_grown; done) | exact And.left (by assumption)) hb4
  have p4x0 : w4.cell? ⟨w.heap.size, 0, none⟩ = some (.int .i64 p) := keep1 hb4 (by first | (with_reducible assumption) | (go_simp; done) | ((repeat' (first | (with_reducible assumption) | refine allocC ?_ | refine drewC ?_)); done) | (go_keep; done))
  have p4x1 : w4.cell? ⟨w.heap.size, 1, none⟩ = some (.int .i64 q) := keep1 hb4 (by first | (with_reducible assumption) | (go_simp; done) | ((repeat' (first | (with_reducible assumption) | refine allocC ?_ | refine drewC ?_)); done) | (go_keep; done))
  have p4x2 : w4.cell? ⟨w.heap.size + 1, 0, none⟩ = some (.int .i64 r) := keep1 hb4 (by first | (with_reducible assumption) | (go_simp; done) | ((repeat' (first | (with_reducible assumption) | refine allocC ?_ | refine drewC ?_)); done) | (go_keep; done))
  have p4x3 : w4.cell? ⟨w.heap.size + 1, 1, none⟩ = some (.int .i64 s) := keep1 hb4 (by first | (with_reducible assumption) | (go_simp; done) | ((repeat' (first | (with_reducible assumption) | refine allocC ?_ | refine drewC ?_)); done) | (go_keep; done))
  have p4x4 : w4.cell? ⟨w2.heap.size, 0, none⟩ = some (.int .i64 0) := keep1 hb4 (by first | (with_reducible assumption) | (go_simp; done) | ((repeat' (first | (with_reducible assumption) | refine allocC ?_ | refine drewC ?_)); done) | (go_keep; done))
  have p4x5 : w4.cell? ⟨w2.heap.size, 1, none⟩ = some (.int .i64 0) := keep1 hb4 (by first | (with_reducible assumption) | (go_simp; done) | ((repeat' (first | (with_reducible assumption) | refine allocC ?_ | refine drewC ?_)); done) | (go_keep; done))
  have p4xz0 : w.heap.size < w4.heap.size := block_lt p4x0
  have p4xz2 : w.heap.size + 1 < w4.heap.size := block_lt p4x2
  have p4xz4 : w2.heap.size < w4.heap.size := block_lt p4x4
  have p4xs := p4xb.size
  go_wp2_with fail
  refine (KE.out _).mono ?_
  rintro e w5 ⟨rfl, hb5⟩
  have p5xb : Below w.heap.size w w5 := belowT (by first | (go_grown; done) | exact And.left (by assumption)) hb5
  have p5x0 : w5.cell? ⟨w.heap.size, 0, none⟩ = some (.int .i64 p) := keep1 hb5 (by first | (with_reducible assumption) | (go_simp; done) | ((repeat' (first | (with_reducible assumption) | refine allocC ?_ | refine drewC ?_)); done) | (go_keep; done))
  have p5x1 : w5.cell? ⟨w.heap.size, 1, none⟩ = some (.int .i64 q) := keep1 hb5 (by first | (with_reducible assumption) | (go_simp; done) | ((repeat' (first | (with_reducible assumption) | refine allocC ?_ | refine drewC ?_)); done) | (go_keep; done))
  have p5x2 : w5.cell? ⟨w.heap.size + 1, 0, none⟩ = some (.int .i64 r) := keep1 hb5 (by first | (with_reducible assumption) | (go_simp; done) | ((repeat' (first | (with_reducible assumption) | refine allocC ?_ | refine drewC ?_)); done) | (go_keep; done))
  have p5x3 : w5.cell? ⟨w.heap.size + 1, 1, none⟩ = some (.int .i64 s) := keep1 hb5 (by first | (with_reducible assumption) | (go_simp; done) | ((repeat' (first | (with_reducible assumption) | refine allocC ?_ | refine drewC ?_)); done) | (go_keep; done))
  have p5x4 : w5.cell? ⟨w2.heap.size, 0, none⟩ = some (.int .i64 0) := keep1 hb5 (by first | (with_reducible assumption) | (go_simp; done) | ((repeat' (first | (with_reducible assumption) | refine allocC ?_ | refine drewC ?_)); done) | (go_keep; done))
  have p5x5 : w5.cell? ⟨w2.heap.size, 1, none⟩ = some (.int .i64 0) := keep1 hb5 (by first | (with_reducible assumption) | (go_simp; done) | ((repeat' (first | (with_reducible assumption) | refine allocC ?_ | refine drewC ?_)); done) | (go_keep; done))
  have p5xz0 : w.heap.size < w5.heap.size := block_lt p5x0
  have p5xz2 : w.heap.size + 1 < w5.heap.size := block_lt p5x2
  have p5xz4 : w2.heap.size < w5.heap.size := block_lt p5x4
  have p5xs := p5xb.size
  go_wp2_with fail
  go_quiet (fail)
  refine then_world (fun W : World => Below w.heap.size w W ∧ W.cell? ⟨w.heap.size, 0, none⟩ = some (.int .i64 p) ∧ W.cell? ⟨w.heap.size, 1, none⟩ = some (.int .i64 q) ∧ W.cell? ⟨w.heap.size + 1, 0, none⟩ = some (.int .i64 r) ∧ W.cell? ⟨w.heap.size + 1, 1, none⟩ = some (.int .i64 s) ∧ W.cell? ⟨w2.heap.size, 0, none⟩ = some (.int .i64 0) ∧ W.cell? ⟨w2.heap.size, 1, none⟩ = some (.int .i64 0)) ⟨belowQ (by first | (with_reducible assumption) | (go_grown; done)), (by first | (with_reducible assumption) | (go_simp; done)), (by first | (with_reducible assumption) | (go_simp; done)), (by first | (with_reducible assumption) | (go_simp; done)), (by first | (with_reducible assumption) | (go_simp; done)), (by first | (with_reducible assumption) | (go_simp; done)), (by first | (with_reducible assumption) | (go_simp; done))⟩ ?_
  rintro w6 ⟨p6xb, p6x0, p6x1, p6x2, p6x3, p6x4, p6x5⟩
  have p6xz0 : w.heap.size < w6.heap.size := block_lt p6x0
  have p6xz2 : w.heap.size + 1 < w6.heap.size := block_lt p6x2
  have p6xz4 : w2.heap.size < w6.heap.size := block_lt p6x4
  have p6xs := p6xb.size
  go_wp2
  go_returns
  exact ⟨rfl, by first | (go_grown; done) | assumption⟩
end Go.Proofs.YtngdhmliohjigaaDoor
