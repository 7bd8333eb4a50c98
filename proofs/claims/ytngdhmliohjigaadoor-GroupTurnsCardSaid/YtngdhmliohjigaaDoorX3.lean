/- THE GROUP OF TURNS: the law's walk, case by case. -/
import Derived.Test.YtngdhmliohjigaaDoorV
import Derived.BigQuiet
import Derived.Deep.QuietTactic
namespace Go.Proofs.YtngdhmliohjigaaDoor
open Go.RowKit

set_option linter.unusedSimpArgs false
set_option maxRecDepth 100000 in
set_option maxHeartbeats 16000000 in
theorem turns3 (ha hb hc : Int) (ma mb mc : Bool) (i0 n x0 : Int) (x1 : Bool) (w : World) (ht : Tabs w) (n1 : 1 ≤ n) (n2 : 24 % n = 0) (KI : Hid (∀ w, Calls Tryd.prog 55 #[.agg #[.int .i64 ha, .bool ma]] w fun e w' => e = .returned (.tuple #[.agg #[.int .i64 i0, .bool ma], .int .i64 0]) ∧ Below w.heap.size w w')) (KO : Hid (∀ w, Calls Tryd.prog 56 #[.agg #[.int .i64 ha, .bool ma]] w fun e w' => e = .returned (.tuple #[.int .i64 n, .int .i64 0]) ∧ Below w.heap.size w w')) (KEa : Hid (∀ w, Calls Tryd.prog 57 #[.agg #[.int .i64 ha, .bool ma]] w fun e w' => e = .returned (.int .i64 0) ∧ Below w.heap.size w w')) (KRi : Hid (∀ w, Calls Tryd.prog 59 #[.agg #[.int .i64 ha, .bool ma]] w fun e w' => e = .returned (.agg #[.int .i64 i0, .bool ma]) ∧ Below w.heap.size w w')) (KRo : Hid (∀ w, Calls Tryd.prog 60 #[.agg #[.int .i64 ha, .bool ma]] w fun e w' => e = .returned (.int .i64 n) ∧ Below w.heap.size w w')) (KY : Hid (∀ w, Calls Tryd.prog 54 #[.agg #[.int .i64 ha, .bool ma], .agg #[.int .i64 i0, .bool ma]] w fun e w' => e = .returned (.tuple #[.agg #[.int .i64 0, .bool false], .int .i64 0]) ∧ Below w.heap.size w w')) (KZ : Hid (∀ w, Calls Tryd.prog 54 #[.agg #[.int .i64 i0, .bool ma], .agg #[.int .i64 ha, .bool ma]] w fun e w' => e = .returned (.tuple #[.agg #[.int .i64 0, .bool false], .int .i64 0]) ∧ Below w.heap.size w w')) (KX : Hid (∀ w, Calls Tryd.prog 54 #[.agg #[.int .i64 ha, .bool ma], .agg #[.int .i64 hb, .bool mb]] w fun e w' => e = .returned (.tuple #[.agg #[.int .i64 x0, .bool x1], .int .i64 0]) ∧ Below w.heap.size w w')) (KEb : Hid (∀ w, Calls Tryd.prog 57 #[.agg #[.int .i64 hb, .bool mb]] w fun e w' => e = .returned (.int .i64 0) ∧ Below w.heap.size w w')) (KR : Hid (∀ w, Calls Tryd.prog 58 #[.agg #[.int .i64 ha, .bool ma], .agg #[.int .i64 hb, .bool mb]] w fun e w' => e = .returned (.agg #[.int .i64 x0, .bool x1]) ∧ Below w.heap.size w w')) (KEc : Hid (∀ w, Calls Tryd.prog 57 #[.agg #[.int .i64 hc, .bool mc]] w fun e w' => e = .returned (.int .i64 2) ∧ Below w.heap.size w w')) :
    Calls Tryd.prog 10 #[.agg #[.int .i64 ha, .bool ma], .agg #[.int .i64 hb, .bool mb], .agg #[.int .i64 hc, .bool mc]] w fun e w' => e = .returned (.bool true) ∧ Below w.heap.size w w' := by
  have n3 : ((24 % n) != 0) = false := by simp [n2]
  have n4 : decide (n < 1) = false := by simp; omega
  have n5 : ((24 : Int).tmod n != 0) = false := by rw [Int.tmod_eq_emod_of_nonneg (by decide)]; exact n3
  have n6 : ¬ n = 0 := by omega
  clear n2
  go_enter Tryd.func10, Tryd.ntmps10
  go_wp2_with fail
  refine (awake_any _ (ht.below (by go_grown))).mono ?_
  rintro e w1 ⟨rfl, hb1⟩
  have p1xb : Below w.heap.size w w1 := belowT (by first | (go_grown; done) | exact And.left (by assumption)) hb1
  have p1x0 : w1.cell? ⟨w.heap.size, 0, none⟩ = some (.int .i64 ha) := keep1 hb1 (by first | (with_reducible assumption) | (go_simp; done) | ((repeat' (first | (with_reducible assumption) | refine allocC ?_ | refine drewC ?_)); done) | (go_keep; done))
  have p1x1 : w1.cell? ⟨w.heap.size, 1, none⟩ = some (.bool ma) := keep1 hb1 (by first | (with_reducible assumption) | (go_simp; done) | ((repeat' (first | (with_reducible assumption) | refine allocC ?_ | refine drewC ?_)); done) | (go_keep; done))
  have p1x2 : w1.cell? ⟨w.heap.size + 1, 0, none⟩ = some (.int .i64 hb) := keep1 hb1 (by first | (with_reducible assumption) | (go_simp; done) | ((repeat' (first | (with_reducible assumption) | refine allocC ?_ | refine drewC ?_)); done) | (go_keep; done))
  have p1x3 : w1.cell? ⟨w.heap.size + 1, 1, none⟩ = some (.bool mb) := keep1 hb1 (by first | (with_reducible assumption) | (go_simp; done) | ((repeat' (first | (with_reducible assumption) | refine allocC ?_ | refine drewC ?_)); done) | (go_keep; done))
  have p1x4 : w1.cell? ⟨w.heap.size + 1 + 1, 0, none⟩ = some (.int .i64 hc) := keep1 hb1 (by first | (with_reducible assumption) | (go_simp; done) | ((repeat' (first | (with_reducible assumption) | refine allocC ?_ | refine drewC ?_)); done) | (go_keep; done))
  have p1x5 : w1.cell? ⟨w.heap.size + 1 + 1, 1, none⟩ = some (.bool mc) := keep1 hb1 (by first | (with_reducible assumption) | (go_simp; done) | ((repeat' (first | (with_reducible assumption) | refine allocC ?_ | refine drewC ?_)); done) | (go_keep; done))
  have p1xz0 : w.heap.size < w1.heap.size := block_lt p1x0
  have p1xz2 : w.heap.size + 1 < w1.heap.size := block_lt p1x2
  have p1xz4 : w.heap.size + 1 + 1 < w1.heap.size := block_lt p1x4
  have p1xs := p1xb.size
  go_wp2_with fail
  refine (KX.out _).mono ?_
  rintro e w2 ⟨rfl, hb2⟩
  have p2xb : Below w.heap.size w w2 := belowT (by first | (go_grown; done) | exact And.left (by assumption)) hb2
  have p2x0 : w2.cell? ⟨w.heap.size, 0, none⟩ = some (.int .i64 ha) := keep1 hb2 (by first | (with_reducible assumption) | (go_simp; done) | ((repeat' (first | (with_reducible assumption) | refine allocC ?_ | refine drewC ?_)); done) | (go_keep; done))
  have p2x1 : w2.cell? ⟨w.heap.size, 1, none⟩ = some (.bool ma) := keep1 hb2 (by first | (with_reducible assumption) | (go_simp; done) | ((repeat' (first | (with_reducible assumption) | refine allocC ?_ | refine drewC ?_)); done) | (go_keep; done))
  have p2x2 : w2.cell? ⟨w.heap.size + 1, 0, none⟩ = some (.int .i64 hb) := keep1 hb2 (by first | (with_reducible assumption) | (go_simp; done) | ((repeat' (first | (with_reducible assumption) | refine allocC ?_ | refine drewC ?_)); done) | (go_keep; done))
  have p2x3 : w2.cell? ⟨w.heap.size + 1, 1, none⟩ = some (.bool mb) := keep1 hb2 (by first | (with_reducible assumption) | (go_simp; done) | ((repeat' (first | (with_reducible assumption) | refine allocC ?_ | refine drewC ?_)); done) | (go_keep; done))
  have p2x4 : w2.cell? ⟨w.heap.size + 1 + 1, 0, none⟩ = some (.int .i64 hc) := keep1 hb2 (by first | (with_reducible assumption) | (go_simp; done) | ((repeat' (first | (with_reducible assumption) | refine allocC ?_ | refine drewC ?_)); done) | (go_keep; done))
  have p2x5 : w2.cell? ⟨w.heap.size + 1 + 1, 1, none⟩ = some (.bool mc) := keep1 hb2 (by first | (with_reducible assumption) | (go_simp; done) | ((repeat' (first | (with_reducible assumption) | refine allocC ?_ | refine drewC ?_)); done) | (go_keep; done))
  have p2xz0 : w.heap.size < w2.heap.size := block_lt p2x0
  have p2xz2 : w.heap.size + 1 < w2.heap.size := block_lt p2x2
  have p2xz4 : w.heap.size + 1 + 1 < w2.heap.size := block_lt p2x4
  have p2xs := p2xb.size
  go_wp2_with fail
  refine (KI.out _).mono ?_
  rintro e w3 ⟨rfl, hb3⟩
  have p3xb : Below w.heap.size w w3 := belowT (by first | (go_grown; done) | exact And.left (by assumption)) hb3
  have p3x0 : w3.cell? ⟨w.heap.size, 0, none⟩ = some (.int .i64 ha) := keep1 hb3 (by first | (with_reducible assumption) | (go_simp; done) | ((repeat' (first | (with_reducible assumption) | refine allocC ?_ | refine drewC ?_)); done) | (go_keep; done))
  have p3x1 : w3.cell? ⟨w.heap.size, 1, none⟩ = some (.bool ma) := keep1 hb3 (by first | (with_reducible assumption) | (go_simp; done) | ((repeat' (first | (with_reducible assumption) | refine allocC ?_ | refine drewC ?_)); done) | (go_keep; done))
  have p3x2 : w3.cell? ⟨w.heap.size + 1, 0, none⟩ = some (.int .i64 hb) := keep1 hb3 (by first | (with_reducible assumption) | (go_simp; done) | ((repeat' (first | (with_reducible assumption) | refine allocC ?_ | refine drewC ?_)); done) | (go_keep; done))
  have p3x3 : w3.cell? ⟨w.heap.size + 1, 1, none⟩ = some (.bool mb) := keep1 hb3 (by first | (with_reducible assumption) | (go_simp; done) | ((repeat' (first | (with_reducible assumption) | refine allocC ?_ | refine drewC ?_)); done) | (go_keep; done))
  have p3x4 : w3.cell? ⟨w.heap.size + 1 + 1, 0, none⟩ = some (.int .i64 hc) := keep1 hb3 (by first | (with_reducible assumption) | (go_simp; done) | ((repeat' (first | (with_reducible assumption) | refine allocC ?_ | refine drewC ?_)); done) | (go_keep; done))
  have p3x5 : w3.cell? ⟨w.heap.size + 1 + 1, 1, none⟩ = some (.bool mc) := keep1 hb3 (by first | (with_reducible assumption) | (go_simp; done) | ((repeat' (first | (with_reducible assumption) | refine allocC ?_ | refine drewC ?_)); done) | (go_keep; done))
  have p3x6 : w3.cell? ⟨w2.heap.size, 0, none⟩ = some (.int .i64 x0) := keep1 hb3 (by first | (with_reducible assumption) | (go_simp; done) | ((repeat' (first | (with_reducible assumption) | refine allocC ?_ | refine drewC ?_)); done) | (go_keep; done))
  have p3x7 : w3.cell? ⟨w2.heap.size, 1, none⟩ = some (.bool x1) := keep1 hb3 (by first | (with_reducible assumption) | (go_simp; done) | ((repeat' (first | (with_reducible assumption) | refine allocC ?_ | refine drewC ?_)); done) | (go_keep; done))
  have p3xz0 : w.heap.size < w3.heap.size := block_lt p3x0
  have p3xz2 : w.heap.size + 1 < w3.heap.size := block_lt p3x2
  have p3xz4 : w.heap.size + 1 + 1 < w3.heap.size := block_lt p3x4
  have p3xz6 : w2.heap.size < w3.heap.size := block_lt p3x6
  have p3xs := p3xb.size
  go_wp2_with fail
  refine (KO.out _).mono ?_
  rintro e w4 ⟨rfl, hb4⟩
  have p4xb : Below w.heap.size w w4 := belowT (by first | (go_grown; done) | exact And.left (by assumption)) hb4
  have p4x0 : w4.cell? ⟨w.heap.size, 0, none⟩ = some (.int .i64 ha) := keep1 hb4 (by first | (with_reducible assumption) | (go_simp; done) | ((repeat' (first | (with_reducible assumption) | refine allocC ?_ | refine drewC ?_)); done) | (go_keep; done))
  have p4x1 : w4.cell? ⟨w.heap.size, 1, none⟩ = some (.bool ma) := keep1 hb4 (by first | (with_reducible assumption) | (go_simp; done) | ((repeat' (first | (with_reducible assumption) | refine allocC ?_ | refine drewC ?_)); done) | (go_keep; done))
  have p4x2 : w4.cell? ⟨w.heap.size + 1, 0, none⟩ = some (.int .i64 hb) := keep1 hb4 (by first | (with_reducible assumption) | (go_simp; done) | ((repeat' (first | (with_reducible assumption) | refine allocC ?_ | refine drewC ?_)); done) | (go_keep; done))
  have p4x3 : w4.cell? ⟨w.heap.size + 1, 1, none⟩ = some (.bool mb) := keep1 hb4 (by first | (with_reducible assumption) | (go_simp; done) | ((repeat' (first | (with_reducible assumption) | refine allocC ?_ | refine drewC ?_)); done) | (go_keep; done))
  have p4x4 : w4.cell? ⟨w.heap.size + 1 + 1, 0, none⟩ = some (.int .i64 hc) := keep1 hb4 (by first | (with_reducible assumption) | (go_simp; done) | ((repeat' (first | (with_reducible assumption) | refine allocC ?_ | refine drewC ?_)); done) | (go_keep; done))
  have p4x5 : w4.cell? ⟨w.heap.size + 1 + 1, 1, none⟩ = some (.bool mc) := keep1 hb4 (by first | (with_reducible assumption) | (go_simp; done) | ((repeat' (first | (with_reducible assumption) | refine allocC ?_ | refine drewC ?_)); done) | (go_keep; done))
  have p4x6 : w4.cell? ⟨w2.heap.size, 0, none⟩ = some (.int .i64 x0) := keep1 hb4 (by first | (with_reducible assumption) | (go_simp; done) | ((repeat' (first | (with_reducible assumption) | refine allocC ?_ | refine drewC ?_)); done) | (go_keep; done))
  have p4x7 : w4.cell? ⟨w2.heap.size, 1, none⟩ = some (.bool x1) := keep1 hb4 (by first | (with_reducible assumption) | (go_simp; done) | ((repeat' (first | (with_reducible assumption) | refine allocC ?_ | refine drewC ?_)); done) | (go_keep; done))
  have p4x8 : w4.cell? ⟨w3.heap.size, 0, none⟩ = some (.int .i64 i0) := keep1 hb4 (by first | (with_reducible assumption) | (go_simp; done) | ((repeat' (first | (with_reducible assumption) | refine allocC ?_ | refine drewC ?_)); done) | (go_keep; done))
  have p4x9 : w4.cell? ⟨w3.heap.size, 1, none⟩ = some (.bool ma) := keep1 hb4 (by first | (with_reducible assumption) | (go_simp; done) | ((repeat' (first | (with_reducible assumption) | refine allocC ?_ | refine drewC ?_)); done) | (go_keep; done))
  have p4xz0 : w.heap.size < w4.heap.size := block_lt p4x0
  have p4xz2 : w.heap.size + 1 < w4.heap.size := block_lt p4x2
  have p4xz4 : w.heap.size + 1 + 1 < w4.heap.size := block_lt p4x4
  have p4xz6 : w2.heap.size < w4.heap.size := block_lt p4x6
  have p4xz8 : w3.heap.size < w4.heap.size := block_lt p4x8
  have p4xs := p4xb.size
  go_wp2_with fail
  refine (KEa.out _).mono ?_
  rintro e w5 ⟨rfl, hb5⟩
  have p5xb : Below w.heap.size w w5 := belowT (by first | (go_grown; done) | exact And.left (by assumption)) hb5
  have p5x0 : w5.cell? ⟨w.heap.size, 0, none⟩ = some (.int .i64 ha) := keep1 hb5 (by first | (with_reducible assumption) | (go_simp; done) | ((repeat' (first | (with_reducible assumption) | refine allocC ?_ | refine drewC ?_)); done) | (go_keep; done))
  have p5x1 : w5.cell? ⟨w.heap.size, 1, none⟩ = some (.bool ma) := keep1 hb5 (by first | (with_reducible assumption) | (go_simp; done) | ((repeat' (first | (with_reducible assumption) | refine allocC ?_ | refine drewC ?_)); done) | (go_keep; done))
  have p5x2 : w5.cell? ⟨w.heap.size + 1, 0, none⟩ = some (.int .i64 hb) := keep1 hb5 (by first | (with_reducible assumption) | (go_simp; done) | ((repeat' (first | (with_reducible assumption) | refine allocC ?_ | refine drewC ?_)); done) | (go_keep; done))
  have p5x3 : w5.cell? ⟨w.heap.size + 1, 1, none⟩ = some (.bool mb) := keep1 hb5 (by first | (with_reducible assumption) | (go_simp; done) | ((repeat' (first | (with_reducible assumption) | refine allocC ?_ | refine drewC ?_)); done) | (go_keep; done))
  have p5x4 : w5.cell? ⟨w.heap.size + 1 + 1, 0, none⟩ = some (.int .i64 hc) := keep1 hb5 (by first | (with_reducible assumption) | (go_simp; done) | ((repeat' (first | (with_reducible assumption) | refine allocC ?_ | refine drewC ?_)); done) | (go_keep; done))
  have p5x5 : w5.cell? ⟨w.heap.size + 1 + 1, 1, none⟩ = some (.bool mc) := keep1 hb5 (by first | (with_reducible assumption) | (go_simp; done) | ((repeat' (first | (with_reducible assumption) | refine allocC ?_ | refine drewC ?_)); done) | (go_keep; done))
  have p5x6 : w5.cell? ⟨w2.heap.size, 0, none⟩ = some (.int .i64 x0) := keep1 hb5 (by first | (with_reducible assumption) | (go_simp; done) | ((repeat' (first | (with_reducible assumption) | refine allocC ?_ | refine drewC ?_)); done) | (go_keep; done))
  have p5x7 : w5.cell? ⟨w2.heap.size, 1, none⟩ = some (.bool x1) := keep1 hb5 (by first | (with_reducible assumption) | (go_simp; done) | ((repeat' (first | (with_reducible assumption) | refine allocC ?_ | refine drewC ?_)); done) | (go_keep; done))
  have p5x8 : w5.cell? ⟨w3.heap.size, 0, none⟩ = some (.int .i64 i0) := keep1 hb5 (by first | (with_reducible assumption) | (go_simp; done) | ((repeat' (first | (with_reducible assumption) | refine allocC ?_ | refine drewC ?_)); done) | (go_keep; done))
  have p5x9 : w5.cell? ⟨w3.heap.size, 1, none⟩ = some (.bool ma) := keep1 hb5 (by first | (with_reducible assumption) | (go_simp; done) | ((repeat' (first | (with_reducible assumption) | refine allocC ?_ | refine drewC ?_)); done) | (go_keep; done))
  have p5x10 : w5.cell? ⟨w4.heap.size, 0, none⟩ = some (.int .i64 0) := keep1 hb5 (by first | (with_reducible assumption) | (go_simp; done) | ((repeat' (first | (with_reducible assumption) | refine allocC ?_ | refine drewC ?_)); done) | (go_keep; done))
  have p5x11 : w5.cell? ⟨w4.heap.size, 1, none⟩ = some (.bool false) := keep1 hb5 (by first | (with_reducible assumption) | (go_simp; done) | ((repeat' (first | (with_reducible assumption) | refine allocC ?_ | refine drewC ?_)); done) | (go_keep; done))
  have p5xz0 : w.heap.size < w5.heap.size := block_lt p5x0
  have p5xz2 : w.heap.size + 1 < w5.heap.size := block_lt p5x2
  have p5xz4 : w.heap.size + 1 + 1 < w5.heap.size := block_lt p5x4
  have p5xz6 : w2.heap.size < w5.heap.size := block_lt p5x6
  have p5xz8 : w3.heap.size < w5.heap.size := block_lt p5x8
  have p5xz10 : w4.heap.size < w5.heap.size := block_lt p5x10
  have p5xs := p5xb.size
  go_wp2_with fail
  refine (KEb.out _).mono ?_
  rintro e w6 ⟨rfl, hb6⟩
  have p6xb : Below w.heap.size w w6 := belowT (by first | (go_grown; done) | exact And.left (by assumption)) hb6
  have p6x0 : w6.cell? ⟨w.heap.size, 0, none⟩ = some (.int .i64 ha) := keep1 hb6 (by first | (with_reducible assumption) | (go_simp; done) | ((repeat' (first | (with_reducible assumption) | refine allocC ?_ | refine drewC ?_)); done) | (go_keep; done))
  have p6x1 : w6.cell? ⟨w.heap.size, 1, none⟩ = some (.bool ma) := keep1 hb6 (by first | (with_reducible assumption) | (go_simp; done) | ((repeat' (first | (with_reducible assumption) | refine allocC ?_ | refine drewC ?_)); done) | (go_keep; done))
  have p6x2 : w6.cell? ⟨w.heap.size + 1, 0, none⟩ = some (.int .i64 hb) := keep1 hb6 (by first | (with_reducible assumption) | (go_simp; done) | ((repeat' (first | (with_reducible assumption) | refine allocC ?_ | refine drewC ?_)); done) | (go_keep; done))
  have p6x3 : w6.cell? ⟨w.heap.size + 1, 1, none⟩ = some (.bool mb) := keep1 hb6 (by first | (with_reducible assumption) | (go_simp; done) | ((repeat' (first | (with_reducible assumption) | refine allocC ?_ | refine drewC ?_)); done) | (go_keep; done))
  have p6x4 : w6.cell? ⟨w.heap.size + 1 + 1, 0, none⟩ = some (.int .i64 hc) := keep1 hb6 (by first | (with_reducible assumption) | (go_simp; done) | ((repeat' (first | (with_reducible assumption) | refine allocC ?_ | refine drewC ?_)); done) | (go_keep; done))
  have p6x5 : w6.cell? ⟨w.heap.size + 1 + 1, 1, none⟩ = some (.bool mc) := keep1 hb6 (by first | (with_reducible assumption) | (go_simp; done) | ((repeat' (first | (with_reducible assumption) | refine allocC ?_ | refine drewC ?_)); done) | (go_keep; done))
  have p6x6 : w6.cell? ⟨w2.heap.size, 0, none⟩ = some (.int .i64 x0) := keep1 hb6 (by first | (with_reducible assumption) | (go_simp; done) | ((repeat' (first | (with_reducible assumption) | refine allocC ?_ | refine drewC ?_)); done) | (go_keep; done))
  have p6x7 : w6.cell? ⟨w2.heap.size, 1, none⟩ = some (.bool x1) := keep1 hb6 (by first | (with_reducible assumption) | (go_simp; done) | ((repeat' (first | (with_reducible assumption) | refine allocC ?_ | refine drewC ?_)); done) | (go_keep; done))
  have p6x8 : w6.cell? ⟨w3.heap.size, 0, none⟩ = some (.int .i64 i0) := keep1 hb6 (by first | (with_reducible assumption) | (go_simp; done) | ((repeat' (first | (with_reducible assumption) | refine allocC ?_ | refine drewC ?_)); done) | (go_keep; done))
  have p6x9 : w6.cell? ⟨w3.heap.size, 1, none⟩ = some (.bool ma) := keep1 hb6 (by first | (with_reducible assumption) | (go_simp; done) | ((repeat' (first | (with_reducible assumption) | refine allocC ?_ | refine drewC ?_)); done) | (go_keep; done))
  have p6x10 : w6.cell? ⟨w4.heap.size, 0, none⟩ = some (.int .i64 0) := keep1 hb6 (by first | (with_reducible assumption) | (go_simp; done) | ((repeat' (first | (with_reducible assumption) | refine allocC ?_ | refine drewC ?_)); done) | (go_keep; done))
  have p6x11 : w6.cell? ⟨w4.heap.size, 1, none⟩ = some (.bool false) := keep1 hb6 (by first | (with_reducible assumption) | (go_simp; done) | ((repeat' (first | (with_reducible assumption) | refine allocC ?_ | refine drewC ?_)); done) | (go_keep; done))
  have p6xz0 : w.heap.size < w6.heap.size := block_lt p6x0
  have p6xz2 : w.heap.size + 1 < w6.heap.size := block_lt p6x2
  have p6xz4 : w.heap.size + 1 + 1 < w6.heap.size := block_lt p6x4
  have p6xz6 : w2.heap.size < w6.heap.size := block_lt p6x6
  have p6xz8 : w3.heap.size < w6.heap.size := block_lt p6x8
  have p6xz10 : w4.heap.size < w6.heap.size := block_lt p6x10
  have p6xs := p6xb.size
  --raw
  go_wp2_with fail
  refine wp_region_held_drew (S := (fun W : World => Below w.heap.size w W ∧ W.cell? ⟨w.heap.size, 0, none⟩ = some (.int .i64 ha) ∧ W.cell? ⟨w.heap.size, 1, none⟩ = some (.bool ma) ∧ W.cell? ⟨w.heap.size + 1, 0, none⟩ = some (.int .i64 hb) ∧ W.cell? ⟨w.heap.size + 1, 1, none⟩ = some (.bool mb) ∧ W.cell? ⟨w.heap.size + 1 + 1, 0, none⟩ = some (.int .i64 hc) ∧ W.cell? ⟨w.heap.size + 1 + 1, 1, none⟩ = some (.bool mc) ∧ W.cell? ⟨w2.heap.size, 0, none⟩ = some (.int .i64 x0) ∧ W.cell? ⟨w2.heap.size, 1, none⟩ = some (.bool x1) ∧ W.cell? ⟨w3.heap.size, 0, none⟩ = some (.int .i64 i0) ∧ W.cell? ⟨w3.heap.size, 1, none⟩ = some (.bool ma) ∧ W.cell? ⟨w4.heap.size, 0, none⟩ = some (.int .i64 0) ∧ W.cell? ⟨w4.heap.size, 1, none⟩ = some (.bool false))) (by kernel_rfl) ?hS (fun hH => ?_)
  case hS =>
    ((repeat' apply And.intro) <;> (first | (with_reducible assumption) | (refine belowT ?_ ‹_›; first | (go_grown; done) | exact And.left (by assumption)) | (refine belowT (And.left (by assumption)) ?_; go_grown; done) | (go_simp; done) | exact keep1 ‹_› (by first | (go_simp; done) | (go_keep; done)) | (go_keep; done) | omega | (go_grown; done) | (refine Nat.lt_of_lt_of_le ?_ (Below.size ‹_›); first | omega | (simp; done)) | exact keepF ‹_› (by first | omega | (simp; done)) (by first | (go_simp; done) | (go_keep; done)) | (simp; omega) | (simp only [World.size_alloc, World.size_drew, World.size_setCell] at *; omega)))
  refine' wpAnyH_take (i := 0) (v := _) rfl (by kernel_rfl) (by kernel_rfl) (by kernel_rfl) (fun _ _ _ h => h) (Or.inl ⟨by kernel_rfl, ?hy⟩) (by assumption) ?_
  case hy => (intro W hW; (try dsimp only at hW); go_simp; try (with_reducible rfl))
  simp only [Act.put, List.setIfInBounds_toArray, List.set_cons_zero, List.set_cons_succ]
  refine' wpAnyH_take (i := 1) (v := _) rfl (by kernel_rfl) (by kernel_rfl) (by kernel_rfl) (fun _ _ _ h => h) (Or.inl ⟨by kernel_rfl, ?hy⟩) (by assumption) ?_
  case hy => (intro W hW; (try dsimp only at hW); go_simp; try (with_reducible rfl))
  simp only [Act.put, List.setIfInBounds_toArray, List.set_cons_zero, List.set_cons_succ]
  refine' wpAnyH_take (i := 2) (v := _) rfl (by kernel_rfl) (by kernel_rfl) (by kernel_rfl) (fun _ _ _ h => h) (Or.inl ⟨by kernel_rfl, ?hy⟩) (by assumption) ?_
  case hy => (intro W hW; (try dsimp only at hW); go_simp; try (with_reducible rfl))
  simp only [Act.put, List.setIfInBounds_toArray, List.set_cons_zero, List.set_cons_succ]
  refine' wpAnyH_take (i := 3) (v := undef) rfl (by kernel_rfl) (by kernel_rfl) (by kernel_rfl) (fun _ _ _ h => h) (Or.inr ⟨by kernel_rfl, rfl⟩) (by assumption) ?_
  simp only [Act.put, List.setIfInBounds_toArray, List.set_cons_zero, List.set_cons_succ]
  refine' wpAnyH_take (i := 4) (v := undef) rfl (by kernel_rfl) (by kernel_rfl) (by kernel_rfl) (fun _ _ _ h => h) (Or.inr ⟨by kernel_rfl, rfl⟩) (by assumption) ?_
  simp only [Act.put, List.setIfInBounds_toArray, List.set_cons_zero, List.set_cons_succ]
  refine' wpAnyH_take (i := 5) (v := undef) rfl (by kernel_rfl) (by kernel_rfl) (by kernel_rfl) (fun _ _ _ h => h) (Or.inr ⟨by kernel_rfl, rfl⟩) (by assumption) ?_
  simp only [Act.put, List.setIfInBounds_toArray, List.set_cons_zero, List.set_cons_succ]
  refine' wpAnyH_take (i := 6) (v := undef) rfl (by kernel_rfl) (by kernel_rfl) (by kernel_rfl) (fun _ _ _ h => h) (Or.inr ⟨by kernel_rfl, rfl⟩) (by assumption) ?_
  simp only [Act.put, List.setIfInBounds_toArray, List.set_cons_zero, List.set_cons_succ]
  refine' wpAnyH_take (i := 7) (v := undef) rfl (by kernel_rfl) (by kernel_rfl) (by kernel_rfl) (fun _ _ _ h => h) (Or.inr ⟨by kernel_rfl, rfl⟩) (by assumption) ?_
  simp only [Act.put, List.setIfInBounds_toArray, List.set_cons_zero, List.set_cons_succ]
  refine' wpAnyH_take (i := 8) (v := undef) rfl (by kernel_rfl) (by kernel_rfl) (by kernel_rfl) (fun _ _ _ h => h) (Or.inr ⟨by kernel_rfl, rfl⟩) (by assumption) ?_
  simp only [Act.put, List.setIfInBounds_toArray, List.set_cons_zero, List.set_cons_succ]
  refine' wpAnyH_take (i := 9) (v := undef) rfl (by kernel_rfl) (by kernel_rfl) (by kernel_rfl) (fun _ _ _ h => h) (Or.inr ⟨by kernel_rfl, rfl⟩) (by assumption) ?_
  simp only [Act.put, List.setIfInBounds_toArray, List.set_cons_zero, List.set_cons_succ]
  refine' wpAnyH_take (i := 10) (v := undef) rfl (by kernel_rfl) (by kernel_rfl) (by kernel_rfl) (fun _ _ _ h => h) (Or.inr ⟨by kernel_rfl, rfl⟩) (by assumption) ?_
  simp only [Act.put, List.setIfInBounds_toArray, List.set_cons_zero, List.set_cons_succ]
  refine' wpAnyH_take (i := 11) (v := _) rfl (by kernel_rfl) (by kernel_rfl) (by kernel_rfl) (fun _ _ _ h => h) (Or.inl ⟨by kernel_rfl, ?hy⟩) (by assumption) ?_
  case hy => (intro W hW; (try dsimp only at hW); go_simp; try (with_reducible rfl))
  simp only [Act.put, List.setIfInBounds_toArray, List.set_cons_zero, List.set_cons_succ]
  refine' wpAnyH_take (i := 12) (v := _) rfl (by kernel_rfl) (by kernel_rfl) (by kernel_rfl) (fun _ _ _ h => h) (Or.inl ⟨by kernel_rfl, ?hy⟩) (by assumption) ?_
  case hy => (intro W hW; (try dsimp only at hW); go_simp; try (with_reducible rfl))
  simp only [Act.put, List.setIfInBounds_toArray, List.set_cons_zero, List.set_cons_succ]
  refine' wpAnyH_take (i := 13) (v := _) rfl (by kernel_rfl) (by kernel_rfl) (by kernel_rfl) (fun _ _ _ h => h) (Or.inl ⟨by kernel_rfl, ?hy⟩) (by assumption) ?_
  case hy => (intro W hW; (try dsimp only at hW); go_simp; try (with_reducible rfl))
  simp only [Act.put, List.setIfInBounds_toArray, List.set_cons_zero, List.set_cons_succ]
  refine' wpAnyH_take (i := 14) (v := _) rfl (by kernel_rfl) (by kernel_rfl) (by kernel_rfl) (fun _ _ _ h => h) (Or.inl ⟨by kernel_rfl, ?hy⟩) (by assumption) ?_
  case hy => (intro W hW; (try dsimp only at hW); go_simp; try (with_reducible rfl))
  simp only [Act.put, List.setIfInBounds_toArray, List.set_cons_zero, List.set_cons_succ]
  refine' wpAnyH_take (i := 15) (v := _) rfl (by kernel_rfl) (by kernel_rfl) (by kernel_rfl) (fun _ _ _ h => h) (Or.inl ⟨by kernel_rfl, ?hy⟩) (by assumption) ?_
  case hy => (intro W hW; (try dsimp only at hW); go_simp; try (with_reducible rfl))
  simp only [Act.put, List.setIfInBounds_toArray, List.set_cons_zero, List.set_cons_succ]
  refine' wpAnyH_take (i := 16) (v := _) rfl (by kernel_rfl) (by kernel_rfl) (by kernel_rfl) (fun _ _ _ h => h) (Or.inl ⟨by kernel_rfl, ?hy⟩) (by assumption) ?_
  case hy => (intro W hW; (try dsimp only at hW); go_simp; try (with_reducible rfl))
  simp only [Act.put, List.setIfInBounds_toArray, List.set_cons_zero, List.set_cons_succ]
  refine' wpAnyH_take (i := 17) (v := _) rfl (by kernel_rfl) (by kernel_rfl) (by kernel_rfl) (fun _ _ _ h => h) (Or.inl ⟨by kernel_rfl, ?hy⟩) (by assumption) ?_
  case hy => (intro W hW; (try dsimp only at hW); go_simp; try (with_reducible rfl))
  simp only [Act.put, List.setIfInBounds_toArray, List.set_cons_zero, List.set_cons_succ]
  refine' wpAnyH_take (i := 18) (v := _) rfl (by kernel_rfl) (by kernel_rfl) (by kernel_rfl) (fun _ _ _ h => h) (Or.inl ⟨by kernel_rfl, ?hy⟩) (by assumption) ?_
  case hy => (intro W hW; (try dsimp only at hW); go_simp; try (with_reducible rfl))
  simp only [Act.put, List.setIfInBounds_toArray, List.set_cons_zero, List.set_cons_succ]
  refine' wpAnyH_take (i := 19) (v := _) rfl (by kernel_rfl) (by kernel_rfl) (by kernel_rfl) (fun _ _ _ h => h) (Or.inl ⟨by kernel_rfl, ?hy⟩) (by assumption) ?_
  case hy => (intro W hW; (try dsimp only at hW); go_simp; try (with_reducible rfl))
  simp only [Act.put, List.setIfInBounds_toArray, List.set_cons_zero, List.set_cons_succ]
  refine' wpAnyH_take (i := 20) (v := _) rfl (by kernel_rfl) (by kernel_rfl) (by kernel_rfl) (fun _ _ _ h => h) (Or.inl ⟨by kernel_rfl, ?hy⟩) (by assumption) ?_
  case hy => (intro W hW; (try dsimp only at hW); go_simp; try (with_reducible rfl))
  simp only [Act.put, List.setIfInBounds_toArray, List.set_cons_zero, List.set_cons_succ]
  refine' wpAnyH_take (i := 21) (v := _) rfl (by kernel_rfl) (by kernel_rfl) (by kernel_rfl) (fun _ _ _ h => h) (Or.inl ⟨by kernel_rfl, ?hy⟩) (by assumption) ?_
  case hy => (intro W hW; (try dsimp only at hW); go_simp; try (with_reducible rfl))
  simp only [Act.put, List.setIfInBounds_toArray, List.set_cons_zero, List.set_cons_succ]
  refine wpAnyH_ready (rs := [22]) (by kernel_rfl) (by simp) ?_
  refine AllReadyH.cons rfl (fun K hK => ?_) AllReadyH.nil
  go_simp
  refine (KR.out _).mono ?_
  rintro e wr ⟨rfl, hbr⟩
  refine hK.out _ _ ?hS (fun hH2 => ?_)
  case hS =>
    ((repeat' apply And.intro) <;> (first | (with_reducible assumption) | (refine belowT ?_ ‹_›; first | (go_grown; done) | exact And.left (by assumption)) | (refine belowT (And.left (by assumption)) ?_; go_grown; done) | (go_simp; done) | exact keep1 ‹_› (by first | (go_simp; done) | (go_keep; done)) | (go_keep; done) | omega | (go_grown; done) | (refine Nat.lt_of_lt_of_le ?_ (Below.size ‹_›); first | omega | (simp; done)) | exact keepF ‹_› (by first | omega | (simp; done)) (by first | (go_simp; done) | (go_keep; done)) | (simp; omega) | (simp only [World.size_alloc, World.size_drew, World.size_setCell] at *; omega)))
  clear hK
  try simp only [Act.put, List.setIfInBounds_toArray, List.set_cons_zero, List.set_cons_succ]
  refine' wpAnyH_take (i := 23) (v := _) rfl (by kernel_rfl) (by kernel_rfl) (by kernel_rfl) (fun _ _ _ h => h) (Or.inl ⟨by kernel_rfl, ?hy⟩) (by assumption) ?_
  case hy => (intro W hW; (try dsimp only at hW); go_simp; try (with_reducible rfl))
  simp only [Act.put, List.setIfInBounds_toArray, List.set_cons_zero, List.set_cons_succ]
  refine' wpAnyH_take (i := 24) (v := _) rfl (by kernel_rfl) (by kernel_rfl) (by kernel_rfl) (fun _ _ _ h => h) (Or.inl ⟨by kernel_rfl, ?hy⟩) (by assumption) ?_
  case hy => (intro W hW; (try dsimp only at hW); go_simp; try (with_reducible rfl))
  simp only [Act.put, List.setIfInBounds_toArray, List.set_cons_zero, List.set_cons_succ]
  refine' wpAnyH_take (i := 25) (v := _) rfl (by kernel_rfl) (by kernel_rfl) (by kernel_rfl) (fun _ _ _ h => h) (Or.inl ⟨by kernel_rfl, ?hy⟩) (by assumption) ?_
  case hy => (intro W hW; (try dsimp only at hW); go_simp; try (with_reducible rfl))
  simp only [Act.put, List.setIfInBounds_toArray, List.set_cons_zero, List.set_cons_succ]
  refine' wpAnyH_take (i := 26) (v := _) rfl (by kernel_rfl) (by kernel_rfl) (by kernel_rfl) (fun _ _ _ h => h) (Or.inl ⟨by kernel_rfl, ?hy⟩) (by assumption) ?_
  case hy => (intro W hW; (try dsimp only at hW); go_simp; try (with_reducible rfl))
  simp only [Act.put, List.setIfInBounds_toArray, List.set_cons_zero, List.set_cons_succ]
  refine wpAnyH_done (by kernel_rfl) ?_ _
  obtain ⟨p7xb, p7x0, p7x1, p7x2, p7x3, p7x4, p7x5, p7x6, p7x7, p7x8, p7x9, p7x10, p7x11⟩ := hH2
  have p7xz0 := block_lt p7x0
  have p7xz2 := block_lt p7x2
  have p7xz4 := block_lt p7x4
  have p7xz6 := block_lt p7x6
  have p7xz8 := block_lt p7x8
  have p7xz10 := block_lt p7x10
  have p7xs := p7xb.size
  go_wp2_with fail
  first | (go_region_held3 (fun W : World => Below w.heap.size w W ∧ W.cell? ⟨w.heap.size, 0, none⟩ = some (.int .i64 ha) ∧ W.cell? ⟨w.heap.size, 1, none⟩ = some (.bool ma) ∧ W.cell? ⟨w.heap.size + 1, 0, none⟩ = some (.int .i64 hb) ∧ W.cell? ⟨w.heap.size + 1, 1, none⟩ = some (.bool mb) ∧ W.cell? ⟨w.heap.size + 1 + 1, 0, none⟩ = some (.int .i64 hc) ∧ W.cell? ⟨w.heap.size + 1 + 1, 1, none⟩ = some (.bool mc) ∧ W.cell? ⟨w2.heap.size, 0, none⟩ = some (.int .i64 x0) ∧ W.cell? ⟨w2.heap.size, 1, none⟩ = some (.bool x1) ∧ W.cell? ⟨w3.heap.size, 0, none⟩ = some (.int .i64 i0) ∧ W.cell? ⟨w3.heap.size, 1, none⟩ = some (.bool ma) ∧ W.cell? ⟨w4.heap.size, 0, none⟩ = some (.int .i64 0) ∧ W.cell? ⟨w4.heap.size, 1, none⟩ = some (.bool false)) ((repeat' apply And.intro) <;> (first | (with_reducible assumption) | (refine belowT ?_ ‹_›; first | (go_grown; done) | exact And.left (by assumption)) | (refine belowT (And.left (by assumption)) ?_; go_grown; done) | (go_simp; done) | exact keep1 ‹_› (by first | (go_simp; done) | (go_keep; done)) | (go_keep; done) | omega | (go_grown; done) | (refine Nat.lt_of_lt_of_le ?_ (Below.size ‹_›); first | omega | (simp; done)) | exact keepF ‹_› (by first | omega | (simp; done)) (by first | (go_simp; done) | (go_keep; done)) | (simp; omega) | (simp only [World.size_alloc, World.size_drew, World.size_setCell] at *; omega))) (first | (go_at_call 59; refine (KRi.out _).mono ?_; rintro e wa ⟨rfl, hba⟩) | (go_at_call 60; refine (KRo.out _).mono ?_; rintro e wb ⟨rfl, hbb⟩)))
  obtain ⟨p8xb, p8x0, p8x1, p8x2, p8x3, p8x4, p8x5, p8x6, p8x7, p8x8, p8x9, p8x10, p8x11⟩ := (by assumption : Below w.heap.size w _ ∧ _)
  have p8xz0 := block_lt p8x0
  have p8xz2 := block_lt p8x2
  have p8xz4 := block_lt p8x4
  have p8xz6 := block_lt p8x6
  have p8xz8 := block_lt p8x8
  have p8xz10 := block_lt p8x10
  have p8xs := p8xb.size
  go_wp2_with fail
  refine (KY.out _).mono ?_
  rintro e w9 ⟨rfl, hb9⟩
  have p9xb : Below w.heap.size w w9 := belowT (by first | (go_grown; done) | exact And.left (by assumption)) hb9
  have p9x0 : w9.cell? ⟨w.heap.size, 0, none⟩ = some (.int .i64 ha) := keep1 hb9 (by first | (with_reducible assumption) | (go_simp; done) | ((repeat' (first | (with_reducible assumption) | refine allocC ?_ | refine drewC ?_)); done) | (go_keep; done))
  have p9x1 : w9.cell? ⟨w.heap.size, 1, none⟩ = some (.bool ma) := keep1 hb9 (by first | (with_reducible assumption) | (go_simp; done) | ((repeat' (first | (with_reducible assumption) | refine allocC ?_ | refine drewC ?_)); done) | (go_keep; done))
  have p9x2 : w9.cell? ⟨w.heap.size + 1, 0, none⟩ = some (.int .i64 hb) := keep1 hb9 (by first | (with_reducible assumption) | (go_simp; done) | ((repeat' (first | (with_reducible assumption) | refine allocC ?_ | refine drewC ?_)); done) | (go_keep; done))
  have p9x3 : w9.cell? ⟨w.heap.size + 1, 1, none⟩ = some (.bool mb) := keep1 hb9 (by first | (with_reducible assumption) | (go_simp; done) | ((repeat' (first | (with_reducible assumption) | refine allocC ?_ | refine drewC ?_)); done) | (go_keep; done))
  have p9x4 : w9.cell? ⟨w.heap.size + 1 + 1, 0, none⟩ = some (.int .i64 hc) := keep1 hb9 (by first | (with_reducible assumption) | (go_simp; done) | ((repeat' (first | (with_reducible assumption) | refine allocC ?_ | refine drewC ?_)); done) | (go_keep; done))
  have p9x5 : w9.cell? ⟨w.heap.size + 1 + 1, 1, none⟩ = some (.bool mc) := keep1 hb9 (by first | (with_reducible assumption) | (go_simp; done) | ((repeat' (first | (with_reducible assumption) | refine allocC ?_ | refine drewC ?_)); done) | (go_keep; done))
  have p9x6 : w9.cell? ⟨w2.heap.size, 0, none⟩ = some (.int .i64 x0) := keep1 hb9 (by first | (with_reducible assumption) | (go_simp; done) | ((repeat' (first | (with_reducible assumption) | refine allocC ?_ | refine drewC ?_)); done) | (go_keep; done))
  have p9x7 : w9.cell? ⟨w2.heap.size, 1, none⟩ = some (.bool x1) := keep1 hb9 (by first | (with_reducible assumption) | (go_simp; done) | ((repeat' (first | (with_reducible assumption) | refine allocC ?_ | refine drewC ?_)); done) | (go_keep; done))
  have p9x8 : w9.cell? ⟨w3.heap.size, 0, none⟩ = some (.int .i64 i0) := keep1 hb9 (by first | (with_reducible assumption) | (go_simp; done) | ((repeat' (first | (with_reducible assumption) | refine allocC ?_ | refine drewC ?_)); done) | (go_keep; done))
  have p9x9 : w9.cell? ⟨w3.heap.size, 1, none⟩ = some (.bool ma) := keep1 hb9 (by first | (with_reducible assumption) | (go_simp; done) | ((repeat' (first | (with_reducible assumption) | refine allocC ?_ | refine drewC ?_)); done) | (go_keep; done))
  have p9x10 : w9.cell? ⟨w4.heap.size, 0, none⟩ = some (.int .i64 0) := keep1 hb9 (by first | (with_reducible assumption) | (go_simp; done) | ((repeat' (first | (with_reducible assumption) | refine allocC ?_ | refine drewC ?_)); done) | (go_keep; done))
  have p9x11 : w9.cell? ⟨w4.heap.size, 1, none⟩ = some (.bool false) := keep1 hb9 (by first | (with_reducible assumption) | (go_simp; done) | ((repeat' (first | (with_reducible assumption) | refine allocC ?_ | refine drewC ?_)); done) | (go_keep; done))
  have p9xz0 : w.heap.size < w9.heap.size := block_lt p9x0
  have p9xz2 : w.heap.size + 1 < w9.heap.size := block_lt p9x2
  have p9xz4 : w.heap.size + 1 + 1 < w9.heap.size := block_lt p9x4
  have p9xz6 : w2.heap.size < w9.heap.size := block_lt p9x6
  have p9xz8 : w3.heap.size < w9.heap.size := block_lt p9x8
  have p9xz10 : w4.heap.size < w9.heap.size := block_lt p9x10
  have p9xs := p9xb.size
  go_wp2_with fail
  refine (KZ.out _).mono ?_
  rintro e w10 ⟨rfl, hb10⟩
  have p10xb : Below w.heap.size w w10 := belowT (by first | (go_grown; done) | exact And.left (by assumption)) hb10
  have p10x0 : w10.cell? ⟨w.heap.size, 0, none⟩ = some (.int .i64 ha) := keep1 hb10 (by first | (with_reducible assumption) | (go_simp; done) | ((repeat' (first | (with_reducible assumption) | refine allocC ?_ | refine drewC ?_)); done) | (go_keep; done))
  have p10x1 : w10.cell? ⟨w.heap.size, 1, none⟩ = some (.bool ma) := keep1 hb10 (by first | (with_reducible assumption) | (go_simp; done) | ((repeat' (first | (with_reducible assumption) | refine allocC ?_ | refine drewC ?_)); done) | (go_keep; done))
  have p10x2 : w10.cell? ⟨w.heap.size + 1, 0, none⟩ = some (.int .i64 hb) := keep1 hb10 (by first | (with_reducible assumption) | (go_simp; done) | ((repeat' (first | (with_reducible assumption) | refine allocC ?_ | refine drewC ?_)); done) | (go_keep; done))
  have p10x3 : w10.cell? ⟨w.heap.size + 1, 1, none⟩ = some (.bool mb) := keep1 hb10 (by first | (with_reducible assumption) | (go_simp; done) | ((repeat' (first | (with_reducible assumption) | refine allocC ?_ | refine drewC ?_)); done) | (go_keep; done))
  have p10x4 : w10.cell? ⟨w.heap.size + 1 + 1, 0, none⟩ = some (.int .i64 hc) := keep1 hb10 (by first | (with_reducible assumption) | (go_simp; done) | ((repeat' (first | (with_reducible assumption) | refine allocC ?_ | refine drewC ?_)); done) | (go_keep; done))
  have p10x5 : w10.cell? ⟨w.heap.size + 1 + 1, 1, none⟩ = some (.bool mc) := keep1 hb10 (by first | (with_reducible assumption) | (go_simp; done) | ((repeat' (first | (with_reducible assumption) | refine allocC ?_ | refine drewC ?_)); done) | (go_keep; done))
  have p10x6 : w10.cell? ⟨w2.heap.size, 0, none⟩ = some (.int .i64 x0) := keep1 hb10 (by first | (with_reducible assumption) | (go_simp; done) | ((repeat' (first | (with_reducible assumption) | refine allocC ?_ | refine drewC ?_)); done) | (go_keep; done))
  have p10x7 : w10.cell? ⟨w2.heap.size, 1, none⟩ = some (.bool x1) := keep1 hb10 (by first | (with_reducible assumption) | (go_simp; done) | ((repeat' (first | (with_reducible assumption) | refine allocC ?_ | refine drewC ?_)); done) | (go_keep; done))
  have p10x8 : w10.cell? ⟨w3.heap.size, 0, none⟩ = some (.int .i64 i0) := keep1 hb10 (by first | (with_reducible assumption) | (go_simp; done) | ((repeat' (first | (with_reducible assumption) | refine allocC ?_ | refine drewC ?_)); done) | (go_keep; done))
  have p10x9 : w10.cell? ⟨w3.heap.size, 1, none⟩ = some (.bool ma) := keep1 hb10 (by first | (with_reducible assumption) | (go_simp; done) | ((repeat' (first | (with_reducible assumption) | refine allocC ?_ | refine drewC ?_)); done) | (go_keep; done))
  have p10x10 : w10.cell? ⟨w4.heap.size, 0, none⟩ = some (.int .i64 0) := keep1 hb10 (by first | (with_reducible assumption) | (go_simp; done) | ((repeat' (first | (with_reducible assumption) | refine allocC ?_ | refine drewC ?_)); done) | (go_keep; done))
  have p10x11 : w10.cell? ⟨w4.heap.size, 1, none⟩ = some (.bool false) := keep1 hb10 (by first | (with_reducible assumption) | (go_simp; done) | ((repeat' (first | (with_reducible assumption) | refine allocC ?_ | refine drewC ?_)); done) | (go_keep; done))
  have p10x12 : w10.cell? ⟨w9.heap.size, 0, none⟩ = some (.int .i64 0) := keep1 hb10 (by first | (with_reducible assumption) | (go_simp; done) | ((repeat' (first | (with_reducible assumption) | refine allocC ?_ | refine drewC ?_)); done) | (go_keep; done))
  have p10x13 : w10.cell? ⟨w9.heap.size, 1, none⟩ = some (.bool false) := keep1 hb10 (by first | (with_reducible assumption) | (go_simp; done) | ((repeat' (first | (with_reducible assumption) | refine allocC ?_ | refine drewC ?_)); done) | (go_keep; done))
  have p10xz0 : w.heap.size < w10.heap.size := block_lt p10x0
  have p10xz2 : w.heap.size + 1 < w10.heap.size := block_lt p10x2
  have p10xz4 : w.heap.size + 1 + 1 < w10.heap.size := block_lt p10x4
  have p10xz6 : w2.heap.size < w10.heap.size := block_lt p10x6
  have p10xz8 : w3.heap.size < w10.heap.size := block_lt p10x8
  have p10xz10 : w4.heap.size < w10.heap.size := block_lt p10x10
  have p10xz12 : w9.heap.size < w10.heap.size := block_lt p10x12
  have p10xs := p10xb.size
  go_wp2_with fail
  refine (KEc.out _).mono ?_
  rintro e w11 ⟨rfl, hb11⟩
  have p11xb : Below w.heap.size w w11 := belowT (by first | (go_grown; done) | exact And.left (by assumption)) hb11
  have p11x0 : w11.cell? ⟨w.heap.size, 0, none⟩ = some (.int .i64 ha) := keep1 hb11 (by first | (with_reducible assumption) | (go_simp; done) | ((repeat' (first | (with_reducible assumption) | refine allocC ?_ | refine drewC ?_)); done) | (go_keep; done))
  have p11x1 : w11.cell? ⟨w.heap.size, 1, none⟩ = some (.bool ma) := keep1 hb11 (by first | (with_reducible assumption) | (go_simp; done) | ((repeat' (first | (with_reducible assumption) | refine allocC ?_ | refine drewC ?_)); done) | (go_keep; done))
  have p11x2 : w11.cell? ⟨w.heap.size + 1, 0, none⟩ = some (.int .i64 hb) := keep1 hb11 (by first | (with_reducible assumption) | (go_simp; done) | ((repeat' (first | (with_reducible assumption) | refine allocC ?_ | refine drewC ?_)); done) | (go_keep; done))
  have p11x3 : w11.cell? ⟨w.heap.size + 1, 1, none⟩ = some (.bool mb) := keep1 hb11 (by first | (with_reducible assumption) | (go_simp; done) | ((repeat' (first | (with_reducible assumption) | refine allocC ?_ | refine drewC ?_)); done) | (go_keep; done))
  have p11x4 : w11.cell? ⟨w.heap.size + 1 + 1, 0, none⟩ = some (.int .i64 hc) := keep1 hb11 (by first | (with_reducible assumption) | (go_simp; done) | ((repeat' (first | (with_reducible assumption) | refine allocC ?_ | refine drewC ?_)); done) | (go_keep; done))
  have p11x5 : w11.cell? ⟨w.heap.size + 1 + 1, 1, none⟩ = some (.bool mc) := keep1 hb11 (by first | (with_reducible assumption) | (go_simp; done) | ((repeat' (first | (with_reducible assumption) | refine allocC ?_ | refine drewC ?_)); done) | (go_keep; done))
  have p11x6 : w11.cell? ⟨w2.heap.size, 0, none⟩ = some (.int .i64 x0) := keep1 hb11 (by first | (with_reducible assumption) | (go_simp; done) | ((repeat' (first | (with_reducible assumption) | refine allocC ?_ | refine drewC ?_)); done) | (go_keep; done))
  have p11x7 : w11.cell? ⟨w2.heap.size, 1, none⟩ = some (.bool x1) := keep1 hb11 (by first | (with_reducible assumption) | (go_simp; done) | ((repeat' (first | (with_reducible assumption) | refine allocC ?_ | refine drewC ?_)); done) | (go_keep; done))
  have p11x8 : w11.cell? ⟨w3.heap.size, 0, none⟩ = some (.int .i64 i0) := keep1 hb11 (by first | (with_reducible assumption) | (go_simp; done) | ((repeat' (first | (with_reducible assumption) | refine allocC ?_ | refine drewC ?_)); done) | (go_keep; done))
  have p11x9 : w11.cell? ⟨w3.heap.size, 1, none⟩ = some (.bool ma) := keep1 hb11 (by first | (with_reducible assumption) | (go_simp; done) | ((repeat' (first | (with_reducible assumption) | refine allocC ?_ | refine drewC ?_)); done) | (go_keep; done))
  have p11x10 : w11.cell? ⟨w4.heap.size, 0, none⟩ = some (.int .i64 0) := keep1 hb11 (by first | (with_reducible assumption) | (go_simp; done) | ((repeat' (first | (with_reducible assumption) | refine allocC ?_ | refine drewC ?_)); done) | (go_keep; done))
  have p11x11 : w11.cell? ⟨w4.heap.size, 1, none⟩ = some (.bool false) := keep1 hb11 (by first | (with_reducible assumption) | (go_simp; done) | ((repeat' (first | (with_reducible assumption) | refine allocC ?_ | refine drewC ?_)); done) | (go_keep; done))
  have p11x12 : w11.cell? ⟨w9.heap.size, 0, none⟩ = some (.int .i64 0) := keep1 hb11 (by first | (with_reducible assumption) | (go_simp; done) | ((repeat' (first | (with_reducible assumption) | refine allocC ?_ | refine drewC ?_)); done) | (go_keep; done))
  have p11x13 : w11.cell? ⟨w9.heap.size, 1, none⟩ = some (.bool false) := keep1 hb11 (by first | (with_reducible assumption) | (go_simp; done) | ((repeat' (first | (with_reducible assumption) | refine allocC ?_ | refine drewC ?_)); done) | (go_keep; done))
  have p11x14 : w11.cell? ⟨w10.heap.size, 0, none⟩ = some (.int .i64 0) := keep1 hb11 (by first | (with_reducible assumption) | (go_simp; done) | ((repeat' (first | (with_reducible assumption) | refine allocC ?_ | refine drewC ?_)); done) | (go_keep; done))
  have p11x15 : w11.cell? ⟨w10.heap.size, 1, none⟩ = some (.bool false) := keep1 hb11 (by first | (with_reducible assumption) | (go_simp; done) | ((repeat' (first | (with_reducible assumption) | refine allocC ?_ | refine drewC ?_)); done) | (go_keep; done))
  have p11xz0 : w.heap.size < w11.heap.size := block_lt p11x0
  have p11xz2 : w.heap.size + 1 < w11.heap.size := block_lt p11x2
  have p11xz4 : w.heap.size + 1 + 1 < w11.heap.size := block_lt p11x4
  have p11xz6 : w2.heap.size < w11.heap.size := block_lt p11x6
  have p11xz8 : w3.heap.size < w11.heap.size := block_lt p11x8
  have p11xz10 : w4.heap.size < w11.heap.size := block_lt p11x10
  have p11xz12 : w9.heap.size < w11.heap.size := block_lt p11x12
  have p11xz14 : w10.heap.size < w11.heap.size := block_lt p11x14
  have p11xs := p11xb.size
  go_wp2
  go_returns
  exact ⟨rfl, by first | (go_grown; done) | assumption⟩
end Go.Proofs.YtngdhmliohjigaaDoor
