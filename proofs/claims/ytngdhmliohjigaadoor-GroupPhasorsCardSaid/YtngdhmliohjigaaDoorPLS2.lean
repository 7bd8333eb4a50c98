/- THE LAW OF PHASORS: its walk, case by case (PLS2). -/
import Derived.Test.YtngdhmliohjigaaDoorV
import Derived.Test.YtngdhmliohjigaaDoorHM
import Derived.Test.YtngdhmliohjigaaDoorEQ
import Derived.BigQuiet
import Derived.Deep.QuietTactic
namespace Go.Proofs.YtngdhmliohjigaaDoor
open Go.RowKit
set_option maxRecDepth 100000 in
set_option maxHeartbeats 16000000 in
theorem phasors_s2 (p q r s x y n h m o t v u0 u1 u2 u3 : Int) (w : World) (ht : Tabs w)  (m0 : ¬ 1000 < u0) (m1 : ¬ 1000 < u1) (m2 : ¬ 300 < u2) (m3 : ¬ 300 < u3) (wo : IntKind.i64.wrap (n * m) = o) (h0 : 0 ≤ h) (h1 : h ≤ 11) (t0 : 0 ≤ t) (t1 : t ≤ 11) (KP : Hid (∀ w, Calls Tryd.prog 37 #[.agg #[.int .i64 p, .int .i64 q], .agg #[.int .i64 r, .int .i64 s]] w fun e w' => e = .returned (.tuple #[.agg #[.int .i64 x, .int .i64 y], .int .i64 0]) ∧ Below w.heap.size w w')) (KS : Hid (∀ w, Calls Tryd.prog 25 #[.agg #[.int .i64 p, .int .i64 q]] w fun e w' => e = .returned (.tuple #[.int .i64 n, .int .i64 0]) ∧ Below w.heap.size w w')) (KH : Hid (∀ w, Tabs w → Calls Tryd.prog 26 #[.agg #[.int .i64 p, .int .i64 q]] w fun e w' => e = .returned (.tuple #[.int .i64 h, .int .i64 0]) ∧ Below w.heap.size w w')) (KE : Hid (∀ w, Calls Tryd.prog 38 #[.agg #[.int .i64 p, .int .i64 q]] w fun e w' => e = .returned (.int .i64 0) ∧ Below w.heap.size w w')) (KF : Hid (∀ w, Calls Tryd.prog 38 #[.agg #[.int .i64 r, .int .i64 s]] w fun e w' => e = .returned (.int .i64 0) ∧ Below w.heap.size w w')) (KR : Hid (∀ w, Calls Tryd.prog 39 #[.agg #[.int .i64 p, .int .i64 q], .agg #[.int .i64 r, .int .i64 s]] w fun e w' => e = .returned (.agg #[.int .i64 x, .int .i64 y]) ∧ Below w.heap.size w w')) (KO : Hid (∀ w, Calls Tryd.prog 40 #[.agg #[.int .i64 p, .int .i64 q]] w fun e w' => e = .returned (.tuple #[.int .i64 h, .int .i64 0]) ∧ Below w.heap.size w w')) (KQ : Hid (∀ w, Calls Tryd.prog 35 #[.agg #[.int .i64 p, .int .i64 q]] w fun e w' => e = .returned (.int .i64 n) ∧ Below w.heap.size w w')) (KZ0 : Hid (∀ w, Calls Tryd.prog 41 #[.int .i64 p] w fun e w' => e = .returned (.int .i64 u0) ∧ Below w.heap.size w w')) (KZ1 : Hid (∀ w, Calls Tryd.prog 41 #[.int .i64 q] w fun e w' => e = .returned (.int .i64 u1) ∧ Below w.heap.size w w')) (KZ2 : Hid (∀ w, Calls Tryd.prog 41 #[.int .i64 r] w fun e w' => e = .returned (.int .i64 u2) ∧ Below w.heap.size w w')) (KZ3 : Hid (∀ w, Calls Tryd.prog 41 #[.int .i64 s] w fun e w' => e = .returned (.int .i64 u3) ∧ Below w.heap.size w w')) (KT : Hid (∀ w, Calls Tryd.prog 25 #[.agg #[.int .i64 r, .int .i64 s]] w fun e w' => e = .returned (.tuple #[.int .i64 m, .int .i64 0]) ∧ Below w.heap.size w w')) (KU : Hid (∀ w, Calls Tryd.prog 25 #[.agg #[.int .i64 x, .int .i64 y]] w fun e w' => e = .returned (.tuple #[.int .i64 o, .int .i64 0]) ∧ Below w.heap.size w w')) (KV : Hid (∀ w, Tabs w → Calls Tryd.prog 26 #[.agg #[.int .i64 r, .int .i64 s]] w fun e w' => e = .returned (.tuple #[.int .i64 t, .int .i64 0]) ∧ Below w.heap.size w w')) (KW : Hid (∀ w, Tabs w → Calls Tryd.prog 26 #[.agg #[.int .i64 x, .int .i64 y]] w fun e w' => e = .returned (.tuple #[.int .i64 v, .int .i64 0]) ∧ Below w.heap.size w w')) (KM : Hid (∀ w, Calls Tryd.prog 36 #[.int .i64 (h + t), .int .i64 12] w fun e w' => e = .returned (.int .i64 v) ∧ Below w.heap.size w w')) :
    Calls Tryd.prog 7 #[.agg #[.int .i64 p, .int .i64 q], .agg #[.int .i64 r, .int .i64 s]] w fun e w' => e = .returned (.bool true) ∧ Below w.heap.size w w' := by
  go_enter Tryd.func7, Tryd.ntmps7
  go_wp2_with fail
  refine (awake_any _ (ht.below (by go_grown))).mono ?_
  rintro e w1 ⟨rfl, hb1⟩
  have p1xb : Below w.heap.size w w1 := belowT (by first | (go_grown; done) | exact And.left (by assumption)) hb1
  have p1x0 : w1.cell? ⟨w.heap.size, 0, none⟩ = some (.int .i64 p) := keep1 hb1 (by first | (with_reducible assumption) | (go_simp; done) | ((repeat' (first | (with_reducible assumption) | refine allocC ?_ | refine drewC ?_)); done) | (go_keep; done))
  have p1x1 : w1.cell? ⟨w.heap.size, 1, none⟩ = some (.int .i64 q) := keep1 hb1 (by first | (with_reducible assumption) | (go_simp; done) | ((repeat' (first | (with_reducible assumption) | refine allocC ?_ | refine drewC ?_)); done) | (go_keep; done))
  have p1x2 : w1.cell? ⟨w.heap.size + 1, 0, none⟩ = some (.int .i64 r) := keep1 hb1 (by first | (with_reducible assumption) | (go_simp; done) | ((repeat' (first | (with_reducible assumption) | refine allocC ?_ | refine drewC ?_)); done) | (go_keep; done))
  have p1x3 : w1.cell? ⟨w.heap.size + 1, 1, none⟩ = some (.int .i64 s) := keep1 hb1 (by first | (with_reducible assumption) | (go_simp; done) | ((repeat' (first | (with_reducible assumption) | refine allocC ?_ | refine drewC ?_)); done) | (go_keep; done))
  have p1xz0 : w.heap.size < w1.heap.size := block_lt p1x0
  have p1xz2 : w.heap.size + 1 < w1.heap.size := block_lt p1x2
  have p1xs := p1xb.size
  go_wp2_with fail
  refine (KP.out _).mono ?_
  rintro e w2 ⟨rfl, hb2⟩
  have p2xb : Below w.heap.size w w2 := belowT (by first | (go_grown; done) | exact And.left (by assumption)) hb2
  have p2x0 : w2.cell? ⟨w.heap.size, 0, none⟩ = some (.int .i64 p) := keep1 hb2 (by first | (with_reducible assumption) | (go_simp; done) | ((repeat' (first | (with_reducible assumption) | refine allocC ?_ | refine drewC ?_)); done) | (go_keep; done))
  have p2x1 : w2.cell? ⟨w.heap.size, 1, none⟩ = some (.int .i64 q) := keep1 hb2 (by first | (with_reducible assumption) | (go_simp; done) | ((repeat' (first | (with_reducible assumption) | refine allocC ?_ | refine drewC ?_)); done) | (go_keep; done))
  have p2x2 : w2.cell? ⟨w.heap.size + 1, 0, none⟩ = some (.int .i64 r) := keep1 hb2 (by first | (with_reducible assumption) | (go_simp; done) | ((repeat' (first | (with_reducible assumption) | refine allocC ?_ | refine drewC ?_)); done) | (go_keep; done))
  have p2x3 : w2.cell? ⟨w.heap.size + 1, 1, none⟩ = some (.int .i64 s) := keep1 hb2 (by first | (with_reducible assumption) | (go_simp; done) | ((repeat' (first | (with_reducible assumption) | refine allocC ?_ | refine drewC ?_)); done) | (go_keep; done))
  have p2xz0 : w.heap.size < w2.heap.size := block_lt p2x0
  have p2xz2 : w.heap.size + 1 < w2.heap.size := block_lt p2x2
  have p2xs := p2xb.size
  go_wp2_with fail
  refine (KS.out _).mono ?_
  rintro e w3 ⟨rfl, hb3⟩
  have p3xb : Below w.heap.size w w3 := belowT (by first | (go_grown; done) | exact And.left (by assumption)) hb3
  have p3x0 : w3.cell? ⟨w.heap.size, 0, none⟩ = some (.int .i64 p) := keep1 hb3 (by first | (with_reducible assumption) | (go_simp; done) | ((repeat' (first | (with_reducible assumption) | refine allocC ?_ | refine drewC ?_)); done) | (go_keep; done))
  have p3x1 : w3.cell? ⟨w.heap.size, 1, none⟩ = some (.int .i64 q) := keep1 hb3 (by first | (with_reducible assumption) | (go_simp; done) | ((repeat' (first | (with_reducible assumption) | refine allocC ?_ | refine drewC ?_)); done) | (go_keep; done))
  have p3x2 : w3.cell? ⟨w.heap.size + 1, 0, none⟩ = some (.int .i64 r) := keep1 hb3 (by first | (with_reducible assumption) | (go_simp; done) | ((repeat' (first | (with_reducible assumption) | refine allocC ?_ | refine drewC ?_)); done) | (go_keep; done))
  have p3x3 : w3.cell? ⟨w.heap.size + 1, 1, none⟩ = some (.int .i64 s) := keep1 hb3 (by first | (with_reducible assumption) | (go_simp; done) | ((repeat' (first | (with_reducible assumption) | refine allocC ?_ | refine drewC ?_)); done) | (go_keep; done))
  have p3x4 : w3.cell? ⟨w2.heap.size, 0, none⟩ = some (.int .i64 x) := keep1 hb3 (by first | (with_reducible assumption) | (go_simp; done) | ((repeat' (first | (with_reducible assumption) | refine allocC ?_ | refine drewC ?_)); done) | (go_keep; done))
  have p3x5 : w3.cell? ⟨w2.heap.size, 1, none⟩ = some (.int .i64 y) := keep1 hb3 (by first | (with_reducible assumption) | (go_simp; done) | ((repeat' (first | (with_reducible assumption) | refine allocC ?_ | refine drewC ?_)); done) | (go_keep; done))
  have p3xz0 : w.heap.size < w3.heap.size := block_lt p3x0
  have p3xz2 : w.heap.size + 1 < w3.heap.size := block_lt p3x2
  have p3xz4 : w2.heap.size < w3.heap.size := block_lt p3x4
  have p3xs := p3xb.size
  go_wp2_with fail
  refine (KH.out _ (ht.below (by first | (with_reducible assumption) | (go_grown; done)))).mono ?_
  rintro e w4 ⟨rfl, hb4⟩
  have p4xb : Below w.heap.size w w4 := belowT (by first | (go_grown; done) | exact And.left (by assumption)) hb4
  have p4x0 : w4.cell? ⟨w.heap.size, 0, none⟩ = some (.int .i64 p) := keep1 hb4 (by first | (with_reducible assumption) | (go_simp; done) | ((repeat' (first | (with_reducible assumption) | refine allocC ?_ | refine drewC ?_)); done) | (go_keep; done))
  have p4x1 : w4.cell? ⟨w.heap.size, 1, none⟩ = some (.int .i64 q) := keep1 hb4 (by first | (with_reducible assumption) | (go_simp; done) | ((repeat' (first | (with_reducible assumption) | refine allocC ?_ | refine drewC ?_)); done) | (go_keep; done))
  have p4x2 : w4.cell? ⟨w.heap.size + 1, 0, none⟩ = some (.int .i64 r) := keep1 hb4 (by first | (with_reducible assumption) | (go_simp; done) | ((repeat' (first | (with_reducible assumption) | refine allocC ?_ | refine drewC ?_)); done) | (go_keep; done))
  have p4x3 : w4.cell? ⟨w.heap.size + 1, 1, none⟩ = some (.int .i64 s) := keep1 hb4 (by first | (with_reducible assumption) | (go_simp; done) | ((repeat' (first | (with_reducible assumption) | refine allocC ?_ | refine drewC ?_)); done) | (go_keep; done))
  have p4x4 : w4.cell? ⟨w2.heap.size, 0, none⟩ = some (.int .i64 x) := keep1 hb4 (by first | (with_reducible assumption) | (go_simp; done) | ((repeat' (first | (with_reducible assumption) | refine allocC ?_ | refine drewC ?_)); done) | (go_keep; done))
  have p4x5 : w4.cell? ⟨w2.heap.size, 1, none⟩ = some (.int .i64 y) := keep1 hb4 (by first | (with_reducible assumption) | (go_simp; done) | ((repeat' (first | (with_reducible assumption) | refine allocC ?_ | refine drewC ?_)); done) | (go_keep; done))
  have p4xz0 : w.heap.size < w4.heap.size := block_lt p4x0
  have p4xz2 : w.heap.size + 1 < w4.heap.size := block_lt p4x2
  have p4xz4 : w2.heap.size < w4.heap.size := block_lt p4x4
  have p4xs := p4xb.size
  go_wp2_with fail
  refine (KE.out _).mono ?_
  rintro e w5 ⟨rfl, hb5⟩
  have p5xb : Below w.heap.size w w5 := belowT (by first | (go_grown; done) | exact And.left (by assumption)) hb5
  have p5x0 : w5.cell? ⟨w.heap.size, 0, none⟩ = some (.int .i64 p) := keep1 hb5 (by first | (with_reducible assumption) | (go_simp; done) | ((repeat' (first | (with_reducible assumption) | refine allocC ?_ | refine drewC ?_)); done) | (go_keep; done))
  have p5x1 : w5.cell? ⟨w.heap.size, 1, none⟩ = some (.int .i64 q) := keep1 hb5 (by first | (with_reducible assumption) | (go_simp; done) | ((repeat' (first | (with_reducible assumption) | refine allocC ?_ | refine drewC ?_)); done) | (go_keep; done))
  have p5x2 : w5.cell? ⟨w.heap.size + 1, 0, none⟩ = some (.int .i64 r) := keep1 hb5 (by first | (with_reducible assumption) | (go_simp; done) | ((repeat' (first | (with_reducible assumption) | refine allocC ?_ | refine drewC ?_)); done) | (go_keep; done))
  have p5x3 : w5.cell? ⟨w.heap.size + 1, 1, none⟩ = some (.int .i64 s) := keep1 hb5 (by first | (with_reducible assumption) | (go_simp; done) | ((repeat' (first | (with_reducible assumption) | refine allocC ?_ | refine drewC ?_)); done) | (go_keep; done))
  have p5x4 : w5.cell? ⟨w2.heap.size, 0, none⟩ = some (.int .i64 x) := keep1 hb5 (by first | (with_reducible assumption) | (go_simp; done) | ((repeat' (first | (with_reducible assumption) | refine allocC ?_ | refine drewC ?_)); done) | (go_keep; done))
  have p5x5 : w5.cell? ⟨w2.heap.size, 1, none⟩ = some (.int .i64 y) := keep1 hb5 (by first | (with_reducible assumption) | (go_simp; done) | ((repeat' (first | (with_reducible assumption) | refine allocC ?_ | refine drewC ?_)); done) | (go_keep; done))
  have p5xz0 : w.heap.size < w5.heap.size := block_lt p5x0
  have p5xz2 : w.heap.size + 1 < w5.heap.size := block_lt p5x2
  have p5xz4 : w2.heap.size < w5.heap.size := block_lt p5x4
  have p5xs := p5xb.size
  go_wp2_with fail
  refine (KF.out _).mono ?_
  rintro e w6 ⟨rfl, hb6⟩
  have p6xb : Below w.heap.size w w6 := belowT (by first | (go_grown; done) | exact And.left (by assumption)) hb6
  have p6x0 : w6.cell? ⟨w.heap.size, 0, none⟩ = some (.int .i64 p) := keep1 hb6 (by first | (with_reducible assumption) | (go_simp; done) | ((repeat' (first | (with_reducible assumption) | refine allocC ?_ | refine drewC ?_)); done) | (go_keep; done))
  have p6x1 : w6.cell? ⟨w.heap.size, 1, none⟩ = some (.int .i64 q) := keep1 hb6 (by first | (with_reducible assumption) | (go_simp; done) | ((repeat' (first | (with_reducible assumption) | refine allocC ?_ | refine drewC ?_)); done) | (go_keep; done))
  have p6x2 : w6.cell? ⟨w.heap.size + 1, 0, none⟩ = some (.int .i64 r) := keep1 hb6 (by first | (with_reducible assumption) | (go_simp; done) | ((repeat' (first | (with_reducible assumption) | refine allocC ?_ | refine drewC ?_)); done) | (go_keep; done))
  have p6x3 : w6.cell? ⟨w.heap.size + 1, 1, none⟩ = some (.int .i64 s) := keep1 hb6 (by first | (with_reducible assumption) | (go_simp; done) | ((repeat' (first | (with_reducible assumption) | refine allocC ?_ | refine drewC ?_)); done) | (go_keep; done))
  have p6x4 : w6.cell? ⟨w2.heap.size, 0, none⟩ = some (.int .i64 x) := keep1 hb6 (by first | (with_reducible assumption) | (go_simp; done) | ((repeat' (first | (with_reducible assumption) | refine allocC ?_ | refine drewC ?_)); done) | (go_keep; done))
  have p6x5 : w6.cell? ⟨w2.heap.size, 1, none⟩ = some (.int .i64 y) := keep1 hb6 (by first | (with_reducible assumption) | (go_simp; done) | ((repeat' (first | (with_reducible assumption) | refine allocC ?_ | refine drewC ?_)); done) | (go_keep; done))
  have p6xz0 : w.heap.size < w6.heap.size := block_lt p6x0
  have p6xz2 : w.heap.size + 1 < w6.heap.size := block_lt p6x2
  have p6xz4 : w2.heap.size < w6.heap.size := block_lt p6x4
  have p6xs := p6xb.size
  go_wp2_with fail
  refine wp_region_held_drew (S := (fun W : World => Below w.heap.size w W ∧ W.cell? ⟨w.heap.size, 0, none⟩ = some (.int .i64 p) ∧ W.cell? ⟨w.heap.size, 1, none⟩ = some (.int .i64 q) ∧ W.cell? ⟨w.heap.size + 1, 0, none⟩ = some (.int .i64 r) ∧ W.cell? ⟨w.heap.size + 1, 1, none⟩ = some (.int .i64 s) ∧ W.cell? ⟨w2.heap.size, 0, none⟩ = some (.int .i64 x) ∧ W.cell? ⟨w2.heap.size, 1, none⟩ = some (.int .i64 y))) (by kernel_rfl) ?hS (fun hH => ?_)
  case hS =>
    ((repeat' apply And.intro) <;> (first | (with_reducible assumption) | (refine belowT ?_ ‹_›; first | (go_grown; done) | exact And.left (by assumption)) | (refine belowT (And.left (by assumption)) ?_; go_grown; done) | (go_simp; done) | exact keep1 ‹_› (by first | (go_simp; done) | (go_keep; done)) | (go_keep; done) | omega | (go_grown; done) | (refine Nat.lt_of_lt_of_le ?_ (Below.size ‹_›); first | omega | (simp; done)) | exact keepF ‹_› (by first | omega | (simp; done)) (by first | (go_simp; done) | (go_keep; done)) | (simp; omega) | (simp only [World.size_alloc, World.size_drew, World.size_setCell] at *; omega)))
  refine' wpAnyH_take (i := 0) (v := _) rfl (by kernel_rfl) (by kernel_rfl) (by kernel_rfl) (fun _ _ _ h => h) (Or.inl ⟨by kernel_rfl, ?hy⟩) (by assumption) ?_
  case hy => (intro W hW; (try dsimp only at hW); go_simp; try (with_reducible rfl))
  try simp only [Act.put, List.setIfInBounds_toArray]
  refine' wpAnyH_take (i := 1) (v := _) rfl (by kernel_rfl) (by kernel_rfl) (by kernel_rfl) (fun _ _ _ h => h) (Or.inl ⟨by kernel_rfl, ?hy⟩) (by assumption) ?_
  case hy => (intro W hW; (try dsimp only at hW); go_simp; try (with_reducible rfl))
  try simp only [Act.put]
  refine' wpAnyH_take (i := 2) (v := _) rfl (by kernel_rfl) (by kernel_rfl) (by kernel_rfl) (fun _ _ _ h => h) (Or.inl ⟨by kernel_rfl, ?hy⟩) (by assumption) ?_
  case hy => (intro W hW; (try dsimp only at hW); go_simp; try (with_reducible rfl))
  try simp only [Act.put]
  refine' wpAnyH_take (i := 3) (v := undef) rfl (by kernel_rfl) (by kernel_rfl) (by kernel_rfl) (fun _ _ _ h => h) (Or.inr ⟨by kernel_rfl, rfl⟩) (by assumption) ?_
  try simp only [Act.put]
  refine' wpAnyH_take (i := 4) (v := undef) rfl (by kernel_rfl) (by kernel_rfl) (by kernel_rfl) (fun _ _ _ h => h) (Or.inr ⟨by kernel_rfl, rfl⟩) (by assumption) ?_
  try simp only [Act.put]
  refine' wpAnyH_take (i := 5) (v := undef) rfl (by kernel_rfl) (by kernel_rfl) (by kernel_rfl) (fun _ _ _ h => h) (Or.inr ⟨by kernel_rfl, rfl⟩) (by assumption) ?_
  try simp only [Act.put]
  refine' wpAnyH_take (i := 6) (v := undef) rfl (by kernel_rfl) (by kernel_rfl) (by kernel_rfl) (fun _ _ _ h => h) (Or.inr ⟨by kernel_rfl, rfl⟩) (by assumption) ?_
  try simp only [Act.put]
  refine' wpAnyH_take (i := 7) (v := undef) rfl (by kernel_rfl) (by kernel_rfl) (by kernel_rfl) (fun _ _ _ h => h) (Or.inr ⟨by kernel_rfl, rfl⟩) (by assumption) ?_
  try simp only [Act.put]
  refine' wpAnyH_take (i := 8) (v := undef) rfl (by kernel_rfl) (by kernel_rfl) (by kernel_rfl) (fun _ _ _ h => h) (Or.inr ⟨by kernel_rfl, rfl⟩) (by assumption) ?_
  try simp only [Act.put]
  refine' wpAnyH_take (i := 9) (v := undef) rfl (by kernel_rfl) (by kernel_rfl) (by kernel_rfl) (fun _ _ _ h => h) (Or.inr ⟨by kernel_rfl, rfl⟩) (by assumption) ?_
  try simp only [Act.put]
  refine' wpAnyH_take (i := 10) (v := undef) rfl (by kernel_rfl) (by kernel_rfl) (by kernel_rfl) (fun _ _ _ h => h) (Or.inr ⟨by kernel_rfl, rfl⟩) (by assumption) ?_
  try simp only [Act.put]
  refine' wpAnyH_take (i := 11) (v := _) rfl (by kernel_rfl) (by kernel_rfl) (by kernel_rfl) (fun _ _ _ h => h) (Or.inl ⟨by kernel_rfl, ?hy⟩) (by assumption) ?_
  case hy => (intro W hW; (try dsimp only at hW); go_simp; try (with_reducible rfl))
  try simp only [Act.put]
  refine' wpAnyH_take (i := 12) (v := _) rfl (by kernel_rfl) (by kernel_rfl) (by kernel_rfl) (fun _ _ _ h => h) (Or.inl ⟨by kernel_rfl, ?hy⟩) (by assumption) ?_
  case hy => (intro W hW; (try dsimp only at hW); go_simp; try (with_reducible rfl))
  try simp only [Act.put]
  refine' wpAnyH_take (i := 13) (v := _) rfl (by kernel_rfl) (by kernel_rfl) (by kernel_rfl) (fun _ _ _ h => h) (Or.inl ⟨by kernel_rfl, ?hy⟩) (by assumption) ?_
  case hy => (intro W hW; (try dsimp only at hW); go_simp; try (with_reducible rfl))
  try simp only [Act.put]
  refine' wpAnyH_take (i := 14) (v := _) rfl (by kernel_rfl) (by kernel_rfl) (by kernel_rfl) (fun _ _ _ h => h) (Or.inl ⟨by kernel_rfl, ?hy⟩) (by assumption) ?_
  case hy => (intro W hW; (try dsimp only at hW); go_simp; try (with_reducible rfl))
  try simp only [Act.put]
  refine' wpAnyH_take (i := 15) (v := _) rfl (by kernel_rfl) (by kernel_rfl) (by kernel_rfl) (fun _ _ _ h => h) (Or.inl ⟨by kernel_rfl, ?hy⟩) (by assumption) ?_
  case hy => (intro W hW; (try dsimp only at hW); go_simp; try (with_reducible rfl))
  try simp only [Act.put]
  refine' wpAnyH_take (i := 16) (v := _) rfl (by kernel_rfl) (by kernel_rfl) (by kernel_rfl) (fun _ _ _ h => h) (Or.inl ⟨by kernel_rfl, ?hy⟩) (by assumption) ?_
  case hy => (intro W hW; (try dsimp only at hW); go_simp; try (with_reducible rfl))
  try simp only [Act.put]
  refine' wpAnyH_take (i := 17) (v := _) rfl (by kernel_rfl) (by kernel_rfl) (by kernel_rfl) (fun _ _ _ h => h) (Or.inl ⟨by kernel_rfl, ?hy⟩) (by assumption) ?_
  case hy => (intro W hW; (try dsimp only at hW); go_simp; try (with_reducible rfl))
  try simp only [Act.put]
  refine' wpAnyH_take (i := 18) (v := _) rfl (by kernel_rfl) (by kernel_rfl) (by kernel_rfl) (fun _ _ _ h => h) (Or.inl ⟨by kernel_rfl, ?hy⟩) (by assumption) ?_
  case hy => (intro W hW; (try dsimp only at hW); go_simp; try (with_reducible rfl))
  try simp only [Act.put]
  refine' wpAnyH_take (i := 19) (v := _) rfl (by kernel_rfl) (by kernel_rfl) (by kernel_rfl) (fun _ _ _ h => h) (Or.inl ⟨by kernel_rfl, ?hy⟩) (by assumption) ?_
  case hy => (intro W hW; (try dsimp only at hW); go_simp; try (with_reducible rfl))
  try simp only [Act.put]
  refine' wpAnyH_take (i := 20) (v := _) rfl (by kernel_rfl) (by kernel_rfl) (by kernel_rfl) (fun _ _ _ h => h) (Or.inl ⟨by kernel_rfl, ?hy⟩) (by assumption) ?_
  case hy => (intro W hW; (try dsimp only at hW); go_simp; try (with_reducible rfl))
  try simp only [Act.put]
  refine' wpAnyH_take (i := 21) (v := _) rfl (by kernel_rfl) (by kernel_rfl) (by kernel_rfl) (fun _ _ _ h => h) (Or.inl ⟨by kernel_rfl, ?hy⟩) (by assumption) ?_
  case hy => (intro W hW; (try dsimp only at hW); go_simp; try (with_reducible rfl))
  try simp only [Act.put]
  refine wpAnyH_ready (rs := [22]) (by kernel_rfl) (by simp) ?_
  refine AllReadyH.cons rfl (fun K hK => ?_) AllReadyH.nil
  go_simp
  refine (KR.out _).mono ?_
  rintro e wr1 ⟨rfl, hbr1⟩
  refine hK.out _ _ ?hS (fun hH1 => ?_)
  case hS =>
    ((repeat' apply And.intro) <;> (first | (with_reducible assumption) | (refine belowT ?_ ‹_›; first | (go_grown; done) | exact And.left (by assumption)) | (refine belowT (And.left (by assumption)) ?_; go_grown; done) | (go_simp; done) | exact keep1 ‹_› (by first | (go_simp; done) | (go_keep; done)) | (go_keep; done) | omega | (go_grown; done) | (refine Nat.lt_of_lt_of_le ?_ (Below.size ‹_›); first | omega | (simp; done)) | exact keepF ‹_› (by first | omega | (simp; done)) (by first | (go_simp; done) | (go_keep; done)) | (simp; omega) | (simp only [World.size_alloc, World.size_drew, World.size_setCell] at *; omega)))
  clear hK
  try simp only [Act.put, List.setIfInBounds_toArray, List.set_cons_zero, List.set_cons_succ]
  refine' wpAnyH_take (i := 23) (v := _) rfl (by kernel_rfl) (by kernel_rfl) (by kernel_rfl) (fun _ _ _ h => h) (Or.inl ⟨by kernel_rfl, ?hy⟩) (by assumption) ?_
  case hy => (intro W hW; (try dsimp only at hW); go_simp; try (with_reducible rfl))
  try simp only [Act.put, List.setIfInBounds_toArray]
  refine' wpAnyH_take (i := 24) (v := _) rfl (by kernel_rfl) (by kernel_rfl) (by kernel_rfl) (fun _ _ _ h => h) (Or.inl ⟨by kernel_rfl, ?hy⟩) (by assumption) ?_
  case hy => (intro W hW; (try dsimp only at hW); go_simp; try (with_reducible rfl))
  try simp only [Act.put]
  refine' wpAnyH_take (i := 25) (v := _) rfl (by kernel_rfl) (by kernel_rfl) (by kernel_rfl) (fun _ _ _ h => h) (Or.inl ⟨by kernel_rfl, ?hy⟩) (by assumption) ?_
  case hy => (intro W hW; (try dsimp only at hW); go_simp; try (with_reducible rfl))
  try simp only [Act.put]
  refine' wpAnyH_take (i := 26) (v := _) rfl (by kernel_rfl) (by kernel_rfl) (by kernel_rfl) (fun _ _ _ h => h) (Or.inl ⟨by kernel_rfl, ?hy⟩) (by assumption) ?_
  case hy => (intro W hW; (try dsimp only at hW); go_simp; try (with_reducible rfl))
  try simp only [Act.put]
  refine wpAnyH_done (by kernel_rfl) ?_ _
  obtain ⟨p7xb, p7x0, p7x1, p7x2, p7x3, p7x4, p7x5⟩ := hH1
  have p7xz0 := block_lt p7x0
  have p7xz2 := block_lt p7x2
  have p7xz4 := block_lt p7x4
  have p7xs := p7xb.size
  go_wp2_with fail
  refine (KO.out _).mono ?_
  rintro e w8 ⟨rfl, hb8⟩
  have p8xb : Below w.heap.size w w8 := belowT (by first | (go_grown; done) | exact And.left (by assumption)) hb8
  have p8x0 : w8.cell? ⟨w.heap.size, 0, none⟩ = some (.int .i64 p) := keep1 hb8 (by first | (with_reducible assumption) | (go_simp; done) | ((repeat' (first | (with_reducible assumption) | refine allocC ?_ | refine drewC ?_)); done) | (go_keep; done))
  have p8x1 : w8.cell? ⟨w.heap.size, 1, none⟩ = some (.int .i64 q) := keep1 hb8 (by first | (with_reducible assumption) | (go_simp; done) | ((repeat' (first | (with_reducible assumption) | refine allocC ?_ | refine drewC ?_)); done) | (go_keep; done))
  have p8x2 : w8.cell? ⟨w.heap.size + 1, 0, none⟩ = some (.int .i64 r) := keep1 hb8 (by first | (with_reducible assumption) | (go_simp; done) | ((repeat' (first | (with_reducible assumption) | refine allocC ?_ | refine drewC ?_)); done) | (go_keep; done))
  have p8x3 : w8.cell? ⟨w.heap.size + 1, 1, none⟩ = some (.int .i64 s) := keep1 hb8 (by first | (with_reducible assumption) | (go_simp; done) | ((repeat' (first | (with_reducible assumption) | refine allocC ?_ | refine drewC ?_)); done) | (go_keep; done))
  have p8x4 : w8.cell? ⟨w2.heap.size, 0, none⟩ = some (.int .i64 x) := keep1 hb8 (by first | (with_reducible assumption) | (go_simp; done) | ((repeat' (first | (with_reducible assumption) | refine allocC ?_ | refine drewC ?_)); done) | (go_keep; done))
  have p8x5 : w8.cell? ⟨w2.heap.size, 1, none⟩ = some (.int .i64 y) := keep1 hb8 (by first | (with_reducible assumption) | (go_simp; done) | ((repeat' (first | (with_reducible assumption) | refine allocC ?_ | refine drewC ?_)); done) | (go_keep; done))
  have p8xz0 : w.heap.size < w8.heap.size := block_lt p8x0
  have p8xz2 : w.heap.size + 1 < w8.heap.size := block_lt p8x2
  have p8xz4 : w2.heap.size < w8.heap.size := block_lt p8x4
  have p8xs := p8xb.size
  go_wp2_with fail
  refine (KQ.out _).mono ?_
  rintro e w9 ⟨rfl, hb9⟩
  have p9xb : Below w.heap.size w w9 := belowT (by first | (go_grown; done) | exact And.left (by assumption)) hb9
  have p9x0 : w9.cell? ⟨w.heap.size, 0, none⟩ = some (.int .i64 p) := keep1 hb9 (by first | (with_reducible assumption) | (go_simp; done) | ((repeat' (first | (with_reducible assumption) | refine allocC ?_ | refine drewC ?_)); done) | (go_keep; done))
  have p9x1 : w9.cell? ⟨w.heap.size, 1, none⟩ = some (.int .i64 q) := keep1 hb9 (by first | (with_reducible assumption) | (go_simp; done) | ((repeat' (first | (with_reducible assumption) | refine allocC ?_ | refine drewC ?_)); done) | (go_keep; done))
  have p9x2 : w9.cell? ⟨w.heap.size + 1, 0, none⟩ = some (.int .i64 r) := keep1 hb9 (by first | (with_reducible assumption) | (go_simp; done) | ((repeat' (first | (with_reducible assumption) | refine allocC ?_ | refine drewC ?_)); done) | (go_keep; done))
  have p9x3 : w9.cell? ⟨w.heap.size + 1, 1, none⟩ = some (.int .i64 s) := keep1 hb9 (by first | (with_reducible assumption) | (go_simp; done) | ((repeat' (first | (with_reducible assumption) | refine allocC ?_ | refine drewC ?_)); done) | (go_keep; done))
  have p9x4 : w9.cell? ⟨w2.heap.size, 0, none⟩ = some (.int .i64 x) := keep1 hb9 (by first | (with_reducible assumption) | (go_simp; done) | ((repeat' (first | (with_reducible assumption) | refine allocC ?_ | refine drewC ?_)); done) | (go_keep; done))
  have p9x5 : w9.cell? ⟨w2.heap.size, 1, none⟩ = some (.int .i64 y) := keep1 hb9 (by first | (with_reducible assumption) | (go_simp; done) | ((repeat' (first | (with_reducible assumption) | refine allocC ?_ | refine drewC ?_)); done) | (go_keep; done))
  have p9xz0 : w.heap.size < w9.heap.size := block_lt p9x0
  have p9xz2 : w.heap.size + 1 < w9.heap.size := block_lt p9x2
  have p9xz4 : w2.heap.size < w9.heap.size := block_lt p9x4
  have p9xs := p9xb.size
  go_wp2_with fail
  refine (KZ0.out _).mono ?_
  rintro e w10 ⟨rfl, hb10⟩
  have p10xb : Below w.heap.size w w10 := belowT (by first | (go_grown; done) | exact And.left (by assumption)) hb10
  have p10x0 : w10.cell? ⟨w.heap.size, 0, none⟩ = some (.int .i64 p) := keep1 hb10 (by first | (with_reducible assumption) | (go_simp; done) | ((repeat' (first | (with_reducible assumption) | refine allocC ?_ | refine drewC ?_)); done) | (go_keep; done))
  have p10x1 : w10.cell? ⟨w.heap.size, 1, none⟩ = some (.int .i64 q) := keep1 hb10 (by first | (with_reducible assumption) | (go_simp; done) | ((repeat' (first | (with_reducible assumption) | refine allocC ?_ | refine drewC ?_)); done) | (go_keep; done))
  have p10x2 : w10.cell? ⟨w.heap.size + 1, 0, none⟩ = some (.int .i64 r) := keep1 hb10 (by first | (with_reducible assumption) | (go_simp; done) | ((repeat' (first | (with_reducible assumption) | refine allocC ?_ | refine drewC ?_)); done) | (go_keep; done))
  have p10x3 : w10.cell? ⟨w.heap.size + 1, 1, none⟩ = some (.int .i64 s) := keep1 hb10 (by first | (with_reducible assumption) | (go_simp; done) | ((repeat' (first | (with_reducible assumption) | refine allocC ?_ | refine drewC ?_)); done) | (go_keep; done))
  have p10x4 : w10.cell? ⟨w2.heap.size, 0, none⟩ = some (.int .i64 x) := keep1 hb10 (by first | (with_reducible assumption) | (go_simp; done) | ((repeat' (first | (with_reducible assumption) | refine allocC ?_ | refine drewC ?_)); done) | (go_keep; done))
  have p10x5 : w10.cell? ⟨w2.heap.size, 1, none⟩ = some (.int .i64 y) := keep1 hb10 (by first | (with_reducible assumption) | (go_simp; done) | ((repeat' (first | (with_reducible assumption) | refine allocC ?_ | refine drewC ?_)); done) | (go_keep; done))
  have p10xz0 : w.heap.size < w10.heap.size := block_lt p10x0
  have p10xz2 : w.heap.size + 1 < w10.heap.size := block_lt p10x2
  have p10xz4 : w2.heap.size < w10.heap.size := block_lt p10x4
  have p10xs := p10xb.size
  go_wp2_with fail
  refine (KZ1.out _).mono ?_
  rintro e w11 ⟨rfl, hb11⟩
  have p11xb : Below w.heap.size w w11 := belowT (by first | (go_grown; done) | exact And.left (by assumption)) hb11
  have p11x0 : w11.cell? ⟨w.heap.size, 0, none⟩ = some (.int .i64 p) := keep1 hb11 (by first | (with_reducible assumption) | (go_simp; done) | ((repeat' (first | (with_reducible assumption) | refine allocC ?_ | refine drewC ?_)); done) | (go_keep; done))
  have p11x1 : w11.cell? ⟨w.heap.size, 1, none⟩ = some (.int .i64 q) := keep1 hb11 (by first | (with_reducible assumption) | (go_simp; done) | ((repeat' (first | (with_reducible assumption) | refine allocC ?_ | refine drewC ?_)); done) | (go_keep; done))
  have p11x2 : w11.cell? ⟨w.heap.size + 1, 0, none⟩ = some (.int .i64 r) := keep1 hb11 (by first | (with_reducible assumption) | (go_simp; done) | ((repeat' (first | (with_reducible assumption) | refine allocC ?_ | refine drewC ?_)); done) | (go_keep; done))
  have p11x3 : w11.cell? ⟨w.heap.size + 1, 1, none⟩ = some (.int .i64 s) := keep1 hb11 (by first | (with_reducible assumption) | (go_simp; done) | ((repeat' (first | (with_reducible assumption) | refine allocC ?_ | refine drewC ?_)); done) | (go_keep; done))
  have p11x4 : w11.cell? ⟨w2.heap.size, 0, none⟩ = some (.int .i64 x) := keep1 hb11 (by first | (with_reducible assumption) | (go_simp; done) | ((repeat' (first | (with_reducible assumption) | refine allocC ?_ | refine drewC ?_)); done) | (go_keep; done))
  have p11x5 : w11.cell? ⟨w2.heap.size, 1, none⟩ = some (.int .i64 y) := keep1 hb11 (by first | (with_reducible assumption) | (go_simp; done) | ((repeat' (first | (with_reducible assumption) | refine allocC ?_ | refine drewC ?_)); done) | (go_keep; done))
  have p11xz0 : w.heap.size < w11.heap.size := block_lt p11x0
  have p11xz2 : w.heap.size + 1 < w11.heap.size := block_lt p11x2
  have p11xz4 : w2.heap.size < w11.heap.size := block_lt p11x4
  have p11xs := p11xb.size
  go_wp2_with fail
  refine (KZ2.out _).mono ?_
  rintro e w12 ⟨rfl, hb12⟩
  have p12xb : Below w.heap.size w w12 := belowT (by first | (go_grown; done) | exact And.left (by assumption)) hb12
  have p12x0 : w12.cell? ⟨w.heap.size, 0, none⟩ = some (.int .i64 p) := keep1 hb12 (by first | (with_reducible assumption) | (go_simp; done) | ((repeat' (first | (with_reducible assumption) | refine allocC ?_ | refine drewC ?_)); done) | (go_keep; done))
  have p12x1 : w12.cell? ⟨w.heap.size, 1, none⟩ = some (.int .i64 q) := keep1 hb12 (by first | (with_reducible assumption) | (go_simp; done) | ((repeat' (first | (with_reducible assumption) | refine allocC ?_ | refine drewC ?_)); done) | (go_keep; done))
  have p12x2 : w12.cell? ⟨w.heap.size + 1, 0, none⟩ = some (.int .i64 r) := keep1 hb12 (by first | (with_reducible assumption) | (go_simp; done) | ((repeat' (first | (with_reducible assumption) | refine allocC ?_ | refine drewC ?_)); done) | (go_keep; done))
  have p12x3 : w12.cell? ⟨w.heap.size + 1, 1, none⟩ = some (.int .i64 s) := keep1 hb12 (by first | (with_reducible assumption) | (go_simp; done) | ((repeat' (first | (with_reducible assumption) | refine allocC ?_ | refine drewC ?_)); done) | (go_keep; done))
  have p12x4 : w12.cell? ⟨w2.heap.size, 0, none⟩ = some (.int .i64 x) := keep1 hb12 (by first | (with_reducible assumption) | (go_simp; done) | ((repeat' (first | (with_reducible assumption) | refine allocC ?_ | refine drewC ?_)); done) | (go_keep; done))
  have p12x5 : w12.cell? ⟨w2.heap.size, 1, none⟩ = some (.int .i64 y) := keep1 hb12 (by first | (with_reducible assumption) | (go_simp; done) | ((repeat' (first | (with_reducible assumption) | refine allocC ?_ | refine drewC ?_)); done) | (go_keep; done))
  have p12xz0 : w.heap.size < w12.heap.size := block_lt p12x0
  have p12xz2 : w.heap.size + 1 < w12.heap.size := block_lt p12x2
  have p12xz4 : w2.heap.size < w12.heap.size := block_lt p12x4
  have p12xs := p12xb.size
  go_wp2_with fail
  refine (KZ3.out _).mono ?_
  rintro e w13 ⟨rfl, hb13⟩
  have p13xb : Below w.heap.size w w13 := belowT (by first | (go_grown; done) | exact And.left (by assumption)) hb13
  have p13x0 : w13.cell? ⟨w.heap.size, 0, none⟩ = some (.int .i64 p) := keep1 hb13 (by first | (with_reducible assumption) | (go_simp; done) | ((repeat' (first | (with_reducible assumption) | refine allocC ?_ | refine drewC ?_)); done) | (go_keep; done))
  have p13x1 : w13.cell? ⟨w.heap.size, 1, none⟩ = some (.int .i64 q) := keep1 hb13 (by first | (with_reducible assumption) | (go_simp; done) | ((repeat' (first | (with_reducible assumption) | refine allocC ?_ | refine drewC ?_)); done) | (go_keep; done))
  have p13x2 : w13.cell? ⟨w.heap.size + 1, 0, none⟩ = some (.int .i64 r) := keep1 hb13 (by first | (with_reducible assumption) | (go_simp; done) | ((repeat' (first | (with_reducible assumption) | refine allocC ?_ | refine drewC ?_)); done) | (go_keep; done))
  have p13x3 : w13.cell? ⟨w.heap.size + 1, 1, none⟩ = some (.int .i64 s) := keep1 hb13 (by first | (with_reducible assumption) | (go_simp; done) | ((repeat' (first | (with_reducible assumption) | refine allocC ?_ | refine drewC ?_)); done) | (go_keep; done))
  have p13x4 : w13.cell? ⟨w2.heap.size, 0, none⟩ = some (.int .i64 x) := keep1 hb13 (by first | (with_reducible assumption) | (go_simp; done) | ((repeat' (first | (with_reducible assumption) | refine allocC ?_ | refine drewC ?_)); done) | (go_keep; done))
  have p13x5 : w13.cell? ⟨w2.heap.size, 1, none⟩ = some (.int .i64 y) := keep1 hb13 (by first | (with_reducible assumption) | (go_simp; done) | ((repeat' (first | (with_reducible assumption) | refine allocC ?_ | refine drewC ?_)); done) | (go_keep; done))
  have p13xz0 : w.heap.size < w13.heap.size := block_lt p13x0
  have p13xz2 : w.heap.size + 1 < w13.heap.size := block_lt p13x2
  have p13xz4 : w2.heap.size < w13.heap.size := block_lt p13x4
  have p13xs := p13xb.size
  go_wp2_with fail
  refine (KT.out _).mono ?_
  rintro e w14 ⟨rfl, hb14⟩
  have p14xb : Below w.heap.size w w14 := belowT (by first | (go_grown; done) | exact And.left (by assumption)) hb14
  have p14x0 : w14.cell? ⟨w.heap.size, 0, none⟩ = some (.int .i64 p) := keep1 hb14 (by first | (with_reducible assumption) | (go_simp; done) | ((repeat' (first | (with_reducible assumption) | refine allocC ?_ | refine drewC ?_)); done) | (go_keep; done))
  have p14x1 : w14.cell? ⟨w.heap.size, 1, none⟩ = some (.int .i64 q) := keep1 hb14 (by first | (with_reducible assumption) | (go_simp; done) | ((repeat' (first | (with_reducible assumption) | refine allocC ?_ | refine drewC ?_)); done) | (go_keep; done))
  have p14x2 : w14.cell? ⟨w.heap.size + 1, 0, none⟩ = some (.int .i64 r) := keep1 hb14 (by first | (with_reducible assumption) | (go_simp; done) | ((repeat' (first | (with_reducible assumption) | refine allocC ?_ | refine drewC ?_)); done) | (go_keep; done))
  have p14x3 : w14.cell? ⟨w.heap.size + 1, 1, none⟩ = some (.int .i64 s) := keep1 hb14 (by first | (with_reducible assumption) | (go_simp; done) | ((repeat' (first | (with_reducible assumption) | refine allocC ?_ | refine drewC ?_)); done) | (go_keep; done))
  have p14x4 : w14.cell? ⟨w2.heap.size, 0, none⟩ = some (.int .i64 x) := keep1 hb14 (by first | (with_reducible assumption) | (go_simp; done) | ((repeat' (first | (with_reducible assumption) | refine allocC ?_ | refine drewC ?_)); done) | (go_keep; done))
  have p14x5 : w14.cell? ⟨w2.heap.size, 1, none⟩ = some (.int .i64 y) := keep1 hb14 (by first | (with_reducible assumption) | (go_simp; done) | ((repeat' (first | (with_reducible assumption) | refine allocC ?_ | refine drewC ?_)); done) | (go_keep; done))
  have p14xz0 : w.heap.size < w14.heap.size := block_lt p14x0
  have p14xz2 : w.heap.size + 1 < w14.heap.size := block_lt p14x2
  have p14xz4 : w2.heap.size < w14.heap.size := block_lt p14x4
  have p14xs := p14xb.size
  go_wp2_with fail
  refine (KU.out _).mono ?_
  rintro e w15 ⟨rfl, hb15⟩
  have p15xb : Below w.heap.size w w15 := belowT (by first | (go_grown; done) | exact And.left (by assumption)) hb15
  have p15x0 : w15.cell? ⟨w.heap.size, 0, none⟩ = some (.int .i64 p) := keep1 hb15 (by first | (with_reducible assumption) | (go_simp; done) | ((repeat' (first | (with_reducible assumption) | refine allocC ?_ | refine drewC ?_)); done) | (go_keep; done))
  have p15x1 : w15.cell? ⟨w.heap.size, 1, none⟩ = some (.int .i64 q) := keep1 hb15 (by first | (with_reducible assumption) | (go_simp; done) | ((repeat' (first | (with_reducible assumption) | refine allocC ?_ | refine drewC ?_)); done) | (go_keep; done))
  have p15x2 : w15.cell? ⟨w.heap.size + 1, 0, none⟩ = some (.int .i64 r) := keep1 hb15 (by first | (with_reducible assumption) | (go_simp; done) | ((repeat' (first | (with_reducible assumption) | refine allocC ?_ | refine drewC ?_)); done) | (go_keep; done))
  have p15x3 : w15.cell? ⟨w.heap.size + 1, 1, none⟩ = some (.int .i64 s) := keep1 hb15 (by first | (with_reducible assumption) | (go_simp; done) | ((repeat' (first | (with_reducible assumption) | refine allocC ?_ | refine drewC ?_)); done) | (go_keep; done))
  have p15x4 : w15.cell? ⟨w2.heap.size, 0, none⟩ = some (.int .i64 x) := keep1 hb15 (by first | (with_reducible assumption) | (go_simp; done) | ((repeat' (first | (with_reducible assumption) | refine allocC ?_ | refine drewC ?_)); done) | (go_keep; done))
  have p15x5 : w15.cell? ⟨w2.heap.size, 1, none⟩ = some (.int .i64 y) := keep1 hb15 (by first | (with_reducible assumption) | (go_simp; done) | ((repeat' (first | (with_reducible assumption) | refine allocC ?_ | refine drewC ?_)); done) | (go_keep; done))
  have p15xz0 : w.heap.size < w15.heap.size := block_lt p15x0
  have p15xz2 : w.heap.size + 1 < w15.heap.size := block_lt p15x2
  have p15xz4 : w2.heap.size < w15.heap.size := block_lt p15x4
  have p15xs := p15xb.size
  go_wp2_with fail
  refine (KV.out _ (ht.below (by first | (with_reducible assumption) | (go_grown; done)))).mono ?_
  rintro e w16 ⟨rfl, hb16⟩
  have p16xb : Below w.heap.size w w16 := belowT (by first | (go_grown; done) | exact And.left (by assumption)) hb16
  have p16x0 : w16.cell? ⟨w.heap.size, 0, none⟩ = some (.int .i64 p) := keep1 hb16 (by first | (with_reducible assumption) | (go_simp; done) | ((repeat' (first | (with_reducible assumption) | refine allocC ?_ | refine drewC ?_)); done) | (go_keep; done))
  have p16x1 : w16.cell? ⟨w.heap.size, 1, none⟩ = some (.int .i64 q) := keep1 hb16 (by first | (with_reducible assumption) | (go_simp; done) | ((repeat' (first | (with_reducible assumption) | refine allocC ?_ | refine drewC ?_)); done) | (go_keep; done))
  have p16x2 : w16.cell? ⟨w.heap.size + 1, 0, none⟩ = some (.int .i64 r) := keep1 hb16 (by first | (with_reducible assumption) | (go_simp; done) | ((repeat' (first | (with_reducible assumption) | refine allocC ?_ | refine drewC ?_)); done) | (go_keep; done))
  have p16x3 : w16.cell? ⟨w.heap.size + 1, 1, none⟩ = some (.int .i64 s) := keep1 hb16 (by first | (with_reducible assumption) | (go_simp; done) | ((repeat' (first | (with_reducible assumption) | refine allocC ?_ | refine drewC ?_)); done) | (go_keep; done))
  have p16x4 : w16.cell? ⟨w2.heap.size, 0, none⟩ = some (.int .i64 x) := keep1 hb16 (by first | (with_reducible assumption) | (go_simp; done) | ((repeat' (first | (with_reducible assumption) | refine allocC ?_ | refine drewC ?_)); done) | (go_keep; done))
  have p16x5 : w16.cell? ⟨w2.heap.size, 1, none⟩ = some (.int .i64 y) := keep1 hb16 (by first | (with_reducible assumption) | (go_simp; done) | ((repeat' (first | (with_reducible assumption) | refine allocC ?_ | refine drewC ?_)); done) | (go_keep; done))
  have p16xz0 : w.heap.size < w16.heap.size := block_lt p16x0
  have p16xz2 : w.heap.size + 1 < w16.heap.size := block_lt p16x2
  have p16xz4 : w2.heap.size < w16.heap.size := block_lt p16x4
  have p16xs := p16xb.size
  go_wp2_with fail
  refine (KW.out _ (ht.below (by first | (with_reducible assumption) | (go_grown; done)))).mono ?_
  rintro e w17 ⟨rfl, hb17⟩
  have p17xb : Below w.heap.size w w17 := belowT (by first | (go_grown; done) | exact And.left (by assumption)) hb17
  have p17x0 : w17.cell? ⟨w.heap.size, 0, none⟩ = some (.int .i64 p) := keep1 hb17 (by first | (with_reducible assumption) | (go_simp; done) | ((repeat' (first | (with_reducible assumption) | refine allocC ?_ | refine drewC ?_)); done) | (go_keep; done))
  have p17x1 : w17.cell? ⟨w.heap.size, 1, none⟩ = some (.int .i64 q) := keep1 hb17 (by first | (with_reducible assumption) | (go_simp; done) | ((repeat' (first | (with_reducible assumption) | refine allocC ?_ | refine drewC ?_)); done) | (go_keep; done))
  have p17x2 : w17.cell? ⟨w.heap.size + 1, 0, none⟩ = some (.int .i64 r) := keep1 hb17 (by first | (with_reducible assumption) | (go_simp; done) | ((repeat' (first | (with_reducible assumption) | refine allocC ?_ | refine drewC ?_)); done) | (go_keep; done))
  have p17x3 : w17.cell? ⟨w.heap.size + 1, 1, none⟩ = some (.int .i64 s) := keep1 hb17 (by first | (with_reducible assumption) | (go_simp; done) | ((repeat' (first | (with_reducible assumption) | refine allocC ?_ | refine drewC ?_)); done) | (go_keep; done))
  have p17x4 : w17.cell? ⟨w2.heap.size, 0, none⟩ = some (.int .i64 x) := keep1 hb17 (by first | (with_reducible assumption) | (go_simp; done) | ((repeat' (first | (with_reducible assumption) | refine allocC ?_ | refine drewC ?_)); done) | (go_keep; done))
  have p17x5 : w17.cell? ⟨w2.heap.size, 1, none⟩ = some (.int .i64 y) := keep1 hb17 (by first | (with_reducible assumption) | (go_simp; done) | ((repeat' (first | (with_reducible assumption) | refine allocC ?_ | refine drewC ?_)); done) | (go_keep; done))
  have p17xz0 : w.heap.size < w17.heap.size := block_lt p17x0
  have p17xz2 : w.heap.size + 1 < w17.heap.size := block_lt p17x2
  have p17xz4 : w2.heap.size < w17.heap.size := block_lt p17x4
  have p17xs := p17xb.size
  go_wp2_with fail
  refine (KM.out _).mono ?_
  rintro e w18 ⟨rfl, hb18⟩
  have p18xb : Below w.heap.size w w18 := belowT (by first | (go_grown; done) | exact And.left (by assumption)) hb18
  have p18x0 : w18.cell? ⟨w.heap.size, 0, none⟩ = some (.int .i64 p) := keep1 hb18 (by first | (with_reducible assumption) | (go_simp; done) | ((repeat' (first | (with_reducible assumption) | refine allocC ?_ | refine drewC ?_)); done) | (go_keep; done))
  have p18x1 : w18.cell? ⟨w.heap.size, 1, none⟩ = some (.int .i64 q) := keep1 hb18 (by first | (with_reducible assumption) | (go_simp; done) | ((repeat' (first | (with_reducible assumption) | refine allocC ?_ | refine drewC ?_)); done) | (go_keep; done))
  have p18x2 : w18.cell? ⟨w.heap.size + 1, 0, none⟩ = some (.int .i64 r) := keep1 hb18 (by first | (with_reducible assumption) | (go_simp; done) | ((repeat' (first | (with_reducible assumption) | refine allocC ?_ | refine drewC ?_)); done) | (go_keep; done))
  have p18x3 : w18.cell? ⟨w.heap.size + 1, 1, none⟩ = some (.int .i64 s) := keep1 hb18 (by first | (with_reducible assumption) | (go_simp; done) | ((repeat' (first | (with_reducible assumption) | refine allocC ?_ | refine drewC ?_)); done) | (go_keep; done))
  have p18x4 : w18.cell? ⟨w2.heap.size, 0, none⟩ = some (.int .i64 x) := keep1 hb18 (by first | (with_reducible assumption) | (go_simp; done) | ((repeat' (first | (with_reducible assumption) | refine allocC ?_ | refine drewC ?_)); done) | (go_keep; done))
  have p18x5 : w18.cell? ⟨w2.heap.size, 1, none⟩ = some (.int .i64 y) := keep1 hb18 (by first | (with_reducible assumption) | (go_simp; done) | ((repeat' (first | (with_reducible assumption) | refine allocC ?_ | refine drewC ?_)); done) | (go_keep; done))
  have p18xz0 : w.heap.size < w18.heap.size := block_lt p18x0
  have p18xz2 : w.heap.size + 1 < w18.heap.size := block_lt p18x2
  have p18xz4 : w2.heap.size < w18.heap.size := block_lt p18x4
  have p18xs := p18xb.size
  go_wp2
  go_returns
  exact ⟨rfl, by first | (go_grown; done) | assumption⟩
end Go.Proofs.YtngdhmliohjigaaDoor
