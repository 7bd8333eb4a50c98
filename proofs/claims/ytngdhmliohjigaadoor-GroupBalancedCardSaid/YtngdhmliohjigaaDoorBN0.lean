/- THE LAW OF BALANCED WINDINGS: its walk. -/
import Derived.Test.YtngdhmliohjigaaDoorSQ5
import Derived.Test.YtngdhmliohjigaaDoorU
import Derived.Test.YtngdhmliohjigaaDoorW2
namespace Go.Proofs.YtngdhmliohjigaaDoor
open Go.RowKit
/-- What the loop keeps: the winding, its lines. -/
def BnS (k n s : Int) (r : Bool) (l0 l1 l2 l3 l4 l5 l6 l7 l8 : Int) (w : World) (LB : Nat) (W : World) : Prop := Below w.heap.size w W ∧ W.cell? ⟨w.heap.size, 0, none⟩ = some (.int .i64 k) ∧ W.cell? ⟨w.heap.size, 1, none⟩ = some (.int .i64 n) ∧ W.cell? ⟨w.heap.size, 2, none⟩ = some (.int .i64 s) ∧ W.cell? ⟨w.heap.size, 3, none⟩ = some (.bool r) ∧ W.cell? ⟨LB, 0, none⟩ = some (.int .i64 l0) ∧ W.cell? ⟨LB, 1, none⟩ = some (.int .i64 l1) ∧ W.cell? ⟨LB, 2, none⟩ = some (.int .i64 l2) ∧ W.cell? ⟨LB, 3, none⟩ = some (.int .i64 l3) ∧ W.cell? ⟨LB, 4, none⟩ = some (.int .i64 l4) ∧ W.cell? ⟨LB, 5, none⟩ = some (.int .i64 l5) ∧ W.cell? ⟨LB, 6, none⟩ = some (.int .i64 l6) ∧ W.cell? ⟨LB, 7, none⟩ = some (.int .i64 l7) ∧ W.cell? ⟨LB, 8, none⟩ = some (.int .i64 l8)
theorem BnS.below {k n s : Int} {r : Bool} {l0 l1 l2 l3 l4 l5 l6 l7 l8 : Int} {w W W' : World} {LB : Nat} (h : BnS k n s r l0 l1 l2 l3 l4 l5 l6 l7 l8 w LB W) (hb : Below W.heap.size W W') : BnS k n s r l0 l1 l2 l3 l4 l5 l6 l7 l8 w LB W' := by
  obtain ⟨a, c0, c1, c2, c3, c4, c5, c6, c7, c8, c9, c10, c11, c12⟩ := h
  exact ⟨belowT a hb, keep1 hb c0, keep1 hb c1, keep1 hb c2, keep1 hb c3, keep1 hb c4, keep1 hb c5, keep1 hb c6, keep1 hb c7, keep1 hb c8, keep1 hb c9, keep1 hb c10, keep1 hb c11, keep1 hb c12⟩
theorem BnS.set {k n s : Int} {r : Bool} {l0 l1 l2 l3 l4 l5 l6 l7 l8 : Int} {w W : World} {LB B o : Nat} (v : Value) (h : BnS k n s r l0 l1 l2 l3 l4 l5 l6 l7 l8 w LB W) (h1 : w.heap.size < B) (h2 : LB < B) : BnS k n s r l0 l1 l2 l3 l4 l5 l6 l7 l8 w LB (W.setCell ⟨B, o, none⟩ v) := by
  obtain ⟨a, c0, c1, c2, c3, c4, c5, c6, c7, c8, c9, c10, c11, c12⟩ := h
  exact ⟨Below.setCell a (by dsimp only; omega) v, seto v (Or.inl (by omega)) c0, seto v (Or.inl (by omega)) c1, seto v (Or.inl (by omega)) c2, seto v (Or.inl (by omega)) c3, seto v (Or.inl (by omega)) c4, seto v (Or.inl (by omega)) c5, seto v (Or.inl (by omega)) c6, seto v (Or.inl (by omega)) c7, seto v (Or.inl (by omega)) c8, seto v (Or.inl (by omega)) c9, seto v (Or.inl (by omega)) c10, seto v (Or.inl (by omega)) c11, seto v (Or.inl (by omega)) c12⟩
theorem drewB (W : World) (n : Nat) : Below W.heap.size W (W.drewN n) := belowQ (Below.refl _ _)
def BnRel (ua0 va0 a1 b1 k n s : Int) (r : Bool) (l0 l1 l2 l3 l4 l5 l6 l7 l8 : Int) (w : World) (LB : Nat) (p q i : Value) (W : World) : Prop :=
  ((i = .int .i64 0 ∧ p = .int .i64 0 ∧ q = .int .i64 0) ∨ (i = .int .i64 1 ∧ p = .int .i64 ua0 ∧ q = .int .i64 va0) ∨ (i = .int .i64 2 ∧ p = .int .i64 a1 ∧ q = .int .i64 b1) ∨ (i = .int .i64 3 ∧ p = .int .i64 0 ∧ q = .int .i64 0)) ∧ BnS k n s r l0 l1 l2 l3 l4 l5 l6 l7 l8 w LB W
set_option maxRecDepth 100000 in
set_option maxHeartbeats 16000000 in
theorem balanced_0 (n s l0 l1 l2 l3 l4 l5 l6 l7 l8 ua0 va0 ua1 va1 ua2 va2 h0 h1 h2 N f1 a1 b1 g0 g1 g2 : Int) (r : Bool) (w : World) (ht : Tabs w) (m1 : IntKind.i64.wrap (3 * n) = f1) (m2 : IntKind.i64.wrap (f1 * n) = N) (p0 : IntKind.i64.wrap ua0 = ua0) (p1 : IntKind.i64.wrap (ua0 + ua1) = a1) (p2 : IntKind.i64.wrap (a1 + ua2) = 0) (o0 : IntKind.i64.wrap va0 = va0) (o1 : IntKind.i64.wrap (va0 + va1) = b1) (o2 : IntKind.i64.wrap (b1 + va2) = 0) (t0 : IntKind.i64.wrap (l0 + l3) = g0) (y0 : IntKind.i64.wrap (g0 + l6) = 0) (t1 : IntKind.i64.wrap (l1 + l4) = g1) (y1 : IntKind.i64.wrap (g1 + l7) = 0) (t2 : IntKind.i64.wrap (l2 + l5) = g2) (y2 : IntKind.i64.wrap (g2 + l8) = 0) (KE : Hid (∀ w, Calls Tryd.prog 19 #[.agg #[.int .i64 0, .int .i64 n, .int .i64 s, .bool r]] w fun e w' => e = .returned (.int .i64 0) ∧ Below w.heap.size w w')) (KL : Hid (∀ w, Tabs w → Calls Tryd.prog 17 #[.agg #[.int .i64 0, .int .i64 n, .int .i64 s, .bool r]] w fun e w' => e = .returned (.tuple #[.agg #[.int .i64 l0, .int .i64 l1, .int .i64 l2, .int .i64 l3, .int .i64 l4, .int .i64 l5, .int .i64 l6, .int .i64 l7, .int .i64 l8], .int .i64 0]) ∧ Below w.heap.size w w')) (KS : Hid (∀ w, Tabs w → Calls Tryd.prog 23 #[.agg #[.int .i64 l0, .int .i64 l1, .int .i64 l2, .int .i64 l3, .int .i64 l4, .int .i64 l5, .int .i64 l6, .int .i64 l7, .int .i64 l8]] w fun e w' => e = .returned (.tuple #[.int .i64 1, .int .i64 0]) ∧ Below w.heap.size w w')) (KF0 : Hid (∀ w, Tabs w → Calls Tryd.prog 24 #[.agg #[.int .i64 l0, .int .i64 l1, .int .i64 l2, .int .i64 l3, .int .i64 l4, .int .i64 l5, .int .i64 l6, .int .i64 l7, .int .i64 l8]] w fun e w' => e = .returned (.tuple #[.agg #[.int .i64 ua0, .int .i64 va0], .int .i64 0]) ∧ Below w.heap.size w w')) (KQ0 : Hid (∀ w, Calls Tryd.prog 25 #[.agg #[.int .i64 ua0, .int .i64 va0]] w fun e w' => e = .returned (.tuple #[.int .i64 N, .int .i64 0]) ∧ Below w.heap.size w w')) (KH0 : Hid (∀ w, Tabs w → Calls Tryd.prog 26 #[.agg #[.int .i64 ua0, .int .i64 va0]] w fun e w' => e = .returned (.tuple #[.int .i64 h0, .int .i64 0]) ∧ Below w.heap.size w w')) (KW0 : Hid (∀ w, Calls Tryd.prog 27 #[.int .i64 h0, .int .i64 0, .int .i64 11] w fun e w' => e = .returned (.bool true) ∧ w = w')) (KF1 : Hid (∀ w, Tabs w → Calls Tryd.prog 24 #[.agg #[.int .i64 l3, .int .i64 l4, .int .i64 l5, .int .i64 l6, .int .i64 l7, .int .i64 l8, .int .i64 l0, .int .i64 l1, .int .i64 l2]] w fun e w' => e = .returned (.tuple #[.agg #[.int .i64 ua1, .int .i64 va1], .int .i64 0]) ∧ Below w.heap.size w w')) (KQ1 : Hid (∀ w, Calls Tryd.prog 25 #[.agg #[.int .i64 ua1, .int .i64 va1]] w fun e w' => e = .returned (.tuple #[.int .i64 N, .int .i64 0]) ∧ Below w.heap.size w w')) (KH1 : Hid (∀ w, Tabs w → Calls Tryd.prog 26 #[.agg #[.int .i64 ua1, .int .i64 va1]] w fun e w' => e = .returned (.tuple #[.int .i64 h1, .int .i64 0]) ∧ Below w.heap.size w w')) (KW1 : Hid (∀ w, Calls Tryd.prog 27 #[.int .i64 h1, .int .i64 0, .int .i64 11] w fun e w' => e = .returned (.bool true) ∧ w = w')) (KF2 : Hid (∀ w, Tabs w → Calls Tryd.prog 24 #[.agg #[.int .i64 l6, .int .i64 l7, .int .i64 l8, .int .i64 l0, .int .i64 l1, .int .i64 l2, .int .i64 l3, .int .i64 l4, .int .i64 l5]] w fun e w' => e = .returned (.tuple #[.agg #[.int .i64 ua2, .int .i64 va2], .int .i64 0]) ∧ Below w.heap.size w w')) (KQ2 : Hid (∀ w, Calls Tryd.prog 25 #[.agg #[.int .i64 ua2, .int .i64 va2]] w fun e w' => e = .returned (.tuple #[.int .i64 N, .int .i64 0]) ∧ Below w.heap.size w w')) (KH2 : Hid (∀ w, Tabs w → Calls Tryd.prog 26 #[.agg #[.int .i64 ua2, .int .i64 va2]] w fun e w' => e = .returned (.tuple #[.int .i64 h2, .int .i64 0]) ∧ Below w.heap.size w w')) (KW2 : Hid (∀ w, Calls Tryd.prog 27 #[.int .i64 h2, .int .i64 0, .int .i64 11] w fun e w' => e = .returned (.bool true) ∧ w = w')) :
    Calls Tryd.prog 4 #[.agg #[.int .i64 0, .int .i64 n, .int .i64 s, .bool r]] w fun e w' => e = .returned (.bool true) ∧ Below w.heap.size w w' := by
  have k1 : IntKind.i64.wrap 1 = 1 := by decide
  have k2 : IntKind.i64.wrap 2 = 2 := by decide
  have k3 : IntKind.i64.wrap 3 = 3 := by decide
  have k4 : IntKind.i64.wrap 4 = 4 := by decide
  go_enter Tryd.func4, Tryd.ntmps4
  go_wp2_with fail
  refine (awake_any _ (ht.below (by go_grown))).mono ?_
  rintro e w1 ⟨rfl, hb1⟩
  have p1xb : Below w.heap.size w w1 := belowT (by first | (go_grown; done) | exact And.left (by assumption)) hb1
  have p1x0 : w1.cell? ⟨w.heap.size, 0, none⟩ = some (.int .i64 0) := keep1 hb1 (by first | (with_reducible assumption) | (go_simp; done) | ((repeat' (first | (with_reducible assumption) | refine allocC ?_ | refine drewC ?_)); done) | (go_keep; done))
  have p1x1 : w1.cell? ⟨w.heap.size, 1, none⟩ = some (.int .i64 n) := keep1 hb1 (by first | (with_reducible assumption) | (go_simp; done) | ((repeat' (first | (with_reducible assumption) | refine allocC ?_ | refine drewC ?_)); done) | (go_keep; done))
  have p1x2 : w1.cell? ⟨w.heap.size, 2, none⟩ = some (.int .i64 s) := keep1 hb1 (by first | (with_reducible assumption) | (go_simp; done) | ((repeat' (first | (with_reducible assumption) | refine allocC ?_ | refine drewC ?_)); done) | (go_keep; done))
  have p1x3 : w1.cell? ⟨w.heap.size, 3, none⟩ = some (.bool r) := keep1 hb1 (by first | (with_reducible assumption) | (go_simp; done) | ((repeat' (first | (with_reducible assumption) | refine allocC ?_ | refine drewC ?_)); done) | (go_keep; done))
  have p1xz0 : w.heap.size < w1.heap.size := block_lt p1x0
  have p1xs := p1xb.size
  go_wp2_with fail
  refine (KE.out _).mono ?_
  rintro e w2 ⟨rfl, hb2⟩
  have p2xb : Below w.heap.size w w2 := belowT (by first | (go_grown; done) | exact And.left (by assumption)) hb2
  have p2x0 : w2.cell? ⟨w.heap.size, 0, none⟩ = some (.int .i64 0) := keep1 hb2 (by first | (with_reducible assumption) | (go_simp; done) | ((repeat' (first | (with_reducible assumption) | refine allocC ?_ | refine drewC ?_)); done) | (go_keep; done))
  have p2x1 : w2.cell? ⟨w.heap.size, 1, none⟩ = some (.int .i64 n) := keep1 hb2 (by first | (with_reducible assumption) | (go_simp; done) | ((repeat' (first | (with_reducible assumption) | refine allocC ?_ | refine drewC ?_)); done) | (go_keep; done))
  have p2x2 : w2.cell? ⟨w.heap.size, 2, none⟩ = some (.int .i64 s) := keep1 hb2 (by first | (with_reducible assumption) | (go_simp; done) | ((repeat' (first | (with_reducible assumption) | refine allocC ?_ | refine drewC ?_)); done) | (go_keep; done))
  have p2x3 : w2.cell? ⟨w.heap.size, 3, none⟩ = some (.bool r) := keep1 hb2 (by first | (with_reducible assumption) | (go_simp; done) | ((repeat' (first | (with_reducible assumption) | refine allocC ?_ | refine drewC ?_)); done) | (go_keep; done))
  have p2xz0 : w.heap.size < w2.heap.size := block_lt p2x0
  have p2xs := p2xb.size
  go_wp2_with fail
  refine (KL.out _ (ht.below (by first | (with_reducible assumption) | (go_grown; done)))).mono ?_
  rintro e w3 ⟨rfl, hb3⟩
  have p3xb : Below w.heap.size w w3 := belowT (by first | (go_grown; done) | exact And.left (by assumption)) hb3
  have p3x0 : w3.cell? ⟨w.heap.size, 0, none⟩ = some (.int .i64 0) := keep1 hb3 (by first | (with_reducible assumption) | (go_simp; done) | ((repeat' (first | (with_reducible assumption) | refine allocC ?_ | refine drewC ?_)); done) | (go_keep; done))
  have p3x1 : w3.cell? ⟨w.heap.size, 1, none⟩ = some (.int .i64 n) := keep1 hb3 (by first | (with_reducible assumption) | (go_simp; done) | ((repeat' (first | (with_reducible assumption) | refine allocC ?_ | refine drewC ?_)); done) | (go_keep; done))
  have p3x2 : w3.cell? ⟨w.heap.size, 2, none⟩ = some (.int .i64 s) := keep1 hb3 (by first | (with_reducible assumption) | (go_simp; done) | ((repeat' (first | (with_reducible assumption) | refine allocC ?_ | refine drewC ?_)); done) | (go_keep; done))
  have p3x3 : w3.cell? ⟨w.heap.size, 3, none⟩ = some (.bool r) := keep1 hb3 (by first | (with_reducible assumption) | (go_simp; done) | ((repeat' (first | (with_reducible assumption) | refine allocC ?_ | refine drewC ?_)); done) | (go_keep; done))
  have p3xz0 : w.heap.size < w3.heap.size := block_lt p3x0
  have p3xs := p3xb.size
  go_wp2_with fail
  refine (KS.out _ (ht.below (by first | (with_reducible assumption) | (go_grown; done)))).mono ?_
  rintro e w4 ⟨rfl, hb4⟩
  have p4xb : Below w.heap.size w w4 := belowT (by first | (go_grown; done) | exact And.left (by assumption)) hb4
  have p4x0 : w4.cell? ⟨w.heap.size, 0, none⟩ = some (.int .i64 0) := keep1 hb4 (by first | (with_reducible assumption) | (go_simp; done) | ((repeat' (first | (with_reducible assumption) | refine allocC ?_ | refine drewC ?_)); done) | (go_keep; done))
  have p4x1 : w4.cell? ⟨w.heap.size, 1, none⟩ = some (.int .i64 n) := keep1 hb4 (by first | (with_reducible assumption) | (go_simp; done) | ((repeat' (first | (with_reducible assumption) | refine allocC ?_ | refine drewC ?_)); done) | (go_keep; done))
  have p4x2 : w4.cell? ⟨w.heap.size, 2, none⟩ = some (.int .i64 s) := keep1 hb4 (by first | (with_reducible assumption) | (go_simp; done) | ((repeat' (first | (with_reducible assumption) | refine allocC ?_ | refine drewC ?_)); done) | (go_keep; done))
  have p4x3 : w4.cell? ⟨w.heap.size, 3, none⟩ = some (.bool r) := keep1 hb4 (by first | (with_reducible assumption) | (go_simp; done) | ((repeat' (first | (with_reducible assumption) | refine allocC ?_ | refine drewC ?_)); done) | (go_keep; done))
  have p4x4 : w4.cell? ⟨w3.heap.size, 0, none⟩ = some (.int .i64 l0) := keep1 hb4 (by first | (with_reducible assumption) | (go_simp; done) | ((repeat' (first | (with_reducible assumption) | refine allocC ?_ | refine drewC ?_)); done) | (go_keep; done))
  have p4x5 : w4.cell? ⟨w3.heap.size, 1, none⟩ = some (.int .i64 l1) := keep1 hb4 (by first | (with_reducible assumption) | (go_simp; done) | ((repeat' (first | (with_reducible assumption) | refine allocC ?_ | refine drewC ?_)); done) | (go_keep; done))
  have p4x6 : w4.cell? ⟨w3.heap.size, 2, none⟩ = some (.int .i64 l2) := keep1 hb4 (by first | (with_reducible assumption) | (go_simp; done) | ((repeat' (first | (with_reducible assumption) | refine allocC ?_ | refine drewC ?_)); done) | (go_keep; done))
  have p4x7 : w4.cell? ⟨w3.heap.size, 3, none⟩ = some (.int .i64 l3) := keep1 hb4 (by first | (with_reducible assumption) | (go_simp; done) | ((repeat' (first | (with_reducible assumption) | refine allocC ?_ | refine drewC ?_)); done) | (go_keep; done))
  have p4x8 : w4.cell? ⟨w3.heap.size, 4, none⟩ = some (.int .i64 l4) := keep1 hb4 (by first | (with_reducible assumption) | (go_simp; done) | ((repeat' (first | (with_reducible assumption) | refine allocC ?_ | refine drewC ?_)); done) | (go_keep; done))
  have p4x9 : w4.cell? ⟨w3.heap.size, 5, none⟩ = some (.int .i64 l5) := keep1 hb4 (by first | (with_reducible assumption) | (go_simp; done) | ((repeat' (first | (with_reducible assumption) | refine allocC ?_ | refine drewC ?_)); done) | (go_keep; done))
  have p4x10 : w4.cell? ⟨w3.heap.size, 6, none⟩ = some (.int .i64 l6) := keep1 hb4 (by first | (with_reducible assumption) | (go_simp; done) | ((repeat' (first | (with_reducible assumption) | refine allocC ?_ | refine drewC ?_)); done) | (go_keep; done))
  have p4x11 : w4.cell? ⟨w3.heap.size, 7, none⟩ = some (.int .i64 l7) := keep1 hb4 (by first | (with_reducible assumption) | (go_simp; done) | ((repeat' (first | (with_reducible assumption) | refine allocC ?_ | refine drewC ?_)); done) | (go_keep; done))
  have p4x12 : w4.cell? ⟨w3.heap.size, 8, none⟩ = some (.int .i64 l8) := keep1 hb4 (by first | (with_reducible assumption) | (go_simp; done) | ((repeat' (first | (with_reducible assumption) | refine allocC ?_ | refine drewC ?_)); done) | (go_keep; done))
  have p4xz0 : w.heap.size < w4.heap.size := block_lt p4x0
  have p4xz4 : w3.heap.size < w4.heap.size := block_lt p4x4
  have p4xs := p4xb.size
  go_wp2_with fail
  go_loopw [8, 9, 10] (fun p q i W => BnRel ua0 va0 a1 b1 0 n s r l0 l1 l2 l3 l4 l5 l6 l7 l8 w w3.heap.size p q i W) (fun _ _ i _ => 3 - (intOf i).toNat)
  case atStart => exact ⟨Or.inl ⟨rfl, rfl, rfl⟩, by go_grown, by go_simp, by go_simp, by go_simp, by go_simp, by go_simp, by go_simp, by go_simp, by go_simp, by go_simp, by go_simp, by go_simp, by go_simp, by go_simp⟩
  case round =>
    obtain ⟨hc, hS⟩ := hrel
    rcases hc with ⟨rfl, rfl, rfl⟩ | ⟨rfl, rfl, rfl⟩ | ⟨rfl, rfl, rfl⟩ | ⟨rfl, rfl, rfl⟩
    · have hw3 : w.heap.size < wr.heap.size := by obtain ⟨qb, q0, -⟩ := id hS; exact block_lt q0
      have hw4 : w3.heap.size < wr.heap.size := by obtain ⟨qb, q0, q1, q2, q3, q4, q5, q6, q7, q8, q9, q10, q11, q12⟩ := id hS; exact block_lt q4
      have hS0 := id hS
      obtain ⟨qb, q0, q1, q2, q3, q4, q5, q6, q7, q8, q9, q10, q11, q12⟩ := id hS
      go_wp2_with fail
      refine wp_region_held_drew (S := BnS 0 n s r l0 l1 l2 l3 l4 l5 l6 l7 l8 w w3.heap.size) (by kernel_rfl) (hS.below (by go_grown)) (fun hH => ?_)
      clear qb q0 q1 q2 q3 q4 q5 q6 q7 q8 q9 q10 q11 q12
      refine' wpAnyH_take (i := 0) (v := _) rfl (by kernel_rfl) (by kernel_rfl) (by kernel_rfl) (fun _ _ _ h => h) (Or.inl ⟨by kernel_rfl, ?hy⟩) (by assumption) ?_
      case hy => (intro W hW; obtain ⟨qb, q0, q1, q2, q3, q4, q5, q6, q7, q8, q9, q10, q11, q12⟩ := hW; go_simp; try (with_reducible rfl))
      try simp only [Act.put, List.setIfInBounds_toArray, List.set_cons_zero, List.set_cons_succ, List.getElem_toArray, List.getElem_cons_zero]
      refine' wpAnyH_take (i := 1) (v := _) rfl (by kernel_rfl) (by kernel_rfl) (by kernel_rfl) (fun _ _ _ h => h) (Or.inl ⟨by kernel_rfl, ?hy⟩) (by assumption) ?_
      case hy => (intro W hW; obtain ⟨qb, q0, q1, q2, q3, q4, q5, q6, q7, q8, q9, q10, q11, q12⟩ := hW; go_simp; try (with_reducible rfl))
      try simp only [Act.put, List.setIfInBounds_toArray, List.set_cons_zero, List.set_cons_succ, List.getElem_toArray, List.getElem_cons_succ, List.getElem_cons_zero]
      refine' wpAnyH_take (i := 2) (v := _) rfl (by kernel_rfl) (by kernel_rfl) (by kernel_rfl) (fun _ _ _ h => h) (Or.inl ⟨by kernel_rfl, ?hy⟩) (by assumption) ?_
      case hy => (intro W hW; obtain ⟨qb, q0, q1, q2, q3, q4, q5, q6, q7, q8, q9, q10, q11, q12⟩ := hW; go_simp; try (with_reducible rfl))
      try simp only [Act.put, List.setIfInBounds_toArray, List.set_cons_zero, List.set_cons_succ, List.getElem_toArray, List.getElem_cons_succ, List.getElem_cons_zero]
      refine' wpAnyH_take (i := 3) (v := _) rfl (by kernel_rfl) (by kernel_rfl) (by kernel_rfl) (fun _ _ _ h => h) (Or.inl ⟨by kernel_rfl, ?hy⟩) (by assumption) ?_
      case hy => (intro W hW; obtain ⟨qb, q0, q1, q2, q3, q4, q5, q6, q7, q8, q9, q10, q11, q12⟩ := hW; go_simp; try (with_reducible rfl))
      try simp only [Act.put, List.setIfInBounds_toArray, List.set_cons_zero, List.set_cons_succ, List.getElem_toArray, List.getElem_cons_succ, List.getElem_cons_zero]
      refine' wpAnyH_take (i := 4) (v := _) rfl (by kernel_rfl) (by kernel_rfl) (by kernel_rfl) (fun _ _ _ h => h) (Or.inl ⟨by kernel_rfl, ?hy⟩) (by assumption) ?_
      case hy => (intro W hW; obtain ⟨qb, q0, q1, q2, q3, q4, q5, q6, q7, q8, q9, q10, q11, q12⟩ := hW; go_simp; try (with_reducible rfl))
      try simp only [Act.put, List.setIfInBounds_toArray, List.set_cons_zero, List.set_cons_succ, List.getElem_toArray, List.getElem_cons_succ, List.getElem_cons_zero]
      refine' wpAnyH_take (i := 5) (v := _) rfl (by kernel_rfl) (by kernel_rfl) (by kernel_rfl) (fun _ _ _ h => h) (Or.inl ⟨by kernel_rfl, ?hy⟩) (by assumption) ?_
      case hy => (intro W hW; obtain ⟨qb, q0, q1, q2, q3, q4, q5, q6, q7, q8, q9, q10, q11, q12⟩ := hW; go_simp; try (with_reducible rfl))
      try simp only [Act.put, List.setIfInBounds_toArray, List.set_cons_zero, List.set_cons_succ, List.getElem_toArray, List.getElem_cons_succ, List.getElem_cons_zero]
      refine' wpAnyH_take (i := 6) (v := _) rfl (by kernel_rfl) (by kernel_rfl) (by kernel_rfl) (fun _ _ _ h => h) (Or.inl ⟨by kernel_rfl, ?hy⟩) (by assumption) ?_
      case hy => (intro W hW; obtain ⟨qb, q0, q1, q2, q3, q4, q5, q6, q7, q8, q9, q10, q11, q12⟩ := hW; go_simp; try (with_reducible rfl))
      try simp only [Act.put, List.setIfInBounds_toArray, List.set_cons_zero, List.set_cons_succ, List.getElem_toArray, List.getElem_cons_succ, List.getElem_cons_zero]
      refine' wpAnyH_take (i := 7) (v := _) rfl (by kernel_rfl) (by kernel_rfl) (by kernel_rfl) (fun _ _ _ h => h) (Or.inl ⟨by kernel_rfl, ?hy⟩) (by assumption) ?_
      case hy => (intro W hW; obtain ⟨qb, q0, q1, q2, q3, q4, q5, q6, q7, q8, q9, q10, q11, q12⟩ := hW; go_simp; try (with_reducible rfl))
      try simp only [Act.put, List.setIfInBounds_toArray, List.set_cons_zero, List.set_cons_succ, List.getElem_toArray, List.getElem_cons_succ, List.getElem_cons_zero]
      refine' wpAnyH_take (i := 8) (v := _) rfl (by kernel_rfl) (by kernel_rfl) (by kernel_rfl) (fun _ _ _ h => h) (Or.inl ⟨by kernel_rfl, ?hy⟩) (by assumption) ?_
      case hy => (intro W hW; obtain ⟨qb, q0, q1, q2, q3, q4, q5, q6, q7, q8, q9, q10, q11, q12⟩ := hW; go_simp; try (with_reducible rfl))
      try simp only [Act.put, List.setIfInBounds_toArray, List.set_cons_zero, List.set_cons_succ, List.getElem_toArray, List.getElem_cons_succ, List.getElem_cons_zero]
      refine' wpAnyH_take (i := 9) (v := _) rfl (by kernel_rfl) (by kernel_rfl) (by kernel_rfl) (fun _ _ _ h => h) (Or.inl ⟨by kernel_rfl, ?hy⟩) (by assumption) ?_
      case hy => (intro W hW; obtain ⟨qb, q0, q1, q2, q3, q4, q5, q6, q7, q8, q9, q10, q11, q12⟩ := hW; go_simp; try (with_reducible rfl))
      try simp only [Act.put, List.setIfInBounds_toArray, List.set_cons_zero, List.set_cons_succ, List.getElem_toArray, List.getElem_cons_succ, List.getElem_cons_zero]
      refine' wpAnyH_take (i := 10) (v := _) rfl (by kernel_rfl) (by kernel_rfl) (by kernel_rfl) (fun _ _ _ h => h) (Or.inl ⟨by kernel_rfl, ?hy⟩) (by assumption) ?_
      case hy => (intro W hW; obtain ⟨qb, q0, q1, q2, q3, q4, q5, q6, q7, q8, q9, q10, q11, q12⟩ := hW; go_simp; try (with_reducible rfl))
      try simp only [Act.put, List.setIfInBounds_toArray, List.set_cons_zero, List.set_cons_succ, List.getElem_toArray, List.getElem_cons_succ, List.getElem_cons_zero]
      refine' wpAnyH_take (i := 11) (v := _) rfl (by kernel_rfl) (by kernel_rfl) (by kernel_rfl) (fun _ _ _ h => h) (Or.inl ⟨by kernel_rfl, ?hy⟩) (by assumption) ?_
      case hy => (intro W hW; obtain ⟨qb, q0, q1, q2, q3, q4, q5, q6, q7, q8, q9, q10, q11, q12⟩ := hW; go_simp; try (with_reducible rfl))
      try simp only [Act.put, List.setIfInBounds_toArray, List.set_cons_zero, List.set_cons_succ, List.getElem_toArray, List.getElem_cons_succ, List.getElem_cons_zero]
      refine' wpAnyH_take (i := 12) (v := _) rfl (by kernel_rfl) (by kernel_rfl) (by kernel_rfl) (fun _ _ _ h => h) (Or.inl ⟨by kernel_rfl, ?hy⟩) (by assumption) ?_
      case hy => (intro W hW; obtain ⟨qb, q0, q1, q2, q3, q4, q5, q6, q7, q8, q9, q10, q11, q12⟩ := hW; go_simp; try (with_reducible rfl))
      try simp only [Act.put, List.setIfInBounds_toArray, List.set_cons_zero, List.set_cons_succ, List.getElem_toArray, List.getElem_cons_succ, List.getElem_cons_zero]
      refine' wpAnyH_take (i := 13) (v := _) rfl (by kernel_rfl) (by kernel_rfl) (by kernel_rfl) (fun _ _ _ h => h) (Or.inl ⟨by kernel_rfl, ?hy⟩) (by assumption) ?_
      case hy => (intro W hW; obtain ⟨qb, q0, q1, q2, q3, q4, q5, q6, q7, q8, q9, q10, q11, q12⟩ := hW; go_simp; try (with_reducible rfl))
      try simp only [Act.put, List.setIfInBounds_toArray, List.set_cons_zero, List.set_cons_succ, List.getElem_toArray, List.getElem_cons_succ, List.getElem_cons_zero]
      skip
      refine wpAnyH_ready (rs := [14, 18]) (by kernel_rfl) (by simp) ?_
      refine AllReadyH.cons rfl (fun K hK => ?_) (AllReadyH.cons rfl (fun K hK => ?_) AllReadyH.nil)
      · go_simp
        refine (KF0.out _ (ht.below hH.1)).mono ?_
        rintro e wa ⟨rfl, hba⟩
        refine hK.out _ _ (hH.below hba) (fun hH1 => ?_)
        clear hK
        try simp only [Act.put, List.setIfInBounds_toArray, List.set_cons_zero, List.set_cons_succ, List.getElem_toArray, List.getElem_cons_succ, List.getElem_cons_zero]
        refine' wpAnyH_take (i := 15) (v := _) rfl (by kernel_rfl) (by kernel_rfl) (by kernel_rfl) (fun _ _ _ h => h) (Or.inl ⟨by kernel_rfl, ?hy⟩) (by assumption) ?_
        case hy => (intro W hW; obtain ⟨qb, q0, q1, q2, q3, q4, q5, q6, q7, q8, q9, q10, q11, q12⟩ := hW; go_simp; try (with_reducible rfl))
        try simp only [Act.put, List.setIfInBounds_toArray, List.set_cons_zero, List.set_cons_succ, List.getElem_toArray, List.getElem_cons_succ, List.getElem_cons_zero]
        refine' wpAnyH_take (i := 16) (v := _) rfl (by kernel_rfl) (by kernel_rfl) (by kernel_rfl) (fun _ _ _ h => h) (Or.inl ⟨by kernel_rfl, ?hy⟩) (by assumption) ?_
        case hy => (intro W hW; obtain ⟨qb, q0, q1, q2, q3, q4, q5, q6, q7, q8, q9, q10, q11, q12⟩ := hW; go_simp; try (with_reducible rfl))
        try simp only [Act.put, List.setIfInBounds_toArray, List.set_cons_zero, List.set_cons_succ, List.getElem_toArray, List.getElem_cons_succ, List.getElem_cons_zero]
        refine' wpAnyH_take (i := 17) (v := _) rfl (by kernel_rfl) (by kernel_rfl) (by kernel_rfl) (fun _ _ _ h => h) (Or.inl ⟨by kernel_rfl, ?hy⟩) (by assumption) ?_
        case hy => (intro W hW; obtain ⟨qb, q0, q1, q2, q3, q4, q5, q6, q7, q8, q9, q10, q11, q12⟩ := hW; go_simp; try (with_reducible rfl))
        try simp only [Act.put, List.setIfInBounds_toArray, List.set_cons_zero, List.set_cons_succ, List.getElem_toArray, List.getElem_cons_succ, List.getElem_cons_zero]
        have za : w.heap.size < wa.heap.size := by obtain ⟨qb, q0, q1, q2, q3, q4, q5, q6, q7, q8, q9, q10, q11, q12⟩ := id hH1; exact block_lt q0
        have zb : w3.heap.size < wa.heap.size := by obtain ⟨qb, q0, q1, q2, q3, q4, q5, q6, q7, q8, q9, q10, q11, q12⟩ := id hH1; exact block_lt q4
        refine wpAnyH_ready (rs := [18]) (by kernel_rfl) (by simp) ?_
        refine AllReadyH.cons rfl (fun K hK => ?_) AllReadyH.nil
        go_simp
        refine hK.out _ _ (hH1.below (belowA _ _)) (fun hH2 => ?_)
        clear hK
        try simp only [Act.put, List.setIfInBounds_toArray, List.set_cons_zero, List.set_cons_succ, List.getElem_toArray, List.getElem_cons_succ, List.getElem_cons_zero]
        refine wpAnyH_ready (rs := [19]) (by kernel_rfl) (by simp) ?_
        refine AllReadyH.cons rfl (fun K hK => ?_) AllReadyH.nil
        go_simp
        refine hK.out _ _ (hH1.below (belowA _ _)) (fun hH3 => ?_)
        clear hK
        try simp only [Act.put, List.setIfInBounds_toArray, List.set_cons_zero, List.set_cons_succ, List.getElem_toArray, List.getElem_cons_succ, List.getElem_cons_zero]
        refine' wpAnyH_take (i := 20) (v := _) rfl (by kernel_rfl) (by kernel_rfl) (by kernel_rfl) (fun _ _ _ h => h) (Or.inl ⟨by kernel_rfl, ?hy⟩) (by assumption) ?_
        case hy => (intro W hW; obtain ⟨qb, q0, q1, q2, q3, q4, q5, q6, q7, q8, q9, q10, q11, q12⟩ := hW; go_simp; try (with_reducible rfl))
        try simp only [Act.put, List.setIfInBounds_toArray, List.set_cons_zero, List.set_cons_succ, List.getElem_toArray, List.getElem_cons_succ, List.getElem_cons_zero]
        refine wpAnyH_done (by kernel_rfl) ?_ _
        refine then_world (fun V => BnS 0 n s r l0 l1 l2 l3 l4 l5 l6 l7 l8 w w3.heap.size V ∧ Holds V wa.heap.size ua0 va0) ⟨hH3, by go_simp, by go_simp⟩ ?_
        rintro V ⟨hV, hB⟩
        clear hH hH1 hH2 hH3 hba
        obtain ⟨qb, q0, q1, q2, q3, q4, q5, q6, q7, q8, q9, q10, q11, q12⟩ := id hV
        obtain ⟨pb0, pb1⟩ := id hB
        go_wp2_with fail
        refine (KQ0.out _).mono ?_
        rintro e w5 ⟨rfl, hb5⟩
        replace hV := hV.below hb5
        replace hB := hB.below hb5
        clear qb q0 q1 q2 q3 q4 q5 q6 q7 q8 q9 q10 q11 q12 pb0 pb1
        obtain ⟨qb, q0, q1, q2, q3, q4, q5, q6, q7, q8, q9, q10, q11, q12⟩ := id hV
        obtain ⟨pb0, pb1⟩ := id hB
        go_wp2_with fail
        refine (KH0.out _ (ht.below hV.1)).mono ?_
        rintro e w6 ⟨rfl, hb6⟩
        replace hV := hV.below hb6
        replace hB := hB.below hb6
        clear qb q0 q1 q2 q3 q4 q5 q6 q7 q8 q9 q10 q11 q12 pb0 pb1
        obtain ⟨qb, q0, q1, q2, q3, q4, q5, q6, q7, q8, q9, q10, q11, q12⟩ := id hV
        obtain ⟨pb0, pb1⟩ := id hB
        go_wp2_with (go_at_call 27; refine (KW0.out _).mono ?_; rintro e w7 ⟨rfl, rfl⟩)
        go_quiet (fail)
        go_wp2_with fail
        go_quiet (fail)
        go_wp2_with fail
        go_roundw
        case rel => exact ⟨Or.inr (Or.inl ⟨rfl, rfl, rfl⟩), hV.below (drewB _ _)⟩
        case measure => simp [intOf]
      · go_simp
        refine hK.out _ _ (hH.below (belowA _ _)) (fun hH1 => ?_)
        clear hK
        try simp only [Act.put, List.setIfInBounds_toArray, List.set_cons_zero, List.set_cons_succ, List.getElem_toArray, List.getElem_cons_succ, List.getElem_cons_zero]
        refine wpAnyH_ready (rs := [14]) (by kernel_rfl) (by simp) ?_
        refine AllReadyH.cons rfl (fun K hK => ?_) AllReadyH.nil
        go_simp
        refine (KF0.out _ (ht.below hH1.1)).mono ?_
        rintro e wa ⟨rfl, hba⟩
        have e0 : wa.cell? ⟨wr.heap.size, 0, none⟩ = some (.int .i64 0) := keep1 hba (by go_simp)
        have e1 : wa.cell? ⟨wr.heap.size, 1, none⟩ = some (.int .i64 0) := keep1 hba (by go_simp)
        have e2 : wa.frozen? ⟨wr.heap.size, 0, none⟩ = false := keepF hba (by simp) (by go_simp)
        have e3 : wa.frozen? ⟨wr.heap.size, 1, none⟩ = false := keepF hba (by simp) (by go_simp)
        refine hK.out _ _ (hH1.below hba) (fun hH2 => ?_)
        clear hK
        try simp only [Act.put, List.setIfInBounds_toArray, List.set_cons_zero, List.set_cons_succ, List.getElem_toArray, List.getElem_cons_succ, List.getElem_cons_zero]
        refine' wpAnyH_take (i := 15) (v := _) rfl (by kernel_rfl) (by kernel_rfl) (by kernel_rfl) (fun _ _ _ h => h) (Or.inl ⟨by kernel_rfl, ?hy⟩) (by assumption) ?_
        case hy => (intro W hW; obtain ⟨qb, q0, q1, q2, q3, q4, q5, q6, q7, q8, q9, q10, q11, q12⟩ := hW; go_simp; try (with_reducible rfl))
        try simp only [Act.put, List.setIfInBounds_toArray, List.set_cons_zero, List.set_cons_succ, List.getElem_toArray, List.getElem_cons_succ, List.getElem_cons_zero]
        refine' wpAnyH_take (i := 16) (v := _) rfl (by kernel_rfl) (by kernel_rfl) (by kernel_rfl) (fun _ _ _ h => h) (Or.inl ⟨by kernel_rfl, ?hy⟩) (by assumption) ?_
        case hy => (intro W hW; obtain ⟨qb, q0, q1, q2, q3, q4, q5, q6, q7, q8, q9, q10, q11, q12⟩ := hW; go_simp; try (with_reducible rfl))
        try simp only [Act.put, List.setIfInBounds_toArray, List.set_cons_zero, List.set_cons_succ, List.getElem_toArray, List.getElem_cons_succ, List.getElem_cons_zero]
        refine' wpAnyH_take (i := 17) (v := _) rfl (by kernel_rfl) (by kernel_rfl) (by kernel_rfl) (fun _ _ _ h => h) (Or.inl ⟨by kernel_rfl, ?hy⟩) (by assumption) ?_
        case hy => (intro W hW; obtain ⟨qb, q0, q1, q2, q3, q4, q5, q6, q7, q8, q9, q10, q11, q12⟩ := hW; go_simp; try (with_reducible rfl))
        try simp only [Act.put, List.setIfInBounds_toArray, List.set_cons_zero, List.set_cons_succ, List.getElem_toArray, List.getElem_cons_succ, List.getElem_cons_zero]
        refine wpAnyH_ready (rs := [19]) (by kernel_rfl) (by simp) ?_
        refine AllReadyH.cons rfl (fun K hK => ?_) AllReadyH.nil
        go_simp
        refine hK.out _ _ ((hH2.set _ hw3 hw4).set _ hw3 hw4) (fun hH3 => ?_)
        clear hK
        try simp only [Act.put, List.setIfInBounds_toArray, List.set_cons_zero, List.set_cons_succ, List.getElem_toArray, List.getElem_cons_succ, List.getElem_cons_zero]
        refine' wpAnyH_take (i := 20) (v := _) rfl (by kernel_rfl) (by kernel_rfl) (by kernel_rfl) (fun _ _ _ h => h) (Or.inl ⟨by kernel_rfl, ?hy⟩) (by assumption) ?_
        case hy => (intro W hW; obtain ⟨qb, q0, q1, q2, q3, q4, q5, q6, q7, q8, q9, q10, q11, q12⟩ := hW; go_simp; try (with_reducible rfl))
        try simp only [Act.put, List.setIfInBounds_toArray, List.set_cons_zero, List.set_cons_succ, List.getElem_toArray, List.getElem_cons_succ, List.getElem_cons_zero]
        refine wpAnyH_done (by kernel_rfl) ?_ _
        refine then_world (fun V => BnS 0 n s r l0 l1 l2 l3 l4 l5 l6 l7 l8 w w3.heap.size V ∧ Holds V wr.heap.size ua0 va0) ⟨hH3, Holds.put _ _ ⟨_, e0⟩ ⟨_, e1⟩⟩ ?_
        rintro V ⟨hV, hB⟩
        clear hH hH1 hH2 hH3 hba e0 e1 e2 e3
        obtain ⟨qb, q0, q1, q2, q3, q4, q5, q6, q7, q8, q9, q10, q11, q12⟩ := id hV
        obtain ⟨pb0, pb1⟩ := id hB
        go_wp2_with fail
        refine (KQ0.out _).mono ?_
        rintro e w5 ⟨rfl, hb5⟩
        replace hV := hV.below hb5
        replace hB := hB.below hb5
        clear qb q0 q1 q2 q3 q4 q5 q6 q7 q8 q9 q10 q11 q12 pb0 pb1
        obtain ⟨qb, q0, q1, q2, q3, q4, q5, q6, q7, q8, q9, q10, q11, q12⟩ := id hV
        obtain ⟨pb0, pb1⟩ := id hB
        go_wp2_with fail
        refine (KH0.out _ (ht.below hV.1)).mono ?_
        rintro e w6 ⟨rfl, hb6⟩
        replace hV := hV.below hb6
        replace hB := hB.below hb6
        clear qb q0 q1 q2 q3 q4 q5 q6 q7 q8 q9 q10 q11 q12 pb0 pb1
        obtain ⟨qb, q0, q1, q2, q3, q4, q5, q6, q7, q8, q9, q10, q11, q12⟩ := id hV
        obtain ⟨pb0, pb1⟩ := id hB
        go_wp2_with (go_at_call 27; refine (KW0.out _).mono ?_; rintro e w7 ⟨rfl, rfl⟩)
        go_quiet (fail)
        go_wp2_with fail
        go_quiet (fail)
        go_wp2_with fail
        go_roundw
        case rel => exact ⟨Or.inr (Or.inl ⟨rfl, rfl, rfl⟩), hV.below (drewB _ _)⟩
        case measure => simp [intOf]
    · have hw3 : w.heap.size < wr.heap.size := by obtain ⟨qb, q0, -⟩ := id hS; exact block_lt q0
      have hw4 : w3.heap.size < wr.heap.size := by obtain ⟨qb, q0, q1, q2, q3, q4, q5, q6, q7, q8, q9, q10, q11, q12⟩ := id hS; exact block_lt q4
      have hS0 := id hS
      obtain ⟨qb, q0, q1, q2, q3, q4, q5, q6, q7, q8, q9, q10, q11, q12⟩ := id hS
      go_wp2_with fail
      refine wp_region_held_drew (S := BnS 0 n s r l0 l1 l2 l3 l4 l5 l6 l7 l8 w w3.heap.size) (by kernel_rfl) (hS.below (by go_grown)) (fun hH => ?_)
      clear qb q0 q1 q2 q3 q4 q5 q6 q7 q8 q9 q10 q11 q12
      refine' wpAnyH_take (i := 0) (v := _) rfl (by kernel_rfl) (by kernel_rfl) (by kernel_rfl) (fun _ _ _ h => h) (Or.inl ⟨by kernel_rfl, ?hy⟩) (by assumption) ?_
      case hy => (intro W hW; obtain ⟨qb, q0, q1, q2, q3, q4, q5, q6, q7, q8, q9, q10, q11, q12⟩ := hW; go_simp; try (with_reducible rfl))
      try simp only [Act.put, List.setIfInBounds_toArray, List.set_cons_zero, List.set_cons_succ, List.getElem_toArray, List.getElem_cons_zero]
      refine' wpAnyH_take (i := 1) (v := _) rfl (by kernel_rfl) (by kernel_rfl) (by kernel_rfl) (fun _ _ _ h => h) (Or.inl ⟨by kernel_rfl, ?hy⟩) (by assumption) ?_
      case hy => (intro W hW; obtain ⟨qb, q0, q1, q2, q3, q4, q5, q6, q7, q8, q9, q10, q11, q12⟩ := hW; go_simp; try (with_reducible rfl))
      try simp only [Act.put, List.setIfInBounds_toArray, List.set_cons_zero, List.set_cons_succ, List.getElem_toArray, List.getElem_cons_succ, List.getElem_cons_zero]
      refine' wpAnyH_take (i := 2) (v := _) rfl (by kernel_rfl) (by kernel_rfl) (by kernel_rfl) (fun _ _ _ h => h) (Or.inl ⟨by kernel_rfl, ?hy⟩) (by assumption) ?_
      case hy => (intro W hW; obtain ⟨qb, q0, q1, q2, q3, q4, q5, q6, q7, q8, q9, q10, q11, q12⟩ := hW; go_simp; try (with_reducible rfl))
      try simp only [Act.put, List.setIfInBounds_toArray, List.set_cons_zero, List.set_cons_succ, List.getElem_toArray, List.getElem_cons_succ, List.getElem_cons_zero]
      refine' wpAnyH_take (i := 3) (v := _) rfl (by kernel_rfl) (by kernel_rfl) (by kernel_rfl) (fun _ _ _ h => h) (Or.inl ⟨by kernel_rfl, ?hy⟩) (by assumption) ?_
      case hy => (intro W hW; obtain ⟨qb, q0, q1, q2, q3, q4, q5, q6, q7, q8, q9, q10, q11, q12⟩ := hW; go_simp; try (with_reducible rfl))
      try simp only [Act.put, List.setIfInBounds_toArray, List.set_cons_zero, List.set_cons_succ, List.getElem_toArray, List.getElem_cons_succ, List.getElem_cons_zero]
      refine' wpAnyH_take (i := 4) (v := _) rfl (by kernel_rfl) (by kernel_rfl) (by kernel_rfl) (fun _ _ _ h => h) (Or.inl ⟨by kernel_rfl, ?hy⟩) (by assumption) ?_
      case hy => (intro W hW; obtain ⟨qb, q0, q1, q2, q3, q4, q5, q6, q7, q8, q9, q10, q11, q12⟩ := hW; go_simp; try (with_reducible rfl))
      try simp only [Act.put, List.setIfInBounds_toArray, List.set_cons_zero, List.set_cons_succ, List.getElem_toArray, List.getElem_cons_succ, List.getElem_cons_zero]
      refine' wpAnyH_take (i := 5) (v := _) rfl (by kernel_rfl) (by kernel_rfl) (by kernel_rfl) (fun _ _ _ h => h) (Or.inl ⟨by kernel_rfl, ?hy⟩) (by assumption) ?_
      case hy => (intro W hW; obtain ⟨qb, q0, q1, q2, q3, q4, q5, q6, q7, q8, q9, q10, q11, q12⟩ := hW; go_simp; try (with_reducible rfl))
      try simp only [Act.put, List.setIfInBounds_toArray, List.set_cons_zero, List.set_cons_succ, List.getElem_toArray, List.getElem_cons_succ, List.getElem_cons_zero]
      refine' wpAnyH_take (i := 6) (v := _) rfl (by kernel_rfl) (by kernel_rfl) (by kernel_rfl) (fun _ _ _ h => h) (Or.inl ⟨by kernel_rfl, ?hy⟩) (by assumption) ?_
      case hy => (intro W hW; obtain ⟨qb, q0, q1, q2, q3, q4, q5, q6, q7, q8, q9, q10, q11, q12⟩ := hW; go_simp; try (with_reducible rfl))
      try simp only [Act.put, List.setIfInBounds_toArray, List.set_cons_zero, List.set_cons_succ, List.getElem_toArray, List.getElem_cons_succ, List.getElem_cons_zero]
      refine' wpAnyH_take (i := 7) (v := _) rfl (by kernel_rfl) (by kernel_rfl) (by kernel_rfl) (fun _ _ _ h => h) (Or.inl ⟨by kernel_rfl, ?hy⟩) (by assumption) ?_
      case hy => (intro W hW; obtain ⟨qb, q0, q1, q2, q3, q4, q5, q6, q7, q8, q9, q10, q11, q12⟩ := hW; go_simp; try (with_reducible rfl))
      try simp only [Act.put, List.setIfInBounds_toArray, List.set_cons_zero, List.set_cons_succ, List.getElem_toArray, List.getElem_cons_succ, List.getElem_cons_zero]
      refine' wpAnyH_take (i := 8) (v := _) rfl (by kernel_rfl) (by kernel_rfl) (by kernel_rfl) (fun _ _ _ h => h) (Or.inl ⟨by kernel_rfl, ?hy⟩) (by assumption) ?_
      case hy => (intro W hW; obtain ⟨qb, q0, q1, q2, q3, q4, q5, q6, q7, q8, q9, q10, q11, q12⟩ := hW; go_simp; try (with_reducible rfl))
      try simp only [Act.put, List.setIfInBounds_toArray, List.set_cons_zero, List.set_cons_succ, List.getElem_toArray, List.getElem_cons_succ, List.getElem_cons_zero]
      refine' wpAnyH_take (i := 9) (v := _) rfl (by kernel_rfl) (by kernel_rfl) (by kernel_rfl) (fun _ _ _ h => h) (Or.inl ⟨by kernel_rfl, ?hy⟩) (by assumption) ?_
      case hy => (intro W hW; obtain ⟨qb, q0, q1, q2, q3, q4, q5, q6, q7, q8, q9, q10, q11, q12⟩ := hW; go_simp; try (with_reducible rfl))
      try simp only [Act.put, List.setIfInBounds_toArray, List.set_cons_zero, List.set_cons_succ, List.getElem_toArray, List.getElem_cons_succ, List.getElem_cons_zero]
      refine' wpAnyH_take (i := 10) (v := _) rfl (by kernel_rfl) (by kernel_rfl) (by kernel_rfl) (fun _ _ _ h => h) (Or.inl ⟨by kernel_rfl, ?hy⟩) (by assumption) ?_
      case hy => (intro W hW; obtain ⟨qb, q0, q1, q2, q3, q4, q5, q6, q7, q8, q9, q10, q11, q12⟩ := hW; go_simp; try (with_reducible rfl))
      try simp only [Act.put, List.setIfInBounds_toArray, List.set_cons_zero, List.set_cons_succ, List.getElem_toArray, List.getElem_cons_succ, List.getElem_cons_zero]
      refine' wpAnyH_take (i := 11) (v := _) rfl (by kernel_rfl) (by kernel_rfl) (by kernel_rfl) (fun _ _ _ h => h) (Or.inl ⟨by kernel_rfl, ?hy⟩) (by assumption) ?_
      case hy => (intro W hW; obtain ⟨qb, q0, q1, q2, q3, q4, q5, q6, q7, q8, q9, q10, q11, q12⟩ := hW; go_simp; try (with_reducible rfl))
      try simp only [Act.put, List.setIfInBounds_toArray, List.set_cons_zero, List.set_cons_succ, List.getElem_toArray, List.getElem_cons_succ, List.getElem_cons_zero]
      refine' wpAnyH_take (i := 12) (v := _) rfl (by kernel_rfl) (by kernel_rfl) (by kernel_rfl) (fun _ _ _ h => h) (Or.inl ⟨by kernel_rfl, ?hy⟩) (by assumption) ?_
      case hy => (intro W hW; obtain ⟨qb, q0, q1, q2, q3, q4, q5, q6, q7, q8, q9, q10, q11, q12⟩ := hW; go_simp; try (with_reducible rfl))
      try simp only [Act.put, List.setIfInBounds_toArray, List.set_cons_zero, List.set_cons_succ, List.getElem_toArray, List.getElem_cons_succ, List.getElem_cons_zero]
      refine' wpAnyH_take (i := 13) (v := _) rfl (by kernel_rfl) (by kernel_rfl) (by kernel_rfl) (fun _ _ _ h => h) (Or.inl ⟨by kernel_rfl, ?hy⟩) (by assumption) ?_
      case hy => (intro W hW; obtain ⟨qb, q0, q1, q2, q3, q4, q5, q6, q7, q8, q9, q10, q11, q12⟩ := hW; go_simp; try (with_reducible rfl))
      try simp only [Act.put, List.setIfInBounds_toArray, List.set_cons_zero, List.set_cons_succ, List.getElem_toArray, List.getElem_cons_succ, List.getElem_cons_zero]
      skip
      refine wpAnyH_ready (rs := [14, 18]) (by kernel_rfl) (by simp) ?_
      refine AllReadyH.cons rfl (fun K hK => ?_) (AllReadyH.cons rfl (fun K hK => ?_) AllReadyH.nil)
      · go_simp
        refine (KF1.out _ (ht.below hH.1)).mono ?_
        rintro e wa ⟨rfl, hba⟩
        refine hK.out _ _ (hH.below hba) (fun hH1 => ?_)
        clear hK
        try simp only [Act.put, List.setIfInBounds_toArray, List.set_cons_zero, List.set_cons_succ, List.getElem_toArray, List.getElem_cons_succ, List.getElem_cons_zero]
        refine' wpAnyH_take (i := 15) (v := _) rfl (by kernel_rfl) (by kernel_rfl) (by kernel_rfl) (fun _ _ _ h => h) (Or.inl ⟨by kernel_rfl, ?hy⟩) (by assumption) ?_
        case hy => (intro W hW; obtain ⟨qb, q0, q1, q2, q3, q4, q5, q6, q7, q8, q9, q10, q11, q12⟩ := hW; go_simp; try (with_reducible rfl))
        try simp only [Act.put, List.setIfInBounds_toArray, List.set_cons_zero, List.set_cons_succ, List.getElem_toArray, List.getElem_cons_succ, List.getElem_cons_zero]
        refine' wpAnyH_take (i := 16) (v := _) rfl (by kernel_rfl) (by kernel_rfl) (by kernel_rfl) (fun _ _ _ h => h) (Or.inl ⟨by kernel_rfl, ?hy⟩) (by assumption) ?_
        case hy => (intro W hW; obtain ⟨qb, q0, q1, q2, q3, q4, q5, q6, q7, q8, q9, q10, q11, q12⟩ := hW; go_simp; try (with_reducible rfl))
        try simp only [Act.put, List.setIfInBounds_toArray, List.set_cons_zero, List.set_cons_succ, List.getElem_toArray, List.getElem_cons_succ, List.getElem_cons_zero]
        refine' wpAnyH_take (i := 17) (v := _) rfl (by kernel_rfl) (by kernel_rfl) (by kernel_rfl) (fun _ _ _ h => h) (Or.inl ⟨by kernel_rfl, ?hy⟩) (by assumption) ?_
        case hy => (intro W hW; obtain ⟨qb, q0, q1, q2, q3, q4, q5, q6, q7, q8, q9, q10, q11, q12⟩ := hW; go_simp; try (with_reducible rfl))
        try simp only [Act.put, List.setIfInBounds_toArray, List.set_cons_zero, List.set_cons_succ, List.getElem_toArray, List.getElem_cons_succ, List.getElem_cons_zero]
        have za : w.heap.size < wa.heap.size := by obtain ⟨qb, q0, q1, q2, q3, q4, q5, q6, q7, q8, q9, q10, q11, q12⟩ := id hH1; exact block_lt q0
        have zb : w3.heap.size < wa.heap.size := by obtain ⟨qb, q0, q1, q2, q3, q4, q5, q6, q7, q8, q9, q10, q11, q12⟩ := id hH1; exact block_lt q4
        refine wpAnyH_ready (rs := [18]) (by kernel_rfl) (by simp) ?_
        refine AllReadyH.cons rfl (fun K hK => ?_) AllReadyH.nil
        go_simp
        refine hK.out _ _ (hH1.below (belowA _ _)) (fun hH2 => ?_)
        clear hK
        try simp only [Act.put, List.setIfInBounds_toArray, List.set_cons_zero, List.set_cons_succ, List.getElem_toArray, List.getElem_cons_succ, List.getElem_cons_zero]
        refine wpAnyH_ready (rs := [19]) (by kernel_rfl) (by simp) ?_
        refine AllReadyH.cons rfl (fun K hK => ?_) AllReadyH.nil
        go_simp
        refine hK.out _ _ (hH1.below (belowA _ _)) (fun hH3 => ?_)
        clear hK
        try simp only [Act.put, List.setIfInBounds_toArray, List.set_cons_zero, List.set_cons_succ, List.getElem_toArray, List.getElem_cons_succ, List.getElem_cons_zero]
        refine' wpAnyH_take (i := 20) (v := _) rfl (by kernel_rfl) (by kernel_rfl) (by kernel_rfl) (fun _ _ _ h => h) (Or.inl ⟨by kernel_rfl, ?hy⟩) (by assumption) ?_
        case hy => (intro W hW; obtain ⟨qb, q0, q1, q2, q3, q4, q5, q6, q7, q8, q9, q10, q11, q12⟩ := hW; go_simp; try (with_reducible rfl))
        try simp only [Act.put, List.setIfInBounds_toArray, List.set_cons_zero, List.set_cons_succ, List.getElem_toArray, List.getElem_cons_succ, List.getElem_cons_zero]
        refine wpAnyH_done (by kernel_rfl) ?_ _
        refine then_world (fun V => BnS 0 n s r l0 l1 l2 l3 l4 l5 l6 l7 l8 w w3.heap.size V ∧ Holds V wa.heap.size ua1 va1) ⟨hH3, by go_simp, by go_simp⟩ ?_
        rintro V ⟨hV, hB⟩
        clear hH hH1 hH2 hH3 hba
        obtain ⟨qb, q0, q1, q2, q3, q4, q5, q6, q7, q8, q9, q10, q11, q12⟩ := id hV
        obtain ⟨pb0, pb1⟩ := id hB
        go_wp2_with fail
        refine (KQ1.out _).mono ?_
        rintro e w5 ⟨rfl, hb5⟩
        replace hV := hV.below hb5
        replace hB := hB.below hb5
        clear qb q0 q1 q2 q3 q4 q5 q6 q7 q8 q9 q10 q11 q12 pb0 pb1
        obtain ⟨qb, q0, q1, q2, q3, q4, q5, q6, q7, q8, q9, q10, q11, q12⟩ := id hV
        obtain ⟨pb0, pb1⟩ := id hB
        go_wp2_with fail
        refine (KH1.out _ (ht.below hV.1)).mono ?_
        rintro e w6 ⟨rfl, hb6⟩
        replace hV := hV.below hb6
        replace hB := hB.below hb6
        clear qb q0 q1 q2 q3 q4 q5 q6 q7 q8 q9 q10 q11 q12 pb0 pb1
        obtain ⟨qb, q0, q1, q2, q3, q4, q5, q6, q7, q8, q9, q10, q11, q12⟩ := id hV
        obtain ⟨pb0, pb1⟩ := id hB
        go_wp2_with (go_at_call 27; refine (KW1.out _).mono ?_; rintro e w7 ⟨rfl, rfl⟩)
        go_quiet (fail)
        go_wp2_with fail
        go_quiet (fail)
        go_wp2_with fail
        go_roundw
        case rel => exact ⟨Or.inr (Or.inr (Or.inl ⟨rfl, rfl, rfl⟩)), hV.below (drewB _ _)⟩
        case measure => simp [intOf]
      · go_simp
        refine hK.out _ _ (hH.below (belowA _ _)) (fun hH1 => ?_)
        clear hK
        try simp only [Act.put, List.setIfInBounds_toArray, List.set_cons_zero, List.set_cons_succ, List.getElem_toArray, List.getElem_cons_succ, List.getElem_cons_zero]
        refine wpAnyH_ready (rs := [14]) (by kernel_rfl) (by simp) ?_
        refine AllReadyH.cons rfl (fun K hK => ?_) AllReadyH.nil
        go_simp
        refine (KF1.out _ (ht.below hH1.1)).mono ?_
        rintro e wa ⟨rfl, hba⟩
        have e0 : wa.cell? ⟨wr.heap.size, 0, none⟩ = some (.int .i64 0) := keep1 hba (by go_simp)
        have e1 : wa.cell? ⟨wr.heap.size, 1, none⟩ = some (.int .i64 0) := keep1 hba (by go_simp)
        have e2 : wa.frozen? ⟨wr.heap.size, 0, none⟩ = false := keepF hba (by simp) (by go_simp)
        have e3 : wa.frozen? ⟨wr.heap.size, 1, none⟩ = false := keepF hba (by simp) (by go_simp)
        refine hK.out _ _ (hH1.below hba) (fun hH2 => ?_)
        clear hK
        try simp only [Act.put, List.setIfInBounds_toArray, List.set_cons_zero, List.set_cons_succ, List.getElem_toArray, List.getElem_cons_succ, List.getElem_cons_zero]
        refine' wpAnyH_take (i := 15) (v := _) rfl (by kernel_rfl) (by kernel_rfl) (by kernel_rfl) (fun _ _ _ h => h) (Or.inl ⟨by kernel_rfl, ?hy⟩) (by assumption) ?_
        case hy => (intro W hW; obtain ⟨qb, q0, q1, q2, q3, q4, q5, q6, q7, q8, q9, q10, q11, q12⟩ := hW; go_simp; try (with_reducible rfl))
        try simp only [Act.put, List.setIfInBounds_toArray, List.set_cons_zero, List.set_cons_succ, List.getElem_toArray, List.getElem_cons_succ, List.getElem_cons_zero]
        refine' wpAnyH_take (i := 16) (v := _) rfl (by kernel_rfl) (by kernel_rfl) (by kernel_rfl) (fun _ _ _ h => h) (Or.inl ⟨by kernel_rfl, ?hy⟩) (by assumption) ?_
        case hy => (intro W hW; obtain ⟨qb, q0, q1, q2, q3, q4, q5, q6, q7, q8, q9, q10, q11, q12⟩ := hW; go_simp; try (with_reducible rfl))
        try simp only [Act.put, List.setIfInBounds_toArray, List.set_cons_zero, List.set_cons_succ, List.getElem_toArray, List.getElem_cons_succ, List.getElem_cons_zero]
        refine' wpAnyH_take (i := 17) (v := _) rfl (by kernel_rfl) (by kernel_rfl) (by kernel_rfl) (fun _ _ _ h => h) (Or.inl ⟨by kernel_rfl, ?hy⟩) (by assumption) ?_
        case hy => (intro W hW; obtain ⟨qb, q0, q1, q2, q3, q4, q5, q6, q7, q8, q9, q10, q11, q12⟩ := hW; go_simp; try (with_reducible rfl))
        try simp only [Act.put, List.setIfInBounds_toArray, List.set_cons_zero, List.set_cons_succ, List.getElem_toArray, List.getElem_cons_succ, List.getElem_cons_zero]
        refine wpAnyH_ready (rs := [19]) (by kernel_rfl) (by simp) ?_
        refine AllReadyH.cons rfl (fun K hK => ?_) AllReadyH.nil
        go_simp
        refine hK.out _ _ ((hH2.set _ hw3 hw4).set _ hw3 hw4) (fun hH3 => ?_)
        clear hK
        try simp only [Act.put, List.setIfInBounds_toArray, List.set_cons_zero, List.set_cons_succ, List.getElem_toArray, List.getElem_cons_succ, List.getElem_cons_zero]
        refine' wpAnyH_take (i := 20) (v := _) rfl (by kernel_rfl) (by kernel_rfl) (by kernel_rfl) (fun _ _ _ h => h) (Or.inl ⟨by kernel_rfl, ?hy⟩) (by assumption) ?_
        case hy => (intro W hW; obtain ⟨qb, q0, q1, q2, q3, q4, q5, q6, q7, q8, q9, q10, q11, q12⟩ := hW; go_simp; try (with_reducible rfl))
        try simp only [Act.put, List.setIfInBounds_toArray, List.set_cons_zero, List.set_cons_succ, List.getElem_toArray, List.getElem_cons_succ, List.getElem_cons_zero]
        refine wpAnyH_done (by kernel_rfl) ?_ _
        refine then_world (fun V => BnS 0 n s r l0 l1 l2 l3 l4 l5 l6 l7 l8 w w3.heap.size V ∧ Holds V wr.heap.size ua1 va1) ⟨hH3, Holds.put _ _ ⟨_, e0⟩ ⟨_, e1⟩⟩ ?_
        rintro V ⟨hV, hB⟩
        clear hH hH1 hH2 hH3 hba e0 e1 e2 e3
        obtain ⟨qb, q0, q1, q2, q3, q4, q5, q6, q7, q8, q9, q10, q11, q12⟩ := id hV
        obtain ⟨pb0, pb1⟩ := id hB
        go_wp2_with fail
        refine (KQ1.out _).mono ?_
        rintro e w5 ⟨rfl, hb5⟩
        replace hV := hV.below hb5
        replace hB := hB.below hb5
        clear qb q0 q1 q2 q3 q4 q5 q6 q7 q8 q9 q10 q11 q12 pb0 pb1
        obtain ⟨qb, q0, q1, q2, q3, q4, q5, q6, q7, q8, q9, q10, q11, q12⟩ := id hV
        obtain ⟨pb0, pb1⟩ := id hB
        go_wp2_with fail
        refine (KH1.out _ (ht.below hV.1)).mono ?_
        rintro e w6 ⟨rfl, hb6⟩
        replace hV := hV.below hb6
        replace hB := hB.below hb6
        clear qb q0 q1 q2 q3 q4 q5 q6 q7 q8 q9 q10 q11 q12 pb0 pb1
        obtain ⟨qb, q0, q1, q2, q3, q4, q5, q6, q7, q8, q9, q10, q11, q12⟩ := id hV
        obtain ⟨pb0, pb1⟩ := id hB
        go_wp2_with (go_at_call 27; refine (KW1.out _).mono ?_; rintro e w7 ⟨rfl, rfl⟩)
        go_quiet (fail)
        go_wp2_with fail
        go_quiet (fail)
        go_wp2_with fail
        go_roundw
        case rel => exact ⟨Or.inr (Or.inr (Or.inl ⟨rfl, rfl, rfl⟩)), hV.below (drewB _ _)⟩
        case measure => simp [intOf]
    · have hw3 : w.heap.size < wr.heap.size := by obtain ⟨qb, q0, -⟩ := id hS; exact block_lt q0
      have hw4 : w3.heap.size < wr.heap.size := by obtain ⟨qb, q0, q1, q2, q3, q4, q5, q6, q7, q8, q9, q10, q11, q12⟩ := id hS; exact block_lt q4
      have hS0 := id hS
      obtain ⟨qb, q0, q1, q2, q3, q4, q5, q6, q7, q8, q9, q10, q11, q12⟩ := id hS
      go_wp2_with fail
      refine wp_region_held_drew (S := BnS 0 n s r l0 l1 l2 l3 l4 l5 l6 l7 l8 w w3.heap.size) (by kernel_rfl) (hS.below (by go_grown)) (fun hH => ?_)
      clear qb q0 q1 q2 q3 q4 q5 q6 q7 q8 q9 q10 q11 q12
      refine' wpAnyH_take (i := 0) (v := _) rfl (by kernel_rfl) (by kernel_rfl) (by kernel_rfl) (fun _ _ _ h => h) (Or.inl ⟨by kernel_rfl, ?hy⟩) (by assumption) ?_
      case hy => (intro W hW; obtain ⟨qb, q0, q1, q2, q3, q4, q5, q6, q7, q8, q9, q10, q11, q12⟩ := hW; go_simp; try (with_reducible rfl))
      try simp only [Act.put, List.setIfInBounds_toArray, List.set_cons_zero, List.set_cons_succ, List.getElem_toArray, List.getElem_cons_zero]
      refine' wpAnyH_take (i := 1) (v := _) rfl (by kernel_rfl) (by kernel_rfl) (by kernel_rfl) (fun _ _ _ h => h) (Or.inl ⟨by kernel_rfl, ?hy⟩) (by assumption) ?_
      case hy => (intro W hW; obtain ⟨qb, q0, q1, q2, q3, q4, q5, q6, q7, q8, q9, q10, q11, q12⟩ := hW; go_simp; try (with_reducible rfl))
      try simp only [Act.put, List.setIfInBounds_toArray, List.set_cons_zero, List.set_cons_succ, List.getElem_toArray, List.getElem_cons_succ, List.getElem_cons_zero]
      refine' wpAnyH_take (i := 2) (v := _) rfl (by kernel_rfl) (by kernel_rfl) (by kernel_rfl) (fun _ _ _ h => h) (Or.inl ⟨by kernel_rfl, ?hy⟩) (by assumption) ?_
      case hy => (intro W hW; obtain ⟨qb, q0, q1, q2, q3, q4, q5, q6, q7, q8, q9, q10, q11, q12⟩ := hW; go_simp; try (with_reducible rfl))
      try simp only [Act.put, List.setIfInBounds_toArray, List.set_cons_zero, List.set_cons_succ, List.getElem_toArray, List.getElem_cons_succ, List.getElem_cons_zero]
      refine' wpAnyH_take (i := 3) (v := _) rfl (by kernel_rfl) (by kernel_rfl) (by kernel_rfl) (fun _ _ _ h => h) (Or.inl ⟨by kernel_rfl, ?hy⟩) (by assumption) ?_
      case hy => (intro W hW; obtain ⟨qb, q0, q1, q2, q3, q4, q5, q6, q7, q8, q9, q10, q11, q12⟩ := hW; go_simp; try (with_reducible rfl))
      try simp only [Act.put, List.setIfInBounds_toArray, List.set_cons_zero, List.set_cons_succ, List.getElem_toArray, List.getElem_cons_succ, List.getElem_cons_zero]
      refine' wpAnyH_take (i := 4) (v := _) rfl (by kernel_rfl) (by kernel_rfl) (by kernel_rfl) (fun _ _ _ h => h) (Or.inl ⟨by kernel_rfl, ?hy⟩) (by assumption) ?_
      case hy => (intro W hW; obtain ⟨qb, q0, q1, q2, q3, q4, q5, q6, q7, q8, q9, q10, q11, q12⟩ := hW; go_simp; try (with_reducible rfl))
      try simp only [Act.put, List.setIfInBounds_toArray, List.set_cons_zero, List.set_cons_succ, List.getElem_toArray, List.getElem_cons_succ, List.getElem_cons_zero]
      refine' wpAnyH_take (i := 5) (v := _) rfl (by kernel_rfl) (by kernel_rfl) (by kernel_rfl) (fun _ _ _ h => h) (Or.inl ⟨by kernel_rfl, ?hy⟩) (by assumption) ?_
      case hy => (intro W hW; obtain ⟨qb, q0, q1, q2, q3, q4, q5, q6, q7, q8, q9, q10, q11, q12⟩ := hW; go_simp; try (with_reducible rfl))
      try simp only [Act.put, List.setIfInBounds_toArray, List.set_cons_zero, List.set_cons_succ, List.getElem_toArray, List.getElem_cons_succ, List.getElem_cons_zero]
      refine' wpAnyH_take (i := 6) (v := _) rfl (by kernel_rfl) (by kernel_rfl) (by kernel_rfl) (fun _ _ _ h => h) (Or.inl ⟨by kernel_rfl, ?hy⟩) (by assumption) ?_
      case hy => (intro W hW; obtain ⟨qb, q0, q1, q2, q3, q4, q5, q6, q7, q8, q9, q10, q11, q12⟩ := hW; go_simp; try (with_reducible rfl))
      try simp only [Act.put, List.setIfInBounds_toArray, List.set_cons_zero, List.set_cons_succ, List.getElem_toArray, List.getElem_cons_succ, List.getElem_cons_zero]
      refine' wpAnyH_take (i := 7) (v := _) rfl (by kernel_rfl) (by kernel_rfl) (by kernel_rfl) (fun _ _ _ h => h) (Or.inl ⟨by kernel_rfl, ?hy⟩) (by assumption) ?_
      case hy => (intro W hW; obtain ⟨qb, q0, q1, q2, q3, q4, q5, q6, q7, q8, q9, q10, q11, q12⟩ := hW; go_simp; try (with_reducible rfl))
      try simp only [Act.put, List.setIfInBounds_toArray, List.set_cons_zero, List.set_cons_succ, List.getElem_toArray, List.getElem_cons_succ, List.getElem_cons_zero]
      refine' wpAnyH_take (i := 8) (v := _) rfl (by kernel_rfl) (by kernel_rfl) (by kernel_rfl) (fun _ _ _ h => h) (Or.inl ⟨by kernel_rfl, ?hy⟩) (by assumption) ?_
      case hy => (intro W hW; obtain ⟨qb, q0, q1, q2, q3, q4, q5, q6, q7, q8, q9, q10, q11, q12⟩ := hW; go_simp; try (with_reducible rfl))
      try simp only [Act.put, List.setIfInBounds_toArray, List.set_cons_zero, List.set_cons_succ, List.getElem_toArray, List.getElem_cons_succ, List.getElem_cons_zero]
      refine' wpAnyH_take (i := 9) (v := _) rfl (by kernel_rfl) (by kernel_rfl) (by kernel_rfl) (fun _ _ _ h => h) (Or.inl ⟨by kernel_rfl, ?hy⟩) (by assumption) ?_
      case hy => (intro W hW; obtain ⟨qb, q0, q1, q2, q3, q4, q5, q6, q7, q8, q9, q10, q11, q12⟩ := hW; go_simp; try (with_reducible rfl))
      try simp only [Act.put, List.setIfInBounds_toArray, List.set_cons_zero, List.set_cons_succ, List.getElem_toArray, List.getElem_cons_succ, List.getElem_cons_zero]
      refine' wpAnyH_take (i := 10) (v := _) rfl (by kernel_rfl) (by kernel_rfl) (by kernel_rfl) (fun _ _ _ h => h) (Or.inl ⟨by kernel_rfl, ?hy⟩) (by assumption) ?_
      case hy => (intro W hW; obtain ⟨qb, q0, q1, q2, q3, q4, q5, q6, q7, q8, q9, q10, q11, q12⟩ := hW; go_simp; try (with_reducible rfl))
      try simp only [Act.put, List.setIfInBounds_toArray, List.set_cons_zero, List.set_cons_succ, List.getElem_toArray, List.getElem_cons_succ, List.getElem_cons_zero]
      refine' wpAnyH_take (i := 11) (v := _) rfl (by kernel_rfl) (by kernel_rfl) (by kernel_rfl) (fun _ _ _ h => h) (Or.inl ⟨by kernel_rfl, ?hy⟩) (by assumption) ?_
      case hy => (intro W hW; obtain ⟨qb, q0, q1, q2, q3, q4, q5, q6, q7, q8, q9, q10, q11, q12⟩ := hW; go_simp; try (with_reducible rfl))
      try simp only [Act.put, List.setIfInBounds_toArray, List.set_cons_zero, List.set_cons_succ, List.getElem_toArray, List.getElem_cons_succ, List.getElem_cons_zero]
      refine' wpAnyH_take (i := 12) (v := _) rfl (by kernel_rfl) (by kernel_rfl) (by kernel_rfl) (fun _ _ _ h => h) (Or.inl ⟨by kernel_rfl, ?hy⟩) (by assumption) ?_
      case hy => (intro W hW; obtain ⟨qb, q0, q1, q2, q3, q4, q5, q6, q7, q8, q9, q10, q11, q12⟩ := hW; go_simp; try (with_reducible rfl))
      try simp only [Act.put, List.setIfInBounds_toArray, List.set_cons_zero, List.set_cons_succ, List.getElem_toArray, List.getElem_cons_succ, List.getElem_cons_zero]
      refine' wpAnyH_take (i := 13) (v := _) rfl (by kernel_rfl) (by kernel_rfl) (by kernel_rfl) (fun _ _ _ h => h) (Or.inl ⟨by kernel_rfl, ?hy⟩) (by assumption) ?_
      case hy => (intro W hW; obtain ⟨qb, q0, q1, q2, q3, q4, q5, q6, q7, q8, q9, q10, q11, q12⟩ := hW; go_simp; try (with_reducible rfl))
      try simp only [Act.put, List.setIfInBounds_toArray, List.set_cons_zero, List.set_cons_succ, List.getElem_toArray, List.getElem_cons_succ, List.getElem_cons_zero]
      skip
      refine wpAnyH_ready (rs := [14, 18]) (by kernel_rfl) (by simp) ?_
      refine AllReadyH.cons rfl (fun K hK => ?_) (AllReadyH.cons rfl (fun K hK => ?_) AllReadyH.nil)
      · go_simp
        refine (KF2.out _ (ht.below hH.1)).mono ?_
        rintro e wa ⟨rfl, hba⟩
        refine hK.out _ _ (hH.below hba) (fun hH1 => ?_)
        clear hK
        try simp only [Act.put, List.setIfInBounds_toArray, List.set_cons_zero, List.set_cons_succ, List.getElem_toArray, List.getElem_cons_succ, List.getElem_cons_zero]
        refine' wpAnyH_take (i := 15) (v := _) rfl (by kernel_rfl) (by kernel_rfl) (by kernel_rfl) (fun _ _ _ h => h) (Or.inl ⟨by kernel_rfl, ?hy⟩) (by assumption) ?_
        case hy => (intro W hW; obtain ⟨qb, q0, q1, q2, q3, q4, q5, q6, q7, q8, q9, q10, q11, q12⟩ := hW; go_simp; try (with_reducible rfl))
        try simp only [Act.put, List.setIfInBounds_toArray, List.set_cons_zero, List.set_cons_succ, List.getElem_toArray, List.getElem_cons_succ, List.getElem_cons_zero]
        refine' wpAnyH_take (i := 16) (v := _) rfl (by kernel_rfl) (by kernel_rfl) (by kernel_rfl) (fun _ _ _ h => h) (Or.inl ⟨by kernel_rfl, ?hy⟩) (by assumption) ?_
        case hy => (intro W hW; obtain ⟨qb, q0, q1, q2, q3, q4, q5, q6, q7, q8, q9, q10, q11, q12⟩ := hW; go_simp; try (with_reducible rfl))
        try simp only [Act.put, List.setIfInBounds_toArray, List.set_cons_zero, List.set_cons_succ, List.getElem_toArray, List.getElem_cons_succ, List.getElem_cons_zero]
        refine' wpAnyH_take (i := 17) (v := _) rfl (by kernel_rfl) (by kernel_rfl) (by kernel_rfl) (fun _ _ _ h => h) (Or.inl ⟨by kernel_rfl, ?hy⟩) (by assumption) ?_
        case hy => (intro W hW; obtain ⟨qb, q0, q1, q2, q3, q4, q5, q6, q7, q8, q9, q10, q11, q12⟩ := hW; go_simp; try (with_reducible rfl))
        try simp only [Act.put, List.setIfInBounds_toArray, List.set_cons_zero, List.set_cons_succ, List.getElem_toArray, List.getElem_cons_succ, List.getElem_cons_zero]
        have za : w.heap.size < wa.heap.size := by obtain ⟨qb, q0, q1, q2, q3, q4, q5, q6, q7, q8, q9, q10, q11, q12⟩ := id hH1; exact block_lt q0
        have zb : w3.heap.size < wa.heap.size := by obtain ⟨qb, q0, q1, q2, q3, q4, q5, q6, q7, q8, q9, q10, q11, q12⟩ := id hH1; exact block_lt q4
        refine wpAnyH_ready (rs := [18]) (by kernel_rfl) (by simp) ?_
        refine AllReadyH.cons rfl (fun K hK => ?_) AllReadyH.nil
        go_simp
        refine hK.out _ _ (hH1.below (belowA _ _)) (fun hH2 => ?_)
        clear hK
        try simp only [Act.put, List.setIfInBounds_toArray, List.set_cons_zero, List.set_cons_succ, List.getElem_toArray, List.getElem_cons_succ, List.getElem_cons_zero]
        refine wpAnyH_ready (rs := [19]) (by kernel_rfl) (by simp) ?_
        refine AllReadyH.cons rfl (fun K hK => ?_) AllReadyH.nil
        go_simp
        refine hK.out _ _ (hH1.below (belowA _ _)) (fun hH3 => ?_)
        clear hK
        try simp only [Act.put, List.setIfInBounds_toArray, List.set_cons_zero, List.set_cons_succ, List.getElem_toArray, List.getElem_cons_succ, List.getElem_cons_zero]
        refine' wpAnyH_take (i := 20) (v := _) rfl (by kernel_rfl) (by kernel_rfl) (by kernel_rfl) (fun _ _ _ h => h) (Or.inl ⟨by kernel_rfl, ?hy⟩) (by assumption) ?_
        case hy => (intro W hW; obtain ⟨qb, q0, q1, q2, q3, q4, q5, q6, q7, q8, q9, q10, q11, q12⟩ := hW; go_simp; try (with_reducible rfl))
        try simp only [Act.put, List.setIfInBounds_toArray, List.set_cons_zero, List.set_cons_succ, List.getElem_toArray, List.getElem_cons_succ, List.getElem_cons_zero]
        refine wpAnyH_done (by kernel_rfl) ?_ _
        refine then_world (fun V => BnS 0 n s r l0 l1 l2 l3 l4 l5 l6 l7 l8 w w3.heap.size V ∧ Holds V wa.heap.size ua2 va2) ⟨hH3, by go_simp, by go_simp⟩ ?_
        rintro V ⟨hV, hB⟩
        clear hH hH1 hH2 hH3 hba
        obtain ⟨qb, q0, q1, q2, q3, q4, q5, q6, q7, q8, q9, q10, q11, q12⟩ := id hV
        obtain ⟨pb0, pb1⟩ := id hB
        go_wp2_with fail
        refine (KQ2.out _).mono ?_
        rintro e w5 ⟨rfl, hb5⟩
        replace hV := hV.below hb5
        replace hB := hB.below hb5
        clear qb q0 q1 q2 q3 q4 q5 q6 q7 q8 q9 q10 q11 q12 pb0 pb1
        obtain ⟨qb, q0, q1, q2, q3, q4, q5, q6, q7, q8, q9, q10, q11, q12⟩ := id hV
        obtain ⟨pb0, pb1⟩ := id hB
        go_wp2_with fail
        refine (KH2.out _ (ht.below hV.1)).mono ?_
        rintro e w6 ⟨rfl, hb6⟩
        replace hV := hV.below hb6
        replace hB := hB.below hb6
        clear qb q0 q1 q2 q3 q4 q5 q6 q7 q8 q9 q10 q11 q12 pb0 pb1
        obtain ⟨qb, q0, q1, q2, q3, q4, q5, q6, q7, q8, q9, q10, q11, q12⟩ := id hV
        obtain ⟨pb0, pb1⟩ := id hB
        go_wp2_with (go_at_call 27; refine (KW2.out _).mono ?_; rintro e w7 ⟨rfl, rfl⟩)
        go_quiet (fail)
        go_wp2_with fail
        go_quiet (fail)
        go_wp2_with fail
        go_roundw
        case rel => exact ⟨Or.inr (Or.inr (Or.inr ⟨rfl, rfl, rfl⟩)), hV.below (drewB _ _)⟩
        case measure => simp [intOf]
      · go_simp
        refine hK.out _ _ (hH.below (belowA _ _)) (fun hH1 => ?_)
        clear hK
        try simp only [Act.put, List.setIfInBounds_toArray, List.set_cons_zero, List.set_cons_succ, List.getElem_toArray, List.getElem_cons_succ, List.getElem_cons_zero]
        refine wpAnyH_ready (rs := [14]) (by kernel_rfl) (by simp) ?_
        refine AllReadyH.cons rfl (fun K hK => ?_) AllReadyH.nil
        go_simp
        refine (KF2.out _ (ht.below hH1.1)).mono ?_
        rintro e wa ⟨rfl, hba⟩
        have e0 : wa.cell? ⟨wr.heap.size, 0, none⟩ = some (.int .i64 0) := keep1 hba (by go_simp)
        have e1 : wa.cell? ⟨wr.heap.size, 1, none⟩ = some (.int .i64 0) := keep1 hba (by go_simp)
        have e2 : wa.frozen? ⟨wr.heap.size, 0, none⟩ = false := keepF hba (by simp) (by go_simp)
        have e3 : wa.frozen? ⟨wr.heap.size, 1, none⟩ = false := keepF hba (by simp) (by go_simp)
        refine hK.out _ _ (hH1.below hba) (fun hH2 => ?_)
        clear hK
        try simp only [Act.put, List.setIfInBounds_toArray, List.set_cons_zero, List.set_cons_succ, List.getElem_toArray, List.getElem_cons_succ, List.getElem_cons_zero]
        refine' wpAnyH_take (i := 15) (v := _) rfl (by kernel_rfl) (by kernel_rfl) (by kernel_rfl) (fun _ _ _ h => h) (Or.inl ⟨by kernel_rfl, ?hy⟩) (by assumption) ?_
        case hy => (intro W hW; obtain ⟨qb, q0, q1, q2, q3, q4, q5, q6, q7, q8, q9, q10, q11, q12⟩ := hW; go_simp; try (with_reducible rfl))
        try simp only [Act.put, List.setIfInBounds_toArray, List.set_cons_zero, List.set_cons_succ, List.getElem_toArray, List.getElem_cons_succ, List.getElem_cons_zero]
        refine' wpAnyH_take (i := 16) (v := _) rfl (by kernel_rfl) (by kernel_rfl) (by kernel_rfl) (fun _ _ _ h => h) (Or.inl ⟨by kernel_rfl, ?hy⟩) (by assumption) ?_
        case hy => (intro W hW; obtain ⟨qb, q0, q1, q2, q3, q4, q5, q6, q7, q8, q9, q10, q11, q12⟩ := hW; go_simp; try (with_reducible rfl))
        try simp only [Act.put, List.setIfInBounds_toArray, List.set_cons_zero, List.set_cons_succ, List.getElem_toArray, List.getElem_cons_succ, List.getElem_cons_zero]
        refine' wpAnyH_take (i := 17) (v := _) rfl (by kernel_rfl) (by kernel_rfl) (by kernel_rfl) (fun _ _ _ h => h) (Or.inl ⟨by kernel_rfl, ?hy⟩) (by assumption) ?_
        case hy => (intro W hW; obtain ⟨qb, q0, q1, q2, q3, q4, q5, q6, q7, q8, q9, q10, q11, q12⟩ := hW; go_simp; try (with_reducible rfl))
        try simp only [Act.put, List.setIfInBounds_toArray, List.set_cons_zero, List.set_cons_succ, List.getElem_toArray, List.getElem_cons_succ, List.getElem_cons_zero]
        refine wpAnyH_ready (rs := [19]) (by kernel_rfl) (by simp) ?_
        refine AllReadyH.cons rfl (fun K hK => ?_) AllReadyH.nil
        go_simp
        refine hK.out _ _ ((hH2.set _ hw3 hw4).set _ hw3 hw4) (fun hH3 => ?_)
        clear hK
        try simp only [Act.put, List.setIfInBounds_toArray, List.set_cons_zero, List.set_cons_succ, List.getElem_toArray, List.getElem_cons_succ, List.getElem_cons_zero]
        refine' wpAnyH_take (i := 20) (v := _) rfl (by kernel_rfl) (by kernel_rfl) (by kernel_rfl) (fun _ _ _ h => h) (Or.inl ⟨by kernel_rfl, ?hy⟩) (by assumption) ?_
        case hy => (intro W hW; obtain ⟨qb, q0, q1, q2, q3, q4, q5, q6, q7, q8, q9, q10, q11, q12⟩ := hW; go_simp; try (with_reducible rfl))
        try simp only [Act.put, List.setIfInBounds_toArray, List.set_cons_zero, List.set_cons_succ, List.getElem_toArray, List.getElem_cons_succ, List.getElem_cons_zero]
        refine wpAnyH_done (by kernel_rfl) ?_ _
        refine then_world (fun V => BnS 0 n s r l0 l1 l2 l3 l4 l5 l6 l7 l8 w w3.heap.size V ∧ Holds V wr.heap.size ua2 va2) ⟨hH3, Holds.put _ _ ⟨_, e0⟩ ⟨_, e1⟩⟩ ?_
        rintro V ⟨hV, hB⟩
        clear hH hH1 hH2 hH3 hba e0 e1 e2 e3
        obtain ⟨qb, q0, q1, q2, q3, q4, q5, q6, q7, q8, q9, q10, q11, q12⟩ := id hV
        obtain ⟨pb0, pb1⟩ := id hB
        go_wp2_with fail
        refine (KQ2.out _).mono ?_
        rintro e w5 ⟨rfl, hb5⟩
        replace hV := hV.below hb5
        replace hB := hB.below hb5
        clear qb q0 q1 q2 q3 q4 q5 q6 q7 q8 q9 q10 q11 q12 pb0 pb1
        obtain ⟨qb, q0, q1, q2, q3, q4, q5, q6, q7, q8, q9, q10, q11, q12⟩ := id hV
        obtain ⟨pb0, pb1⟩ := id hB
        go_wp2_with fail
        refine (KH2.out _ (ht.below hV.1)).mono ?_
        rintro e w6 ⟨rfl, hb6⟩
        replace hV := hV.below hb6
        replace hB := hB.below hb6
        clear qb q0 q1 q2 q3 q4 q5 q6 q7 q8 q9 q10 q11 q12 pb0 pb1
        obtain ⟨qb, q0, q1, q2, q3, q4, q5, q6, q7, q8, q9, q10, q11, q12⟩ := id hV
        obtain ⟨pb0, pb1⟩ := id hB
        go_wp2_with (go_at_call 27; refine (KW2.out _).mono ?_; rintro e w7 ⟨rfl, rfl⟩)
        go_quiet (fail)
        go_wp2_with fail
        go_quiet (fail)
        go_wp2_with fail
        go_roundw
        case rel => exact ⟨Or.inr (Or.inr (Or.inr ⟨rfl, rfl, rfl⟩)), hV.below (drewB _ _)⟩
        case measure => simp [intOf]
    · obtain ⟨qb, q0, q1, q2, q3, q4, q5, q6, q7, q8, q9, q10, q11, q12⟩ := id hS
      go_wp2
      go_returns
      exact ⟨rfl, by first | assumption | (go_grown; done)⟩
end Go.Proofs.YtngdhmliohjigaaDoor
