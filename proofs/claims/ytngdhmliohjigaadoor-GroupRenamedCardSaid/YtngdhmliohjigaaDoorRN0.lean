/- THE LAW OF RENAMED TERMINALS: its walk. -/
import Derived.Test.YtngdhmliohjigaaDoorSQ10
import Derived.Test.YtngdhmliohjigaaDoorSQ8a
import Derived.Test.YtngdhmliohjigaaDoorSQ8b
import Derived.Test.YtngdhmliohjigaaDoorU
import Derived.Test.YtngdhmliohjigaaDoorW2
namespace Go.Proofs.YtngdhmliohjigaaDoor
open Go.RowKit
/-- What is known before the third renaming. -/
def RwS (k n s : Int) (r : Bool) (p0 p1 p2 q0 q1 q2 e0 e1 e2 l0 l1 l2 l3 l4 l5 l6 l7 l8 x0 x1 x2 x3 x4 x5 x6 x7 x8 y0 y1 y2 y3 y4 y5 y6 y7 y8 : Int) (w : World) (LB AB BB : Nat) (W : World) : Prop := Below w.heap.size w W ∧ W.cell? ⟨w.heap.size, 0, none⟩ = some (.int .i64 k) ∧ W.cell? ⟨w.heap.size, 1, none⟩ = some (.int .i64 n) ∧ W.cell? ⟨w.heap.size, 2, none⟩ = some (.int .i64 s) ∧ W.cell? ⟨w.heap.size, 3, none⟩ = some (.bool r) ∧ W.cell? ⟨w.heap.size + 1, 0, none⟩ = some (.int .i64 p0) ∧ W.cell? ⟨w.heap.size + 1, 1, none⟩ = some (.int .i64 p1) ∧ W.cell? ⟨w.heap.size + 1, 2, none⟩ = some (.int .i64 p2) ∧ W.cell? ⟨w.heap.size + 1, q0.toNat, none⟩ = some (.int .i64 e0) ∧ W.cell? ⟨w.heap.size + 1, q1.toNat, none⟩ = some (.int .i64 e1) ∧ W.cell? ⟨w.heap.size + 1, q2.toNat, none⟩ = some (.int .i64 e2) ∧ W.cell? ⟨w.heap.size + 1 + 1, 0, none⟩ = some (.int .i64 q0) ∧ W.cell? ⟨w.heap.size + 1 + 1, 1, none⟩ = some (.int .i64 q1) ∧ W.cell? ⟨w.heap.size + 1 + 1, 2, none⟩ = some (.int .i64 q2) ∧ W.cell? ⟨LB, 0, none⟩ = some (.int .i64 l0) ∧ W.cell? ⟨LB, 1, none⟩ = some (.int .i64 l1) ∧ W.cell? ⟨LB, 2, none⟩ = some (.int .i64 l2) ∧ W.cell? ⟨LB, 3, none⟩ = some (.int .i64 l3) ∧ W.cell? ⟨LB, 4, none⟩ = some (.int .i64 l4) ∧ W.cell? ⟨LB, 5, none⟩ = some (.int .i64 l5) ∧ W.cell? ⟨LB, 6, none⟩ = some (.int .i64 l6) ∧ W.cell? ⟨LB, 7, none⟩ = some (.int .i64 l7) ∧ W.cell? ⟨LB, 8, none⟩ = some (.int .i64 l8) ∧ W.cell? ⟨AB, 0, none⟩ = some (.int .i64 x0) ∧ W.cell? ⟨AB, 1, none⟩ = some (.int .i64 x1) ∧ W.cell? ⟨AB, 2, none⟩ = some (.int .i64 x2) ∧ W.cell? ⟨AB, 3, none⟩ = some (.int .i64 x3) ∧ W.cell? ⟨AB, 4, none⟩ = some (.int .i64 x4) ∧ W.cell? ⟨AB, 5, none⟩ = some (.int .i64 x5) ∧ W.cell? ⟨AB, 6, none⟩ = some (.int .i64 x6) ∧ W.cell? ⟨AB, 7, none⟩ = some (.int .i64 x7) ∧ W.cell? ⟨AB, 8, none⟩ = some (.int .i64 x8) ∧ W.cell? ⟨BB, 0, none⟩ = some (.int .i64 y0) ∧ W.cell? ⟨BB, 1, none⟩ = some (.int .i64 y1) ∧ W.cell? ⟨BB, 2, none⟩ = some (.int .i64 y2) ∧ W.cell? ⟨BB, 3, none⟩ = some (.int .i64 y3) ∧ W.cell? ⟨BB, 4, none⟩ = some (.int .i64 y4) ∧ W.cell? ⟨BB, 5, none⟩ = some (.int .i64 y5) ∧ W.cell? ⟨BB, 6, none⟩ = some (.int .i64 y6) ∧ W.cell? ⟨BB, 7, none⟩ = some (.int .i64 y7) ∧ W.cell? ⟨BB, 8, none⟩ = some (.int .i64 y8)
theorem RwS.below {k n s : Int} {r : Bool} {p0 p1 p2 q0 q1 q2 e0 e1 e2 l0 l1 l2 l3 l4 l5 l6 l7 l8 x0 x1 x2 x3 x4 x5 x6 x7 x8 y0 y1 y2 y3 y4 y5 y6 y7 y8 : Int} {w W W' : World} {LB AB BB : Nat} (h : RwS k n s r p0 p1 p2 q0 q1 q2 e0 e1 e2 l0 l1 l2 l3 l4 l5 l6 l7 l8 x0 x1 x2 x3 x4 x5 x6 x7 x8 y0 y1 y2 y3 y4 y5 y6 y7 y8 w LB AB BB W) (hb' : Below W.heap.size W W') : RwS k n s r p0 p1 p2 q0 q1 q2 e0 e1 e2 l0 l1 l2 l3 l4 l5 l6 l7 l8 x0 x1 x2 x3 x4 x5 x6 x7 x8 y0 y1 y2 y3 y4 y5 y6 y7 y8 w LB AB BB W' := by
  obtain ⟨hb, h0, h1, h2, h3, h4, h5, h6, h7, h8, h9, h10, h11, h12, h13, h14, h15, h16, h17, h18, h19, h20, h21, h22, h23, h24, h25, h26, h27, h28, h29, h30, h31, h32, h33, h34, h35, h36, h37, h38, h39⟩ := h
  exact ⟨belowT hb hb', keep1 hb' h0, keep1 hb' h1, keep1 hb' h2, keep1 hb' h3, keep1 hb' h4, keep1 hb' h5, keep1 hb' h6, keep1 hb' h7, keep1 hb' h8, keep1 hb' h9, keep1 hb' h10, keep1 hb' h11, keep1 hb' h12, keep1 hb' h13, keep1 hb' h14, keep1 hb' h15, keep1 hb' h16, keep1 hb' h17, keep1 hb' h18, keep1 hb' h19, keep1 hb' h20, keep1 hb' h21, keep1 hb' h22, keep1 hb' h23, keep1 hb' h24, keep1 hb' h25, keep1 hb' h26, keep1 hb' h27, keep1 hb' h28, keep1 hb' h29, keep1 hb' h30, keep1 hb' h31, keep1 hb' h32, keep1 hb' h33, keep1 hb' h34, keep1 hb' h35, keep1 hb' h36, keep1 hb' h37, keep1 hb' h38, keep1 hb' h39⟩
theorem RwS.set {k n s : Int} {r : Bool} {p0 p1 p2 q0 q1 q2 e0 e1 e2 l0 l1 l2 l3 l4 l5 l6 l7 l8 x0 x1 x2 x3 x4 x5 x6 x7 x8 y0 y1 y2 y3 y4 y5 y6 y7 y8 : Int} {w W : World} {LB AB BB B o : Nat} (v : Value) (h : RwS k n s r p0 p1 p2 q0 q1 q2 e0 e1 e2 l0 l1 l2 l3 l4 l5 l6 l7 l8 x0 x1 x2 x3 x4 x5 x6 x7 x8 y0 y1 y2 y3 y4 y5 y6 y7 y8 w LB AB BB W) (a0 : w.heap.size + 1 + 1 < B) (a1 : LB < B) (a2 : AB < B) (a3 : BB < B) : RwS k n s r p0 p1 p2 q0 q1 q2 e0 e1 e2 l0 l1 l2 l3 l4 l5 l6 l7 l8 x0 x1 x2 x3 x4 x5 x6 x7 x8 y0 y1 y2 y3 y4 y5 y6 y7 y8 w LB AB BB (W.setCell ⟨B, o, none⟩ v) := by
  obtain ⟨hb, h0, h1, h2, h3, h4, h5, h6, h7, h8, h9, h10, h11, h12, h13, h14, h15, h16, h17, h18, h19, h20, h21, h22, h23, h24, h25, h26, h27, h28, h29, h30, h31, h32, h33, h34, h35, h36, h37, h38, h39⟩ := h
  exact ⟨Below.setCell hb (by dsimp only; omega) v, seto v (Or.inl (by omega)) h0, seto v (Or.inl (by omega)) h1, seto v (Or.inl (by omega)) h2, seto v (Or.inl (by omega)) h3, seto v (Or.inl (by omega)) h4, seto v (Or.inl (by omega)) h5, seto v (Or.inl (by omega)) h6, seto v (Or.inl (by omega)) h7, seto v (Or.inl (by omega)) h8, seto v (Or.inl (by omega)) h9, seto v (Or.inl (by omega)) h10, seto v (Or.inl (by omega)) h11, seto v (Or.inl (by omega)) h12, seto v (Or.inl (by omega)) h13, seto v (Or.inl (by omega)) h14, seto v (Or.inl (by omega)) h15, seto v (Or.inl (by omega)) h16, seto v (Or.inl (by omega)) h17, seto v (Or.inl (by omega)) h18, seto v (Or.inl (by omega)) h19, seto v (Or.inl (by omega)) h20, seto v (Or.inl (by omega)) h21, seto v (Or.inl (by omega)) h22, seto v (Or.inl (by omega)) h23, seto v (Or.inl (by omega)) h24, seto v (Or.inl (by omega)) h25, seto v (Or.inl (by omega)) h26, seto v (Or.inl (by omega)) h27, seto v (Or.inl (by omega)) h28, seto v (Or.inl (by omega)) h29, seto v (Or.inl (by omega)) h30, seto v (Or.inl (by omega)) h31, seto v (Or.inl (by omega)) h32, seto v (Or.inl (by omega)) h33, seto v (Or.inl (by omega)) h34, seto v (Or.inl (by omega)) h35, seto v (Or.inl (by omega)) h36, seto v (Or.inl (by omega)) h37, seto v (Or.inl (by omega)) h38, seto v (Or.inl (by omega)) h39⟩
set_option maxRecDepth 100000 in
set_option maxHeartbeats 16000000 in
theorem renamed_even (k n s : Int) (r : Bool) (p0 p1 p2 q0 q1 q2 e0 e1 e2 l0 l1 l2 l3 l4 l5 l6 l7 l8 x0 x1 x2 x3 x4 x5 x6 x7 x8 y0 y1 y2 y3 y4 y5 y6 y7 y8 z0 z1 z2 z3 z4 z5 z6 z7 z8 sv ua va N ub vb ya yb tt uu f1 f2 c4 c5 : Int) (w : World) (ht : Tabs w) (hr : w.rangeAt 0 0 permL) (m1 : IntKind.i64.wrap (p0 + 1) = f1) (m2 : f1.tmod 3 = f2) (m3 : (p1 == f2) = true) (m4 : (sv == 1) = true) (m6 : IntKind.i64.wrap (4 * sv) = c4) (m7 : IntKind.i64.wrap (uu - c4) = c5) (b0 : 0 ≤ q0) (d0 : q0 < 3) (g0 : e0 = if q0 = 0 then p0 else if q0 = 1 then p1 else p2) (b1 : 0 ≤ q1) (d1 : q1 < 3) (g1 : e1 = if q1 = 0 then p0 else if q1 = 1 then p1 else p2) (b2 : 0 ≤ q2) (d2 : q2 < 3) (g2 : e2 = if q2 = 0 then p0 else if q2 = 1 then p1 else p2) (KE : Hid (∀ w, Calls Tryd.prog 19 #[.agg #[.int .i64 k, .int .i64 n, .int .i64 s, .bool r]] w fun e w' => e = .returned (.int .i64 0) ∧ Below w.heap.size w w')) (KP : Hid (∀ w, Calls Tryd.prog 33 #[.agg #[.int .i64 p0, .int .i64 p1, .int .i64 p2]] w fun e w' => e = .returned (.bool true) ∧ Below w.heap.size w w')) (KQ : Hid (∀ w, Calls Tryd.prog 33 #[.agg #[.int .i64 q0, .int .i64 q1, .int .i64 q2]] w fun e w' => e = .returned (.bool true) ∧ Below w.heap.size w w')) (KL : Hid (∀ w, Calls Tryd.prog 22 #[.agg #[.int .i64 k, .int .i64 n, .int .i64 s, .bool r]] w fun e w' => e = .returned (.agg #[.int .i64 l0, .int .i64 l1, .int .i64 l2, .int .i64 l3, .int .i64 l4, .int .i64 l5, .int .i64 l6, .int .i64 l7, .int .i64 l8]) ∧ Below w.heap.size w w')) (KA : Hid (∀ w, w.rangeAt 0 0 permL → Calls Tryd.prog 28 #[.agg #[.int .i64 l0, .int .i64 l1, .int .i64 l2, .int .i64 l3, .int .i64 l4, .int .i64 l5, .int .i64 l6, .int .i64 l7, .int .i64 l8], .agg #[.int .i64 p0, .int .i64 p1, .int .i64 p2]] w fun e w' => e = .returned (.tuple #[.agg #[.int .i64 x0, .int .i64 x1, .int .i64 x2, .int .i64 x3, .int .i64 x4, .int .i64 x5, .int .i64 x6, .int .i64 x7, .int .i64 x8], .int .i64 0]) ∧ Below w.heap.size w w')) (KB : Hid (∀ w, w.rangeAt 0 0 permL → Calls Tryd.prog 28 #[.agg #[.int .i64 x0, .int .i64 x1, .int .i64 x2, .int .i64 x3, .int .i64 x4, .int .i64 x5, .int .i64 x6, .int .i64 x7, .int .i64 x8], .agg #[.int .i64 q0, .int .i64 q1, .int .i64 q2]] w fun e w' => e = .returned (.tuple #[.agg #[.int .i64 y0, .int .i64 y1, .int .i64 y2, .int .i64 y3, .int .i64 y4, .int .i64 y5, .int .i64 y6, .int .i64 y7, .int .i64 y8], .int .i64 0]) ∧ Below w.heap.size w w')) (KC : Hid (∀ w, w.rangeAt 0 0 permL → Calls Tryd.prog 28 #[.agg #[.int .i64 l0, .int .i64 l1, .int .i64 l2, .int .i64 l3, .int .i64 l4, .int .i64 l5, .int .i64 l6, .int .i64 l7, .int .i64 l8], .agg #[.int .i64 e0, .int .i64 e1, .int .i64 e2]] w fun e w' => e = .returned (.tuple #[.agg #[.int .i64 y0, .int .i64 y1, .int .i64 y2, .int .i64 y3, .int .i64 y4, .int .i64 y5, .int .i64 y6, .int .i64 y7, .int .i64 y8], .int .i64 0]) ∧ Below w.heap.size w w')) (KS : Hid (∀ w, Tabs w → Calls Tryd.prog 23 #[.agg #[.int .i64 x0, .int .i64 x1, .int .i64 x2, .int .i64 x3, .int .i64 x4, .int .i64 x5, .int .i64 x6, .int .i64 x7, .int .i64 x8]] w fun e w' => e = .returned (.tuple #[.int .i64 sv, .int .i64 0]) ∧ Below w.heap.size w w')) (KF : Hid (∀ w, Tabs w → Calls Tryd.prog 24 #[.agg #[.int .i64 x0, .int .i64 x1, .int .i64 x2, .int .i64 x3, .int .i64 x4, .int .i64 x5, .int .i64 x6, .int .i64 x7, .int .i64 x8]] w fun e w' => e = .returned (.tuple #[.agg #[.int .i64 ua, .int .i64 va], .int .i64 0]) ∧ Below w.heap.size w w')) (KN : Hid (∀ w, Calls Tryd.prog 25 #[.agg #[.int .i64 ua, .int .i64 va]] w fun e w' => e = .returned (.tuple #[.int .i64 N, .int .i64 0]) ∧ Below w.heap.size w w')) (KG : Hid (∀ w, Calls Tryd.prog 32 #[.agg #[.int .i64 l0, .int .i64 l1, .int .i64 l2]] w fun e w' => e = .returned (.agg #[.int .i64 ub, .int .i64 vb]) ∧ Below w.heap.size w w')) (KH : Hid (∀ w, Calls Tryd.prog 35 #[.agg #[.int .i64 ub, .int .i64 vb]] w fun e w' => e = .returned (.int .i64 N) ∧ Below w.heap.size w w')) (KO : Hid (∀ w, w.rangeAt 0 0 permL → Calls Tryd.prog 28 #[.agg #[.int .i64 x0, .int .i64 x1, .int .i64 x2, .int .i64 x3, .int .i64 x4, .int .i64 x5, .int .i64 x6, .int .i64 x7, .int .i64 x8], .agg #[.int .i64 1, .int .i64 2, .int .i64 0]] w fun e w' => e = .returned (.tuple #[.agg #[.int .i64 z0, .int .i64 z1, .int .i64 z2, .int .i64 z3, .int .i64 z4, .int .i64 z5, .int .i64 z6, .int .i64 z7, .int .i64 z8], .int .i64 0]) ∧ Below w.heap.size w w')) (KY : Hid (∀ w, Tabs w → Calls Tryd.prog 24 #[.agg #[.int .i64 z0, .int .i64 z1, .int .i64 z2, .int .i64 z3, .int .i64 z4, .int .i64 z5, .int .i64 z6, .int .i64 z7, .int .i64 z8]] w fun e w' => e = .returned (.tuple #[.agg #[.int .i64 ya, .int .i64 yb], .int .i64 0]) ∧ Below w.heap.size w w')) (KT : Hid (∀ w, Tabs w → Calls Tryd.prog 26 #[.agg #[.int .i64 ya, .int .i64 yb]] w fun e w' => e = .returned (.tuple #[.int .i64 tt, .int .i64 0]) ∧ Below w.heap.size w w')) (KU : Hid (∀ w, Tabs w → Calls Tryd.prog 26 #[.agg #[.int .i64 ua, .int .i64 va]] w fun e w' => e = .returned (.tuple #[.int .i64 uu, .int .i64 0]) ∧ Below w.heap.size w w')) (KW : Hid (∀ w, Calls Tryd.prog 27 #[.int .i64 uu, .int .i64 0, .int .i64 11] w fun e w' => e = .returned (.bool true) ∧ w = w')) (KM : Hid (∀ w, Calls Tryd.prog 36 #[.int .i64 c5, .int .i64 12] w fun e w' => e = .returned (.int .i64 tt) ∧ w = w')) :
    Calls Tryd.prog 6 #[.agg #[.int .i64 k, .int .i64 n, .int .i64 s, .bool r], .agg #[.int .i64 p0, .int .i64 p1, .int .i64 p2], .agg #[.int .i64 q0, .int .i64 q1, .int .i64 q2]] w fun e w' => e = .returned (.bool true) ∧ Below w.heap.size w w' := by
  have ce0 : (((w.alloc (.cells #[.int .i64 k, .int .i64 n, .int .i64 s, .bool r] 23)).alloc (.cells #[.int .i64 p0, .int .i64 p1, .int .i64 p2] 25)).alloc (.cells #[.int .i64 q0, .int .i64 q1, .int .i64 q2] 25)).cell? ⟨w.heap.size + 1, q0.toNat, none⟩ = some (.int .i64 e0) := by
    rw [g0]
    obtain h | h | h : q0 = 0 ∨ q0 = 1 ∨ q0 = 2 := by omega
    all_goals (rw [h]; go_simp; try rfl)
  have ce1 : (((w.alloc (.cells #[.int .i64 k, .int .i64 n, .int .i64 s, .bool r] 23)).alloc (.cells #[.int .i64 p0, .int .i64 p1, .int .i64 p2] 25)).alloc (.cells #[.int .i64 q0, .int .i64 q1, .int .i64 q2] 25)).cell? ⟨w.heap.size + 1, q1.toNat, none⟩ = some (.int .i64 e1) := by
    rw [g1]
    obtain h | h | h : q1 = 0 ∨ q1 = 1 ∨ q1 = 2 := by omega
    all_goals (rw [h]; go_simp; try rfl)
  have ce2 : (((w.alloc (.cells #[.int .i64 k, .int .i64 n, .int .i64 s, .bool r] 23)).alloc (.cells #[.int .i64 p0, .int .i64 p1, .int .i64 p2] 25)).alloc (.cells #[.int .i64 q0, .int .i64 q1, .int .i64 q2] 25)).cell? ⟨w.heap.size + 1, q2.toNat, none⟩ = some (.int .i64 e2) := by
    rw [g2]
    obtain h | h | h : q2 = 0 ∨ q2 = 1 ∨ q2 = 2 := by omega
    all_goals (rw [h]; go_simp; try rfl)
  clear g0 g1 g2
  have n27 := neq27 y0 y1 y2 y3 y4 y5 y6 y7 y8
  go_enter Tryd.func6, Tryd.ntmps6
  go_wp2_with fail
  refine (awake_any _ (ht.below (by go_grown))).mono ?_
  rintro e w1 ⟨rfl, hb1⟩
  have p1xb : Below w.heap.size w w1 := belowT (by first | (go_grown; done) | exact And.left (by assumption)) hb1
  have p1x0 : w1.cell? ⟨w.heap.size, 0, none⟩ = some (.int .i64 k) := keep1 hb1 (by first | (with_reducible assumption) | (go_simp; done))
  have p1x1 : w1.cell? ⟨w.heap.size, 1, none⟩ = some (.int .i64 n) := keep1 hb1 (by first | (with_reducible assumption) | (go_simp; done))
  have p1x2 : w1.cell? ⟨w.heap.size, 2, none⟩ = some (.int .i64 s) := keep1 hb1 (by first | (with_reducible assumption) | (go_simp; done))
  have p1x3 : w1.cell? ⟨w.heap.size, 3, none⟩ = some (.bool r) := keep1 hb1 (by first | (with_reducible assumption) | (go_simp; done))
  have p1x4 : w1.cell? ⟨w.heap.size + 1, 0, none⟩ = some (.int .i64 p0) := keep1 hb1 (by first | (with_reducible assumption) | (go_simp; done))
  have p1x5 : w1.cell? ⟨w.heap.size + 1, 1, none⟩ = some (.int .i64 p1) := keep1 hb1 (by first | (with_reducible assumption) | (go_simp; done))
  have p1x6 : w1.cell? ⟨w.heap.size + 1, 2, none⟩ = some (.int .i64 p2) := keep1 hb1 (by first | (with_reducible assumption) | (go_simp; done))
  have p1x7 : w1.cell? ⟨w.heap.size + 1, q0.toNat, none⟩ = some (.int .i64 e0) := keep1 hb1 (by first | (with_reducible assumption) | (go_simp; done))
  have p1x8 : w1.cell? ⟨w.heap.size + 1, q1.toNat, none⟩ = some (.int .i64 e1) := keep1 hb1 (by first | (with_reducible assumption) | (go_simp; done))
  have p1x9 : w1.cell? ⟨w.heap.size + 1, q2.toNat, none⟩ = some (.int .i64 e2) := keep1 hb1 (by first | (with_reducible assumption) | (go_simp; done))
  have p1x10 : w1.cell? ⟨w.heap.size + 1 + 1, 0, none⟩ = some (.int .i64 q0) := keep1 hb1 (by first | (with_reducible assumption) | (go_simp; done))
  have p1x11 : w1.cell? ⟨w.heap.size + 1 + 1, 1, none⟩ = some (.int .i64 q1) := keep1 hb1 (by first | (with_reducible assumption) | (go_simp; done))
  have p1x12 : w1.cell? ⟨w.heap.size + 1 + 1, 2, none⟩ = some (.int .i64 q2) := keep1 hb1 (by first | (with_reducible assumption) | (go_simp; done))
  have p1xz0 : w.heap.size < w1.heap.size := block_lt p1x0
  have p1xz4 : w.heap.size + 1 < w1.heap.size := block_lt p1x4
  have p1xz7 : w.heap.size + 1 < w1.heap.size := block_lt p1x7
  have p1xz8 : w.heap.size + 1 < w1.heap.size := block_lt p1x8
  have p1xz9 : w.heap.size + 1 < w1.heap.size := block_lt p1x9
  have p1xz10 : w.heap.size + 1 + 1 < w1.heap.size := block_lt p1x10
  have p1xs := p1xb.size
  go_wp2_with fail
  refine (KE.out _).mono ?_
  rintro e w2 ⟨rfl, hb2⟩
  have p2xb : Below w.heap.size w w2 := belowT (by first | (go_grown; done) | exact And.left (by assumption)) hb2
  have p2x0 : w2.cell? ⟨w.heap.size, 0, none⟩ = some (.int .i64 k) := keep1 hb2 (by first | (with_reducible assumption) | (go_simp; done))
  have p2x1 : w2.cell? ⟨w.heap.size, 1, none⟩ = some (.int .i64 n) := keep1 hb2 (by first | (with_reducible assumption) | (go_simp; done))
  have p2x2 : w2.cell? ⟨w.heap.size, 2, none⟩ = some (.int .i64 s) := keep1 hb2 (by first | (with_reducible assumption) | (go_simp; done))
  have p2x3 : w2.cell? ⟨w.heap.size, 3, none⟩ = some (.bool r) := keep1 hb2 (by first | (with_reducible assumption) | (go_simp; done))
  have p2x4 : w2.cell? ⟨w.heap.size + 1, 0, none⟩ = some (.int .i64 p0) := keep1 hb2 (by first | (with_reducible assumption) | (go_simp; done))
  have p2x5 : w2.cell? ⟨w.heap.size + 1, 1, none⟩ = some (.int .i64 p1) := keep1 hb2 (by first | (with_reducible assumption) | (go_simp; done))
  have p2x6 : w2.cell? ⟨w.heap.size + 1, 2, none⟩ = some (.int .i64 p2) := keep1 hb2 (by first | (with_reducible assumption) | (go_simp; done))
  have p2x7 : w2.cell? ⟨w.heap.size + 1, q0.toNat, none⟩ = some (.int .i64 e0) := keep1 hb2 (by first | (with_reducible assumption) | (go_simp; done))
  have p2x8 : w2.cell? ⟨w.heap.size + 1, q1.toNat, none⟩ = some (.int .i64 e1) := keep1 hb2 (by first | (with_reducible assumption) | (go_simp; done))
  have p2x9 : w2.cell? ⟨w.heap.size + 1, q2.toNat, none⟩ = some (.int .i64 e2) := keep1 hb2 (by first | (with_reducible assumption) | (go_simp; done))
  have p2x10 : w2.cell? ⟨w.heap.size + 1 + 1, 0, none⟩ = some (.int .i64 q0) := keep1 hb2 (by first | (with_reducible assumption) | (go_simp; done))
  have p2x11 : w2.cell? ⟨w.heap.size + 1 + 1, 1, none⟩ = some (.int .i64 q1) := keep1 hb2 (by first | (with_reducible assumption) | (go_simp; done))
  have p2x12 : w2.cell? ⟨w.heap.size + 1 + 1, 2, none⟩ = some (.int .i64 q2) := keep1 hb2 (by first | (with_reducible assumption) | (go_simp; done))
  have p2xz0 : w.heap.size < w2.heap.size := block_lt p2x0
  have p2xz4 : w.heap.size + 1 < w2.heap.size := block_lt p2x4
  have p2xz7 : w.heap.size + 1 < w2.heap.size := block_lt p2x7
  have p2xz8 : w.heap.size + 1 < w2.heap.size := block_lt p2x8
  have p2xz9 : w.heap.size + 1 < w2.heap.size := block_lt p2x9
  have p2xz10 : w.heap.size + 1 + 1 < w2.heap.size := block_lt p2x10
  have p2xs := p2xb.size
  go_wp2_with fail
  refine (KP.out _).mono ?_
  rintro e w3 ⟨rfl, hb3⟩
  have p3xb : Below w.heap.size w w3 := belowT (by first | (go_grown; done) | exact And.left (by assumption)) hb3
  have p3x0 : w3.cell? ⟨w.heap.size, 0, none⟩ = some (.int .i64 k) := keep1 hb3 (by first | (with_reducible assumption) | (go_simp; done))
  have p3x1 : w3.cell? ⟨w.heap.size, 1, none⟩ = some (.int .i64 n) := keep1 hb3 (by first | (with_reducible assumption) | (go_simp; done))
  have p3x2 : w3.cell? ⟨w.heap.size, 2, none⟩ = some (.int .i64 s) := keep1 hb3 (by first | (with_reducible assumption) | (go_simp; done))
  have p3x3 : w3.cell? ⟨w.heap.size, 3, none⟩ = some (.bool r) := keep1 hb3 (by first | (with_reducible assumption) | (go_simp; done))
  have p3x4 : w3.cell? ⟨w.heap.size + 1, 0, none⟩ = some (.int .i64 p0) := keep1 hb3 (by first | (with_reducible assumption) | (go_simp; done))
  have p3x5 : w3.cell? ⟨w.heap.size + 1, 1, none⟩ = some (.int .i64 p1) := keep1 hb3 (by first | (with_reducible assumption) | (go_simp; done))
  have p3x6 : w3.cell? ⟨w.heap.size + 1, 2, none⟩ = some (.int .i64 p2) := keep1 hb3 (by first | (with_reducible assumption) | (go_simp; done))
  have p3x7 : w3.cell? ⟨w.heap.size + 1, q0.toNat, none⟩ = some (.int .i64 e0) := keep1 hb3 (by first | (with_reducible assumption) | (go_simp; done))
  have p3x8 : w3.cell? ⟨w.heap.size + 1, q1.toNat, none⟩ = some (.int .i64 e1) := keep1 hb3 (by first | (with_reducible assumption) | (go_simp; done))
  have p3x9 : w3.cell? ⟨w.heap.size + 1, q2.toNat, none⟩ = some (.int .i64 e2) := keep1 hb3 (by first | (with_reducible assumption) | (go_simp; done))
  have p3x10 : w3.cell? ⟨w.heap.size + 1 + 1, 0, none⟩ = some (.int .i64 q0) := keep1 hb3 (by first | (with_reducible assumption) | (go_simp; done))
  have p3x11 : w3.cell? ⟨w.heap.size + 1 + 1, 1, none⟩ = some (.int .i64 q1) := keep1 hb3 (by first | (with_reducible assumption) | (go_simp; done))
  have p3x12 : w3.cell? ⟨w.heap.size + 1 + 1, 2, none⟩ = some (.int .i64 q2) := keep1 hb3 (by first | (with_reducible assumption) | (go_simp; done))
  have p3xz0 : w.heap.size < w3.heap.size := block_lt p3x0
  have p3xz4 : w.heap.size + 1 < w3.heap.size := block_lt p3x4
  have p3xz7 : w.heap.size + 1 < w3.heap.size := block_lt p3x7
  have p3xz8 : w.heap.size + 1 < w3.heap.size := block_lt p3x8
  have p3xz9 : w.heap.size + 1 < w3.heap.size := block_lt p3x9
  have p3xz10 : w.heap.size + 1 + 1 < w3.heap.size := block_lt p3x10
  have p3xs := p3xb.size
  go_wp2_with fail
  refine (KQ.out _).mono ?_
  rintro e w4 ⟨rfl, hb4⟩
  have p4xb : Below w.heap.size w w4 := belowT (by first | (go_grown; done) | exact And.left (by assumption)) hb4
  have p4x0 : w4.cell? ⟨w.heap.size, 0, none⟩ = some (.int .i64 k) := keep1 hb4 (by first | (with_reducible assumption) | (go_simp; done))
  have p4x1 : w4.cell? ⟨w.heap.size, 1, none⟩ = some (.int .i64 n) := keep1 hb4 (by first | (with_reducible assumption) | (go_simp; done))
  have p4x2 : w4.cell? ⟨w.heap.size, 2, none⟩ = some (.int .i64 s) := keep1 hb4 (by first | (with_reducible assumption) | (go_simp; done))
  have p4x3 : w4.cell? ⟨w.heap.size, 3, none⟩ = some (.bool r) := keep1 hb4 (by first | (with_reducible assumption) | (go_simp; done))
  have p4x4 : w4.cell? ⟨w.heap.size + 1, 0, none⟩ = some (.int .i64 p0) := keep1 hb4 (by first | (with_reducible assumption) | (go_simp; done))
  have p4x5 : w4.cell? ⟨w.heap.size + 1, 1, none⟩ = some (.int .i64 p1) := keep1 hb4 (by first | (with_reducible assumption) | (go_simp; done))
  have p4x6 : w4.cell? ⟨w.heap.size + 1, 2, none⟩ = some (.int .i64 p2) := keep1 hb4 (by first | (with_reducible assumption) | (go_simp; done))
  have p4x7 : w4.cell? ⟨w.heap.size + 1, q0.toNat, none⟩ = some (.int .i64 e0) := keep1 hb4 (by first | (with_reducible assumption) | (go_simp; done))
  have p4x8 : w4.cell? ⟨w.heap.size + 1, q1.toNat, none⟩ = some (.int .i64 e1) := keep1 hb4 (by first | (with_reducible assumption) | (go_simp; done))
  have p4x9 : w4.cell? ⟨w.heap.size + 1, q2.toNat, none⟩ = some (.int .i64 e2) := keep1 hb4 (by first | (with_reducible assumption) | (go_simp; done))
  have p4x10 : w4.cell? ⟨w.heap.size + 1 + 1, 0, none⟩ = some (.int .i64 q0) := keep1 hb4 (by first | (with_reducible assumption) | (go_simp; done))
  have p4x11 : w4.cell? ⟨w.heap.size + 1 + 1, 1, none⟩ = some (.int .i64 q1) := keep1 hb4 (by first | (with_reducible assumption) | (go_simp; done))
  have p4x12 : w4.cell? ⟨w.heap.size + 1 + 1, 2, none⟩ = some (.int .i64 q2) := keep1 hb4 (by first | (with_reducible assumption) | (go_simp; done))
  have p4xz0 : w.heap.size < w4.heap.size := block_lt p4x0
  have p4xz4 : w.heap.size + 1 < w4.heap.size := block_lt p4x4
  have p4xz7 : w.heap.size + 1 < w4.heap.size := block_lt p4x7
  have p4xz8 : w.heap.size + 1 < w4.heap.size := block_lt p4x8
  have p4xz9 : w.heap.size + 1 < w4.heap.size := block_lt p4x9
  have p4xz10 : w.heap.size + 1 + 1 < w4.heap.size := block_lt p4x10
  have p4xs := p4xb.size
  go_wp2_with fail
  refine (KL.out _).mono ?_
  rintro e w5 ⟨rfl, hb5⟩
  have p5xb : Below w.heap.size w w5 := belowT (by first | (go_grown; done) | exact And.left (by assumption)) hb5
  have p5x0 : w5.cell? ⟨w.heap.size, 0, none⟩ = some (.int .i64 k) := keep1 hb5 (by first | (with_reducible assumption) | (go_simp; done))
  have p5x1 : w5.cell? ⟨w.heap.size, 1, none⟩ = some (.int .i64 n) := keep1 hb5 (by first | (with_reducible assumption) | (go_simp; done))
  have p5x2 : w5.cell? ⟨w.heap.size, 2, none⟩ = some (.int .i64 s) := keep1 hb5 (by first | (with_reducible assumption) | (go_simp; done))
  have p5x3 : w5.cell? ⟨w.heap.size, 3, none⟩ = some (.bool r) := keep1 hb5 (by first | (with_reducible assumption) | (go_simp; done))
  have p5x4 : w5.cell? ⟨w.heap.size + 1, 0, none⟩ = some (.int .i64 p0) := keep1 hb5 (by first | (with_reducible assumption) | (go_simp; done))
  have p5x5 : w5.cell? ⟨w.heap.size + 1, 1, none⟩ = some (.int .i64 p1) := keep1 hb5 (by first | (with_reducible assumption) | (go_simp; done))
  have p5x6 : w5.cell? ⟨w.heap.size + 1, 2, none⟩ = some (.int .i64 p2) := keep1 hb5 (by first | (with_reducible assumption) | (go_simp; done))
  have p5x7 : w5.cell? ⟨w.heap.size + 1, q0.toNat, none⟩ = some (.int .i64 e0) := keep1 hb5 (by first | (with_reducible assumption) | (go_simp; done))
  have p5x8 : w5.cell? ⟨w.heap.size + 1, q1.toNat, none⟩ = some (.int .i64 e1) := keep1 hb5 (by first | (with_reducible assumption) | (go_simp; done))
  have p5x9 : w5.cell? ⟨w.heap.size + 1, q2.toNat, none⟩ = some (.int .i64 e2) := keep1 hb5 (by first | (with_reducible assumption) | (go_simp; done))
  have p5x10 : w5.cell? ⟨w.heap.size + 1 + 1, 0, none⟩ = some (.int .i64 q0) := keep1 hb5 (by first | (with_reducible assumption) | (go_simp; done))
  have p5x11 : w5.cell? ⟨w.heap.size + 1 + 1, 1, none⟩ = some (.int .i64 q1) := keep1 hb5 (by first | (with_reducible assumption) | (go_simp; done))
  have p5x12 : w5.cell? ⟨w.heap.size + 1 + 1, 2, none⟩ = some (.int .i64 q2) := keep1 hb5 (by first | (with_reducible assumption) | (go_simp; done))
  have p5xz0 : w.heap.size < w5.heap.size := block_lt p5x0
  have p5xz4 : w.heap.size + 1 < w5.heap.size := block_lt p5x4
  have p5xz7 : w.heap.size + 1 < w5.heap.size := block_lt p5x7
  have p5xz8 : w.heap.size + 1 < w5.heap.size := block_lt p5x8
  have p5xz9 : w.heap.size + 1 < w5.heap.size := block_lt p5x9
  have p5xz10 : w.heap.size + 1 + 1 < w5.heap.size := block_lt p5x10
  have p5xs := p5xb.size
  go_wp2_with fail
  refine (KA.out _ (rangeB (w := w) (by first | (with_reducible assumption) | (go_grown; done)) hr)).mono ?_
  rintro e w6 ⟨rfl, hb6⟩
  have p6xb : Below w.heap.size w w6 := belowT (by first | (go_grown; done) | exact And.left (by assumption)) hb6
  have p6x0 : w6.cell? ⟨w.heap.size, 0, none⟩ = some (.int .i64 k) := keep1 hb6 (by first | (with_reducible assumption) | (go_simp; done))
  have p6x1 : w6.cell? ⟨w.heap.size, 1, none⟩ = some (.int .i64 n) := keep1 hb6 (by first | (with_reducible assumption) | (go_simp; done))
  have p6x2 : w6.cell? ⟨w.heap.size, 2, none⟩ = some (.int .i64 s) := keep1 hb6 (by first | (with_reducible assumption) | (go_simp; done))
  have p6x3 : w6.cell? ⟨w.heap.size, 3, none⟩ = some (.bool r) := keep1 hb6 (by first | (with_reducible assumption) | (go_simp; done))
  have p6x4 : w6.cell? ⟨w.heap.size + 1, 0, none⟩ = some (.int .i64 p0) := keep1 hb6 (by first | (with_reducible assumption) | (go_simp; done))
  have p6x5 : w6.cell? ⟨w.heap.size + 1, 1, none⟩ = some (.int .i64 p1) := keep1 hb6 (by first | (with_reducible assumption) | (go_simp; done))
  have p6x6 : w6.cell? ⟨w.heap.size + 1, 2, none⟩ = some (.int .i64 p2) := keep1 hb6 (by first | (with_reducible assumption) | (go_simp; done))
  have p6x7 : w6.cell? ⟨w.heap.size + 1, q0.toNat, none⟩ = some (.int .i64 e0) := keep1 hb6 (by first | (with_reducible assumption) | (go_simp; done))
  have p6x8 : w6.cell? ⟨w.heap.size + 1, q1.toNat, none⟩ = some (.int .i64 e1) := keep1 hb6 (by first | (with_reducible assumption) | (go_simp; done))
  have p6x9 : w6.cell? ⟨w.heap.size + 1, q2.toNat, none⟩ = some (.int .i64 e2) := keep1 hb6 (by first | (with_reducible assumption) | (go_simp; done))
  have p6x10 : w6.cell? ⟨w.heap.size + 1 + 1, 0, none⟩ = some (.int .i64 q0) := keep1 hb6 (by first | (with_reducible assumption) | (go_simp; done))
  have p6x11 : w6.cell? ⟨w.heap.size + 1 + 1, 1, none⟩ = some (.int .i64 q1) := keep1 hb6 (by first | (with_reducible assumption) | (go_simp; done))
  have p6x12 : w6.cell? ⟨w.heap.size + 1 + 1, 2, none⟩ = some (.int .i64 q2) := keep1 hb6 (by first | (with_reducible assumption) | (go_simp; done))
  have p6x13 : w6.cell? ⟨w5.heap.size, 0, none⟩ = some (.int .i64 l0) := keep1 hb6 (by first | (with_reducible assumption) | (go_simp; done))
  have p6x14 : w6.cell? ⟨w5.heap.size, 1, none⟩ = some (.int .i64 l1) := keep1 hb6 (by first | (with_reducible assumption) | (go_simp; done))
  have p6x15 : w6.cell? ⟨w5.heap.size, 2, none⟩ = some (.int .i64 l2) := keep1 hb6 (by first | (with_reducible assumption) | (go_simp; done))
  have p6x16 : w6.cell? ⟨w5.heap.size, 3, none⟩ = some (.int .i64 l3) := keep1 hb6 (by first | (with_reducible assumption) | (go_simp; done))
  have p6x17 : w6.cell? ⟨w5.heap.size, 4, none⟩ = some (.int .i64 l4) := keep1 hb6 (by first | (with_reducible assumption) | (go_simp; done))
  have p6x18 : w6.cell? ⟨w5.heap.size, 5, none⟩ = some (.int .i64 l5) := keep1 hb6 (by first | (with_reducible assumption) | (go_simp; done))
  have p6x19 : w6.cell? ⟨w5.heap.size, 6, none⟩ = some (.int .i64 l6) := keep1 hb6 (by first | (with_reducible assumption) | (go_simp; done))
  have p6x20 : w6.cell? ⟨w5.heap.size, 7, none⟩ = some (.int .i64 l7) := keep1 hb6 (by first | (with_reducible assumption) | (go_simp; done))
  have p6x21 : w6.cell? ⟨w5.heap.size, 8, none⟩ = some (.int .i64 l8) := keep1 hb6 (by first | (with_reducible assumption) | (go_simp; done))
  have p6xz0 : w.heap.size < w6.heap.size := block_lt p6x0
  have p6xz4 : w.heap.size + 1 < w6.heap.size := block_lt p6x4
  have p6xz7 : w.heap.size + 1 < w6.heap.size := block_lt p6x7
  have p6xz8 : w.heap.size + 1 < w6.heap.size := block_lt p6x8
  have p6xz9 : w.heap.size + 1 < w6.heap.size := block_lt p6x9
  have p6xz10 : w.heap.size + 1 + 1 < w6.heap.size := block_lt p6x10
  have p6xz13 : w5.heap.size < w6.heap.size := block_lt p6x13
  have p6xs := p6xb.size
  go_wp2_with fail
  refine (KB.out _ (rangeB (w := w) (by first | (with_reducible assumption) | (go_grown; done)) hr)).mono ?_
  rintro e w7 ⟨rfl, hb7⟩
  have p7xb : Below w.heap.size w w7 := belowT (by first | (go_grown; done) | exact And.left (by assumption)) hb7
  have p7x0 : w7.cell? ⟨w.heap.size, 0, none⟩ = some (.int .i64 k) := keep1 hb7 (by first | (with_reducible assumption) | (go_simp; done))
  have p7x1 : w7.cell? ⟨w.heap.size, 1, none⟩ = some (.int .i64 n) := keep1 hb7 (by first | (with_reducible assumption) | (go_simp; done))
  have p7x2 : w7.cell? ⟨w.heap.size, 2, none⟩ = some (.int .i64 s) := keep1 hb7 (by first | (with_reducible assumption) | (go_simp; done))
  have p7x3 : w7.cell? ⟨w.heap.size, 3, none⟩ = some (.bool r) := keep1 hb7 (by first | (with_reducible assumption) | (go_simp; done))
  have p7x4 : w7.cell? ⟨w.heap.size + 1, 0, none⟩ = some (.int .i64 p0) := keep1 hb7 (by first | (with_reducible assumption) | (go_simp; done))
  have p7x5 : w7.cell? ⟨w.heap.size + 1, 1, none⟩ = some (.int .i64 p1) := keep1 hb7 (by first | (with_reducible assumption) | (go_simp; done))
  have p7x6 : w7.cell? ⟨w.heap.size + 1, 2, none⟩ = some (.int .i64 p2) := keep1 hb7 (by first | (with_reducible assumption) | (go_simp; done))
  have p7x7 : w7.cell? ⟨w.heap.size + 1, q0.toNat, none⟩ = some (.int .i64 e0) := keep1 hb7 (by first | (with_reducible assumption) | (go_simp; done))
  have p7x8 : w7.cell? ⟨w.heap.size + 1, q1.toNat, none⟩ = some (.int .i64 e1) := keep1 hb7 (by first | (with_reducible assumption) | (go_simp; done))
  have p7x9 : w7.cell? ⟨w.heap.size + 1, q2.toNat, none⟩ = some (.int .i64 e2) := keep1 hb7 (by first | (with_reducible assumption) | (go_simp; done))
  have p7x10 : w7.cell? ⟨w.heap.size + 1 + 1, 0, none⟩ = some (.int .i64 q0) := keep1 hb7 (by first | (with_reducible assumption) | (go_simp; done))
  have p7x11 : w7.cell? ⟨w.heap.size + 1 + 1, 1, none⟩ = some (.int .i64 q1) := keep1 hb7 (by first | (with_reducible assumption) | (go_simp; done))
  have p7x12 : w7.cell? ⟨w.heap.size + 1 + 1, 2, none⟩ = some (.int .i64 q2) := keep1 hb7 (by first | (with_reducible assumption) | (go_simp; done))
  have p7x13 : w7.cell? ⟨w5.heap.size, 0, none⟩ = some (.int .i64 l0) := keep1 hb7 (by first | (with_reducible assumption) | (go_simp; done))
  have p7x14 : w7.cell? ⟨w5.heap.size, 1, none⟩ = some (.int .i64 l1) := keep1 hb7 (by first | (with_reducible assumption) | (go_simp; done))
  have p7x15 : w7.cell? ⟨w5.heap.size, 2, none⟩ = some (.int .i64 l2) := keep1 hb7 (by first | (with_reducible assumption) | (go_simp; done))
  have p7x16 : w7.cell? ⟨w5.heap.size, 3, none⟩ = some (.int .i64 l3) := keep1 hb7 (by first | (with_reducible assumption) | (go_simp; done))
  have p7x17 : w7.cell? ⟨w5.heap.size, 4, none⟩ = some (.int .i64 l4) := keep1 hb7 (by first | (with_reducible assumption) | (go_simp; done))
  have p7x18 : w7.cell? ⟨w5.heap.size, 5, none⟩ = some (.int .i64 l5) := keep1 hb7 (by first | (with_reducible assumption) | (go_simp; done))
  have p7x19 : w7.cell? ⟨w5.heap.size, 6, none⟩ = some (.int .i64 l6) := keep1 hb7 (by first | (with_reducible assumption) | (go_simp; done))
  have p7x20 : w7.cell? ⟨w5.heap.size, 7, none⟩ = some (.int .i64 l7) := keep1 hb7 (by first | (with_reducible assumption) | (go_simp; done))
  have p7x21 : w7.cell? ⟨w5.heap.size, 8, none⟩ = some (.int .i64 l8) := keep1 hb7 (by first | (with_reducible assumption) | (go_simp; done))
  have p7x22 : w7.cell? ⟨w6.heap.size, 0, none⟩ = some (.int .i64 x0) := keep1 hb7 (by first | (with_reducible assumption) | (go_simp; done))
  have p7x23 : w7.cell? ⟨w6.heap.size, 1, none⟩ = some (.int .i64 x1) := keep1 hb7 (by first | (with_reducible assumption) | (go_simp; done))
  have p7x24 : w7.cell? ⟨w6.heap.size, 2, none⟩ = some (.int .i64 x2) := keep1 hb7 (by first | (with_reducible assumption) | (go_simp; done))
  have p7x25 : w7.cell? ⟨w6.heap.size, 3, none⟩ = some (.int .i64 x3) := keep1 hb7 (by first | (with_reducible assumption) | (go_simp; done))
  have p7x26 : w7.cell? ⟨w6.heap.size, 4, none⟩ = some (.int .i64 x4) := keep1 hb7 (by first | (with_reducible assumption) | (go_simp; done))
  have p7x27 : w7.cell? ⟨w6.heap.size, 5, none⟩ = some (.int .i64 x5) := keep1 hb7 (by first | (with_reducible assumption) | (go_simp; done))
  have p7x28 : w7.cell? ⟨w6.heap.size, 6, none⟩ = some (.int .i64 x6) := keep1 hb7 (by first | (with_reducible assumption) | (go_simp; done))
  have p7x29 : w7.cell? ⟨w6.heap.size, 7, none⟩ = some (.int .i64 x7) := keep1 hb7 (by first | (with_reducible assumption) | (go_simp; done))
  have p7x30 : w7.cell? ⟨w6.heap.size, 8, none⟩ = some (.int .i64 x8) := keep1 hb7 (by first | (with_reducible assumption) | (go_simp; done))
  have p7xz0 : w.heap.size < w7.heap.size := block_lt p7x0
  have p7xz4 : w.heap.size + 1 < w7.heap.size := block_lt p7x4
  have p7xz7 : w.heap.size + 1 < w7.heap.size := block_lt p7x7
  have p7xz8 : w.heap.size + 1 < w7.heap.size := block_lt p7x8
  have p7xz9 : w.heap.size + 1 < w7.heap.size := block_lt p7x9
  have p7xz10 : w.heap.size + 1 + 1 < w7.heap.size := block_lt p7x10
  have p7xz13 : w5.heap.size < w7.heap.size := block_lt p7x13
  have p7xz22 : w6.heap.size < w7.heap.size := block_lt p7x22
  have p7xs := p7xb.size
  have zq2 : w.heap.size + 1 + 1 < w7.heap.size + 1 := by omega
  have zq3 : w5.heap.size < w7.heap.size + 1 := by omega
  have zq4 : w6.heap.size < w7.heap.size + 1 := by omega
  have zq5 : w7.heap.size < w7.heap.size + 1 := by omega
  go_wp2_with fail
  refine wp_region_held_drew (S := RwS k n s r p0 p1 p2 q0 q1 q2 e0 e1 e2 l0 l1 l2 l3 l4 l5 l6 l7 l8 x0 x1 x2 x3 x4 x5 x6 x7 x8 y0 y1 y2 y3 y4 y5 y6 y7 y8 w w5.heap.size w6.heap.size w7.heap.size) (by kernel_rfl) ?hS (fun hH => ?_)
  case hS => exact ⟨by go_grown, by first | (with_reducible assumption) | (go_simp; done) | ((repeat' (first | (with_reducible assumption) | refine drewC ?_ | refine allocC ?_)); done), by first | (with_reducible assumption) | (go_simp; done) | ((repeat' (first | (with_reducible assumption) | refine drewC ?_ | refine allocC ?_)); done), by first | (with_reducible assumption) | (go_simp; done) | ((repeat' (first | (with_reducible assumption) | refine drewC ?_ | refine allocC ?_)); done), by first | (with_reducible assumption) | (go_simp; done) | ((repeat' (first | (with_reducible assumption) | refine drewC ?_ | refine allocC ?_)); done), by first | (with_reducible assumption) | (go_simp; done) | ((repeat' (first | (with_reducible assumption) | refine drewC ?_ | refine allocC ?_)); done), by first | (with_reducible assumption) | (go_simp; done) | ((repeat' (first | (with_reducible assumption) | refine drewC ?_ | refine allocC ?_)); done), by first | (with_reducible assumption) | (go_simp; done) | ((repeat' (first | (with_reducible assumption) | refine drewC ?_ | refine allocC ?_)); done), by first | (with_reducible assumption) | (go_simp; done) | ((repeat' (first | (with_reducible assumption) | refine drewC ?_ | refine allocC ?_)); done), by first | (with_reducible assumption) | (go_simp; done) | ((repeat' (first | (with_reducible assumption) | refine drewC ?_ | refine allocC ?_)); done), by first | (with_reducible assumption) | (go_simp; done) | ((repeat' (first | (with_reducible assumption) | refine drewC ?_ | refine allocC ?_)); done), by first | (with_reducible assumption) | (go_simp; done) | ((repeat' (first | (with_reducible assumption) | refine drewC ?_ | refine allocC ?_)); done), by first | (with_reducible assumption) | (go_simp; done) | ((repeat' (first | (with_reducible assumption) | refine drewC ?_ | refine allocC ?_)); done), by first | (with_reducible assumption) | (go_simp; done) | ((repeat' (first | (with_reducible assumption) | refine drewC ?_ | refine allocC ?_)); done), by first | (with_reducible assumption) | (go_simp; done) | ((repeat' (first | (with_reducible assumption) | refine drewC ?_ | refine allocC ?_)); done), by first | (with_reducible assumption) | (go_simp; done) | ((repeat' (first | (with_reducible assumption) | refine drewC ?_ | refine allocC ?_)); done), by first | (with_reducible assumption) | (go_simp; done) | ((repeat' (first | (with_reducible assumption) | refine drewC ?_ | refine allocC ?_)); done), by first | (with_reducible assumption) | (go_simp; done) | ((repeat' (first | (with_reducible assumption) | refine drewC ?_ | refine allocC ?_)); done), by first | (with_reducible assumption) | (go_simp; done) | ((repeat' (first | (with_reducible assumption) | refine drewC ?_ | refine allocC ?_)); done), by first | (with_reducible assumption) | (go_simp; done) | ((repeat' (first | (with_reducible assumption) | refine drewC ?_ | refine allocC ?_)); done), by first | (with_reducible assumption) | (go_simp; done) | ((repeat' (first | (with_reducible assumption) | refine drewC ?_ | refine allocC ?_)); done), by first | (with_reducible assumption) | (go_simp; done) | ((repeat' (first | (with_reducible assumption) | refine drewC ?_ | refine allocC ?_)); done), by first | (with_reducible assumption) | (go_simp; done) | ((repeat' (first | (with_reducible assumption) | refine drewC ?_ | refine allocC ?_)); done), by first | (with_reducible assumption) | (go_simp; done) | ((repeat' (first | (with_reducible assumption) | refine drewC ?_ | refine allocC ?_)); done), by first | (with_reducible assumption) | (go_simp; done) | ((repeat' (first | (with_reducible assumption) | refine drewC ?_ | refine allocC ?_)); done), by first | (with_reducible assumption) | (go_simp; done) | ((repeat' (first | (with_reducible assumption) | refine drewC ?_ | refine allocC ?_)); done), by first | (with_reducible assumption) | (go_simp; done) | ((repeat' (first | (with_reducible assumption) | refine drewC ?_ | refine allocC ?_)); done), by first | (with_reducible assumption) | (go_simp; done) | ((repeat' (first | (with_reducible assumption) | refine drewC ?_ | refine allocC ?_)); done), by first | (with_reducible assumption) | (go_simp; done) | ((repeat' (first | (with_reducible assumption) | refine drewC ?_ | refine allocC ?_)); done), by first | (with_reducible assumption) | (go_simp; done) | ((repeat' (first | (with_reducible assumption) | refine drewC ?_ | refine allocC ?_)); done), by first | (with_reducible assumption) | (go_simp; done) | ((repeat' (first | (with_reducible assumption) | refine drewC ?_ | refine allocC ?_)); done), by first | (with_reducible assumption) | (go_simp; done) | ((repeat' (first | (with_reducible assumption) | refine drewC ?_ | refine allocC ?_)); done), by first | (with_reducible assumption) | (go_simp; done) | ((repeat' (first | (with_reducible assumption) | refine drewC ?_ | refine allocC ?_)); done), by first | (with_reducible assumption) | (go_simp; done) | ((repeat' (first | (with_reducible assumption) | refine drewC ?_ | refine allocC ?_)); done), by first | (with_reducible assumption) | (go_simp; done) | ((repeat' (first | (with_reducible assumption) | refine drewC ?_ | refine allocC ?_)); done), by first | (with_reducible assumption) | (go_simp; done) | ((repeat' (first | (with_reducible assumption) | refine drewC ?_ | refine allocC ?_)); done), by first | (with_reducible assumption) | (go_simp; done) | ((repeat' (first | (with_reducible assumption) | refine drewC ?_ | refine allocC ?_)); done), by first | (with_reducible assumption) | (go_simp; done) | ((repeat' (first | (with_reducible assumption) | refine drewC ?_ | refine allocC ?_)); done), by first | (with_reducible assumption) | (go_simp; done) | ((repeat' (first | (with_reducible assumption) | refine drewC ?_ | refine allocC ?_)); done), by first | (with_reducible assumption) | (go_simp; done) | ((repeat' (first | (with_reducible assumption) | refine drewC ?_ | refine allocC ?_)); done), by first | (with_reducible assumption) | (go_simp; done) | ((repeat' (first | (with_reducible assumption) | refine drewC ?_ | refine allocC ?_)); done)⟩
  refine' wpAnyH_take (i := 0) (v := _) rfl (by kernel_rfl) (by kernel_rfl) (by kernel_rfl) (fun _ _ _ h => h) (Or.inl ⟨by kernel_rfl, ?hy⟩) (by assumption) ?_
  case hy => (intro W hW; obtain ⟨hb, h0, h1, h2, h3, h4, h5, h6, h7, h8, h9, h10, h11, h12, h13, h14, h15, h16, h17, h18, h19, h20, h21, h22, h23, h24, h25, h26, h27, h28, h29, h30, h31, h32, h33, h34, h35, h36, h37, h38, h39⟩ := hW; go_simp; try (with_reducible rfl))
  try simp only [Act.put, List.setIfInBounds_toArray, List.set_cons_zero, List.set_cons_succ, List.getElem_toArray, List.getElem_cons_zero]
  refine' wpAnyH_take (i := 1) (v := _) rfl (by kernel_rfl) (by kernel_rfl) (by kernel_rfl) (fun _ _ _ h => h) (Or.inl ⟨by kernel_rfl, ?hy⟩) (by assumption) ?_
  case hy => (intro W hW; obtain ⟨hb, h0, h1, h2, h3, h4, h5, h6, h7, h8, h9, h10, h11, h12, h13, h14, h15, h16, h17, h18, h19, h20, h21, h22, h23, h24, h25, h26, h27, h28, h29, h30, h31, h32, h33, h34, h35, h36, h37, h38, h39⟩ := hW; go_simp; try (with_reducible rfl))
  try simp only [Act.put, List.setIfInBounds_toArray, List.set_cons_zero, List.set_cons_succ, List.getElem_toArray, List.getElem_cons_succ, List.getElem_cons_zero]
  refine' wpAnyH_take (i := 2) (v := _) rfl (by kernel_rfl) (by kernel_rfl) (by kernel_rfl) (fun _ _ _ h => h) (Or.inl ⟨by kernel_rfl, ?hy⟩) (by assumption) ?_
  case hy => (intro W hW; obtain ⟨hb, h0, h1, h2, h3, h4, h5, h6, h7, h8, h9, h10, h11, h12, h13, h14, h15, h16, h17, h18, h19, h20, h21, h22, h23, h24, h25, h26, h27, h28, h29, h30, h31, h32, h33, h34, h35, h36, h37, h38, h39⟩ := hW; go_simp; try (with_reducible rfl))
  try simp only [Act.put, List.setIfInBounds_toArray, List.set_cons_zero, List.set_cons_succ, List.getElem_toArray, List.getElem_cons_succ, List.getElem_cons_zero]
  refine' wpAnyH_take (i := 3) (v := _) rfl (by kernel_rfl) (by kernel_rfl) (by kernel_rfl) (fun _ _ _ h => h) (Or.inl ⟨by kernel_rfl, ?hy⟩) (by assumption) ?_
  case hy => (intro W hW; obtain ⟨hb, h0, h1, h2, h3, h4, h5, h6, h7, h8, h9, h10, h11, h12, h13, h14, h15, h16, h17, h18, h19, h20, h21, h22, h23, h24, h25, h26, h27, h28, h29, h30, h31, h32, h33, h34, h35, h36, h37, h38, h39⟩ := hW; go_simp; try (with_reducible rfl))
  try simp only [Act.put, List.setIfInBounds_toArray, List.set_cons_zero, List.set_cons_succ, List.getElem_toArray, List.getElem_cons_succ, List.getElem_cons_zero]
  refine' wpAnyH_take (i := 4) (v := _) rfl (by kernel_rfl) (by kernel_rfl) (by kernel_rfl) (fun _ _ _ h => h) (Or.inl ⟨by kernel_rfl, ?hy⟩) (by assumption) ?_
  case hy => (intro W hW; obtain ⟨hb, h0, h1, h2, h3, h4, h5, h6, h7, h8, h9, h10, h11, h12, h13, h14, h15, h16, h17, h18, h19, h20, h21, h22, h23, h24, h25, h26, h27, h28, h29, h30, h31, h32, h33, h34, h35, h36, h37, h38, h39⟩ := hW; go_simp; try (with_reducible rfl))
  try simp only [Act.put, List.setIfInBounds_toArray, List.set_cons_zero, List.set_cons_succ, List.getElem_toArray, List.getElem_cons_succ, List.getElem_cons_zero]
  refine' wpAnyH_take (i := 5) (v := _) rfl (by kernel_rfl) (by kernel_rfl) (by kernel_rfl) (fun _ _ _ h => h) (Or.inl ⟨by kernel_rfl, ?hy⟩) (by assumption) ?_
  case hy => (intro W hW; obtain ⟨hb, h0, h1, h2, h3, h4, h5, h6, h7, h8, h9, h10, h11, h12, h13, h14, h15, h16, h17, h18, h19, h20, h21, h22, h23, h24, h25, h26, h27, h28, h29, h30, h31, h32, h33, h34, h35, h36, h37, h38, h39⟩ := hW; go_simp; try (with_reducible rfl))
  try simp only [Act.put, List.setIfInBounds_toArray, List.set_cons_zero, List.set_cons_succ, List.getElem_toArray, List.getElem_cons_succ, List.getElem_cons_zero]
  refine' wpAnyH_take (i := 6) (v := _) rfl (by kernel_rfl) (by kernel_rfl) (by kernel_rfl) (fun _ _ _ h => h) (Or.inl ⟨by kernel_rfl, ?hy⟩) (by assumption) ?_
  case hy => (intro W hW; obtain ⟨hb, h0, h1, h2, h3, h4, h5, h6, h7, h8, h9, h10, h11, h12, h13, h14, h15, h16, h17, h18, h19, h20, h21, h22, h23, h24, h25, h26, h27, h28, h29, h30, h31, h32, h33, h34, h35, h36, h37, h38, h39⟩ := hW; go_simp; try (with_reducible rfl))
  try simp only [Act.put, List.setIfInBounds_toArray, List.set_cons_zero, List.set_cons_succ, List.getElem_toArray, List.getElem_cons_succ, List.getElem_cons_zero]
  refine' wpAnyH_take (i := 7) (v := _) rfl (by kernel_rfl) (by kernel_rfl) (by kernel_rfl) (fun _ _ _ h => h) (Or.inl ⟨by kernel_rfl, ?hy⟩) (by assumption) ?_
  case hy => (intro W hW; obtain ⟨hb, h0, h1, h2, h3, h4, h5, h6, h7, h8, h9, h10, h11, h12, h13, h14, h15, h16, h17, h18, h19, h20, h21, h22, h23, h24, h25, h26, h27, h28, h29, h30, h31, h32, h33, h34, h35, h36, h37, h38, h39⟩ := hW; go_simp; try (with_reducible rfl))
  try simp only [Act.put, List.setIfInBounds_toArray, List.set_cons_zero, List.set_cons_succ, List.getElem_toArray, List.getElem_cons_succ, List.getElem_cons_zero]
  refine' wpAnyH_take (i := 8) (v := _) rfl (by kernel_rfl) (by kernel_rfl) (by kernel_rfl) (fun _ _ _ h => h) (Or.inl ⟨by kernel_rfl, ?hy⟩) (by assumption) ?_
  case hy => (intro W hW; obtain ⟨hb, h0, h1, h2, h3, h4, h5, h6, h7, h8, h9, h10, h11, h12, h13, h14, h15, h16, h17, h18, h19, h20, h21, h22, h23, h24, h25, h26, h27, h28, h29, h30, h31, h32, h33, h34, h35, h36, h37, h38, h39⟩ := hW; go_simp; try (with_reducible rfl))
  try simp only [Act.put, List.setIfInBounds_toArray, List.set_cons_zero, List.set_cons_succ, List.getElem_toArray, List.getElem_cons_succ, List.getElem_cons_zero]
  refine' wpAnyH_take (i := 9) (v := _) rfl (by kernel_rfl) (by kernel_rfl) (by kernel_rfl) (fun _ _ _ h => h) (Or.inl ⟨by kernel_rfl, ?hy⟩) (by assumption) ?_
  case hy => (intro W hW; obtain ⟨hb, h0, h1, h2, h3, h4, h5, h6, h7, h8, h9, h10, h11, h12, h13, h14, h15, h16, h17, h18, h19, h20, h21, h22, h23, h24, h25, h26, h27, h28, h29, h30, h31, h32, h33, h34, h35, h36, h37, h38, h39⟩ := hW; go_simp; try (with_reducible rfl))
  try simp only [Act.put, List.setIfInBounds_toArray, List.set_cons_zero, List.set_cons_succ, List.getElem_toArray, List.getElem_cons_succ, List.getElem_cons_zero]
  refine' wpAnyH_take (i := 10) (v := _) rfl (by kernel_rfl) (by kernel_rfl) (by kernel_rfl) (fun _ _ _ h => h) (Or.inl ⟨by kernel_rfl, ?hy⟩) (by assumption) ?_
  case hy => (intro W hW; obtain ⟨hb, h0, h1, h2, h3, h4, h5, h6, h7, h8, h9, h10, h11, h12, h13, h14, h15, h16, h17, h18, h19, h20, h21, h22, h23, h24, h25, h26, h27, h28, h29, h30, h31, h32, h33, h34, h35, h36, h37, h38, h39⟩ := hW; go_simp; try (with_reducible rfl))
  try simp only [Act.put, List.setIfInBounds_toArray, List.set_cons_zero, List.set_cons_succ, List.getElem_toArray, List.getElem_cons_succ, List.getElem_cons_zero]
  refine' wpAnyH_take (i := 11) (v := _) rfl (by kernel_rfl) (by kernel_rfl) (by kernel_rfl) (fun _ _ _ h => h) (Or.inl ⟨by kernel_rfl, ?hy⟩) (by assumption) ?_
  case hy => (intro W hW; obtain ⟨hb, h0, h1, h2, h3, h4, h5, h6, h7, h8, h9, h10, h11, h12, h13, h14, h15, h16, h17, h18, h19, h20, h21, h22, h23, h24, h25, h26, h27, h28, h29, h30, h31, h32, h33, h34, h35, h36, h37, h38, h39⟩ := hW; go_simp; try (with_reducible rfl))
  try simp only [Act.put, List.setIfInBounds_toArray, List.set_cons_zero, List.set_cons_succ, List.getElem_toArray, List.getElem_cons_succ, List.getElem_cons_zero]
  refine' wpAnyH_take (i := 12) (v := _) rfl (by kernel_rfl) (by kernel_rfl) (by kernel_rfl) (fun _ _ _ h => h) (Or.inl ⟨by kernel_rfl, ?hy⟩) (by assumption) ?_
  case hy => (intro W hW; obtain ⟨hb, h0, h1, h2, h3, h4, h5, h6, h7, h8, h9, h10, h11, h12, h13, h14, h15, h16, h17, h18, h19, h20, h21, h22, h23, h24, h25, h26, h27, h28, h29, h30, h31, h32, h33, h34, h35, h36, h37, h38, h39⟩ := hW; go_simp; try (with_reducible rfl))
  try simp only [Act.put, List.setIfInBounds_toArray, List.set_cons_zero, List.set_cons_succ, List.getElem_toArray, List.getElem_cons_succ, List.getElem_cons_zero]
  refine' wpAnyH_take (i := 13) (v := _) rfl (by kernel_rfl) (by kernel_rfl) (by kernel_rfl) (fun _ _ _ h => h) (Or.inl ⟨by kernel_rfl, ?hy⟩) (by assumption) ?_
  case hy => (intro W hW; obtain ⟨hb, h0, h1, h2, h3, h4, h5, h6, h7, h8, h9, h10, h11, h12, h13, h14, h15, h16, h17, h18, h19, h20, h21, h22, h23, h24, h25, h26, h27, h28, h29, h30, h31, h32, h33, h34, h35, h36, h37, h38, h39⟩ := hW; go_simp; try (with_reducible rfl))
  try simp only [Act.put, List.setIfInBounds_toArray, List.set_cons_zero, List.set_cons_succ, List.getElem_toArray, List.getElem_cons_succ, List.getElem_cons_zero]
  skip
  refine wpAnyH_ready (rs := [14, 18]) (by kernel_rfl) (by simp) ?_
  refine AllReadyH.cons rfl (fun K hK => ?_) (AllReadyH.cons rfl (fun K hK => ?_) AllReadyH.nil)
  · go_simp
    refine (KC.out _ (rangeB (w := w) hH.1 hr)).mono ?_
    rintro e wa ⟨rfl, hba⟩
    refine hK.out _ _ (hH.below hba) (fun hH1 => ?_)
    clear hK
    try simp only [Act.put, List.setIfInBounds_toArray, List.set_cons_zero, List.set_cons_succ, List.getElem_toArray, List.getElem_cons_succ, List.getElem_cons_zero]
    refine' wpAnyH_take (i := 15) (v := _) rfl (by kernel_rfl) (by kernel_rfl) (by kernel_rfl) (fun _ _ _ h => h) (Or.inl ⟨by kernel_rfl, ?hy⟩) (by assumption) ?_
    case hy => (intro W hW; obtain ⟨hb, h0, h1, h2, h3, h4, h5, h6, h7, h8, h9, h10, h11, h12, h13, h14, h15, h16, h17, h18, h19, h20, h21, h22, h23, h24, h25, h26, h27, h28, h29, h30, h31, h32, h33, h34, h35, h36, h37, h38, h39⟩ := hW; go_simp; try (with_reducible rfl))
    try simp only [Act.put, List.setIfInBounds_toArray, List.set_cons_zero, List.set_cons_succ, List.getElem_toArray, List.getElem_cons_succ, List.getElem_cons_zero]
    refine' wpAnyH_take (i := 16) (v := _) rfl (by kernel_rfl) (by kernel_rfl) (by kernel_rfl) (fun _ _ _ h => h) (Or.inl ⟨by kernel_rfl, ?hy⟩) (by assumption) ?_
    case hy => (intro W hW; obtain ⟨hb, h0, h1, h2, h3, h4, h5, h6, h7, h8, h9, h10, h11, h12, h13, h14, h15, h16, h17, h18, h19, h20, h21, h22, h23, h24, h25, h26, h27, h28, h29, h30, h31, h32, h33, h34, h35, h36, h37, h38, h39⟩ := hW; go_simp; try (with_reducible rfl))
    try simp only [Act.put, List.setIfInBounds_toArray, List.set_cons_zero, List.set_cons_succ, List.getElem_toArray, List.getElem_cons_succ, List.getElem_cons_zero]
    refine' wpAnyH_take (i := 17) (v := _) rfl (by kernel_rfl) (by kernel_rfl) (by kernel_rfl) (fun _ _ _ h => h) (Or.inl ⟨by kernel_rfl, ?hy⟩) (by assumption) ?_
    case hy => (intro W hW; obtain ⟨hb, h0, h1, h2, h3, h4, h5, h6, h7, h8, h9, h10, h11, h12, h13, h14, h15, h16, h17, h18, h19, h20, h21, h22, h23, h24, h25, h26, h27, h28, h29, h30, h31, h32, h33, h34, h35, h36, h37, h38, h39⟩ := hW; go_simp; try (with_reducible rfl))
    try simp only [Act.put, List.setIfInBounds_toArray, List.set_cons_zero, List.set_cons_succ, List.getElem_toArray, List.getElem_cons_succ, List.getElem_cons_zero]
    refine wpAnyH_ready (rs := [18]) (by kernel_rfl) (by simp) ?_
    refine AllReadyH.cons rfl (fun K hK => ?_) AllReadyH.nil
    go_simp
    refine hK.out _ _ (hH1.below (belowA _ _)) (fun hH2 => ?_)
    clear hK
    try simp only [Act.put, List.setIfInBounds_toArray, List.set_cons_zero, List.set_cons_succ, List.getElem_toArray, List.getElem_cons_succ, List.getElem_cons_zero]
    refine wpAnyH_ready (rs := [19]) (by kernel_rfl) (by simp) ?_
    refine AllReadyH.cons rfl (fun K hK => ?_) AllReadyH.nil
    go_simp
    refine hK.out _ _ (hH1.below (belowA _ _)) (fun hH3 => ?_)
    clear hK
    try simp only [Act.put, List.setIfInBounds_toArray, List.set_cons_zero, List.set_cons_succ, List.getElem_toArray, List.getElem_cons_succ, List.getElem_cons_zero]
    refine' wpAnyH_take (i := 20) (v := _) rfl (by kernel_rfl) (by kernel_rfl) (by kernel_rfl) (fun _ _ _ h => h) (Or.inl ⟨by kernel_rfl, ?hy⟩) (by assumption) ?_
    case hy => (intro W hW; obtain ⟨hb, h0, h1, h2, h3, h4, h5, h6, h7, h8, h9, h10, h11, h12, h13, h14, h15, h16, h17, h18, h19, h20, h21, h22, h23, h24, h25, h26, h27, h28, h29, h30, h31, h32, h33, h34, h35, h36, h37, h38, h39⟩ := hW; go_simp; try (with_reducible rfl))
    try simp only [Act.put, List.setIfInBounds_toArray, List.set_cons_zero, List.set_cons_succ, List.getElem_toArray, List.getElem_cons_succ, List.getElem_cons_zero]
    refine wpAnyH_done (by kernel_rfl) ?_ _
    refine then_world (fun V => RwS k n s r p0 p1 p2 q0 q1 q2 e0 e1 e2 l0 l1 l2 l3 l4 l5 l6 l7 l8 x0 x1 x2 x3 x4 x5 x6 x7 x8 y0 y1 y2 y3 y4 y5 y6 y7 y8 w w5.heap.size w6.heap.size w7.heap.size V ∧ V.cell? ⟨wa.heap.size, 0, none⟩ = some (.int .i64 y0) ∧ V.cell? ⟨wa.heap.size, 1, none⟩ = some (.int .i64 y1) ∧ V.cell? ⟨wa.heap.size, 2, none⟩ = some (.int .i64 y2) ∧ V.cell? ⟨wa.heap.size, 3, none⟩ = some (.int .i64 y3) ∧ V.cell? ⟨wa.heap.size, 4, none⟩ = some (.int .i64 y4) ∧ V.cell? ⟨wa.heap.size, 5, none⟩ = some (.int .i64 y5) ∧ V.cell? ⟨wa.heap.size, 6, none⟩ = some (.int .i64 y6) ∧ V.cell? ⟨wa.heap.size, 7, none⟩ = some (.int .i64 y7) ∧ V.cell? ⟨wa.heap.size, 8, none⟩ = some (.int .i64 y8)) ⟨hH3, by go_simp, by go_simp, by go_simp, by go_simp, by go_simp, by go_simp, by go_simp, by go_simp, by go_simp⟩ ?_
    clear hH hH1 hH2 hH3 hba
    rintro V ⟨hV, yy0, yy1, yy2, yy3, yy4, yy5, yy6, yy7, yy8⟩
    obtain ⟨hb, h0, h1, h2, h3, h4, h5, h6, h7, h8, h9, h10, h11, h12, h13, h14, h15, h16, h17, h18, h19, h20, h21, h22, h23, h24, h25, h26, h27, h28, h29, h30, h31, h32, h33, h34, h35, h36, h37, h38, h39⟩ := hV
    go_wp2_with fail
    refine (KS.out _ (ht.below (by first | (with_reducible assumption) | (go_grown; done)))).mono ?_
    rintro e w21 ⟨rfl, hb21⟩
    have p21xb : Below w.heap.size w w21 := belowT (by first | (go_grown; done) | exact And.left (by assumption)) hb21
    have p21x0 : w21.cell? ⟨w.heap.size + 1, 0, none⟩ = some (.int .i64 p0) := keep1 hb21 (by first | (with_reducible assumption) | (go_simp; done))
    have p21x1 : w21.cell? ⟨w.heap.size + 1, 1, none⟩ = some (.int .i64 p1) := keep1 hb21 (by first | (with_reducible assumption) | (go_simp; done))
    have p21x2 : w21.cell? ⟨w.heap.size + 1, 2, none⟩ = some (.int .i64 p2) := keep1 hb21 (by first | (with_reducible assumption) | (go_simp; done))
    have p21x3 : w21.cell? ⟨w5.heap.size, 0, none⟩ = some (.int .i64 l0) := keep1 hb21 (by first | (with_reducible assumption) | (go_simp; done))
    have p21x4 : w21.cell? ⟨w5.heap.size, 1, none⟩ = some (.int .i64 l1) := keep1 hb21 (by first | (with_reducible assumption) | (go_simp; done))
    have p21x5 : w21.cell? ⟨w5.heap.size, 2, none⟩ = some (.int .i64 l2) := keep1 hb21 (by first | (with_reducible assumption) | (go_simp; done))
    have p21x6 : w21.cell? ⟨w5.heap.size, 3, none⟩ = some (.int .i64 l3) := keep1 hb21 (by first | (with_reducible assumption) | (go_simp; done))
    have p21x7 : w21.cell? ⟨w5.heap.size, 4, none⟩ = some (.int .i64 l4) := keep1 hb21 (by first | (with_reducible assumption) | (go_simp; done))
    have p21x8 : w21.cell? ⟨w5.heap.size, 5, none⟩ = some (.int .i64 l5) := keep1 hb21 (by first | (with_reducible assumption) | (go_simp; done))
    have p21x9 : w21.cell? ⟨w5.heap.size, 6, none⟩ = some (.int .i64 l6) := keep1 hb21 (by first | (with_reducible assumption) | (go_simp; done))
    have p21x10 : w21.cell? ⟨w5.heap.size, 7, none⟩ = some (.int .i64 l7) := keep1 hb21 (by first | (with_reducible assumption) | (go_simp; done))
    have p21x11 : w21.cell? ⟨w5.heap.size, 8, none⟩ = some (.int .i64 l8) := keep1 hb21 (by first | (with_reducible assumption) | (go_simp; done))
    have p21x12 : w21.cell? ⟨w6.heap.size, 0, none⟩ = some (.int .i64 x0) := keep1 hb21 (by first | (with_reducible assumption) | (go_simp; done))
    have p21x13 : w21.cell? ⟨w6.heap.size, 1, none⟩ = some (.int .i64 x1) := keep1 hb21 (by first | (with_reducible assumption) | (go_simp; done))
    have p21x14 : w21.cell? ⟨w6.heap.size, 2, none⟩ = some (.int .i64 x2) := keep1 hb21 (by first | (with_reducible assumption) | (go_simp; done))
    have p21x15 : w21.cell? ⟨w6.heap.size, 3, none⟩ = some (.int .i64 x3) := keep1 hb21 (by first | (with_reducible assumption) | (go_simp; done))
    have p21x16 : w21.cell? ⟨w6.heap.size, 4, none⟩ = some (.int .i64 x4) := keep1 hb21 (by first | (with_reducible assumption) | (go_simp; done))
    have p21x17 : w21.cell? ⟨w6.heap.size, 5, none⟩ = some (.int .i64 x5) := keep1 hb21 (by first | (with_reducible assumption) | (go_simp; done))
    have p21x18 : w21.cell? ⟨w6.heap.size, 6, none⟩ = some (.int .i64 x6) := keep1 hb21 (by first | (with_reducible assumption) | (go_simp; done))
    have p21x19 : w21.cell? ⟨w6.heap.size, 7, none⟩ = some (.int .i64 x7) := keep1 hb21 (by first | (with_reducible assumption) | (go_simp; done))
    have p21x20 : w21.cell? ⟨w6.heap.size, 8, none⟩ = some (.int .i64 x8) := keep1 hb21 (by first | (with_reducible assumption) | (go_simp; done))
    have p21xz0 : w.heap.size + 1 < w21.heap.size := block_lt p21x0
    have p21xz3 : w5.heap.size < w21.heap.size := block_lt p21x3
    have p21xz12 : w6.heap.size < w21.heap.size := block_lt p21x12
    have p21xs := p21xb.size
    go_wp2_with fail
    refine (KF.out _ (ht.below (by first | (with_reducible assumption) | (go_grown; done)))).mono ?_
    rintro e w22 ⟨rfl, hb22⟩
    have p22xb : Below w.heap.size w w22 := belowT (by first | (go_grown; done) | exact And.left (by assumption)) hb22
    have p22x0 : w22.cell? ⟨w.heap.size + 1, 0, none⟩ = some (.int .i64 p0) := keep1 hb22 (by first | (with_reducible assumption) | (go_simp; done))
    have p22x1 : w22.cell? ⟨w.heap.size + 1, 1, none⟩ = some (.int .i64 p1) := keep1 hb22 (by first | (with_reducible assumption) | (go_simp; done))
    have p22x2 : w22.cell? ⟨w.heap.size + 1, 2, none⟩ = some (.int .i64 p2) := keep1 hb22 (by first | (with_reducible assumption) | (go_simp; done))
    have p22x3 : w22.cell? ⟨w5.heap.size, 0, none⟩ = some (.int .i64 l0) := keep1 hb22 (by first | (with_reducible assumption) | (go_simp; done))
    have p22x4 : w22.cell? ⟨w5.heap.size, 1, none⟩ = some (.int .i64 l1) := keep1 hb22 (by first | (with_reducible assumption) | (go_simp; done))
    have p22x5 : w22.cell? ⟨w5.heap.size, 2, none⟩ = some (.int .i64 l2) := keep1 hb22 (by first | (with_reducible assumption) | (go_simp; done))
    have p22x6 : w22.cell? ⟨w5.heap.size, 3, none⟩ = some (.int .i64 l3) := keep1 hb22 (by first | (with_reducible assumption) | (go_simp; done))
    have p22x7 : w22.cell? ⟨w5.heap.size, 4, none⟩ = some (.int .i64 l4) := keep1 hb22 (by first | (with_reducible assumption) | (go_simp; done))
    have p22x8 : w22.cell? ⟨w5.heap.size, 5, none⟩ = some (.int .i64 l5) := keep1 hb22 (by first | (with_reducible assumption) | (go_simp; done))
    have p22x9 : w22.cell? ⟨w5.heap.size, 6, none⟩ = some (.int .i64 l6) := keep1 hb22 (by first | (with_reducible assumption) | (go_simp; done))
    have p22x10 : w22.cell? ⟨w5.heap.size, 7, none⟩ = some (.int .i64 l7) := keep1 hb22 (by first | (with_reducible assumption) | (go_simp; done))
    have p22x11 : w22.cell? ⟨w5.heap.size, 8, none⟩ = some (.int .i64 l8) := keep1 hb22 (by first | (with_reducible assumption) | (go_simp; done))
    have p22x12 : w22.cell? ⟨w6.heap.size, 0, none⟩ = some (.int .i64 x0) := keep1 hb22 (by first | (with_reducible assumption) | (go_simp; done))
    have p22x13 : w22.cell? ⟨w6.heap.size, 1, none⟩ = some (.int .i64 x1) := keep1 hb22 (by first | (with_reducible assumption) | (go_simp; done))
    have p22x14 : w22.cell? ⟨w6.heap.size, 2, none⟩ = some (.int .i64 x2) := keep1 hb22 (by first | (with_reducible assumption) | (go_simp; done))
    have p22x15 : w22.cell? ⟨w6.heap.size, 3, none⟩ = some (.int .i64 x3) := keep1 hb22 (by first | (with_reducible assumption) | (go_simp; done))
    have p22x16 : w22.cell? ⟨w6.heap.size, 4, none⟩ = some (.int .i64 x4) := keep1 hb22 (by first | (with_reducible assumption) | (go_simp; done))
    have p22x17 : w22.cell? ⟨w6.heap.size, 5, none⟩ = some (.int .i64 x5) := keep1 hb22 (by first | (with_reducible assumption) | (go_simp; done))
    have p22x18 : w22.cell? ⟨w6.heap.size, 6, none⟩ = some (.int .i64 x6) := keep1 hb22 (by first | (with_reducible assumption) | (go_simp; done))
    have p22x19 : w22.cell? ⟨w6.heap.size, 7, none⟩ = some (.int .i64 x7) := keep1 hb22 (by first | (with_reducible assumption) | (go_simp; done))
    have p22x20 : w22.cell? ⟨w6.heap.size, 8, none⟩ = some (.int .i64 x8) := keep1 hb22 (by first | (with_reducible assumption) | (go_simp; done))
    have p22xz0 : w.heap.size + 1 < w22.heap.size := block_lt p22x0
    have p22xz3 : w5.heap.size < w22.heap.size := block_lt p22x3
    have p22xz12 : w6.heap.size < w22.heap.size := block_lt p22x12
    have p22xs := p22xb.size
    go_wp2_with fail
    refine (KN.out _).mono ?_
    rintro e w23 ⟨rfl, hb23⟩
    have p23xb : Below w.heap.size w w23 := belowT (by first | (go_grown; done) | exact And.left (by assumption)) hb23
    have p23x0 : w23.cell? ⟨w.heap.size + 1, 0, none⟩ = some (.int .i64 p0) := keep1 hb23 (by first | (with_reducible assumption) | (go_simp; done))
    have p23x1 : w23.cell? ⟨w.heap.size + 1, 1, none⟩ = some (.int .i64 p1) := keep1 hb23 (by first | (with_reducible assumption) | (go_simp; done))
    have p23x2 : w23.cell? ⟨w.heap.size + 1, 2, none⟩ = some (.int .i64 p2) := keep1 hb23 (by first | (with_reducible assumption) | (go_simp; done))
    have p23x3 : w23.cell? ⟨w5.heap.size, 0, none⟩ = some (.int .i64 l0) := keep1 hb23 (by first | (with_reducible assumption) | (go_simp; done))
    have p23x4 : w23.cell? ⟨w5.heap.size, 1, none⟩ = some (.int .i64 l1) := keep1 hb23 (by first | (with_reducible assumption) | (go_simp; done))
    have p23x5 : w23.cell? ⟨w5.heap.size, 2, none⟩ = some (.int .i64 l2) := keep1 hb23 (by first | (with_reducible assumption) | (go_simp; done))
    have p23x6 : w23.cell? ⟨w5.heap.size, 3, none⟩ = some (.int .i64 l3) := keep1 hb23 (by first | (with_reducible assumption) | (go_simp; done))
    have p23x7 : w23.cell? ⟨w5.heap.size, 4, none⟩ = some (.int .i64 l4) := keep1 hb23 (by first | (with_reducible assumption) | (go_simp; done))
    have p23x8 : w23.cell? ⟨w5.heap.size, 5, none⟩ = some (.int .i64 l5) := keep1 hb23 (by first | (with_reducible assumption) | (go_simp; done))
    have p23x9 : w23.cell? ⟨w5.heap.size, 6, none⟩ = some (.int .i64 l6) := keep1 hb23 (by first | (with_reducible assumption) | (go_simp; done))
    have p23x10 : w23.cell? ⟨w5.heap.size, 7, none⟩ = some (.int .i64 l7) := keep1 hb23 (by first | (with_reducible assumption) | (go_simp; done))
    have p23x11 : w23.cell? ⟨w5.heap.size, 8, none⟩ = some (.int .i64 l8) := keep1 hb23 (by first | (with_reducible assumption) | (go_simp; done))
    have p23x12 : w23.cell? ⟨w6.heap.size, 0, none⟩ = some (.int .i64 x0) := keep1 hb23 (by first | (with_reducible assumption) | (go_simp; done))
    have p23x13 : w23.cell? ⟨w6.heap.size, 1, none⟩ = some (.int .i64 x1) := keep1 hb23 (by first | (with_reducible assumption) | (go_simp; done))
    have p23x14 : w23.cell? ⟨w6.heap.size, 2, none⟩ = some (.int .i64 x2) := keep1 hb23 (by first | (with_reducible assumption) | (go_simp; done))
    have p23x15 : w23.cell? ⟨w6.heap.size, 3, none⟩ = some (.int .i64 x3) := keep1 hb23 (by first | (with_reducible assumption) | (go_simp; done))
    have p23x16 : w23.cell? ⟨w6.heap.size, 4, none⟩ = some (.int .i64 x4) := keep1 hb23 (by first | (with_reducible assumption) | (go_simp; done))
    have p23x17 : w23.cell? ⟨w6.heap.size, 5, none⟩ = some (.int .i64 x5) := keep1 hb23 (by first | (with_reducible assumption) | (go_simp; done))
    have p23x18 : w23.cell? ⟨w6.heap.size, 6, none⟩ = some (.int .i64 x6) := keep1 hb23 (by first | (with_reducible assumption) | (go_simp; done))
    have p23x19 : w23.cell? ⟨w6.heap.size, 7, none⟩ = some (.int .i64 x7) := keep1 hb23 (by first | (with_reducible assumption) | (go_simp; done))
    have p23x20 : w23.cell? ⟨w6.heap.size, 8, none⟩ = some (.int .i64 x8) := keep1 hb23 (by first | (with_reducible assumption) | (go_simp; done))
    have p23x21 : w23.cell? ⟨w22.heap.size, 0, none⟩ = some (.int .i64 ua) := keep1 hb23 (by first | (with_reducible assumption) | (go_simp; done))
    have p23x22 : w23.cell? ⟨w22.heap.size, 1, none⟩ = some (.int .i64 va) := keep1 hb23 (by first | (with_reducible assumption) | (go_simp; done))
    have p23xz0 : w.heap.size + 1 < w23.heap.size := block_lt p23x0
    have p23xz3 : w5.heap.size < w23.heap.size := block_lt p23x3
    have p23xz12 : w6.heap.size < w23.heap.size := block_lt p23x12
    have p23xz21 : w22.heap.size < w23.heap.size := block_lt p23x21
    have p23xs := p23xb.size
    go_wp2_with fail
    refine (KG.out _).mono ?_
    rintro e w24 ⟨rfl, hb24⟩
    have p24xb : Below w.heap.size w w24 := belowT (by first | (go_grown; done) | exact And.left (by assumption)) hb24
    have p24x0 : w24.cell? ⟨w.heap.size + 1, 0, none⟩ = some (.int .i64 p0) := keep1 hb24 (by first | (with_reducible assumption) | (go_simp; done))
    have p24x1 : w24.cell? ⟨w.heap.size + 1, 1, none⟩ = some (.int .i64 p1) := keep1 hb24 (by first | (with_reducible assumption) | (go_simp; done))
    have p24x2 : w24.cell? ⟨w.heap.size + 1, 2, none⟩ = some (.int .i64 p2) := keep1 hb24 (by first | (with_reducible assumption) | (go_simp; done))
    have p24x3 : w24.cell? ⟨w5.heap.size, 0, none⟩ = some (.int .i64 l0) := keep1 hb24 (by first | (with_reducible assumption) | (go_simp; done))
    have p24x4 : w24.cell? ⟨w5.heap.size, 1, none⟩ = some (.int .i64 l1) := keep1 hb24 (by first | (with_reducible assumption) | (go_simp; done))
    have p24x5 : w24.cell? ⟨w5.heap.size, 2, none⟩ = some (.int .i64 l2) := keep1 hb24 (by first | (with_reducible assumption) | (go_simp; done))
    have p24x6 : w24.cell? ⟨w5.heap.size, 3, none⟩ = some (.int .i64 l3) := keep1 hb24 (by first | (with_reducible assumption) | (go_simp; done))
    have p24x7 : w24.cell? ⟨w5.heap.size, 4, none⟩ = some (.int .i64 l4) := keep1 hb24 (by first | (with_reducible assumption) | (go_simp; done))
    have p24x8 : w24.cell? ⟨w5.heap.size, 5, none⟩ = some (.int .i64 l5) := keep1 hb24 (by first | (with_reducible assumption) | (go_simp; done))
    have p24x9 : w24.cell? ⟨w5.heap.size, 6, none⟩ = some (.int .i64 l6) := keep1 hb24 (by first | (with_reducible assumption) | (go_simp; done))
    have p24x10 : w24.cell? ⟨w5.heap.size, 7, none⟩ = some (.int .i64 l7) := keep1 hb24 (by first | (with_reducible assumption) | (go_simp; done))
    have p24x11 : w24.cell? ⟨w5.heap.size, 8, none⟩ = some (.int .i64 l8) := keep1 hb24 (by first | (with_reducible assumption) | (go_simp; done))
    have p24x12 : w24.cell? ⟨w6.heap.size, 0, none⟩ = some (.int .i64 x0) := keep1 hb24 (by first | (with_reducible assumption) | (go_simp; done))
    have p24x13 : w24.cell? ⟨w6.heap.size, 1, none⟩ = some (.int .i64 x1) := keep1 hb24 (by first | (with_reducible assumption) | (go_simp; done))
    have p24x14 : w24.cell? ⟨w6.heap.size, 2, none⟩ = some (.int .i64 x2) := keep1 hb24 (by first | (with_reducible assumption) | (go_simp; done))
    have p24x15 : w24.cell? ⟨w6.heap.size, 3, none⟩ = some (.int .i64 x3) := keep1 hb24 (by first | (with_reducible assumption) | (go_simp; done))
    have p24x16 : w24.cell? ⟨w6.heap.size, 4, none⟩ = some (.int .i64 x4) := keep1 hb24 (by first | (with_reducible assumption) | (go_simp; done))
    have p24x17 : w24.cell? ⟨w6.heap.size, 5, none⟩ = some (.int .i64 x5) := keep1 hb24 (by first | (with_reducible assumption) | (go_simp; done))
    have p24x18 : w24.cell? ⟨w6.heap.size, 6, none⟩ = some (.int .i64 x6) := keep1 hb24 (by first | (with_reducible assumption) | (go_simp; done))
    have p24x19 : w24.cell? ⟨w6.heap.size, 7, none⟩ = some (.int .i64 x7) := keep1 hb24 (by first | (with_reducible assumption) | (go_simp; done))
    have p24x20 : w24.cell? ⟨w6.heap.size, 8, none⟩ = some (.int .i64 x8) := keep1 hb24 (by first | (with_reducible assumption) | (go_simp; done))
    have p24x21 : w24.cell? ⟨w22.heap.size, 0, none⟩ = some (.int .i64 ua) := keep1 hb24 (by first | (with_reducible assumption) | (go_simp; done))
    have p24x22 : w24.cell? ⟨w22.heap.size, 1, none⟩ = some (.int .i64 va) := keep1 hb24 (by first | (with_reducible assumption) | (go_simp; done))
    have p24xz0 : w.heap.size + 1 < w24.heap.size := block_lt p24x0
    have p24xz3 : w5.heap.size < w24.heap.size := block_lt p24x3
    have p24xz12 : w6.heap.size < w24.heap.size := block_lt p24x12
    have p24xz21 : w22.heap.size < w24.heap.size := block_lt p24x21
    have p24xs := p24xb.size
    go_wp2_with fail
    refine (KH.out _).mono ?_
    rintro e w25 ⟨rfl, hb25⟩
    have p25xb : Below w.heap.size w w25 := belowT (by first | (go_grown; done) | exact And.left (by assumption)) hb25
    have p25x0 : w25.cell? ⟨w.heap.size + 1, 0, none⟩ = some (.int .i64 p0) := keep1 hb25 (by first | (with_reducible assumption) | (go_simp; done))
    have p25x1 : w25.cell? ⟨w.heap.size + 1, 1, none⟩ = some (.int .i64 p1) := keep1 hb25 (by first | (with_reducible assumption) | (go_simp; done))
    have p25x2 : w25.cell? ⟨w.heap.size + 1, 2, none⟩ = some (.int .i64 p2) := keep1 hb25 (by first | (with_reducible assumption) | (go_simp; done))
    have p25x3 : w25.cell? ⟨w5.heap.size, 0, none⟩ = some (.int .i64 l0) := keep1 hb25 (by first | (with_reducible assumption) | (go_simp; done))
    have p25x4 : w25.cell? ⟨w5.heap.size, 1, none⟩ = some (.int .i64 l1) := keep1 hb25 (by first | (with_reducible assumption) | (go_simp; done))
    have p25x5 : w25.cell? ⟨w5.heap.size, 2, none⟩ = some (.int .i64 l2) := keep1 hb25 (by first | (with_reducible assumption) | (go_simp; done))
    have p25x6 : w25.cell? ⟨w5.heap.size, 3, none⟩ = some (.int .i64 l3) := keep1 hb25 (by first | (with_reducible assumption) | (go_simp; done))
    have p25x7 : w25.cell? ⟨w5.heap.size, 4, none⟩ = some (.int .i64 l4) := keep1 hb25 (by first | (with_reducible assumption) | (go_simp; done))
    have p25x8 : w25.cell? ⟨w5.heap.size, 5, none⟩ = some (.int .i64 l5) := keep1 hb25 (by first | (with_reducible assumption) | (go_simp; done))
    have p25x9 : w25.cell? ⟨w5.heap.size, 6, none⟩ = some (.int .i64 l6) := keep1 hb25 (by first | (with_reducible assumption) | (go_simp; done))
    have p25x10 : w25.cell? ⟨w5.heap.size, 7, none⟩ = some (.int .i64 l7) := keep1 hb25 (by first | (with_reducible assumption) | (go_simp; done))
    have p25x11 : w25.cell? ⟨w5.heap.size, 8, none⟩ = some (.int .i64 l8) := keep1 hb25 (by first | (with_reducible assumption) | (go_simp; done))
    have p25x12 : w25.cell? ⟨w6.heap.size, 0, none⟩ = some (.int .i64 x0) := keep1 hb25 (by first | (with_reducible assumption) | (go_simp; done))
    have p25x13 : w25.cell? ⟨w6.heap.size, 1, none⟩ = some (.int .i64 x1) := keep1 hb25 (by first | (with_reducible assumption) | (go_simp; done))
    have p25x14 : w25.cell? ⟨w6.heap.size, 2, none⟩ = some (.int .i64 x2) := keep1 hb25 (by first | (with_reducible assumption) | (go_simp; done))
    have p25x15 : w25.cell? ⟨w6.heap.size, 3, none⟩ = some (.int .i64 x3) := keep1 hb25 (by first | (with_reducible assumption) | (go_simp; done))
    have p25x16 : w25.cell? ⟨w6.heap.size, 4, none⟩ = some (.int .i64 x4) := keep1 hb25 (by first | (with_reducible assumption) | (go_simp; done))
    have p25x17 : w25.cell? ⟨w6.heap.size, 5, none⟩ = some (.int .i64 x5) := keep1 hb25 (by first | (with_reducible assumption) | (go_simp; done))
    have p25x18 : w25.cell? ⟨w6.heap.size, 6, none⟩ = some (.int .i64 x6) := keep1 hb25 (by first | (with_reducible assumption) | (go_simp; done))
    have p25x19 : w25.cell? ⟨w6.heap.size, 7, none⟩ = some (.int .i64 x7) := keep1 hb25 (by first | (with_reducible assumption) | (go_simp; done))
    have p25x20 : w25.cell? ⟨w6.heap.size, 8, none⟩ = some (.int .i64 x8) := keep1 hb25 (by first | (with_reducible assumption) | (go_simp; done))
    have p25x21 : w25.cell? ⟨w22.heap.size, 0, none⟩ = some (.int .i64 ua) := keep1 hb25 (by first | (with_reducible assumption) | (go_simp; done))
    have p25x22 : w25.cell? ⟨w22.heap.size, 1, none⟩ = some (.int .i64 va) := keep1 hb25 (by first | (with_reducible assumption) | (go_simp; done))
    have p25xz0 : w.heap.size + 1 < w25.heap.size := block_lt p25x0
    have p25xz3 : w5.heap.size < w25.heap.size := block_lt p25x3
    have p25xz12 : w6.heap.size < w25.heap.size := block_lt p25x12
    have p25xz21 : w22.heap.size < w25.heap.size := block_lt p25x21
    have p25xs := p25xb.size
    go_wp2_with fail
    refine (KO.out _ (rangeB (w := w) (by first | (with_reducible assumption) | (go_grown; done)) hr)).mono ?_
    rintro e w26 ⟨rfl, hb26⟩
    have p26xb : Below w.heap.size w w26 := belowT (by first | (go_grown; done) | exact And.left (by assumption)) hb26
    have p26x0 : w26.cell? ⟨w.heap.size + 1, 0, none⟩ = some (.int .i64 p0) := keep1 hb26 (by first | (with_reducible assumption) | (go_simp; done))
    have p26x1 : w26.cell? ⟨w.heap.size + 1, 1, none⟩ = some (.int .i64 p1) := keep1 hb26 (by first | (with_reducible assumption) | (go_simp; done))
    have p26x2 : w26.cell? ⟨w.heap.size + 1, 2, none⟩ = some (.int .i64 p2) := keep1 hb26 (by first | (with_reducible assumption) | (go_simp; done))
    have p26x3 : w26.cell? ⟨w5.heap.size, 0, none⟩ = some (.int .i64 l0) := keep1 hb26 (by first | (with_reducible assumption) | (go_simp; done))
    have p26x4 : w26.cell? ⟨w5.heap.size, 1, none⟩ = some (.int .i64 l1) := keep1 hb26 (by first | (with_reducible assumption) | (go_simp; done))
    have p26x5 : w26.cell? ⟨w5.heap.size, 2, none⟩ = some (.int .i64 l2) := keep1 hb26 (by first | (with_reducible assumption) | (go_simp; done))
    have p26x6 : w26.cell? ⟨w5.heap.size, 3, none⟩ = some (.int .i64 l3) := keep1 hb26 (by first | (with_reducible assumption) | (go_simp; done))
    have p26x7 : w26.cell? ⟨w5.heap.size, 4, none⟩ = some (.int .i64 l4) := keep1 hb26 (by first | (with_reducible assumption) | (go_simp; done))
    have p26x8 : w26.cell? ⟨w5.heap.size, 5, none⟩ = some (.int .i64 l5) := keep1 hb26 (by first | (with_reducible assumption) | (go_simp; done))
    have p26x9 : w26.cell? ⟨w5.heap.size, 6, none⟩ = some (.int .i64 l6) := keep1 hb26 (by first | (with_reducible assumption) | (go_simp; done))
    have p26x10 : w26.cell? ⟨w5.heap.size, 7, none⟩ = some (.int .i64 l7) := keep1 hb26 (by first | (with_reducible assumption) | (go_simp; done))
    have p26x11 : w26.cell? ⟨w5.heap.size, 8, none⟩ = some (.int .i64 l8) := keep1 hb26 (by first | (with_reducible assumption) | (go_simp; done))
    have p26x12 : w26.cell? ⟨w6.heap.size, 0, none⟩ = some (.int .i64 x0) := keep1 hb26 (by first | (with_reducible assumption) | (go_simp; done))
    have p26x13 : w26.cell? ⟨w6.heap.size, 1, none⟩ = some (.int .i64 x1) := keep1 hb26 (by first | (with_reducible assumption) | (go_simp; done))
    have p26x14 : w26.cell? ⟨w6.heap.size, 2, none⟩ = some (.int .i64 x2) := keep1 hb26 (by first | (with_reducible assumption) | (go_simp; done))
    have p26x15 : w26.cell? ⟨w6.heap.size, 3, none⟩ = some (.int .i64 x3) := keep1 hb26 (by first | (with_reducible assumption) | (go_simp; done))
    have p26x16 : w26.cell? ⟨w6.heap.size, 4, none⟩ = some (.int .i64 x4) := keep1 hb26 (by first | (with_reducible assumption) | (go_simp; done))
    have p26x17 : w26.cell? ⟨w6.heap.size, 5, none⟩ = some (.int .i64 x5) := keep1 hb26 (by first | (with_reducible assumption) | (go_simp; done))
    have p26x18 : w26.cell? ⟨w6.heap.size, 6, none⟩ = some (.int .i64 x6) := keep1 hb26 (by first | (with_reducible assumption) | (go_simp; done))
    have p26x19 : w26.cell? ⟨w6.heap.size, 7, none⟩ = some (.int .i64 x7) := keep1 hb26 (by first | (with_reducible assumption) | (go_simp; done))
    have p26x20 : w26.cell? ⟨w6.heap.size, 8, none⟩ = some (.int .i64 x8) := keep1 hb26 (by first | (with_reducible assumption) | (go_simp; done))
    have p26x21 : w26.cell? ⟨w22.heap.size, 0, none⟩ = some (.int .i64 ua) := keep1 hb26 (by first | (with_reducible assumption) | (go_simp; done))
    have p26x22 : w26.cell? ⟨w22.heap.size, 1, none⟩ = some (.int .i64 va) := keep1 hb26 (by first | (with_reducible assumption) | (go_simp; done))
    have p26xz0 : w.heap.size + 1 < w26.heap.size := block_lt p26x0
    have p26xz3 : w5.heap.size < w26.heap.size := block_lt p26x3
    have p26xz12 : w6.heap.size < w26.heap.size := block_lt p26x12
    have p26xz21 : w22.heap.size < w26.heap.size := block_lt p26x21
    have p26xs := p26xb.size
    go_wp2_with fail
    refine (KY.out _ (ht.below (by first | (with_reducible assumption) | (go_grown; done)))).mono ?_
    rintro e w27 ⟨rfl, hb27⟩
    have p27xb : Below w.heap.size w w27 := belowT (by first | (go_grown; done) | exact And.left (by assumption)) hb27
    have p27x0 : w27.cell? ⟨w.heap.size + 1, 0, none⟩ = some (.int .i64 p0) := keep1 hb27 (by first | (with_reducible assumption) | (go_simp; done))
    have p27x1 : w27.cell? ⟨w.heap.size + 1, 1, none⟩ = some (.int .i64 p1) := keep1 hb27 (by first | (with_reducible assumption) | (go_simp; done))
    have p27x2 : w27.cell? ⟨w.heap.size + 1, 2, none⟩ = some (.int .i64 p2) := keep1 hb27 (by first | (with_reducible assumption) | (go_simp; done))
    have p27x3 : w27.cell? ⟨w5.heap.size, 0, none⟩ = some (.int .i64 l0) := keep1 hb27 (by first | (with_reducible assumption) | (go_simp; done))
    have p27x4 : w27.cell? ⟨w5.heap.size, 1, none⟩ = some (.int .i64 l1) := keep1 hb27 (by first | (with_reducible assumption) | (go_simp; done))
    have p27x5 : w27.cell? ⟨w5.heap.size, 2, none⟩ = some (.int .i64 l2) := keep1 hb27 (by first | (with_reducible assumption) | (go_simp; done))
    have p27x6 : w27.cell? ⟨w5.heap.size, 3, none⟩ = some (.int .i64 l3) := keep1 hb27 (by first | (with_reducible assumption) | (go_simp; done))
    have p27x7 : w27.cell? ⟨w5.heap.size, 4, none⟩ = some (.int .i64 l4) := keep1 hb27 (by first | (with_reducible assumption) | (go_simp; done))
    have p27x8 : w27.cell? ⟨w5.heap.size, 5, none⟩ = some (.int .i64 l5) := keep1 hb27 (by first | (with_reducible assumption) | (go_simp; done))
    have p27x9 : w27.cell? ⟨w5.heap.size, 6, none⟩ = some (.int .i64 l6) := keep1 hb27 (by first | (with_reducible assumption) | (go_simp; done))
    have p27x10 : w27.cell? ⟨w5.heap.size, 7, none⟩ = some (.int .i64 l7) := keep1 hb27 (by first | (with_reducible assumption) | (go_simp; done))
    have p27x11 : w27.cell? ⟨w5.heap.size, 8, none⟩ = some (.int .i64 l8) := keep1 hb27 (by first | (with_reducible assumption) | (go_simp; done))
    have p27x12 : w27.cell? ⟨w6.heap.size, 0, none⟩ = some (.int .i64 x0) := keep1 hb27 (by first | (with_reducible assumption) | (go_simp; done))
    have p27x13 : w27.cell? ⟨w6.heap.size, 1, none⟩ = some (.int .i64 x1) := keep1 hb27 (by first | (with_reducible assumption) | (go_simp; done))
    have p27x14 : w27.cell? ⟨w6.heap.size, 2, none⟩ = some (.int .i64 x2) := keep1 hb27 (by first | (with_reducible assumption) | (go_simp; done))
    have p27x15 : w27.cell? ⟨w6.heap.size, 3, none⟩ = some (.int .i64 x3) := keep1 hb27 (by first | (with_reducible assumption) | (go_simp; done))
    have p27x16 : w27.cell? ⟨w6.heap.size, 4, none⟩ = some (.int .i64 x4) := keep1 hb27 (by first | (with_reducible assumption) | (go_simp; done))
    have p27x17 : w27.cell? ⟨w6.heap.size, 5, none⟩ = some (.int .i64 x5) := keep1 hb27 (by first | (with_reducible assumption) | (go_simp; done))
    have p27x18 : w27.cell? ⟨w6.heap.size, 6, none⟩ = some (.int .i64 x6) := keep1 hb27 (by first | (with_reducible assumption) | (go_simp; done))
    have p27x19 : w27.cell? ⟨w6.heap.size, 7, none⟩ = some (.int .i64 x7) := keep1 hb27 (by first | (with_reducible assumption) | (go_simp; done))
    have p27x20 : w27.cell? ⟨w6.heap.size, 8, none⟩ = some (.int .i64 x8) := keep1 hb27 (by first | (with_reducible assumption) | (go_simp; done))
    have p27x21 : w27.cell? ⟨w22.heap.size, 0, none⟩ = some (.int .i64 ua) := keep1 hb27 (by first | (with_reducible assumption) | (go_simp; done))
    have p27x22 : w27.cell? ⟨w22.heap.size, 1, none⟩ = some (.int .i64 va) := keep1 hb27 (by first | (with_reducible assumption) | (go_simp; done))
    have p27x23 : w27.cell? ⟨w26.heap.size, 0, none⟩ = some (.int .i64 z0) := keep1 hb27 (by first | (with_reducible assumption) | (go_simp; done))
    have p27x24 : w27.cell? ⟨w26.heap.size, 1, none⟩ = some (.int .i64 z1) := keep1 hb27 (by first | (with_reducible assumption) | (go_simp; done))
    have p27x25 : w27.cell? ⟨w26.heap.size, 2, none⟩ = some (.int .i64 z2) := keep1 hb27 (by first | (with_reducible assumption) | (go_simp; done))
    have p27x26 : w27.cell? ⟨w26.heap.size, 3, none⟩ = some (.int .i64 z3) := keep1 hb27 (by first | (with_reducible assumption) | (go_simp; done))
    have p27x27 : w27.cell? ⟨w26.heap.size, 4, none⟩ = some (.int .i64 z4) := keep1 hb27 (by first | (with_reducible assumption) | (go_simp; done))
    have p27x28 : w27.cell? ⟨w26.heap.size, 5, none⟩ = some (.int .i64 z5) := keep1 hb27 (by first | (with_reducible assumption) | (go_simp; done))
    have p27x29 : w27.cell? ⟨w26.heap.size, 6, none⟩ = some (.int .i64 z6) := keep1 hb27 (by first | (with_reducible assumption) | (go_simp; done))
    have p27x30 : w27.cell? ⟨w26.heap.size, 7, none⟩ = some (.int .i64 z7) := keep1 hb27 (by first | (with_reducible assumption) | (go_simp; done))
    have p27x31 : w27.cell? ⟨w26.heap.size, 8, none⟩ = some (.int .i64 z8) := keep1 hb27 (by first | (with_reducible assumption) | (go_simp; done))
    have p27xz0 : w.heap.size + 1 < w27.heap.size := block_lt p27x0
    have p27xz3 : w5.heap.size < w27.heap.size := block_lt p27x3
    have p27xz12 : w6.heap.size < w27.heap.size := block_lt p27x12
    have p27xz21 : w22.heap.size < w27.heap.size := block_lt p27x21
    have p27xz23 : w26.heap.size < w27.heap.size := block_lt p27x23
    have p27xs := p27xb.size
    go_wp2_with fail
    refine (KT.out _ (ht.below (by first | (with_reducible assumption) | (go_grown; done)))).mono ?_
    rintro e w28 ⟨rfl, hb28⟩
    have p28xb : Below w.heap.size w w28 := belowT (by first | (go_grown; done) | exact And.left (by assumption)) hb28
    have p28x0 : w28.cell? ⟨w.heap.size + 1, 0, none⟩ = some (.int .i64 p0) := keep1 hb28 (by first | (with_reducible assumption) | (go_simp; done))
    have p28x1 : w28.cell? ⟨w.heap.size + 1, 1, none⟩ = some (.int .i64 p1) := keep1 hb28 (by first | (with_reducible assumption) | (go_simp; done))
    have p28x2 : w28.cell? ⟨w.heap.size + 1, 2, none⟩ = some (.int .i64 p2) := keep1 hb28 (by first | (with_reducible assumption) | (go_simp; done))
    have p28x3 : w28.cell? ⟨w5.heap.size, 0, none⟩ = some (.int .i64 l0) := keep1 hb28 (by first | (with_reducible assumption) | (go_simp; done))
    have p28x4 : w28.cell? ⟨w5.heap.size, 1, none⟩ = some (.int .i64 l1) := keep1 hb28 (by first | (with_reducible assumption) | (go_simp; done))
    have p28x5 : w28.cell? ⟨w5.heap.size, 2, none⟩ = some (.int .i64 l2) := keep1 hb28 (by first | (with_reducible assumption) | (go_simp; done))
    have p28x6 : w28.cell? ⟨w5.heap.size, 3, none⟩ = some (.int .i64 l3) := keep1 hb28 (by first | (with_reducible assumption) | (go_simp; done))
    have p28x7 : w28.cell? ⟨w5.heap.size, 4, none⟩ = some (.int .i64 l4) := keep1 hb28 (by first | (with_reducible assumption) | (go_simp; done))
    have p28x8 : w28.cell? ⟨w5.heap.size, 5, none⟩ = some (.int .i64 l5) := keep1 hb28 (by first | (with_reducible assumption) | (go_simp; done))
    have p28x9 : w28.cell? ⟨w5.heap.size, 6, none⟩ = some (.int .i64 l6) := keep1 hb28 (by first | (with_reducible assumption) | (go_simp; done))
    have p28x10 : w28.cell? ⟨w5.heap.size, 7, none⟩ = some (.int .i64 l7) := keep1 hb28 (by first | (with_reducible assumption) | (go_simp; done))
    have p28x11 : w28.cell? ⟨w5.heap.size, 8, none⟩ = some (.int .i64 l8) := keep1 hb28 (by first | (with_reducible assumption) | (go_simp; done))
    have p28x12 : w28.cell? ⟨w6.heap.size, 0, none⟩ = some (.int .i64 x0) := keep1 hb28 (by first | (with_reducible assumption) | (go_simp; done))
    have p28x13 : w28.cell? ⟨w6.heap.size, 1, none⟩ = some (.int .i64 x1) := keep1 hb28 (by first | (with_reducible assumption) | (go_simp; done))
    have p28x14 : w28.cell? ⟨w6.heap.size, 2, none⟩ = some (.int .i64 x2) := keep1 hb28 (by first | (with_reducible assumption) | (go_simp; done))
    have p28x15 : w28.cell? ⟨w6.heap.size, 3, none⟩ = some (.int .i64 x3) := keep1 hb28 (by first | (with_reducible assumption) | (go_simp; done))
    have p28x16 : w28.cell? ⟨w6.heap.size, 4, none⟩ = some (.int .i64 x4) := keep1 hb28 (by first | (with_reducible assumption) | (go_simp; done))
    have p28x17 : w28.cell? ⟨w6.heap.size, 5, none⟩ = some (.int .i64 x5) := keep1 hb28 (by first | (with_reducible assumption) | (go_simp; done))
    have p28x18 : w28.cell? ⟨w6.heap.size, 6, none⟩ = some (.int .i64 x6) := keep1 hb28 (by first | (with_reducible assumption) | (go_simp; done))
    have p28x19 : w28.cell? ⟨w6.heap.size, 7, none⟩ = some (.int .i64 x7) := keep1 hb28 (by first | (with_reducible assumption) | (go_simp; done))
    have p28x20 : w28.cell? ⟨w6.heap.size, 8, none⟩ = some (.int .i64 x8) := keep1 hb28 (by first | (with_reducible assumption) | (go_simp; done))
    have p28x21 : w28.cell? ⟨w22.heap.size, 0, none⟩ = some (.int .i64 ua) := keep1 hb28 (by first | (with_reducible assumption) | (go_simp; done))
    have p28x22 : w28.cell? ⟨w22.heap.size, 1, none⟩ = some (.int .i64 va) := keep1 hb28 (by first | (with_reducible assumption) | (go_simp; done))
    have p28x23 : w28.cell? ⟨w26.heap.size, 0, none⟩ = some (.int .i64 z0) := keep1 hb28 (by first | (with_reducible assumption) | (go_simp; done))
    have p28x24 : w28.cell? ⟨w26.heap.size, 1, none⟩ = some (.int .i64 z1) := keep1 hb28 (by first | (with_reducible assumption) | (go_simp; done))
    have p28x25 : w28.cell? ⟨w26.heap.size, 2, none⟩ = some (.int .i64 z2) := keep1 hb28 (by first | (with_reducible assumption) | (go_simp; done))
    have p28x26 : w28.cell? ⟨w26.heap.size, 3, none⟩ = some (.int .i64 z3) := keep1 hb28 (by first | (with_reducible assumption) | (go_simp; done))
    have p28x27 : w28.cell? ⟨w26.heap.size, 4, none⟩ = some (.int .i64 z4) := keep1 hb28 (by first | (with_reducible assumption) | (go_simp; done))
    have p28x28 : w28.cell? ⟨w26.heap.size, 5, none⟩ = some (.int .i64 z5) := keep1 hb28 (by first | (with_reducible assumption) | (go_simp; done))
    have p28x29 : w28.cell? ⟨w26.heap.size, 6, none⟩ = some (.int .i64 z6) := keep1 hb28 (by first | (with_reducible assumption) | (go_simp; done))
    have p28x30 : w28.cell? ⟨w26.heap.size, 7, none⟩ = some (.int .i64 z7) := keep1 hb28 (by first | (with_reducible assumption) | (go_simp; done))
    have p28x31 : w28.cell? ⟨w26.heap.size, 8, none⟩ = some (.int .i64 z8) := keep1 hb28 (by first | (with_reducible assumption) | (go_simp; done))
    have p28x32 : w28.cell? ⟨w27.heap.size, 0, none⟩ = some (.int .i64 ya) := keep1 hb28 (by first | (with_reducible assumption) | (go_simp; done))
    have p28x33 : w28.cell? ⟨w27.heap.size, 1, none⟩ = some (.int .i64 yb) := keep1 hb28 (by first | (with_reducible assumption) | (go_simp; done))
    have p28xz0 : w.heap.size + 1 < w28.heap.size := block_lt p28x0
    have p28xz3 : w5.heap.size < w28.heap.size := block_lt p28x3
    have p28xz12 : w6.heap.size < w28.heap.size := block_lt p28x12
    have p28xz21 : w22.heap.size < w28.heap.size := block_lt p28x21
    have p28xz23 : w26.heap.size < w28.heap.size := block_lt p28x23
    have p28xz32 : w27.heap.size < w28.heap.size := block_lt p28x32
    have p28xs := p28xb.size
    go_wp2_with fail
    refine (KU.out _ (ht.below (by first | (with_reducible assumption) | (go_grown; done)))).mono ?_
    rintro e w29 ⟨rfl, hb29⟩
    have p29xb : Below w.heap.size w w29 := belowT (by first | (go_grown; done) | exact And.left (by assumption)) hb29
    have p29x0 : w29.cell? ⟨w.heap.size + 1, 0, none⟩ = some (.int .i64 p0) := keep1 hb29 (by first | (with_reducible assumption) | (go_simp; done))
    have p29x1 : w29.cell? ⟨w.heap.size + 1, 1, none⟩ = some (.int .i64 p1) := keep1 hb29 (by first | (with_reducible assumption) | (go_simp; done))
    have p29x2 : w29.cell? ⟨w.heap.size + 1, 2, none⟩ = some (.int .i64 p2) := keep1 hb29 (by first | (with_reducible assumption) | (go_simp; done))
    have p29x3 : w29.cell? ⟨w5.heap.size, 0, none⟩ = some (.int .i64 l0) := keep1 hb29 (by first | (with_reducible assumption) | (go_simp; done))
    have p29x4 : w29.cell? ⟨w5.heap.size, 1, none⟩ = some (.int .i64 l1) := keep1 hb29 (by first | (with_reducible assumption) | (go_simp; done))
    have p29x5 : w29.cell? ⟨w5.heap.size, 2, none⟩ = some (.int .i64 l2) := keep1 hb29 (by first | (with_reducible assumption) | (go_simp; done))
    have p29x6 : w29.cell? ⟨w5.heap.size, 3, none⟩ = some (.int .i64 l3) := keep1 hb29 (by first | (with_reducible assumption) | (go_simp; done))
    have p29x7 : w29.cell? ⟨w5.heap.size, 4, none⟩ = some (.int .i64 l4) := keep1 hb29 (by first | (with_reducible assumption) | (go_simp; done))
    have p29x8 : w29.cell? ⟨w5.heap.size, 5, none⟩ = some (.int .i64 l5) := keep1 hb29 (by first | (with_reducible assumption) | (go_simp; done))
    have p29x9 : w29.cell? ⟨w5.heap.size, 6, none⟩ = some (.int .i64 l6) := keep1 hb29 (by first | (with_reducible assumption) | (go_simp; done))
    have p29x10 : w29.cell? ⟨w5.heap.size, 7, none⟩ = some (.int .i64 l7) := keep1 hb29 (by first | (with_reducible assumption) | (go_simp; done))
    have p29x11 : w29.cell? ⟨w5.heap.size, 8, none⟩ = some (.int .i64 l8) := keep1 hb29 (by first | (with_reducible assumption) | (go_simp; done))
    have p29x12 : w29.cell? ⟨w6.heap.size, 0, none⟩ = some (.int .i64 x0) := keep1 hb29 (by first | (with_reducible assumption) | (go_simp; done))
    have p29x13 : w29.cell? ⟨w6.heap.size, 1, none⟩ = some (.int .i64 x1) := keep1 hb29 (by first | (with_reducible assumption) | (go_simp; done))
    have p29x14 : w29.cell? ⟨w6.heap.size, 2, none⟩ = some (.int .i64 x2) := keep1 hb29 (by first | (with_reducible assumption) | (go_simp; done))
    have p29x15 : w29.cell? ⟨w6.heap.size, 3, none⟩ = some (.int .i64 x3) := keep1 hb29 (by first | (with_reducible assumption) | (go_simp; done))
    have p29x16 : w29.cell? ⟨w6.heap.size, 4, none⟩ = some (.int .i64 x4) := keep1 hb29 (by first | (with_reducible assumption) | (go_simp; done))
    have p29x17 : w29.cell? ⟨w6.heap.size, 5, none⟩ = some (.int .i64 x5) := keep1 hb29 (by first | (with_reducible assumption) | (go_simp; done))
    have p29x18 : w29.cell? ⟨w6.heap.size, 6, none⟩ = some (.int .i64 x6) := keep1 hb29 (by first | (with_reducible assumption) | (go_simp; done))
    have p29x19 : w29.cell? ⟨w6.heap.size, 7, none⟩ = some (.int .i64 x7) := keep1 hb29 (by first | (with_reducible assumption) | (go_simp; done))
    have p29x20 : w29.cell? ⟨w6.heap.size, 8, none⟩ = some (.int .i64 x8) := keep1 hb29 (by first | (with_reducible assumption) | (go_simp; done))
    have p29x21 : w29.cell? ⟨w22.heap.size, 0, none⟩ = some (.int .i64 ua) := keep1 hb29 (by first | (with_reducible assumption) | (go_simp; done))
    have p29x22 : w29.cell? ⟨w22.heap.size, 1, none⟩ = some (.int .i64 va) := keep1 hb29 (by first | (with_reducible assumption) | (go_simp; done))
    have p29x23 : w29.cell? ⟨w26.heap.size, 0, none⟩ = some (.int .i64 z0) := keep1 hb29 (by first | (with_reducible assumption) | (go_simp; done))
    have p29x24 : w29.cell? ⟨w26.heap.size, 1, none⟩ = some (.int .i64 z1) := keep1 hb29 (by first | (with_reducible assumption) | (go_simp; done))
    have p29x25 : w29.cell? ⟨w26.heap.size, 2, none⟩ = some (.int .i64 z2) := keep1 hb29 (by first | (with_reducible assumption) | (go_simp; done))
    have p29x26 : w29.cell? ⟨w26.heap.size, 3, none⟩ = some (.int .i64 z3) := keep1 hb29 (by first | (with_reducible assumption) | (go_simp; done))
    have p29x27 : w29.cell? ⟨w26.heap.size, 4, none⟩ = some (.int .i64 z4) := keep1 hb29 (by first | (with_reducible assumption) | (go_simp; done))
    have p29x28 : w29.cell? ⟨w26.heap.size, 5, none⟩ = some (.int .i64 z5) := keep1 hb29 (by first | (with_reducible assumption) | (go_simp; done))
    have p29x29 : w29.cell? ⟨w26.heap.size, 6, none⟩ = some (.int .i64 z6) := keep1 hb29 (by first | (with_reducible assumption) | (go_simp; done))
    have p29x30 : w29.cell? ⟨w26.heap.size, 7, none⟩ = some (.int .i64 z7) := keep1 hb29 (by first | (with_reducible assumption) | (go_simp; done))
    have p29x31 : w29.cell? ⟨w26.heap.size, 8, none⟩ = some (.int .i64 z8) := keep1 hb29 (by first | (with_reducible assumption) | (go_simp; done))
    have p29x32 : w29.cell? ⟨w27.heap.size, 0, none⟩ = some (.int .i64 ya) := keep1 hb29 (by first | (with_reducible assumption) | (go_simp; done))
    have p29x33 : w29.cell? ⟨w27.heap.size, 1, none⟩ = some (.int .i64 yb) := keep1 hb29 (by first | (with_reducible assumption) | (go_simp; done))
    have p29xz0 : w.heap.size + 1 < w29.heap.size := block_lt p29x0
    have p29xz3 : w5.heap.size < w29.heap.size := block_lt p29x3
    have p29xz12 : w6.heap.size < w29.heap.size := block_lt p29x12
    have p29xz21 : w22.heap.size < w29.heap.size := block_lt p29x21
    have p29xz23 : w26.heap.size < w29.heap.size := block_lt p29x23
    have p29xz32 : w27.heap.size < w29.heap.size := block_lt p29x32
    have p29xs := p29xb.size
    go_wp2_with (first | (go_at_call 27; refine (KW.out _).mono ?_; rintro e wz ⟨rfl, rfl⟩) | (go_at_call 36; refine (KM.out _).mono ?_; rintro e wz ⟨rfl, rfl⟩))
    go_returns
    exact ⟨rfl, by first | (go_grown; done) | assumption⟩
  · go_simp
    refine hK.out _ _ (hH.below (belowA _ _)) (fun hH1 => ?_)
    clear hK
    try simp only [Act.put, List.setIfInBounds_toArray, List.set_cons_zero, List.set_cons_succ, List.getElem_toArray, List.getElem_cons_succ, List.getElem_cons_zero]
    refine wpAnyH_ready (rs := [14]) (by kernel_rfl) (by simp) ?_
    refine AllReadyH.cons rfl (fun K hK => ?_) AllReadyH.nil
    go_simp
    refine (KC.out _ (rangeB (w := w) hH1.1 hr)).mono ?_
    rintro e wa ⟨rfl, hba⟩
    have x0c : wa.cell? ⟨w7.heap.size + 1, 0, none⟩ = some (.int .i64 0) := keep1 hba (by go_simp)
    have x1c : wa.cell? ⟨w7.heap.size + 1, 1, none⟩ = some (.int .i64 0) := keep1 hba (by go_simp)
    have x2c : wa.cell? ⟨w7.heap.size + 1, 2, none⟩ = some (.int .i64 0) := keep1 hba (by go_simp)
    have x3c : wa.cell? ⟨w7.heap.size + 1, 3, none⟩ = some (.int .i64 0) := keep1 hba (by go_simp)
    have x4c : wa.cell? ⟨w7.heap.size + 1, 4, none⟩ = some (.int .i64 0) := keep1 hba (by go_simp)
    have x5c : wa.cell? ⟨w7.heap.size + 1, 5, none⟩ = some (.int .i64 0) := keep1 hba (by go_simp)
    have x6c : wa.cell? ⟨w7.heap.size + 1, 6, none⟩ = some (.int .i64 0) := keep1 hba (by go_simp)
    have x7c : wa.cell? ⟨w7.heap.size + 1, 7, none⟩ = some (.int .i64 0) := keep1 hba (by go_simp)
    have x8c : wa.cell? ⟨w7.heap.size + 1, 8, none⟩ = some (.int .i64 0) := keep1 hba (by go_simp)
    have x0f : wa.frozen? ⟨w7.heap.size + 1, 0, none⟩ = false := keepF hba (by simp) (by go_simp)
    have x1f : wa.frozen? ⟨w7.heap.size + 1, 1, none⟩ = false := keepF hba (by simp) (by go_simp)
    have x2f : wa.frozen? ⟨w7.heap.size + 1, 2, none⟩ = false := keepF hba (by simp) (by go_simp)
    have x3f : wa.frozen? ⟨w7.heap.size + 1, 3, none⟩ = false := keepF hba (by simp) (by go_simp)
    have x4f : wa.frozen? ⟨w7.heap.size + 1, 4, none⟩ = false := keepF hba (by simp) (by go_simp)
    have x5f : wa.frozen? ⟨w7.heap.size + 1, 5, none⟩ = false := keepF hba (by simp) (by go_simp)
    have x6f : wa.frozen? ⟨w7.heap.size + 1, 6, none⟩ = false := keepF hba (by simp) (by go_simp)
    have x7f : wa.frozen? ⟨w7.heap.size + 1, 7, none⟩ = false := keepF hba (by simp) (by go_simp)
    have x8f : wa.frozen? ⟨w7.heap.size + 1, 8, none⟩ = false := keepF hba (by simp) (by go_simp)
    refine hK.out _ _ (hH1.below hba) (fun hH2 => ?_)
    clear hK
    try simp only [Act.put, List.setIfInBounds_toArray, List.set_cons_zero, List.set_cons_succ, List.getElem_toArray, List.getElem_cons_succ, List.getElem_cons_zero]
    refine' wpAnyH_take (i := 15) (v := _) rfl (by kernel_rfl) (by kernel_rfl) (by kernel_rfl) (fun _ _ _ h => h) (Or.inl ⟨by kernel_rfl, ?hy⟩) (by assumption) ?_
    case hy => (intro W hW; obtain ⟨hb, h0, h1, h2, h3, h4, h5, h6, h7, h8, h9, h10, h11, h12, h13, h14, h15, h16, h17, h18, h19, h20, h21, h22, h23, h24, h25, h26, h27, h28, h29, h30, h31, h32, h33, h34, h35, h36, h37, h38, h39⟩ := hW; go_simp; try (with_reducible rfl))
    try simp only [Act.put, List.setIfInBounds_toArray, List.set_cons_zero, List.set_cons_succ, List.getElem_toArray, List.getElem_cons_succ, List.getElem_cons_zero]
    refine' wpAnyH_take (i := 16) (v := _) rfl (by kernel_rfl) (by kernel_rfl) (by kernel_rfl) (fun _ _ _ h => h) (Or.inl ⟨by kernel_rfl, ?hy⟩) (by assumption) ?_
    case hy => (intro W hW; obtain ⟨hb, h0, h1, h2, h3, h4, h5, h6, h7, h8, h9, h10, h11, h12, h13, h14, h15, h16, h17, h18, h19, h20, h21, h22, h23, h24, h25, h26, h27, h28, h29, h30, h31, h32, h33, h34, h35, h36, h37, h38, h39⟩ := hW; go_simp; try (with_reducible rfl))
    try simp only [Act.put, List.setIfInBounds_toArray, List.set_cons_zero, List.set_cons_succ, List.getElem_toArray, List.getElem_cons_succ, List.getElem_cons_zero]
    refine' wpAnyH_take (i := 17) (v := _) rfl (by kernel_rfl) (by kernel_rfl) (by kernel_rfl) (fun _ _ _ h => h) (Or.inl ⟨by kernel_rfl, ?hy⟩) (by assumption) ?_
    case hy => (intro W hW; obtain ⟨hb, h0, h1, h2, h3, h4, h5, h6, h7, h8, h9, h10, h11, h12, h13, h14, h15, h16, h17, h18, h19, h20, h21, h22, h23, h24, h25, h26, h27, h28, h29, h30, h31, h32, h33, h34, h35, h36, h37, h38, h39⟩ := hW; go_simp; try (with_reducible rfl))
    try simp only [Act.put, List.setIfInBounds_toArray, List.set_cons_zero, List.set_cons_succ, List.getElem_toArray, List.getElem_cons_succ, List.getElem_cons_zero]
    refine wpAnyH_ready (rs := [19]) (by kernel_rfl) (by simp) ?_
    refine AllReadyH.cons rfl (fun K hK => ?_) AllReadyH.nil
    go_simp
    skip
    refine hK.out _ _ (((((((((hH2.set _ zq2 zq3 zq4 zq5).set _ zq2 zq3 zq4 zq5).set _ zq2 zq3 zq4 zq5).set _ zq2 zq3 zq4 zq5).set _ zq2 zq3 zq4 zq5).set _ zq2 zq3 zq4 zq5).set _ zq2 zq3 zq4 zq5).set _ zq2 zq3 zq4 zq5).set _ zq2 zq3 zq4 zq5) (fun hH3 => ?_)
    clear hK
    try simp only [Act.put, List.setIfInBounds_toArray, List.set_cons_zero, List.set_cons_succ, List.getElem_toArray, List.getElem_cons_succ, List.getElem_cons_zero]
    refine' wpAnyH_take (i := 20) (v := _) rfl (by kernel_rfl) (by kernel_rfl) (by kernel_rfl) (fun _ _ _ h => h) (Or.inl ⟨by kernel_rfl, ?hy⟩) (by assumption) ?_
    case hy => (intro W hW; obtain ⟨hb, h0, h1, h2, h3, h4, h5, h6, h7, h8, h9, h10, h11, h12, h13, h14, h15, h16, h17, h18, h19, h20, h21, h22, h23, h24, h25, h26, h27, h28, h29, h30, h31, h32, h33, h34, h35, h36, h37, h38, h39⟩ := hW; go_simp; try (with_reducible rfl))
    try simp only [Act.put, List.setIfInBounds_toArray, List.set_cons_zero, List.set_cons_succ, List.getElem_toArray, List.getElem_cons_succ, List.getElem_cons_zero]
    refine wpAnyH_done (by kernel_rfl) ?_ _
    refine then_world (fun V => RwS k n s r p0 p1 p2 q0 q1 q2 e0 e1 e2 l0 l1 l2 l3 l4 l5 l6 l7 l8 x0 x1 x2 x3 x4 x5 x6 x7 x8 y0 y1 y2 y3 y4 y5 y6 y7 y8 w w5.heap.size w6.heap.size w7.heap.size V ∧ V.cell? ⟨w7.heap.size + 1, 0, none⟩ = some (.int .i64 y0) ∧ V.cell? ⟨w7.heap.size + 1, 1, none⟩ = some (.int .i64 y1) ∧ V.cell? ⟨w7.heap.size + 1, 2, none⟩ = some (.int .i64 y2) ∧ V.cell? ⟨w7.heap.size + 1, 3, none⟩ = some (.int .i64 y3) ∧ V.cell? ⟨w7.heap.size + 1, 4, none⟩ = some (.int .i64 y4) ∧ V.cell? ⟨w7.heap.size + 1, 5, none⟩ = some (.int .i64 y5) ∧ V.cell? ⟨w7.heap.size + 1, 6, none⟩ = some (.int .i64 y6) ∧ V.cell? ⟨w7.heap.size + 1, 7, none⟩ = some (.int .i64 y7) ∧ V.cell? ⟨w7.heap.size + 1, 8, none⟩ = some (.int .i64 y8)) ⟨hH3, (seto (b' := w7.heap.size + 1) (o' := 8) (.int .i64 y8) (Or.inr (by decide)) (seto (b' := w7.heap.size + 1) (o' := 7) (.int .i64 y7) (Or.inr (by decide)) (seto (b' := w7.heap.size + 1) (o' := 6) (.int .i64 y6) (Or.inr (by decide)) (seto (b' := w7.heap.size + 1) (o' := 5) (.int .i64 y5) (Or.inr (by decide)) (seto (b' := w7.heap.size + 1) (o' := 4) (.int .i64 y4) (Or.inr (by decide)) (seto (b' := w7.heap.size + 1) (o' := 3) (.int .i64 y3) (Or.inr (by decide)) (seto (b' := w7.heap.size + 1) (o' := 2) (.int .i64 y2) (Or.inr (by decide)) (seto (b' := w7.heap.size + 1) (o' := 1) (.int .i64 y1) (Or.inr (by decide)) (setc (.int .i64 y0) x0c))))))))), (seto (b' := w7.heap.size + 1) (o' := 8) (.int .i64 y8) (Or.inr (by decide)) (seto (b' := w7.heap.size + 1) (o' := 7) (.int .i64 y7) (Or.inr (by decide)) (seto (b' := w7.heap.size + 1) (o' := 6) (.int .i64 y6) (Or.inr (by decide)) (seto (b' := w7.heap.size + 1) (o' := 5) (.int .i64 y5) (Or.inr (by decide)) (seto (b' := w7.heap.size + 1) (o' := 4) (.int .i64 y4) (Or.inr (by decide)) (seto (b' := w7.heap.size + 1) (o' := 3) (.int .i64 y3) (Or.inr (by decide)) (seto (b' := w7.heap.size + 1) (o' := 2) (.int .i64 y2) (Or.inr (by decide)) (setc (.int .i64 y1) (seto (b' := w7.heap.size + 1) (o' := 0) (.int .i64 y0) (Or.inr (by decide)) x1c))))))))), (seto (b' := w7.heap.size + 1) (o' := 8) (.int .i64 y8) (Or.inr (by decide)) (seto (b' := w7.heap.size + 1) (o' := 7) (.int .i64 y7) (Or.inr (by decide)) (seto (b' := w7.heap.size + 1) (o' := 6) (.int .i64 y6) (Or.inr (by decide)) (seto (b' := w7.heap.size + 1) (o' := 5) (.int .i64 y5) (Or.inr (by decide)) (seto (b' := w7.heap.size + 1) (o' := 4) (.int .i64 y4) (Or.inr (by decide)) (seto (b' := w7.heap.size + 1) (o' := 3) (.int .i64 y3) (Or.inr (by decide)) (setc (.int .i64 y2) (seto (b' := w7.heap.size + 1) (o' := 1) (.int .i64 y1) (Or.inr (by decide)) (seto (b' := w7.heap.size + 1) (o' := 0) (.int .i64 y0) (Or.inr (by decide)) x2c))))))))), (seto (b' := w7.heap.size + 1) (o' := 8) (.int .i64 y8) (Or.inr (by decide)) (seto (b' := w7.heap.size + 1) (o' := 7) (.int .i64 y7) (Or.inr (by decide)) (seto (b' := w7.heap.size + 1) (o' := 6) (.int .i64 y6) (Or.inr (by decide)) (seto (b' := w7.heap.size + 1) (o' := 5) (.int .i64 y5) (Or.inr (by decide)) (seto (b' := w7.heap.size + 1) (o' := 4) (.int .i64 y4) (Or.inr (by decide)) (setc (.int .i64 y3) (seto (b' := w7.heap.size + 1) (o' := 2) (.int .i64 y2) (Or.inr (by decide)) (seto (b' := w7.heap.size + 1) (o' := 1) (.int .i64 y1) (Or.inr (by decide)) (seto (b' := w7.heap.size + 1) (o' := 0) (.int .i64 y0) (Or.inr (by decide)) x3c))))))))), (seto (b' := w7.heap.size + 1) (o' := 8) (.int .i64 y8) (Or.inr (by decide)) (seto (b' := w7.heap.size + 1) (o' := 7) (.int .i64 y7) (Or.inr (by decide)) (seto (b' := w7.heap.size + 1) (o' := 6) (.int .i64 y6) (Or.inr (by decide)) (seto (b' := w7.heap.size + 1) (o' := 5) (.int .i64 y5) (Or.inr (by decide)) (setc (.int .i64 y4) (seto (b' := w7.heap.size + 1) (o' := 3) (.int .i64 y3) (Or.inr (by decide)) (seto (b' := w7.heap.size + 1) (o' := 2) (.int .i64 y2) (Or.inr (by decide)) (seto (b' := w7.heap.size + 1) (o' := 1) (.int .i64 y1) (Or.inr (by decide)) (seto (b' := w7.heap.size + 1) (o' := 0) (.int .i64 y0) (Or.inr (by decide)) x4c))))))))), (seto (b' := w7.heap.size + 1) (o' := 8) (.int .i64 y8) (Or.inr (by decide)) (seto (b' := w7.heap.size + 1) (o' := 7) (.int .i64 y7) (Or.inr (by decide)) (seto (b' := w7.heap.size + 1) (o' := 6) (.int .i64 y6) (Or.inr (by decide)) (setc (.int .i64 y5) (seto (b' := w7.heap.size + 1) (o' := 4) (.int .i64 y4) (Or.inr (by decide)) (seto (b' := w7.heap.size + 1) (o' := 3) (.int .i64 y3) (Or.inr (by decide)) (seto (b' := w7.heap.size + 1) (o' := 2) (.int .i64 y2) (Or.inr (by decide)) (seto (b' := w7.heap.size + 1) (o' := 1) (.int .i64 y1) (Or.inr (by decide)) (seto (b' := w7.heap.size + 1) (o' := 0) (.int .i64 y0) (Or.inr (by decide)) x5c))))))))), (seto (b' := w7.heap.size + 1) (o' := 8) (.int .i64 y8) (Or.inr (by decide)) (seto (b' := w7.heap.size + 1) (o' := 7) (.int .i64 y7) (Or.inr (by decide)) (setc (.int .i64 y6) (seto (b' := w7.heap.size + 1) (o' := 5) (.int .i64 y5) (Or.inr (by decide)) (seto (b' := w7.heap.size + 1) (o' := 4) (.int .i64 y4) (Or.inr (by decide)) (seto (b' := w7.heap.size + 1) (o' := 3) (.int .i64 y3) (Or.inr (by decide)) (seto (b' := w7.heap.size + 1) (o' := 2) (.int .i64 y2) (Or.inr (by decide)) (seto (b' := w7.heap.size + 1) (o' := 1) (.int .i64 y1) (Or.inr (by decide)) (seto (b' := w7.heap.size + 1) (o' := 0) (.int .i64 y0) (Or.inr (by decide)) x6c))))))))), (seto (b' := w7.heap.size + 1) (o' := 8) (.int .i64 y8) (Or.inr (by decide)) (setc (.int .i64 y7) (seto (b' := w7.heap.size + 1) (o' := 6) (.int .i64 y6) (Or.inr (by decide)) (seto (b' := w7.heap.size + 1) (o' := 5) (.int .i64 y5) (Or.inr (by decide)) (seto (b' := w7.heap.size + 1) (o' := 4) (.int .i64 y4) (Or.inr (by decide)) (seto (b' := w7.heap.size + 1) (o' := 3) (.int .i64 y3) (Or.inr (by decide)) (seto (b' := w7.heap.size + 1) (o' := 2) (.int .i64 y2) (Or.inr (by decide)) (seto (b' := w7.heap.size + 1) (o' := 1) (.int .i64 y1) (Or.inr (by decide)) (seto (b' := w7.heap.size + 1) (o' := 0) (.int .i64 y0) (Or.inr (by decide)) x7c))))))))), (setc (.int .i64 y8) (seto (b' := w7.heap.size + 1) (o' := 7) (.int .i64 y7) (Or.inr (by decide)) (seto (b' := w7.heap.size + 1) (o' := 6) (.int .i64 y6) (Or.inr (by decide)) (seto (b' := w7.heap.size + 1) (o' := 5) (.int .i64 y5) (Or.inr (by decide)) (seto (b' := w7.heap.size + 1) (o' := 4) (.int .i64 y4) (Or.inr (by decide)) (seto (b' := w7.heap.size + 1) (o' := 3) (.int .i64 y3) (Or.inr (by decide)) (seto (b' := w7.heap.size + 1) (o' := 2) (.int .i64 y2) (Or.inr (by decide)) (seto (b' := w7.heap.size + 1) (o' := 1) (.int .i64 y1) (Or.inr (by decide)) (seto (b' := w7.heap.size + 1) (o' := 0) (.int .i64 y0) (Or.inr (by decide)) x8c)))))))))⟩ ?_
    clear hH hH1 hH2 hH3 hba x0c x0f x1c x1f x2c x2f x3c x3f x4c x4f x5c x5f x6c x6f x7c x7f x8c x8f
    rintro V ⟨hV, yy0, yy1, yy2, yy3, yy4, yy5, yy6, yy7, yy8⟩
    obtain ⟨hb, h0, h1, h2, h3, h4, h5, h6, h7, h8, h9, h10, h11, h12, h13, h14, h15, h16, h17, h18, h19, h20, h21, h22, h23, h24, h25, h26, h27, h28, h29, h30, h31, h32, h33, h34, h35, h36, h37, h38, h39⟩ := hV
    go_wp2_with fail
    refine (KS.out _ (ht.below (by first | (with_reducible assumption) | (go_grown; done)))).mono ?_
    rintro e w21 ⟨rfl, hb21⟩
    have p21xb : Below w.heap.size w w21 := belowT (by first | (go_grown; done) | exact And.left (by assumption)) hb21
    have p21x0 : w21.cell? ⟨w.heap.size + 1, 0, none⟩ = some (.int .i64 p0) := keep1 hb21 (by first | (with_reducible assumption) | (go_simp; done))
    have p21x1 : w21.cell? ⟨w.heap.size + 1, 1, none⟩ = some (.int .i64 p1) := keep1 hb21 (by first | (with_reducible assumption) | (go_simp; done))
    have p21x2 : w21.cell? ⟨w.heap.size + 1, 2, none⟩ = some (.int .i64 p2) := keep1 hb21 (by first | (with_reducible assumption) | (go_simp; done))
    have p21x3 : w21.cell? ⟨w5.heap.size, 0, none⟩ = some (.int .i64 l0) := keep1 hb21 (by first | (with_reducible assumption) | (go_simp; done))
    have p21x4 : w21.cell? ⟨w5.heap.size, 1, none⟩ = some (.int .i64 l1) := keep1 hb21 (by first | (with_reducible assumption) | (go_simp; done))
    have p21x5 : w21.cell? ⟨w5.heap.size, 2, none⟩ = some (.int .i64 l2) := keep1 hb21 (by first | (with_reducible assumption) | (go_simp; done))
    have p21x6 : w21.cell? ⟨w5.heap.size, 3, none⟩ = some (.int .i64 l3) := keep1 hb21 (by first | (with_reducible assumption) | (go_simp; done))
    have p21x7 : w21.cell? ⟨w5.heap.size, 4, none⟩ = some (.int .i64 l4) := keep1 hb21 (by first | (with_reducible assumption) | (go_simp; done))
    have p21x8 : w21.cell? ⟨w5.heap.size, 5, none⟩ = some (.int .i64 l5) := keep1 hb21 (by first | (with_reducible assumption) | (go_simp; done))
    have p21x9 : w21.cell? ⟨w5.heap.size, 6, none⟩ = some (.int .i64 l6) := keep1 hb21 (by first | (with_reducible assumption) | (go_simp; done))
    have p21x10 : w21.cell? ⟨w5.heap.size, 7, none⟩ = some (.int .i64 l7) := keep1 hb21 (by first | (with_reducible assumption) | (go_simp; done))
    have p21x11 : w21.cell? ⟨w5.heap.size, 8, none⟩ = some (.int .i64 l8) := keep1 hb21 (by first | (with_reducible assumption) | (go_simp; done))
    have p21x12 : w21.cell? ⟨w6.heap.size, 0, none⟩ = some (.int .i64 x0) := keep1 hb21 (by first | (with_reducible assumption) | (go_simp; done))
    have p21x13 : w21.cell? ⟨w6.heap.size, 1, none⟩ = some (.int .i64 x1) := keep1 hb21 (by first | (with_reducible assumption) | (go_simp; done))
    have p21x14 : w21.cell? ⟨w6.heap.size, 2, none⟩ = some (.int .i64 x2) := keep1 hb21 (by first | (with_reducible assumption) | (go_simp; done))
    have p21x15 : w21.cell? ⟨w6.heap.size, 3, none⟩ = some (.int .i64 x3) := keep1 hb21 (by first | (with_reducible assumption) | (go_simp; done))
    have p21x16 : w21.cell? ⟨w6.heap.size, 4, none⟩ = some (.int .i64 x4) := keep1 hb21 (by first | (with_reducible assumption) | (go_simp; done))
    have p21x17 : w21.cell? ⟨w6.heap.size, 5, none⟩ = some (.int .i64 x5) := keep1 hb21 (by first | (with_reducible assumption) | (go_simp; done))
    have p21x18 : w21.cell? ⟨w6.heap.size, 6, none⟩ = some (.int .i64 x6) := keep1 hb21 (by first | (with_reducible assumption) | (go_simp; done))
    have p21x19 : w21.cell? ⟨w6.heap.size, 7, none⟩ = some (.int .i64 x7) := keep1 hb21 (by first | (with_reducible assumption) | (go_simp; done))
    have p21x20 : w21.cell? ⟨w6.heap.size, 8, none⟩ = some (.int .i64 x8) := keep1 hb21 (by first | (with_reducible assumption) | (go_simp; done))
    have p21xz0 : w.heap.size + 1 < w21.heap.size := block_lt p21x0
    have p21xz3 : w5.heap.size < w21.heap.size := block_lt p21x3
    have p21xz12 : w6.heap.size < w21.heap.size := block_lt p21x12
    have p21xs := p21xb.size
    go_wp2_with fail
    refine (KF.out _ (ht.below (by first | (with_reducible assumption) | (go_grown; done)))).mono ?_
    rintro e w22 ⟨rfl, hb22⟩
    have p22xb : Below w.heap.size w w22 := belowT (by first | (go_grown; done) | exact And.left (by assumption)) hb22
    have p22x0 : w22.cell? ⟨w.heap.size + 1, 0, none⟩ = some (.int .i64 p0) := keep1 hb22 (by first | (with_reducible assumption) | (go_simp; done))
    have p22x1 : w22.cell? ⟨w.heap.size + 1, 1, none⟩ = some (.int .i64 p1) := keep1 hb22 (by first | (with_reducible assumption) | (go_simp; done))
    have p22x2 : w22.cell? ⟨w.heap.size + 1, 2, none⟩ = some (.int .i64 p2) := keep1 hb22 (by first | (with_reducible assumption) | (go_simp; done))
    have p22x3 : w22.cell? ⟨w5.heap.size, 0, none⟩ = some (.int .i64 l0) := keep1 hb22 (by first | (with_reducible assumption) | (go_simp; done))
    have p22x4 : w22.cell? ⟨w5.heap.size, 1, none⟩ = some (.int .i64 l1) := keep1 hb22 (by first | (with_reducible assumption) | (go_simp; done))
    have p22x5 : w22.cell? ⟨w5.heap.size, 2, none⟩ = some (.int .i64 l2) := keep1 hb22 (by first | (with_reducible assumption) | (go_simp; done))
    have p22x6 : w22.cell? ⟨w5.heap.size, 3, none⟩ = some (.int .i64 l3) := keep1 hb22 (by first | (with_reducible assumption) | (go_simp; done))
    have p22x7 : w22.cell? ⟨w5.heap.size, 4, none⟩ = some (.int .i64 l4) := keep1 hb22 (by first | (with_reducible assumption) | (go_simp; done))
    have p22x8 : w22.cell? ⟨w5.heap.size, 5, none⟩ = some (.int .i64 l5) := keep1 hb22 (by first | (with_reducible assumption) | (go_simp; done))
    have p22x9 : w22.cell? ⟨w5.heap.size, 6, none⟩ = some (.int .i64 l6) := keep1 hb22 (by first | (with_reducible assumption) | (go_simp; done))
    have p22x10 : w22.cell? ⟨w5.heap.size, 7, none⟩ = some (.int .i64 l7) := keep1 hb22 (by first | (with_reducible assumption) | (go_simp; done))
    have p22x11 : w22.cell? ⟨w5.heap.size, 8, none⟩ = some (.int .i64 l8) := keep1 hb22 (by first | (with_reducible assumption) | (go_simp; done))
    have p22x12 : w22.cell? ⟨w6.heap.size, 0, none⟩ = some (.int .i64 x0) := keep1 hb22 (by first | (with_reducible assumption) | (go_simp; done))
    have p22x13 : w22.cell? ⟨w6.heap.size, 1, none⟩ = some (.int .i64 x1) := keep1 hb22 (by first | (with_reducible assumption) | (go_simp; done))
    have p22x14 : w22.cell? ⟨w6.heap.size, 2, none⟩ = some (.int .i64 x2) := keep1 hb22 (by first | (with_reducible assumption) | (go_simp; done))
    have p22x15 : w22.cell? ⟨w6.heap.size, 3, none⟩ = some (.int .i64 x3) := keep1 hb22 (by first | (with_reducible assumption) | (go_simp; done))
    have p22x16 : w22.cell? ⟨w6.heap.size, 4, none⟩ = some (.int .i64 x4) := keep1 hb22 (by first | (with_reducible assumption) | (go_simp; done))
    have p22x17 : w22.cell? ⟨w6.heap.size, 5, none⟩ = some (.int .i64 x5) := keep1 hb22 (by first | (with_reducible assumption) | (go_simp; done))
    have p22x18 : w22.cell? ⟨w6.heap.size, 6, none⟩ = some (.int .i64 x6) := keep1 hb22 (by first | (with_reducible assumption) | (go_simp; done))
    have p22x19 : w22.cell? ⟨w6.heap.size, 7, none⟩ = some (.int .i64 x7) := keep1 hb22 (by first | (with_reducible assumption) | (go_simp; done))
    have p22x20 : w22.cell? ⟨w6.heap.size, 8, none⟩ = some (.int .i64 x8) := keep1 hb22 (by first | (with_reducible assumption) | (go_simp; done))
    have p22xz0 : w.heap.size + 1 < w22.heap.size := block_lt p22x0
    have p22xz3 : w5.heap.size < w22.heap.size := block_lt p22x3
    have p22xz12 : w6.heap.size < w22.heap.size := block_lt p22x12
    have p22xs := p22xb.size
    go_wp2_with fail
    refine (KN.out _).mono ?_
    rintro e w23 ⟨rfl, hb23⟩
    have p23xb : Below w.heap.size w w23 := belowT (by first | (go_grown; done) | exact And.left (by assumption)) hb23
    have p23x0 : w23.cell? ⟨w.heap.size + 1, 0, none⟩ = some (.int .i64 p0) := keep1 hb23 (by first | (with_reducible assumption) | (go_simp; done))
    have p23x1 : w23.cell? ⟨w.heap.size + 1, 1, none⟩ = some (.int .i64 p1) := keep1 hb23 (by first | (with_reducible assumption) | (go_simp; done))
    have p23x2 : w23.cell? ⟨w.heap.size + 1, 2, none⟩ = some (.int .i64 p2) := keep1 hb23 (by first | (with_reducible assumption) | (go_simp; done))
    have p23x3 : w23.cell? ⟨w5.heap.size, 0, none⟩ = some (.int .i64 l0) := keep1 hb23 (by first | (with_reducible assumption) | (go_simp; done))
    have p23x4 : w23.cell? ⟨w5.heap.size, 1, none⟩ = some (.int .i64 l1) := keep1 hb23 (by first | (with_reducible assumption) | (go_simp; done))
    have p23x5 : w23.cell? ⟨w5.heap.size, 2, none⟩ = some (.int .i64 l2) := keep1 hb23 (by first | (with_reducible assumption) | (go_simp; done))
    have p23x6 : w23.cell? ⟨w5.heap.size, 3, none⟩ = some (.int .i64 l3) := keep1 hb23 (by first | (with_reducible assumption) | (go_simp; done))
    have p23x7 : w23.cell? ⟨w5.heap.size, 4, none⟩ = some (.int .i64 l4) := keep1 hb23 (by first | (with_reducible assumption) | (go_simp; done))
    have p23x8 : w23.cell? ⟨w5.heap.size, 5, none⟩ = some (.int .i64 l5) := keep1 hb23 (by first | (with_reducible assumption) | (go_simp; done))
    have p23x9 : w23.cell? ⟨w5.heap.size, 6, none⟩ = some (.int .i64 l6) := keep1 hb23 (by first | (with_reducible assumption) | (go_simp; done))
    have p23x10 : w23.cell? ⟨w5.heap.size, 7, none⟩ = some (.int .i64 l7) := keep1 hb23 (by first | (with_reducible assumption) | (go_simp; done))
    have p23x11 : w23.cell? ⟨w5.heap.size, 8, none⟩ = some (.int .i64 l8) := keep1 hb23 (by first | (with_reducible assumption) | (go_simp; done))
    have p23x12 : w23.cell? ⟨w6.heap.size, 0, none⟩ = some (.int .i64 x0) := keep1 hb23 (by first | (with_reducible assumption) | (go_simp; done))
    have p23x13 : w23.cell? ⟨w6.heap.size, 1, none⟩ = some (.int .i64 x1) := keep1 hb23 (by first | (with_reducible assumption) | (go_simp; done))
    have p23x14 : w23.cell? ⟨w6.heap.size, 2, none⟩ = some (.int .i64 x2) := keep1 hb23 (by first | (with_reducible assumption) | (go_simp; done))
    have p23x15 : w23.cell? ⟨w6.heap.size, 3, none⟩ = some (.int .i64 x3) := keep1 hb23 (by first | (with_reducible assumption) | (go_simp; done))
    have p23x16 : w23.cell? ⟨w6.heap.size, 4, none⟩ = some (.int .i64 x4) := keep1 hb23 (by first | (with_reducible assumption) | (go_simp; done))
    have p23x17 : w23.cell? ⟨w6.heap.size, 5, none⟩ = some (.int .i64 x5) := keep1 hb23 (by first | (with_reducible assumption) | (go_simp; done))
    have p23x18 : w23.cell? ⟨w6.heap.size, 6, none⟩ = some (.int .i64 x6) := keep1 hb23 (by first | (with_reducible assumption) | (go_simp; done))
    have p23x19 : w23.cell? ⟨w6.heap.size, 7, none⟩ = some (.int .i64 x7) := keep1 hb23 (by first | (with_reducible assumption) | (go_simp; done))
    have p23x20 : w23.cell? ⟨w6.heap.size, 8, none⟩ = some (.int .i64 x8) := keep1 hb23 (by first | (with_reducible assumption) | (go_simp; done))
    have p23x21 : w23.cell? ⟨w22.heap.size, 0, none⟩ = some (.int .i64 ua) := keep1 hb23 (by first | (with_reducible assumption) | (go_simp; done))
    have p23x22 : w23.cell? ⟨w22.heap.size, 1, none⟩ = some (.int .i64 va) := keep1 hb23 (by first | (with_reducible assumption) | (go_simp; done))
    have p23xz0 : w.heap.size + 1 < w23.heap.size := block_lt p23x0
    have p23xz3 : w5.heap.size < w23.heap.size := block_lt p23x3
    have p23xz12 : w6.heap.size < w23.heap.size := block_lt p23x12
    have p23xz21 : w22.heap.size < w23.heap.size := block_lt p23x21
    have p23xs := p23xb.size
    go_wp2_with fail
    refine (KG.out _).mono ?_
    rintro e w24 ⟨rfl, hb24⟩
    have p24xb : Below w.heap.size w w24 := belowT (by first | (go_grown; done) | exact And.left (by assumption)) hb24
    have p24x0 : w24.cell? ⟨w.heap.size + 1, 0, none⟩ = some (.int .i64 p0) := keep1 hb24 (by first | (with_reducible assumption) | (go_simp; done))
    have p24x1 : w24.cell? ⟨w.heap.size + 1, 1, none⟩ = some (.int .i64 p1) := keep1 hb24 (by first | (with_reducible assumption) | (go_simp; done))
    have p24x2 : w24.cell? ⟨w.heap.size + 1, 2, none⟩ = some (.int .i64 p2) := keep1 hb24 (by first | (with_reducible assumption) | (go_simp; done))
    have p24x3 : w24.cell? ⟨w5.heap.size, 0, none⟩ = some (.int .i64 l0) := keep1 hb24 (by first | (with_reducible assumption) | (go_simp; done))
    have p24x4 : w24.cell? ⟨w5.heap.size, 1, none⟩ = some (.int .i64 l1) := keep1 hb24 (by first | (with_reducible assumption) | (go_simp; done))
    have p24x5 : w24.cell? ⟨w5.heap.size, 2, none⟩ = some (.int .i64 l2) := keep1 hb24 (by first | (with_reducible assumption) | (go_simp; done))
    have p24x6 : w24.cell? ⟨w5.heap.size, 3, none⟩ = some (.int .i64 l3) := keep1 hb24 (by first | (with_reducible assumption) | (go_simp; done))
    have p24x7 : w24.cell? ⟨w5.heap.size, 4, none⟩ = some (.int .i64 l4) := keep1 hb24 (by first | (with_reducible assumption) | (go_simp; done))
    have p24x8 : w24.cell? ⟨w5.heap.size, 5, none⟩ = some (.int .i64 l5) := keep1 hb24 (by first | (with_reducible assumption) | (go_simp; done))
    have p24x9 : w24.cell? ⟨w5.heap.size, 6, none⟩ = some (.int .i64 l6) := keep1 hb24 (by first | (with_reducible assumption) | (go_simp; done))
    have p24x10 : w24.cell? ⟨w5.heap.size, 7, none⟩ = some (.int .i64 l7) := keep1 hb24 (by first | (with_reducible assumption) | (go_simp; done))
    have p24x11 : w24.cell? ⟨w5.heap.size, 8, none⟩ = some (.int .i64 l8) := keep1 hb24 (by first | (with_reducible assumption) | (go_simp; done))
    have p24x12 : w24.cell? ⟨w6.heap.size, 0, none⟩ = some (.int .i64 x0) := keep1 hb24 (by first | (with_reducible assumption) | (go_simp; done))
    have p24x13 : w24.cell? ⟨w6.heap.size, 1, none⟩ = some (.int .i64 x1) := keep1 hb24 (by first | (with_reducible assumption) | (go_simp; done))
    have p24x14 : w24.cell? ⟨w6.heap.size, 2, none⟩ = some (.int .i64 x2) := keep1 hb24 (by first | (with_reducible assumption) | (go_simp; done))
    have p24x15 : w24.cell? ⟨w6.heap.size, 3, none⟩ = some (.int .i64 x3) := keep1 hb24 (by first | (with_reducible assumption) | (go_simp; done))
    have p24x16 : w24.cell? ⟨w6.heap.size, 4, none⟩ = some (.int .i64 x4) := keep1 hb24 (by first | (with_reducible assumption) | (go_simp; done))
    have p24x17 : w24.cell? ⟨w6.heap.size, 5, none⟩ = some (.int .i64 x5) := keep1 hb24 (by first | (with_reducible assumption) | (go_simp; done))
    have p24x18 : w24.cell? ⟨w6.heap.size, 6, none⟩ = some (.int .i64 x6) := keep1 hb24 (by first | (with_reducible assumption) | (go_simp; done))
    have p24x19 : w24.cell? ⟨w6.heap.size, 7, none⟩ = some (.int .i64 x7) := keep1 hb24 (by first | (with_reducible assumption) | (go_simp; done))
    have p24x20 : w24.cell? ⟨w6.heap.size, 8, none⟩ = some (.int .i64 x8) := keep1 hb24 (by first | (with_reducible assumption) | (go_simp; done))
    have p24x21 : w24.cell? ⟨w22.heap.size, 0, none⟩ = some (.int .i64 ua) := keep1 hb24 (by first | (with_reducible assumption) | (go_simp; done))
    have p24x22 : w24.cell? ⟨w22.heap.size, 1, none⟩ = some (.int .i64 va) := keep1 hb24 (by first | (with_reducible assumption) | (go_simp; done))
    have p24xz0 : w.heap.size + 1 < w24.heap.size := block_lt p24x0
    have p24xz3 : w5.heap.size < w24.heap.size := block_lt p24x3
    have p24xz12 : w6.heap.size < w24.heap.size := block_lt p24x12
    have p24xz21 : w22.heap.size < w24.heap.size := block_lt p24x21
    have p24xs := p24xb.size
    go_wp2_with fail
    refine (KH.out _).mono ?_
    rintro e w25 ⟨rfl, hb25⟩
    have p25xb : Below w.heap.size w w25 := belowT (by first | (go_grown; done) | exact And.left (by assumption)) hb25
    have p25x0 : w25.cell? ⟨w.heap.size + 1, 0, none⟩ = some (.int .i64 p0) := keep1 hb25 (by first | (with_reducible assumption) | (go_simp; done))
    have p25x1 : w25.cell? ⟨w.heap.size + 1, 1, none⟩ = some (.int .i64 p1) := keep1 hb25 (by first | (with_reducible assumption) | (go_simp; done))
    have p25x2 : w25.cell? ⟨w.heap.size + 1, 2, none⟩ = some (.int .i64 p2) := keep1 hb25 (by first | (with_reducible assumption) | (go_simp; done))
    have p25x3 : w25.cell? ⟨w5.heap.size, 0, none⟩ = some (.int .i64 l0) := keep1 hb25 (by first | (with_reducible assumption) | (go_simp; done))
    have p25x4 : w25.cell? ⟨w5.heap.size, 1, none⟩ = some (.int .i64 l1) := keep1 hb25 (by first | (with_reducible assumption) | (go_simp; done))
    have p25x5 : w25.cell? ⟨w5.heap.size, 2, none⟩ = some (.int .i64 l2) := keep1 hb25 (by first | (with_reducible assumption) | (go_simp; done))
    have p25x6 : w25.cell? ⟨w5.heap.size, 3, none⟩ = some (.int .i64 l3) := keep1 hb25 (by first | (with_reducible assumption) | (go_simp; done))
    have p25x7 : w25.cell? ⟨w5.heap.size, 4, none⟩ = some (.int .i64 l4) := keep1 hb25 (by first | (with_reducible assumption) | (go_simp; done))
    have p25x8 : w25.cell? ⟨w5.heap.size, 5, none⟩ = some (.int .i64 l5) := keep1 hb25 (by first | (with_reducible assumption) | (go_simp; done))
    have p25x9 : w25.cell? ⟨w5.heap.size, 6, none⟩ = some (.int .i64 l6) := keep1 hb25 (by first | (with_reducible assumption) | (go_simp; done))
    have p25x10 : w25.cell? ⟨w5.heap.size, 7, none⟩ = some (.int .i64 l7) := keep1 hb25 (by first | (with_reducible assumption) | (go_simp; done))
    have p25x11 : w25.cell? ⟨w5.heap.size, 8, none⟩ = some (.int .i64 l8) := keep1 hb25 (by first | (with_reducible assumption) | (go_simp; done))
    have p25x12 : w25.cell? ⟨w6.heap.size, 0, none⟩ = some (.int .i64 x0) := keep1 hb25 (by first | (with_reducible assumption) | (go_simp; done))
    have p25x13 : w25.cell? ⟨w6.heap.size, 1, none⟩ = some (.int .i64 x1) := keep1 hb25 (by first | (with_reducible assumption) | (go_simp; done))
    have p25x14 : w25.cell? ⟨w6.heap.size, 2, none⟩ = some (.int .i64 x2) := keep1 hb25 (by first | (with_reducible assumption) | (go_simp; done))
    have p25x15 : w25.cell? ⟨w6.heap.size, 3, none⟩ = some (.int .i64 x3) := keep1 hb25 (by first | (with_reducible assumption) | (go_simp; done))
    have p25x16 : w25.cell? ⟨w6.heap.size, 4, none⟩ = some (.int .i64 x4) := keep1 hb25 (by first | (with_reducible assumption) | (go_simp; done))
    have p25x17 : w25.cell? ⟨w6.heap.size, 5, none⟩ = some (.int .i64 x5) := keep1 hb25 (by first | (with_reducible assumption) | (go_simp; done))
    have p25x18 : w25.cell? ⟨w6.heap.size, 6, none⟩ = some (.int .i64 x6) := keep1 hb25 (by first | (with_reducible assumption) | (go_simp; done))
    have p25x19 : w25.cell? ⟨w6.heap.size, 7, none⟩ = some (.int .i64 x7) := keep1 hb25 (by first | (with_reducible assumption) | (go_simp; done))
    have p25x20 : w25.cell? ⟨w6.heap.size, 8, none⟩ = some (.int .i64 x8) := keep1 hb25 (by first | (with_reducible assumption) | (go_simp; done))
    have p25x21 : w25.cell? ⟨w22.heap.size, 0, none⟩ = some (.int .i64 ua) := keep1 hb25 (by first | (with_reducible assumption) | (go_simp; done))
    have p25x22 : w25.cell? ⟨w22.heap.size, 1, none⟩ = some (.int .i64 va) := keep1 hb25 (by first | (with_reducible assumption) | (go_simp; done))
    have p25xz0 : w.heap.size + 1 < w25.heap.size := block_lt p25x0
    have p25xz3 : w5.heap.size < w25.heap.size := block_lt p25x3
    have p25xz12 : w6.heap.size < w25.heap.size := block_lt p25x12
    have p25xz21 : w22.heap.size < w25.heap.size := block_lt p25x21
    have p25xs := p25xb.size
    go_wp2_with fail
    refine (KO.out _ (rangeB (w := w) (by first | (with_reducible assumption) | (go_grown; done)) hr)).mono ?_
    rintro e w26 ⟨rfl, hb26⟩
    have p26xb : Below w.heap.size w w26 := belowT (by first | (go_grown; done) | exact And.left (by assumption)) hb26
    have p26x0 : w26.cell? ⟨w.heap.size + 1, 0, none⟩ = some (.int .i64 p0) := keep1 hb26 (by first | (with_reducible assumption) | (go_simp; done))
    have p26x1 : w26.cell? ⟨w.heap.size + 1, 1, none⟩ = some (.int .i64 p1) := keep1 hb26 (by first | (with_reducible assumption) | (go_simp; done))
    have p26x2 : w26.cell? ⟨w.heap.size + 1, 2, none⟩ = some (.int .i64 p2) := keep1 hb26 (by first | (with_reducible assumption) | (go_simp; done))
    have p26x3 : w26.cell? ⟨w5.heap.size, 0, none⟩ = some (.int .i64 l0) := keep1 hb26 (by first | (with_reducible assumption) | (go_simp; done))
    have p26x4 : w26.cell? ⟨w5.heap.size, 1, none⟩ = some (.int .i64 l1) := keep1 hb26 (by first | (with_reducible assumption) | (go_simp; done))
    have p26x5 : w26.cell? ⟨w5.heap.size, 2, none⟩ = some (.int .i64 l2) := keep1 hb26 (by first | (with_reducible assumption) | (go_simp; done))
    have p26x6 : w26.cell? ⟨w5.heap.size, 3, none⟩ = some (.int .i64 l3) := keep1 hb26 (by first | (with_reducible assumption) | (go_simp; done))
    have p26x7 : w26.cell? ⟨w5.heap.size, 4, none⟩ = some (.int .i64 l4) := keep1 hb26 (by first | (with_reducible assumption) | (go_simp; done))
    have p26x8 : w26.cell? ⟨w5.heap.size, 5, none⟩ = some (.int .i64 l5) := keep1 hb26 (by first | (with_reducible assumption) | (go_simp; done))
    have p26x9 : w26.cell? ⟨w5.heap.size, 6, none⟩ = some (.int .i64 l6) := keep1 hb26 (by first | (with_reducible assumption) | (go_simp; done))
    have p26x10 : w26.cell? ⟨w5.heap.size, 7, none⟩ = some (.int .i64 l7) := keep1 hb26 (by first | (with_reducible assumption) | (go_simp; done))
    have p26x11 : w26.cell? ⟨w5.heap.size, 8, none⟩ = some (.int .i64 l8) := keep1 hb26 (by first | (with_reducible assumption) | (go_simp; done))
    have p26x12 : w26.cell? ⟨w6.heap.size, 0, none⟩ = some (.int .i64 x0) := keep1 hb26 (by first | (with_reducible assumption) | (go_simp; done))
    have p26x13 : w26.cell? ⟨w6.heap.size, 1, none⟩ = some (.int .i64 x1) := keep1 hb26 (by first | (with_reducible assumption) | (go_simp; done))
    have p26x14 : w26.cell? ⟨w6.heap.size, 2, none⟩ = some (.int .i64 x2) := keep1 hb26 (by first | (with_reducible assumption) | (go_simp; done))
    have p26x15 : w26.cell? ⟨w6.heap.size, 3, none⟩ = some (.int .i64 x3) := keep1 hb26 (by first | (with_reducible assumption) | (go_simp; done))
    have p26x16 : w26.cell? ⟨w6.heap.size, 4, none⟩ = some (.int .i64 x4) := keep1 hb26 (by first | (with_reducible assumption) | (go_simp; done))
    have p26x17 : w26.cell? ⟨w6.heap.size, 5, none⟩ = some (.int .i64 x5) := keep1 hb26 (by first | (with_reducible assumption) | (go_simp; done))
    have p26x18 : w26.cell? ⟨w6.heap.size, 6, none⟩ = some (.int .i64 x6) := keep1 hb26 (by first | (with_reducible assumption) | (go_simp; done))
    have p26x19 : w26.cell? ⟨w6.heap.size, 7, none⟩ = some (.int .i64 x7) := keep1 hb26 (by first | (with_reducible assumption) | (go_simp; done))
    have p26x20 : w26.cell? ⟨w6.heap.size, 8, none⟩ = some (.int .i64 x8) := keep1 hb26 (by first | (with_reducible assumption) | (go_simp; done))
    have p26x21 : w26.cell? ⟨w22.heap.size, 0, none⟩ = some (.int .i64 ua) := keep1 hb26 (by first | (with_reducible assumption) | (go_simp; done))
    have p26x22 : w26.cell? ⟨w22.heap.size, 1, none⟩ = some (.int .i64 va) := keep1 hb26 (by first | (with_reducible assumption) | (go_simp; done))
    have p26xz0 : w.heap.size + 1 < w26.heap.size := block_lt p26x0
    have p26xz3 : w5.heap.size < w26.heap.size := block_lt p26x3
    have p26xz12 : w6.heap.size < w26.heap.size := block_lt p26x12
    have p26xz21 : w22.heap.size < w26.heap.size := block_lt p26x21
    have p26xs := p26xb.size
    go_wp2_with fail
    refine (KY.out _ (ht.below (by first | (with_reducible assumption) | (go_grown; done)))).mono ?_
    rintro e w27 ⟨rfl, hb27⟩
    have p27xb : Below w.heap.size w w27 := belowT (by first | (go_grown; done) | exact And.left (by assumption)) hb27
    have p27x0 : w27.cell? ⟨w.heap.size + 1, 0, none⟩ = some (.int .i64 p0) := keep1 hb27 (by first | (with_reducible assumption) | (go_simp; done))
    have p27x1 : w27.cell? ⟨w.heap.size + 1, 1, none⟩ = some (.int .i64 p1) := keep1 hb27 (by first | (with_reducible assumption) | (go_simp; done))
    have p27x2 : w27.cell? ⟨w.heap.size + 1, 2, none⟩ = some (.int .i64 p2) := keep1 hb27 (by first | (with_reducible assumption) | (go_simp; done))
    have p27x3 : w27.cell? ⟨w5.heap.size, 0, none⟩ = some (.int .i64 l0) := keep1 hb27 (by first | (with_reducible assumption) | (go_simp; done))
    have p27x4 : w27.cell? ⟨w5.heap.size, 1, none⟩ = some (.int .i64 l1) := keep1 hb27 (by first | (with_reducible assumption) | (go_simp; done))
    have p27x5 : w27.cell? ⟨w5.heap.size, 2, none⟩ = some (.int .i64 l2) := keep1 hb27 (by first | (with_reducible assumption) | (go_simp; done))
    have p27x6 : w27.cell? ⟨w5.heap.size, 3, none⟩ = some (.int .i64 l3) := keep1 hb27 (by first | (with_reducible assumption) | (go_simp; done))
    have p27x7 : w27.cell? ⟨w5.heap.size, 4, none⟩ = some (.int .i64 l4) := keep1 hb27 (by first | (with_reducible assumption) | (go_simp; done))
    have p27x8 : w27.cell? ⟨w5.heap.size, 5, none⟩ = some (.int .i64 l5) := keep1 hb27 (by first | (with_reducible assumption) | (go_simp; done))
    have p27x9 : w27.cell? ⟨w5.heap.size, 6, none⟩ = some (.int .i64 l6) := keep1 hb27 (by first | (with_reducible assumption) | (go_simp; done))
    have p27x10 : w27.cell? ⟨w5.heap.size, 7, none⟩ = some (.int .i64 l7) := keep1 hb27 (by first | (with_reducible assumption) | (go_simp; done))
    have p27x11 : w27.cell? ⟨w5.heap.size, 8, none⟩ = some (.int .i64 l8) := keep1 hb27 (by first | (with_reducible assumption) | (go_simp; done))
    have p27x12 : w27.cell? ⟨w6.heap.size, 0, none⟩ = some (.int .i64 x0) := keep1 hb27 (by first | (with_reducible assumption) | (go_simp; done))
    have p27x13 : w27.cell? ⟨w6.heap.size, 1, none⟩ = some (.int .i64 x1) := keep1 hb27 (by first | (with_reducible assumption) | (go_simp; done))
    have p27x14 : w27.cell? ⟨w6.heap.size, 2, none⟩ = some (.int .i64 x2) := keep1 hb27 (by first | (with_reducible assumption) | (go_simp; done))
    have p27x15 : w27.cell? ⟨w6.heap.size, 3, none⟩ = some (.int .i64 x3) := keep1 hb27 (by first | (with_reducible assumption) | (go_simp; done))
    have p27x16 : w27.cell? ⟨w6.heap.size, 4, none⟩ = some (.int .i64 x4) := keep1 hb27 (by first | (with_reducible assumption) | (go_simp; done))
    have p27x17 : w27.cell? ⟨w6.heap.size, 5, none⟩ = some (.int .i64 x5) := keep1 hb27 (by first | (with_reducible assumption) | (go_simp; done))
    have p27x18 : w27.cell? ⟨w6.heap.size, 6, none⟩ = some (.int .i64 x6) := keep1 hb27 (by first | (with_reducible assumption) | (go_simp; done))
    have p27x19 : w27.cell? ⟨w6.heap.size, 7, none⟩ = some (.int .i64 x7) := keep1 hb27 (by first | (with_reducible assumption) | (go_simp; done))
    have p27x20 : w27.cell? ⟨w6.heap.size, 8, none⟩ = some (.int .i64 x8) := keep1 hb27 (by first | (with_reducible assumption) | (go_simp; done))
    have p27x21 : w27.cell? ⟨w22.heap.size, 0, none⟩ = some (.int .i64 ua) := keep1 hb27 (by first | (with_reducible assumption) | (go_simp; done))
    have p27x22 : w27.cell? ⟨w22.heap.size, 1, none⟩ = some (.int .i64 va) := keep1 hb27 (by first | (with_reducible assumption) | (go_simp; done))
    have p27x23 : w27.cell? ⟨w26.heap.size, 0, none⟩ = some (.int .i64 z0) := keep1 hb27 (by first | (with_reducible assumption) | (go_simp; done))
    have p27x24 : w27.cell? ⟨w26.heap.size, 1, none⟩ = some (.int .i64 z1) := keep1 hb27 (by first | (with_reducible assumption) | (go_simp; done))
    have p27x25 : w27.cell? ⟨w26.heap.size, 2, none⟩ = some (.int .i64 z2) := keep1 hb27 (by first | (with_reducible assumption) | (go_simp; done))
    have p27x26 : w27.cell? ⟨w26.heap.size, 3, none⟩ = some (.int .i64 z3) := keep1 hb27 (by first | (with_reducible assumption) | (go_simp; done))
    have p27x27 : w27.cell? ⟨w26.heap.size, 4, none⟩ = some (.int .i64 z4) := keep1 hb27 (by first | (with_reducible assumption) | (go_simp; done))
    have p27x28 : w27.cell? ⟨w26.heap.size, 5, none⟩ = some (.int .i64 z5) := keep1 hb27 (by first | (with_reducible assumption) | (go_simp; done))
    have p27x29 : w27.cell? ⟨w26.heap.size, 6, none⟩ = some (.int .i64 z6) := keep1 hb27 (by first | (with_reducible assumption) | (go_simp; done))
    have p27x30 : w27.cell? ⟨w26.heap.size, 7, none⟩ = some (.int .i64 z7) := keep1 hb27 (by first | (with_reducible assumption) | (go_simp; done))
    have p27x31 : w27.cell? ⟨w26.heap.size, 8, none⟩ = some (.int .i64 z8) := keep1 hb27 (by first | (with_reducible assumption) | (go_simp; done))
    have p27xz0 : w.heap.size + 1 < w27.heap.size := block_lt p27x0
    have p27xz3 : w5.heap.size < w27.heap.size := block_lt p27x3
    have p27xz12 : w6.heap.size < w27.heap.size := block_lt p27x12
    have p27xz21 : w22.heap.size < w27.heap.size := block_lt p27x21
    have p27xz23 : w26.heap.size < w27.heap.size := block_lt p27x23
    have p27xs := p27xb.size
    go_wp2_with fail
    refine (KT.out _ (ht.below (by first | (with_reducible assumption) | (go_grown; done)))).mono ?_
    rintro e w28 ⟨rfl, hb28⟩
    have p28xb : Below w.heap.size w w28 := belowT (by first | (go_grown; done) | exact And.left (by assumption)) hb28
    have p28x0 : w28.cell? ⟨w.heap.size + 1, 0, none⟩ = some (.int .i64 p0) := keep1 hb28 (by first | (with_reducible assumption) | (go_simp; done))
    have p28x1 : w28.cell? ⟨w.heap.size + 1, 1, none⟩ = some (.int .i64 p1) := keep1 hb28 (by first | (with_reducible assumption) | (go_simp; done))
    have p28x2 : w28.cell? ⟨w.heap.size + 1, 2, none⟩ = some (.int .i64 p2) := keep1 hb28 (by first | (with_reducible assumption) | (go_simp; done))
    have p28x3 : w28.cell? ⟨w5.heap.size, 0, none⟩ = some (.int .i64 l0) := keep1 hb28 (by first | (with_reducible assumption) | (go_simp; done))
    have p28x4 : w28.cell? ⟨w5.heap.size, 1, none⟩ = some (.int .i64 l1) := keep1 hb28 (by first | (with_reducible assumption) | (go_simp; done))
    have p28x5 : w28.cell? ⟨w5.heap.size, 2, none⟩ = some (.int .i64 l2) := keep1 hb28 (by first | (with_reducible assumption) | (go_simp; done))
    have p28x6 : w28.cell? ⟨w5.heap.size, 3, none⟩ = some (.int .i64 l3) := keep1 hb28 (by first | (with_reducible assumption) | (go_simp; done))
    have p28x7 : w28.cell? ⟨w5.heap.size, 4, none⟩ = some (.int .i64 l4) := keep1 hb28 (by first | (with_reducible assumption) | (go_simp; done))
    have p28x8 : w28.cell? ⟨w5.heap.size, 5, none⟩ = some (.int .i64 l5) := keep1 hb28 (by first | (with_reducible assumption) | (go_simp; done))
    have p28x9 : w28.cell? ⟨w5.heap.size, 6, none⟩ = some (.int .i64 l6) := keep1 hb28 (by first | (with_reducible assumption) | (go_simp; done))
    have p28x10 : w28.cell? ⟨w5.heap.size, 7, none⟩ = some (.int .i64 l7) := keep1 hb28 (by first | (with_reducible assumption) | (go_simp; done))
    have p28x11 : w28.cell? ⟨w5.heap.size, 8, none⟩ = some (.int .i64 l8) := keep1 hb28 (by first | (with_reducible assumption) | (go_simp; done))
    have p28x12 : w28.cell? ⟨w6.heap.size, 0, none⟩ = some (.int .i64 x0) := keep1 hb28 (by first | (with_reducible assumption) | (go_simp; done))
    have p28x13 : w28.cell? ⟨w6.heap.size, 1, none⟩ = some (.int .i64 x1) := keep1 hb28 (by first | (with_reducible assumption) | (go_simp; done))
    have p28x14 : w28.cell? ⟨w6.heap.size, 2, none⟩ = some (.int .i64 x2) := keep1 hb28 (by first | (with_reducible assumption) | (go_simp; done))
    have p28x15 : w28.cell? ⟨w6.heap.size, 3, none⟩ = some (.int .i64 x3) := keep1 hb28 (by first | (with_reducible assumption) | (go_simp; done))
    have p28x16 : w28.cell? ⟨w6.heap.size, 4, none⟩ = some (.int .i64 x4) := keep1 hb28 (by first | (with_reducible assumption) | (go_simp; done))
    have p28x17 : w28.cell? ⟨w6.heap.size, 5, none⟩ = some (.int .i64 x5) := keep1 hb28 (by first | (with_reducible assumption) | (go_simp; done))
    have p28x18 : w28.cell? ⟨w6.heap.size, 6, none⟩ = some (.int .i64 x6) := keep1 hb28 (by first | (with_reducible assumption) | (go_simp; done))
    have p28x19 : w28.cell? ⟨w6.heap.size, 7, none⟩ = some (.int .i64 x7) := keep1 hb28 (by first | (with_reducible assumption) | (go_simp; done))
    have p28x20 : w28.cell? ⟨w6.heap.size, 8, none⟩ = some (.int .i64 x8) := keep1 hb28 (by first | (with_reducible assumption) | (go_simp; done))
    have p28x21 : w28.cell? ⟨w22.heap.size, 0, none⟩ = some (.int .i64 ua) := keep1 hb28 (by first | (with_reducible assumption) | (go_simp; done))
    have p28x22 : w28.cell? ⟨w22.heap.size, 1, none⟩ = some (.int .i64 va) := keep1 hb28 (by first | (with_reducible assumption) | (go_simp; done))
    have p28x23 : w28.cell? ⟨w26.heap.size, 0, none⟩ = some (.int .i64 z0) := keep1 hb28 (by first | (with_reducible assumption) | (go_simp; done))
    have p28x24 : w28.cell? ⟨w26.heap.size, 1, none⟩ = some (.int .i64 z1) := keep1 hb28 (by first | (with_reducible assumption) | (go_simp; done))
    have p28x25 : w28.cell? ⟨w26.heap.size, 2, none⟩ = some (.int .i64 z2) := keep1 hb28 (by first | (with_reducible assumption) | (go_simp; done))
    have p28x26 : w28.cell? ⟨w26.heap.size, 3, none⟩ = some (.int .i64 z3) := keep1 hb28 (by first | (with_reducible assumption) | (go_simp; done))
    have p28x27 : w28.cell? ⟨w26.heap.size, 4, none⟩ = some (.int .i64 z4) := keep1 hb28 (by first | (with_reducible assumption) | (go_simp; done))
    have p28x28 : w28.cell? ⟨w26.heap.size, 5, none⟩ = some (.int .i64 z5) := keep1 hb28 (by first | (with_reducible assumption) | (go_simp; done))
    have p28x29 : w28.cell? ⟨w26.heap.size, 6, none⟩ = some (.int .i64 z6) := keep1 hb28 (by first | (with_reducible assumption) | (go_simp; done))
    have p28x30 : w28.cell? ⟨w26.heap.size, 7, none⟩ = some (.int .i64 z7) := keep1 hb28 (by first | (with_reducible assumption) | (go_simp; done))
    have p28x31 : w28.cell? ⟨w26.heap.size, 8, none⟩ = some (.int .i64 z8) := keep1 hb28 (by first | (with_reducible assumption) | (go_simp; done))
    have p28x32 : w28.cell? ⟨w27.heap.size, 0, none⟩ = some (.int .i64 ya) := keep1 hb28 (by first | (with_reducible assumption) | (go_simp; done))
    have p28x33 : w28.cell? ⟨w27.heap.size, 1, none⟩ = some (.int .i64 yb) := keep1 hb28 (by first | (with_reducible assumption) | (go_simp; done))
    have p28xz0 : w.heap.size + 1 < w28.heap.size := block_lt p28x0
    have p28xz3 : w5.heap.size < w28.heap.size := block_lt p28x3
    have p28xz12 : w6.heap.size < w28.heap.size := block_lt p28x12
    have p28xz21 : w22.heap.size < w28.heap.size := block_lt p28x21
    have p28xz23 : w26.heap.size < w28.heap.size := block_lt p28x23
    have p28xz32 : w27.heap.size < w28.heap.size := block_lt p28x32
    have p28xs := p28xb.size
    go_wp2_with fail
    refine (KU.out _ (ht.below (by first | (with_reducible assumption) | (go_grown; done)))).mono ?_
    rintro e w29 ⟨rfl, hb29⟩
    have p29xb : Below w.heap.size w w29 := belowT (by first | (go_grown; done) | exact And.left (by assumption)) hb29
    have p29x0 : w29.cell? ⟨w.heap.size + 1, 0, none⟩ = some (.int .i64 p0) := keep1 hb29 (by first | (with_reducible assumption) | (go_simp; done))
    have p29x1 : w29.cell? ⟨w.heap.size + 1, 1, none⟩ = some (.int .i64 p1) := keep1 hb29 (by first | (with_reducible assumption) | (go_simp; done))
    have p29x2 : w29.cell? ⟨w.heap.size + 1, 2, none⟩ = some (.int .i64 p2) := keep1 hb29 (by first | (with_reducible assumption) | (go_simp; done))
    have p29x3 : w29.cell? ⟨w5.heap.size, 0, none⟩ = some (.int .i64 l0) := keep1 hb29 (by first | (with_reducible assumption) | (go_simp; done))
    have p29x4 : w29.cell? ⟨w5.heap.size, 1, none⟩ = some (.int .i64 l1) := keep1 hb29 (by first | (with_reducible assumption) | (go_simp; done))
    have p29x5 : w29.cell? ⟨w5.heap.size, 2, none⟩ = some (.int .i64 l2) := keep1 hb29 (by first | (with_reducible assumption) | (go_simp; done))
    have p29x6 : w29.cell? ⟨w5.heap.size, 3, none⟩ = some (.int .i64 l3) := keep1 hb29 (by first | (with_reducible assumption) | (go_simp; done))
    have p29x7 : w29.cell? ⟨w5.heap.size, 4, none⟩ = some (.int .i64 l4) := keep1 hb29 (by first | (with_reducible assumption) | (go_simp; done))
    have p29x8 : w29.cell? ⟨w5.heap.size, 5, none⟩ = some (.int .i64 l5) := keep1 hb29 (by first | (with_reducible assumption) | (go_simp; done))
    have p29x9 : w29.cell? ⟨w5.heap.size, 6, none⟩ = some (.int .i64 l6) := keep1 hb29 (by first | (with_reducible assumption) | (go_simp; done))
    have p29x10 : w29.cell? ⟨w5.heap.size, 7, none⟩ = some (.int .i64 l7) := keep1 hb29 (by first | (with_reducible assumption) | (go_simp; done))
    have p29x11 : w29.cell? ⟨w5.heap.size, 8, none⟩ = some (.int .i64 l8) := keep1 hb29 (by first | (with_reducible assumption) | (go_simp; done))
    have p29x12 : w29.cell? ⟨w6.heap.size, 0, none⟩ = some (.int .i64 x0) := keep1 hb29 (by first | (with_reducible assumption) | (go_simp; done))
    have p29x13 : w29.cell? ⟨w6.heap.size, 1, none⟩ = some (.int .i64 x1) := keep1 hb29 (by first | (with_reducible assumption) | (go_simp; done))
    have p29x14 : w29.cell? ⟨w6.heap.size, 2, none⟩ = some (.int .i64 x2) := keep1 hb29 (by first | (with_reducible assumption) | (go_simp; done))
    have p29x15 : w29.cell? ⟨w6.heap.size, 3, none⟩ = some (.int .i64 x3) := keep1 hb29 (by first | (with_reducible assumption) | (go_simp; done))
    have p29x16 : w29.cell? ⟨w6.heap.size, 4, none⟩ = some (.int .i64 x4) := keep1 hb29 (by first | (with_reducible assumption) | (go_simp; done))
    have p29x17 : w29.cell? ⟨w6.heap.size, 5, none⟩ = some (.int .i64 x5) := keep1 hb29 (by first | (with_reducible assumption) | (go_simp; done))
    have p29x18 : w29.cell? ⟨w6.heap.size, 6, none⟩ = some (.int .i64 x6) := keep1 hb29 (by first | (with_reducible assumption) | (go_simp; done))
    have p29x19 : w29.cell? ⟨w6.heap.size, 7, none⟩ = some (.int .i64 x7) := keep1 hb29 (by first | (with_reducible assumption) | (go_simp; done))
    have p29x20 : w29.cell? ⟨w6.heap.size, 8, none⟩ = some (.int .i64 x8) := keep1 hb29 (by first | (with_reducible assumption) | (go_simp; done))
    have p29x21 : w29.cell? ⟨w22.heap.size, 0, none⟩ = some (.int .i64 ua) := keep1 hb29 (by first | (with_reducible assumption) | (go_simp; done))
    have p29x22 : w29.cell? ⟨w22.heap.size, 1, none⟩ = some (.int .i64 va) := keep1 hb29 (by first | (with_reducible assumption) | (go_simp; done))
    have p29x23 : w29.cell? ⟨w26.heap.size, 0, none⟩ = some (.int .i64 z0) := keep1 hb29 (by first | (with_reducible assumption) | (go_simp; done))
    have p29x24 : w29.cell? ⟨w26.heap.size, 1, none⟩ = some (.int .i64 z1) := keep1 hb29 (by first | (with_reducible assumption) | (go_simp; done))
    have p29x25 : w29.cell? ⟨w26.heap.size, 2, none⟩ = some (.int .i64 z2) := keep1 hb29 (by first | (with_reducible assumption) | (go_simp; done))
    have p29x26 : w29.cell? ⟨w26.heap.size, 3, none⟩ = some (.int .i64 z3) := keep1 hb29 (by first | (with_reducible assumption) | (go_simp; done))
    have p29x27 : w29.cell? ⟨w26.heap.size, 4, none⟩ = some (.int .i64 z4) := keep1 hb29 (by first | (with_reducible assumption) | (go_simp; done))
    have p29x28 : w29.cell? ⟨w26.heap.size, 5, none⟩ = some (.int .i64 z5) := keep1 hb29 (by first | (with_reducible assumption) | (go_simp; done))
    have p29x29 : w29.cell? ⟨w26.heap.size, 6, none⟩ = some (.int .i64 z6) := keep1 hb29 (by first | (with_reducible assumption) | (go_simp; done))
    have p29x30 : w29.cell? ⟨w26.heap.size, 7, none⟩ = some (.int .i64 z7) := keep1 hb29 (by first | (with_reducible assumption) | (go_simp; done))
    have p29x31 : w29.cell? ⟨w26.heap.size, 8, none⟩ = some (.int .i64 z8) := keep1 hb29 (by first | (with_reducible assumption) | (go_simp; done))
    have p29x32 : w29.cell? ⟨w27.heap.size, 0, none⟩ = some (.int .i64 ya) := keep1 hb29 (by first | (with_reducible assumption) | (go_simp; done))
    have p29x33 : w29.cell? ⟨w27.heap.size, 1, none⟩ = some (.int .i64 yb) := keep1 hb29 (by first | (with_reducible assumption) | (go_simp; done))
    have p29xz0 : w.heap.size + 1 < w29.heap.size := block_lt p29x0
    have p29xz3 : w5.heap.size < w29.heap.size := block_lt p29x3
    have p29xz12 : w6.heap.size < w29.heap.size := block_lt p29x12
    have p29xz21 : w22.heap.size < w29.heap.size := block_lt p29x21
    have p29xz23 : w26.heap.size < w29.heap.size := block_lt p29x23
    have p29xz32 : w27.heap.size < w29.heap.size := block_lt p29x32
    have p29xs := p29xb.size
    go_wp2_with (first | (go_at_call 27; refine (KW.out _).mono ?_; rintro e wz ⟨rfl, rfl⟩) | (go_at_call 36; refine (KM.out _).mono ?_; rintro e wz ⟨rfl, rfl⟩))
    go_returns
    exact ⟨rfl, by first | (go_grown; done) | assumption⟩
set_option maxRecDepth 100000 in
set_option maxHeartbeats 16000000 in
theorem renamed_odd (k n s : Int) (r : Bool) (p0 p1 p2 q0 q1 q2 e0 e1 e2 l0 l1 l2 l3 l4 l5 l6 l7 l8 x0 x1 x2 x3 x4 x5 x6 x7 x8 y0 y1 y2 y3 y4 y5 y6 y7 y8 z0 z1 z2 z3 z4 z5 z6 z7 z8 sv ua va N ub vb ya yb tt uu f1 f2 c4 c5 : Int) (w : World) (ht : Tabs w) (hr : w.rangeAt 0 0 permL) (m1 : IntKind.i64.wrap (p0 + 1) = f1) (m2 : f1.tmod 3 = f2) (m3 : (p1 == f2) = false) (m4 : (sv == 1) = false) (m6 : IntKind.i64.wrap (4 * sv) = c4) (m7 : IntKind.i64.wrap (uu - c4) = c5) (m5 : (sv != -1) = false) (b0 : 0 ≤ q0) (d0 : q0 < 3) (g0 : e0 = if q0 = 0 then p0 else if q0 = 1 then p1 else p2) (b1 : 0 ≤ q1) (d1 : q1 < 3) (g1 : e1 = if q1 = 0 then p0 else if q1 = 1 then p1 else p2) (b2 : 0 ≤ q2) (d2 : q2 < 3) (g2 : e2 = if q2 = 0 then p0 else if q2 = 1 then p1 else p2) (KE : Hid (∀ w, Calls Tryd.prog 19 #[.agg #[.int .i64 k, .int .i64 n, .int .i64 s, .bool r]] w fun e w' => e = .returned (.int .i64 0) ∧ Below w.heap.size w w')) (KP : Hid (∀ w, Calls Tryd.prog 33 #[.agg #[.int .i64 p0, .int .i64 p1, .int .i64 p2]] w fun e w' => e = .returned (.bool true) ∧ Below w.heap.size w w')) (KQ : Hid (∀ w, Calls Tryd.prog 33 #[.agg #[.int .i64 q0, .int .i64 q1, .int .i64 q2]] w fun e w' => e = .returned (.bool true) ∧ Below w.heap.size w w')) (KL : Hid (∀ w, Calls Tryd.prog 22 #[.agg #[.int .i64 k, .int .i64 n, .int .i64 s, .bool r]] w fun e w' => e = .returned (.agg #[.int .i64 l0, .int .i64 l1, .int .i64 l2, .int .i64 l3, .int .i64 l4, .int .i64 l5, .int .i64 l6, .int .i64 l7, .int .i64 l8]) ∧ Below w.heap.size w w')) (KA : Hid (∀ w, w.rangeAt 0 0 permL → Calls Tryd.prog 28 #[.agg #[.int .i64 l0, .int .i64 l1, .int .i64 l2, .int .i64 l3, .int .i64 l4, .int .i64 l5, .int .i64 l6, .int .i64 l7, .int .i64 l8], .agg #[.int .i64 p0, .int .i64 p1, .int .i64 p2]] w fun e w' => e = .returned (.tuple #[.agg #[.int .i64 x0, .int .i64 x1, .int .i64 x2, .int .i64 x3, .int .i64 x4, .int .i64 x5, .int .i64 x6, .int .i64 x7, .int .i64 x8], .int .i64 0]) ∧ Below w.heap.size w w')) (KB : Hid (∀ w, w.rangeAt 0 0 permL → Calls Tryd.prog 28 #[.agg #[.int .i64 x0, .int .i64 x1, .int .i64 x2, .int .i64 x3, .int .i64 x4, .int .i64 x5, .int .i64 x6, .int .i64 x7, .int .i64 x8], .agg #[.int .i64 q0, .int .i64 q1, .int .i64 q2]] w fun e w' => e = .returned (.tuple #[.agg #[.int .i64 y0, .int .i64 y1, .int .i64 y2, .int .i64 y3, .int .i64 y4, .int .i64 y5, .int .i64 y6, .int .i64 y7, .int .i64 y8], .int .i64 0]) ∧ Below w.heap.size w w')) (KC : Hid (∀ w, w.rangeAt 0 0 permL → Calls Tryd.prog 28 #[.agg #[.int .i64 l0, .int .i64 l1, .int .i64 l2, .int .i64 l3, .int .i64 l4, .int .i64 l5, .int .i64 l6, .int .i64 l7, .int .i64 l8], .agg #[.int .i64 e0, .int .i64 e1, .int .i64 e2]] w fun e w' => e = .returned (.tuple #[.agg #[.int .i64 y0, .int .i64 y1, .int .i64 y2, .int .i64 y3, .int .i64 y4, .int .i64 y5, .int .i64 y6, .int .i64 y7, .int .i64 y8], .int .i64 0]) ∧ Below w.heap.size w w')) (KS : Hid (∀ w, Tabs w → Calls Tryd.prog 23 #[.agg #[.int .i64 x0, .int .i64 x1, .int .i64 x2, .int .i64 x3, .int .i64 x4, .int .i64 x5, .int .i64 x6, .int .i64 x7, .int .i64 x8]] w fun e w' => e = .returned (.tuple #[.int .i64 sv, .int .i64 0]) ∧ Below w.heap.size w w')) (KF : Hid (∀ w, Tabs w → Calls Tryd.prog 24 #[.agg #[.int .i64 x0, .int .i64 x1, .int .i64 x2, .int .i64 x3, .int .i64 x4, .int .i64 x5, .int .i64 x6, .int .i64 x7, .int .i64 x8]] w fun e w' => e = .returned (.tuple #[.agg #[.int .i64 ua, .int .i64 va], .int .i64 0]) ∧ Below w.heap.size w w')) (KN : Hid (∀ w, Calls Tryd.prog 25 #[.agg #[.int .i64 ua, .int .i64 va]] w fun e w' => e = .returned (.tuple #[.int .i64 N, .int .i64 0]) ∧ Below w.heap.size w w')) (KG : Hid (∀ w, Calls Tryd.prog 32 #[.agg #[.int .i64 l0, .int .i64 l1, .int .i64 l2]] w fun e w' => e = .returned (.agg #[.int .i64 ub, .int .i64 vb]) ∧ Below w.heap.size w w')) (KH : Hid (∀ w, Calls Tryd.prog 35 #[.agg #[.int .i64 ub, .int .i64 vb]] w fun e w' => e = .returned (.int .i64 N) ∧ Below w.heap.size w w')) (KO : Hid (∀ w, w.rangeAt 0 0 permL → Calls Tryd.prog 28 #[.agg #[.int .i64 x0, .int .i64 x1, .int .i64 x2, .int .i64 x3, .int .i64 x4, .int .i64 x5, .int .i64 x6, .int .i64 x7, .int .i64 x8], .agg #[.int .i64 1, .int .i64 2, .int .i64 0]] w fun e w' => e = .returned (.tuple #[.agg #[.int .i64 z0, .int .i64 z1, .int .i64 z2, .int .i64 z3, .int .i64 z4, .int .i64 z5, .int .i64 z6, .int .i64 z7, .int .i64 z8], .int .i64 0]) ∧ Below w.heap.size w w')) (KY : Hid (∀ w, Tabs w → Calls Tryd.prog 24 #[.agg #[.int .i64 z0, .int .i64 z1, .int .i64 z2, .int .i64 z3, .int .i64 z4, .int .i64 z5, .int .i64 z6, .int .i64 z7, .int .i64 z8]] w fun e w' => e = .returned (.tuple #[.agg #[.int .i64 ya, .int .i64 yb], .int .i64 0]) ∧ Below w.heap.size w w')) (KT : Hid (∀ w, Tabs w → Calls Tryd.prog 26 #[.agg #[.int .i64 ya, .int .i64 yb]] w fun e w' => e = .returned (.tuple #[.int .i64 tt, .int .i64 0]) ∧ Below w.heap.size w w')) (KU : Hid (∀ w, Tabs w → Calls Tryd.prog 26 #[.agg #[.int .i64 ua, .int .i64 va]] w fun e w' => e = .returned (.tuple #[.int .i64 uu, .int .i64 0]) ∧ Below w.heap.size w w')) (KW : Hid (∀ w, Calls Tryd.prog 27 #[.int .i64 uu, .int .i64 0, .int .i64 11] w fun e w' => e = .returned (.bool true) ∧ w = w')) (KM : Hid (∀ w, Calls Tryd.prog 36 #[.int .i64 c5, .int .i64 12] w fun e w' => e = .returned (.int .i64 tt) ∧ w = w')) :
    Calls Tryd.prog 6 #[.agg #[.int .i64 k, .int .i64 n, .int .i64 s, .bool r], .agg #[.int .i64 p0, .int .i64 p1, .int .i64 p2], .agg #[.int .i64 q0, .int .i64 q1, .int .i64 q2]] w fun e w' => e = .returned (.bool true) ∧ Below w.heap.size w w' := by
  have ce0 : (((w.alloc (.cells #[.int .i64 k, .int .i64 n, .int .i64 s, .bool r] 23)).alloc (.cells #[.int .i64 p0, .int .i64 p1, .int .i64 p2] 25)).alloc (.cells #[.int .i64 q0, .int .i64 q1, .int .i64 q2] 25)).cell? ⟨w.heap.size + 1, q0.toNat, none⟩ = some (.int .i64 e0) := by
    rw [g0]
    obtain h | h | h : q0 = 0 ∨ q0 = 1 ∨ q0 = 2 := by omega
    all_goals (rw [h]; go_simp; try rfl)
  have ce1 : (((w.alloc (.cells #[.int .i64 k, .int .i64 n, .int .i64 s, .bool r] 23)).alloc (.cells #[.int .i64 p0, .int .i64 p1, .int .i64 p2] 25)).alloc (.cells #[.int .i64 q0, .int .i64 q1, .int .i64 q2] 25)).cell? ⟨w.heap.size + 1, q1.toNat, none⟩ = some (.int .i64 e1) := by
    rw [g1]
    obtain h | h | h : q1 = 0 ∨ q1 = 1 ∨ q1 = 2 := by omega
    all_goals (rw [h]; go_simp; try rfl)
  have ce2 : (((w.alloc (.cells #[.int .i64 k, .int .i64 n, .int .i64 s, .bool r] 23)).alloc (.cells #[.int .i64 p0, .int .i64 p1, .int .i64 p2] 25)).alloc (.cells #[.int .i64 q0, .int .i64 q1, .int .i64 q2] 25)).cell? ⟨w.heap.size + 1, q2.toNat, none⟩ = some (.int .i64 e2) := by
    rw [g2]
    obtain h | h | h : q2 = 0 ∨ q2 = 1 ∨ q2 = 2 := by omega
    all_goals (rw [h]; go_simp; try rfl)
  clear g0 g1 g2
  have n27 := neq27 y0 y1 y2 y3 y4 y5 y6 y7 y8
  go_enter Tryd.func6, Tryd.ntmps6
  go_wp2_with fail
  refine (awake_any _ (ht.below (by go_grown))).mono ?_
  rintro e w1 ⟨rfl, hb1⟩
  have p1xb : Below w.heap.size w w1 := belowT (by first | (go_grown; done) | exact And.left (by assumption)) hb1
  have p1x0 : w1.cell? ⟨w.heap.size, 0, none⟩ = some (.int .i64 k) := keep1 hb1 (by first | (with_reducible assumption) | (go_simp; done))
  have p1x1 : w1.cell? ⟨w.heap.size, 1, none⟩ = some (.int .i64 n) := keep1 hb1 (by first | (with_reducible assumption) | (go_simp; done))
  have p1x2 : w1.cell? ⟨w.heap.size, 2, none⟩ = some (.int .i64 s) := keep1 hb1 (by first | (with_reducible assumption) | (go_simp; done))
  have p1x3 : w1.cell? ⟨w.heap.size, 3, none⟩ = some (.bool r) := keep1 hb1 (by first | (with_reducible assumption) | (go_simp; done))
  have p1x4 : w1.cell? ⟨w.heap.size + 1, 0, none⟩ = some (.int .i64 p0) := keep1 hb1 (by first | (with_reducible assumption) | (go_simp; done))
  have p1x5 : w1.cell? ⟨w.heap.size + 1, 1, none⟩ = some (.int .i64 p1) := keep1 hb1 (by first | (with_reducible assumption) | (go_simp; done))
  have p1x6 : w1.cell? ⟨w.heap.size + 1, 2, none⟩ = some (.int .i64 p2) := keep1 hb1 (by first | (with_reducible assumption) | (go_simp; done))
  have p1x7 : w1.cell? ⟨w.heap.size + 1, q0.toNat, none⟩ = some (.int .i64 e0) := keep1 hb1 (by first | (with_reducible assumption) | (go_simp; done))
  have p1x8 : w1.cell? ⟨w.heap.size + 1, q1.toNat, none⟩ = some (.int .i64 e1) := keep1 hb1 (by first | (with_reducible assumption) | (go_simp; done))
  have p1x9 : w1.cell? ⟨w.heap.size + 1, q2.toNat, none⟩ = some (.int .i64 e2) := keep1 hb1 (by first | (with_reducible assumption) | (go_simp; done))
  have p1x10 : w1.cell? ⟨w.heap.size + 1 + 1, 0, none⟩ = some (.int .i64 q0) := keep1 hb1 (by first | (with_reducible assumption) | (go_simp; done))
  have p1x11 : w1.cell? ⟨w.heap.size + 1 + 1, 1, none⟩ = some (.int .i64 q1) := keep1 hb1 (by first | (with_reducible assumption) | (go_simp; done))
  have p1x12 : w1.cell? ⟨w.heap.size + 1 + 1, 2, none⟩ = some (.int .i64 q2) := keep1 hb1 (by first | (with_reducible assumption) | (go_simp; done))
  have p1xz0 : w.heap.size < w1.heap.size := block_lt p1x0
  have p1xz4 : w.heap.size + 1 < w1.heap.size := block_lt p1x4
  have p1xz7 : w.heap.size + 1 < w1.heap.size := block_lt p1x7
  have p1xz8 : w.heap.size + 1 < w1.heap.size := block_lt p1x8
  have p1xz9 : w.heap.size + 1 < w1.heap.size := block_lt p1x9
  have p1xz10 : w.heap.size + 1 + 1 < w1.heap.size := block_lt p1x10
  have p1xs := p1xb.size
  go_wp2_with fail
  refine (KE.out _).mono ?_
  rintro e w2 ⟨rfl, hb2⟩
  have p2xb : Below w.heap.size w w2 := belowT (by first | (go_grown; done) | exact And.left (by assumption)) hb2
  have p2x0 : w2.cell? ⟨w.heap.size, 0, none⟩ = some (.int .i64 k) := keep1 hb2 (by first | (with_reducible assumption) | (go_simp; done))
  have p2x1 : w2.cell? ⟨w.heap.size, 1, none⟩ = some (.int .i64 n) := keep1 hb2 (by first | (with_reducible assumption) | (go_simp; done))
  have p2x2 : w2.cell? ⟨w.heap.size, 2, none⟩ = some (.int .i64 s) := keep1 hb2 (by first | (with_reducible assumption) | (go_simp; done))
  have p2x3 : w2.cell? ⟨w.heap.size, 3, none⟩ = some (.bool r) := keep1 hb2 (by first | (with_reducible assumption) | (go_simp; done))
  have p2x4 : w2.cell? ⟨w.heap.size + 1, 0, none⟩ = some (.int .i64 p0) := keep1 hb2 (by first | (with_reducible assumption) | (go_simp; done))
  have p2x5 : w2.cell? ⟨w.heap.size + 1, 1, none⟩ = some (.int .i64 p1) := keep1 hb2 (by first | (with_reducible assumption) | (go_simp; done))
  have p2x6 : w2.cell? ⟨w.heap.size + 1, 2, none⟩ = some (.int .i64 p2) := keep1 hb2 (by first | (with_reducible assumption) | (go_simp; done))
  have p2x7 : w2.cell? ⟨w.heap.size + 1, q0.toNat, none⟩ = some (.int .i64 e0) := keep1 hb2 (by first | (with_reducible assumption) | (go_simp; done))
  have p2x8 : w2.cell? ⟨w.heap.size + 1, q1.toNat, none⟩ = some (.int .i64 e1) := keep1 hb2 (by first | (with_reducible assumption) | (go_simp; done))
  have p2x9 : w2.cell? ⟨w.heap.size + 1, q2.toNat, none⟩ = some (.int .i64 e2) := keep1 hb2 (by first | (with_reducible assumption) | (go_simp; done))
  have p2x10 : w2.cell? ⟨w.heap.size + 1 + 1, 0, none⟩ = some (.int .i64 q0) := keep1 hb2 (by first | (with_reducible assumption) | (go_simp; done))
  have p2x11 : w2.cell? ⟨w.heap.size + 1 + 1, 1, none⟩ = some (.int .i64 q1) := keep1 hb2 (by first | (with_reducible assumption) | (go_simp; done))
  have p2x12 : w2.cell? ⟨w.heap.size + 1 + 1, 2, none⟩ = some (.int .i64 q2) := keep1 hb2 (by first | (with_reducible assumption) | (go_simp; done))
  have p2xz0 : w.heap.size < w2.heap.size := block_lt p2x0
  have p2xz4 : w.heap.size + 1 < w2.heap.size := block_lt p2x4
  have p2xz7 : w.heap.size + 1 < w2.heap.size := block_lt p2x7
  have p2xz8 : w.heap.size + 1 < w2.heap.size := block_lt p2x8
  have p2xz9 : w.heap.size + 1 < w2.heap.size := block_lt p2x9
  have p2xz10 : w.heap.size + 1 + 1 < w2.heap.size := block_lt p2x10
  have p2xs := p2xb.size
  go_wp2_with fail
  refine (KP.out _).mono ?_
  rintro e w3 ⟨rfl, hb3⟩
  have p3xb : Below w.heap.size w w3 := belowT (by first | (go_grown; done) | exact And.left (by assumption)) hb3
  have p3x0 : w3.cell? ⟨w.heap.size, 0, none⟩ = some (.int .i64 k) := keep1 hb3 (by first | (with_reducible assumption) | (go_simp; done))
  have p3x1 : w3.cell? ⟨w.heap.size, 1, none⟩ = some (.int .i64 n) := keep1 hb3 (by first | (with_reducible assumption) | (go_simp; done))
  have p3x2 : w3.cell? ⟨w.heap.size, 2, none⟩ = some (.int .i64 s) := keep1 hb3 (by first | (with_reducible assumption) | (go_simp; done))
  have p3x3 : w3.cell? ⟨w.heap.size, 3, none⟩ = some (.bool r) := keep1 hb3 (by first | (with_reducible assumption) | (go_simp; done))
  have p3x4 : w3.cell? ⟨w.heap.size + 1, 0, none⟩ = some (.int .i64 p0) := keep1 hb3 (by first | (with_reducible assumption) | (go_simp; done))
  have p3x5 : w3.cell? ⟨w.heap.size + 1, 1, none⟩ = some (.int .i64 p1) := keep1 hb3 (by first | (with_reducible assumption) | (go_simp; done))
  have p3x6 : w3.cell? ⟨w.heap.size + 1, 2, none⟩ = some (.int .i64 p2) := keep1 hb3 (by first | (with_reducible assumption) | (go_simp; done))
  have p3x7 : w3.cell? ⟨w.heap.size + 1, q0.toNat, none⟩ = some (.int .i64 e0) := keep1 hb3 (by first | (with_reducible assumption) | (go_simp; done))
  have p3x8 : w3.cell? ⟨w.heap.size + 1, q1.toNat, none⟩ = some (.int .i64 e1) := keep1 hb3 (by first | (with_reducible assumption) | (go_simp; done))
  have p3x9 : w3.cell? ⟨w.heap.size + 1, q2.toNat, none⟩ = some (.int .i64 e2) := keep1 hb3 (by first | (with_reducible assumption) | (go_simp; done))
  have p3x10 : w3.cell? ⟨w.heap.size + 1 + 1, 0, none⟩ = some (.int .i64 q0) := keep1 hb3 (by first | (with_reducible assumption) | (go_simp; done))
  have p3x11 : w3.cell? ⟨w.heap.size + 1 + 1, 1, none⟩ = some (.int .i64 q1) := keep1 hb3 (by first | (with_reducible assumption) | (go_simp; done))
  have p3x12 : w3.cell? ⟨w.heap.size + 1 + 1, 2, none⟩ = some (.int .i64 q2) := keep1 hb3 (by first | (with_reducible assumption) | (go_simp; done))
  have p3xz0 : w.heap.size < w3.heap.size := block_lt p3x0
  have p3xz4 : w.heap.size + 1 < w3.heap.size := block_lt p3x4
  have p3xz7 : w.heap.size + 1 < w3.heap.size := block_lt p3x7
  have p3xz8 : w.heap.size + 1 < w3.heap.size := block_lt p3x8
  have p3xz9 : w.heap.size + 1 < w3.heap.size := block_lt p3x9
  have p3xz10 : w.heap.size + 1 + 1 < w3.heap.size := block_lt p3x10
  have p3xs := p3xb.size
  go_wp2_with fail
  refine (KQ.out _).mono ?_
  rintro e w4 ⟨rfl, hb4⟩
  have p4xb : Below w.heap.size w w4 := belowT (by first | (go_grown; done) | exact And.left (by assumption)) hb4
  have p4x0 : w4.cell? ⟨w.heap.size, 0, none⟩ = some (.int .i64 k) := keep1 hb4 (by first | (with_reducible assumption) | (go_simp; done))
  have p4x1 : w4.cell? ⟨w.heap.size, 1, none⟩ = some (.int .i64 n) := keep1 hb4 (by first | (with_reducible assumption) | (go_simp; done))
  have p4x2 : w4.cell? ⟨w.heap.size, 2, none⟩ = some (.int .i64 s) := keep1 hb4 (by first | (with_reducible assumption) | (go_simp; done))
  have p4x3 : w4.cell? ⟨w.heap.size, 3, none⟩ = some (.bool r) := keep1 hb4 (by first | (with_reducible assumption) | (go_simp; done))
  have p4x4 : w4.cell? ⟨w.heap.size + 1, 0, none⟩ = some (.int .i64 p0) := keep1 hb4 (by first | (with_reducible assumption) | (go_simp; done))
  have p4x5 : w4.cell? ⟨w.heap.size + 1, 1, none⟩ = some (.int .i64 p1) := keep1 hb4 (by first | (with_reducible assumption) | (go_simp; done))
  have p4x6 : w4.cell? ⟨w.heap.size + 1, 2, none⟩ = some (.int .i64 p2) := keep1 hb4 (by first | (with_reducible assumption) | (go_simp; done))
  have p4x7 : w4.cell? ⟨w.heap.size + 1, q0.toNat, none⟩ = some (.int .i64 e0) := keep1 hb4 (by first | (with_reducible assumption) | (go_simp; done))
  have p4x8 : w4.cell? ⟨w.heap.size + 1, q1.toNat, none⟩ = some (.int .i64 e1) := keep1 hb4 (by first | (with_reducible assumption) | (go_simp; done))
  have p4x9 : w4.cell? ⟨w.heap.size + 1, q2.toNat, none⟩ = some (.int .i64 e2) := keep1 hb4 (by first | (with_reducible assumption) | (go_simp; done))
  have p4x10 : w4.cell? ⟨w.heap.size + 1 + 1, 0, none⟩ = some (.int .i64 q0) := keep1 hb4 (by first | (with_reducible assumption) | (go_simp; done))
  have p4x11 : w4.cell? ⟨w.heap.size + 1 + 1, 1, none⟩ = some (.int .i64 q1) := keep1 hb4 (by first | (with_reducible assumption) | (go_simp; done))
  have p4x12 : w4.cell? ⟨w.heap.size + 1 + 1, 2, none⟩ = some (.int .i64 q2) := keep1 hb4 (by first | (with_reducible assumption) | (go_simp; done))
  have p4xz0 : w.heap.size < w4.heap.size := block_lt p4x0
  have p4xz4 : w.heap.size + 1 < w4.heap.size := block_lt p4x4
  have p4xz7 : w.heap.size + 1 < w4.heap.size := block_lt p4x7
  have p4xz8 : w.heap.size + 1 < w4.heap.size := block_lt p4x8
  have p4xz9 : w.heap.size + 1 < w4.heap.size := block_lt p4x9
  have p4xz10 : w.heap.size + 1 + 1 < w4.heap.size := block_lt p4x10
  have p4xs := p4xb.size
  go_wp2_with fail
  refine (KL.out _).mono ?_
  rintro e w5 ⟨rfl, hb5⟩
  have p5xb : Below w.heap.size w w5 := belowT (by first | (go_grown; done) | exact And.left (by assumption)) hb5
  have p5x0 : w5.cell? ⟨w.heap.size, 0, none⟩ = some (.int .i64 k) := keep1 hb5 (by first | (with_reducible assumption) | (go_simp; done))
  have p5x1 : w5.cell? ⟨w.heap.size, 1, none⟩ = some (.int .i64 n) := keep1 hb5 (by first | (with_reducible assumption) | (go_simp; done))
  have p5x2 : w5.cell? ⟨w.heap.size, 2, none⟩ = some (.int .i64 s) := keep1 hb5 (by first | (with_reducible assumption) | (go_simp; done))
  have p5x3 : w5.cell? ⟨w.heap.size, 3, none⟩ = some (.bool r) := keep1 hb5 (by first | (with_reducible assumption) | (go_simp; done))
  have p5x4 : w5.cell? ⟨w.heap.size + 1, 0, none⟩ = some (.int .i64 p0) := keep1 hb5 (by first | (with_reducible assumption) | (go_simp; done))
  have p5x5 : w5.cell? ⟨w.heap.size + 1, 1, none⟩ = some (.int .i64 p1) := keep1 hb5 (by first | (with_reducible assumption) | (go_simp; done))
  have p5x6 : w5.cell? ⟨w.heap.size + 1, 2, none⟩ = some (.int .i64 p2) := keep1 hb5 (by first | (with_reducible assumption) | (go_simp; done))
  have p5x7 : w5.cell? ⟨w.heap.size + 1, q0.toNat, none⟩ = some (.int .i64 e0) := keep1 hb5 (by first | (with_reducible assumption) | (go_simp; done))
  have p5x8 : w5.cell? ⟨w.heap.size + 1, q1.toNat, none⟩ = some (.int .i64 e1) := keep1 hb5 (by first | (with_reducible assumption) | (go_simp; done))
  have p5x9 : w5.cell? ⟨w.heap.size + 1, q2.toNat, none⟩ = some (.int .i64 e2) := keep1 hb5 (by first | (with_reducible assumption) | (go_simp; done))
  have p5x10 : w5.cell? ⟨w.heap.size + 1 + 1, 0, none⟩ = some (.int .i64 q0) := keep1 hb5 (by first | (with_reducible assumption) | (go_simp; done))
  have p5x11 : w5.cell? ⟨w.heap.size + 1 + 1, 1, none⟩ = some (.int .i64 q1) := keep1 hb5 (by first | (with_reducible assumption) | (go_simp; done))
  have p5x12 : w5.cell? ⟨w.heap.size + 1 + 1, 2, none⟩ = some (.int .i64 q2) := keep1 hb5 (by first | (with_reducible assumption) | (go_simp; done))
  have p5xz0 : w.heap.size < w5.heap.size := block_lt p5x0
  have p5xz4 : w.heap.size + 1 < w5.heap.size := block_lt p5x4
  have p5xz7 : w.heap.size + 1 < w5.heap.size := block_lt p5x7
  have p5xz8 : w.heap.size + 1 < w5.heap.size := block_lt p5x8
  have p5xz9 : w.heap.size + 1 < w5.heap.size := block_lt p5x9
  have p5xz10 : w.heap.size + 1 + 1 < w5.heap.size := block_lt p5x10
  have p5xs := p5xb.size
  go_wp2_with fail
  refine (KA.out _ (rangeB (w := w) (by first | (with_reducible assumption) | (go_grown; done)) hr)).mono ?_
  rintro e w6 ⟨rfl, hb6⟩
  have p6xb : Below w.heap.size w w6 := belowT (by first | (go_grown; done) | exact And.left (by assumption)) hb6
  have p6x0 : w6.cell? ⟨w.heap.size, 0, none⟩ = some (.int .i64 k) := keep1 hb6 (by first | (with_reducible assumption) | (go_simp; done))
  have p6x1 : w6.cell? ⟨w.heap.size, 1, none⟩ = some (.int .i64 n) := keep1 hb6 (by first | (with_reducible assumption) | (go_simp; done))
  have p6x2 : w6.cell? ⟨w.heap.size, 2, none⟩ = some (.int .i64 s) := keep1 hb6 (by first | (with_reducible assumption) | (go_simp; done))
  have p6x3 : w6.cell? ⟨w.heap.size, 3, none⟩ = some (.bool r) := keep1 hb6 (by first | (with_reducible assumption) | (go_simp; done))
  have p6x4 : w6.cell? ⟨w.heap.size + 1, 0, none⟩ = some (.int .i64 p0) := keep1 hb6 (by first | (with_reducible assumption) | (go_simp; done))
  have p6x5 : w6.cell? ⟨w.heap.size + 1, 1, none⟩ = some (.int .i64 p1) := keep1 hb6 (by first | (with_reducible assumption) | (go_simp; done))
  have p6x6 : w6.cell? ⟨w.heap.size + 1, 2, none⟩ = some (.int .i64 p2) := keep1 hb6 (by first | (with_reducible assumption) | (go_simp; done))
  have p6x7 : w6.cell? ⟨w.heap.size + 1, q0.toNat, none⟩ = some (.int .i64 e0) := keep1 hb6 (by first | (with_reducible assumption) | (go_simp; done))
  have p6x8 : w6.cell? ⟨w.heap.size + 1, q1.toNat, none⟩ = some (.int .i64 e1) := keep1 hb6 (by first | (with_reducible assumption) | (go_simp; done))
  have p6x9 : w6.cell? ⟨w.heap.size + 1, q2.toNat, none⟩ = some (.int .i64 e2) := keep1 hb6 (by first | (with_reducible assumption) | (go_simp; done))
  have p6x10 : w6.cell? ⟨w.heap.size + 1 + 1, 0, none⟩ = some (.int .i64 q0) := keep1 hb6 (by first | (with_reducible assumption) | (go_simp; done))
  have p6x11 : w6.cell? ⟨w.heap.size + 1 + 1, 1, none⟩ = some (.int .i64 q1) := keep1 hb6 (by first | (with_reducible assumption) | (go_simp; done))
  have p6x12 : w6.cell? ⟨w.heap.size + 1 + 1, 2, none⟩ = some (.int .i64 q2) := keep1 hb6 (by first | (with_reducible assumption) | (go_simp; done))
  have p6x13 : w6.cell? ⟨w5.heap.size, 0, none⟩ = some (.int .i64 l0) := keep1 hb6 (by first | (with_reducible assumption) | (go_simp; done))
  have p6x14 : w6.cell? ⟨w5.heap.size, 1, none⟩ = some (.int .i64 l1) := keep1 hb6 (by first | (with_reducible assumption) | (go_simp; done))
  have p6x15 : w6.cell? ⟨w5.heap.size, 2, none⟩ = some (.int .i64 l2) := keep1 hb6 (by first | (with_reducible assumption) | (go_simp; done))
  have p6x16 : w6.cell? ⟨w5.heap.size, 3, none⟩ = some (.int .i64 l3) := keep1 hb6 (by first | (with_reducible assumption) | (go_simp; done))
  have p6x17 : w6.cell? ⟨w5.heap.size, 4, none⟩ = some (.int .i64 l4) := keep1 hb6 (by first | (with_reducible assumption) | (go_simp; done))
  have p6x18 : w6.cell? ⟨w5.heap.size, 5, none⟩ = some (.int .i64 l5) := keep1 hb6 (by first | (with_reducible assumption) | (go_simp; done))
  have p6x19 : w6.cell? ⟨w5.heap.size, 6, none⟩ = some (.int .i64 l6) := keep1 hb6 (by first | (with_reducible assumption) | (go_simp; done))
  have p6x20 : w6.cell? ⟨w5.heap.size, 7, none⟩ = some (.int .i64 l7) := keep1 hb6 (by first | (with_reducible assumption) | (go_simp; done))
  have p6x21 : w6.cell? ⟨w5.heap.size, 8, none⟩ = some (.int .i64 l8) := keep1 hb6 (by first | (with_reducible assumption) | (go_simp; done))
  have p6xz0 : w.heap.size < w6.heap.size := block_lt p6x0
  have p6xz4 : w.heap.size + 1 < w6.heap.size := block_lt p6x4
  have p6xz7 : w.heap.size + 1 < w6.heap.size := block_lt p6x7
  have p6xz8 : w.heap.size + 1 < w6.heap.size := block_lt p6x8
  have p6xz9 : w.heap.size + 1 < w6.heap.size := block_lt p6x9
  have p6xz10 : w.heap.size + 1 + 1 < w6.heap.size := block_lt p6x10
  have p6xz13 : w5.heap.size < w6.heap.size := block_lt p6x13
  have p6xs := p6xb.size
  go_wp2_with fail
  refine (KB.out _ (rangeB (w := w) (by first | (with_reducible assumption) | (go_grown; done)) hr)).mono ?_
  rintro e w7 ⟨rfl, hb7⟩
  have p7xb : Below w.heap.size w w7 := belowT (by first | (go_grown; done) | exact And.left (by assumption)) hb7
  have p7x0 : w7.cell? ⟨w.heap.size, 0, none⟩ = some (.int .i64 k) := keep1 hb7 (by first | (with_reducible assumption) | (go_simp; done))
  have p7x1 : w7.cell? ⟨w.heap.size, 1, none⟩ = some (.int .i64 n) := keep1 hb7 (by first | (with_reducible assumption) | (go_simp; done))
  have p7x2 : w7.cell? ⟨w.heap.size, 2, none⟩ = some (.int .i64 s) := keep1 hb7 (by first | (with_reducible assumption) | (go_simp; done))
  have p7x3 : w7.cell? ⟨w.heap.size, 3, none⟩ = some (.bool r) := keep1 hb7 (by first | (with_reducible assumption) | (go_simp; done))
  have p7x4 : w7.cell? ⟨w.heap.size + 1, 0, none⟩ = some (.int .i64 p0) := keep1 hb7 (by first | (with_reducible assumption) | (go_simp; done))
  have p7x5 : w7.cell? ⟨w.heap.size + 1, 1, none⟩ = some (.int .i64 p1) := keep1 hb7 (by first | (with_reducible assumption) | (go_simp; done))
  have p7x6 : w7.cell? ⟨w.heap.size + 1, 2, none⟩ = some (.int .i64 p2) := keep1 hb7 (by first | (with_reducible assumption) | (go_simp; done))
  have p7x7 : w7.cell? ⟨w.heap.size + 1, q0.toNat, none⟩ = some (.int .i64 e0) := keep1 hb7 (by first | (with_reducible assumption) | (go_simp; done))
  have p7x8 : w7.cell? ⟨w.heap.size + 1, q1.toNat, none⟩ = some (.int .i64 e1) := keep1 hb7 (by first | (with_reducible assumption) | (go_simp; done))
  have p7x9 : w7.cell? ⟨w.heap.size + 1, q2.toNat, none⟩ = some (.int .i64 e2) := keep1 hb7 (by first | (with_reducible assumption) | (go_simp; done))
  have p7x10 : w7.cell? ⟨w.heap.size + 1 + 1, 0, none⟩ = some (.int .i64 q0) := keep1 hb7 (by first | (with_reducible assumption) | (go_simp; done))
  have p7x11 : w7.cell? ⟨w.heap.size + 1 + 1, 1, none⟩ = some (.int .i64 q1) := keep1 hb7 (by first | (with_reducible assumption) | (go_simp; done))
  have p7x12 : w7.cell? ⟨w.heap.size + 1 + 1, 2, none⟩ = some (.int .i64 q2) := keep1 hb7 (by first | (with_reducible assumption) | (go_simp; done))
  have p7x13 : w7.cell? ⟨w5.heap.size, 0, none⟩ = some (.int .i64 l0) := keep1 hb7 (by first | (with_reducible assumption) | (go_simp; done))
  have p7x14 : w7.cell? ⟨w5.heap.size, 1, none⟩ = some (.int .i64 l1) := keep1 hb7 (by first | (with_reducible assumption) | (go_simp; done))
  have p7x15 : w7.cell? ⟨w5.heap.size, 2, none⟩ = some (.int .i64 l2) := keep1 hb7 (by first | (with_reducible assumption) | (go_simp; done))
  have p7x16 : w7.cell? ⟨w5.heap.size, 3, none⟩ = some (.int .i64 l3) := keep1 hb7 (by first | (with_reducible assumption) | (go_simp; done))
  have p7x17 : w7.cell? ⟨w5.heap.size, 4, none⟩ = some (.int .i64 l4) := keep1 hb7 (by first | (with_reducible assumption) | (go_simp; done))
  have p7x18 : w7.cell? ⟨w5.heap.size, 5, none⟩ = some (.int .i64 l5) := keep1 hb7 (by first | (with_reducible assumption) | (go_simp; done))
  have p7x19 : w7.cell? ⟨w5.heap.size, 6, none⟩ = some (.int .i64 l6) := keep1 hb7 (by first | (with_reducible assumption) | (go_simp; done))
  have p7x20 : w7.cell? ⟨w5.heap.size, 7, none⟩ = some (.int .i64 l7) := keep1 hb7 (by first | (with_reducible assumption) | (go_simp; done))
  have p7x21 : w7.cell? ⟨w5.heap.size, 8, none⟩ = some (.int .i64 l8) := keep1 hb7 (by first | (with_reducible assumption) | (go_simp; done))
  have p7x22 : w7.cell? ⟨w6.heap.size, 0, none⟩ = some (.int .i64 x0) := keep1 hb7 (by first | (with_reducible assumption) | (go_simp; done))
  have p7x23 : w7.cell? ⟨w6.heap.size, 1, none⟩ = some (.int .i64 x1) := keep1 hb7 (by first | (with_reducible assumption) | (go_simp; done))
  have p7x24 : w7.cell? ⟨w6.heap.size, 2, none⟩ = some (.int .i64 x2) := keep1 hb7 (by first | (with_reducible assumption) | (go_simp; done))
  have p7x25 : w7.cell? ⟨w6.heap.size, 3, none⟩ = some (.int .i64 x3) := keep1 hb7 (by first | (with_reducible assumption) | (go_simp; done))
  have p7x26 : w7.cell? ⟨w6.heap.size, 4, none⟩ = some (.int .i64 x4) := keep1 hb7 (by first | (with_reducible assumption) | (go_simp; done))
  have p7x27 : w7.cell? ⟨w6.heap.size, 5, none⟩ = some (.int .i64 x5) := keep1 hb7 (by first | (with_reducible assumption) | (go_simp; done))
  have p7x28 : w7.cell? ⟨w6.heap.size, 6, none⟩ = some (.int .i64 x6) := keep1 hb7 (by first | (with_reducible assumption) | (go_simp; done))
  have p7x29 : w7.cell? ⟨w6.heap.size, 7, none⟩ = some (.int .i64 x7) := keep1 hb7 (by first | (with_reducible assumption) | (go_simp; done))
  have p7x30 : w7.cell? ⟨w6.heap.size, 8, none⟩ = some (.int .i64 x8) := keep1 hb7 (by first | (with_reducible assumption) | (go_simp; done))
  have p7xz0 : w.heap.size < w7.heap.size := block_lt p7x0
  have p7xz4 : w.heap.size + 1 < w7.heap.size := block_lt p7x4
  have p7xz7 : w.heap.size + 1 < w7.heap.size := block_lt p7x7
  have p7xz8 : w.heap.size + 1 < w7.heap.size := block_lt p7x8
  have p7xz9 : w.heap.size + 1 < w7.heap.size := block_lt p7x9
  have p7xz10 : w.heap.size + 1 + 1 < w7.heap.size := block_lt p7x10
  have p7xz13 : w5.heap.size < w7.heap.size := block_lt p7x13
  have p7xz22 : w6.heap.size < w7.heap.size := block_lt p7x22
  have p7xs := p7xb.size
  have zq2 : w.heap.size + 1 + 1 < w7.heap.size + 1 := by omega
  have zq3 : w5.heap.size < w7.heap.size + 1 := by omega
  have zq4 : w6.heap.size < w7.heap.size + 1 := by omega
  have zq5 : w7.heap.size < w7.heap.size + 1 := by omega
  go_wp2_with fail
  refine wp_region_held_drew (S := RwS k n s r p0 p1 p2 q0 q1 q2 e0 e1 e2 l0 l1 l2 l3 l4 l5 l6 l7 l8 x0 x1 x2 x3 x4 x5 x6 x7 x8 y0 y1 y2 y3 y4 y5 y6 y7 y8 w w5.heap.size w6.heap.size w7.heap.size) (by kernel_rfl) ?hS (fun hH => ?_)
  case hS => exact ⟨by go_grown, by first | (with_reducible assumption) | (go_simp; done) | ((repeat' (first | (with_reducible assumption) | refine drewC ?_ | refine allocC ?_)); done), by first | (with_reducible assumption) | (go_simp; done) | ((repeat' (first | (with_reducible assumption) | refine drewC ?_ | refine allocC ?_)); done), by first | (with_reducible assumption) | (go_simp; done) | ((repeat' (first | (with_reducible assumption) | refine drewC ?_ | refine allocC ?_)); done), by first | (with_reducible assumption) | (go_simp; done) | ((repeat' (first | (with_reducible assumption) | refine drewC ?_ | refine allocC ?_)); done), by first | (with_reducible assumption) | (go_simp; done) | ((repeat' (first | (with_reducible assumption) | refine drewC ?_ | refine allocC ?_)); done), by first | (with_reducible assumption) | (go_simp; done) | ((repeat' (first | (with_reducible assumption) | refine drewC ?_ | refine allocC ?_)); done), by first | (with_reducible assumption) | (go_simp; done) | ((repeat' (first | (with_reducible assumption) | refine drewC ?_ | refine allocC ?_)); done), by first | (with_reducible assumption) | (go_simp; done) | ((repeat' (first | (with_reducible assumption) | refine drewC ?_ | refine allocC ?_)); done), by first | (with_reducible assumption) | (go_simp; done) | ((repeat' (first | (with_reducible assumption) | refine drewC ?_ | refine allocC ?_)); done), by first | (with_reducible assumption) | (go_simp; done) | ((repeat' (first | (with_reducible assumption) | refine drewC ?_ | refine allocC ?_)); done), by first | (with_reducible assumption) | (go_simp; done) | ((repeat' (first | (with_reducible assumption) | refine drewC ?_ | refine allocC ?_)); done), by first | (with_reducible assumption) | (go_simp; done) | ((repeat' (first | (with_reducible assumption) | refine drewC ?_ | refine allocC ?_)); done), by first | (with_reducible assumption) | (go_simp; done) | ((repeat' (first | (with_reducible assumption) | refine drewC ?_ | refine allocC ?_)); done), by first | (with_reducible assumption) | (go_simp; done) | ((repeat' (first | (with_reducible assumption) | refine drewC ?_ | refine allocC ?_)); done), by first | (with_reducible assumption) | (go_simp; done) | ((repeat' (first | (with_reducible assumption) | refine drewC ?_ | refine allocC ?_)); done), by first | (with_reducible assumption) | (go_simp; done) | ((repeat' (first | (with_reducible assumption) | refine drewC ?_ | refine allocC ?_)); done), by first | (with_reducible assumption) | (go_simp; done) | ((repeat' (first | (with_reducible assumption) | refine drewC ?_ | refine allocC ?_)); done), by first | (with_reducible assumption) | (go_simp; done) | ((repeat' (first | (with_reducible assumption) | refine drewC ?_ | refine allocC ?_)); done), by first | (with_reducible assumption) | (go_simp; done) | ((repeat' (first | (with_reducible assumption) | refine drewC ?_ | refine allocC ?_)); done), by first | (with_reducible assumption) | (go_simp; done) | ((repeat' (first | (with_reducible assumption) | refine drewC ?_ | refine allocC ?_)); done), by first | (with_reducible assumption) | (go_simp; done) | ((repeat' (first | (with_reducible assumption) | refine drewC ?_ | refine allocC ?_)); done), by first | (with_reducible assumption) | (go_simp; done) | ((repeat' (first | (with_reducible assumption) | refine drewC ?_ | refine allocC ?_)); done), by first | (with_reducible assumption) | (go_simp; done) | ((repeat' (first | (with_reducible assumption) | refine drewC ?_ | refine allocC ?_)); done), by first | (with_reducible assumption) | (go_simp; done) | ((repeat' (first | (with_reducible assumption) | refine drewC ?_ | refine allocC ?_)); done), by first | (with_reducible assumption) | (go_simp; done) | ((repeat' (first | (with_reducible assumption) | refine drewC ?_ | refine allocC ?_)); done), by first | (with_reducible assumption) | (go_simp; done) | ((repeat' (first | (with_reducible assumption) | refine drewC ?_ | refine allocC ?_)); done), by first | (with_reducible assumption) | (go_simp; done) | ((repeat' (first | (with_reducible assumption) | refine drewC ?_ | refine allocC ?_)); done), by first | (with_reducible assumption) | (go_simp; done) | ((repeat' (first | (with_reducible assumption) | refine drewC ?_ | refine allocC ?_)); done), by first | (with_reducible assumption) | (go_simp; done) | ((repeat' (first | (with_reducible assumption) | refine drewC ?_ | refine allocC ?_)); done), by first | (with_reducible assumption) | (go_simp; done) | ((repeat' (first | (with_reducible assumption) | refine drewC ?_ | refine allocC ?_)); done), by first | (with_reducible assumption) | (go_simp; done) | ((repeat' (first | (with_reducible assumption) | refine drewC ?_ | refine allocC ?_)); done), by first | (with_reducible assumption) | (go_simp; done) | ((repeat' (first | (with_reducible assumption) | refine drewC ?_ | refine allocC ?_)); done), by first | (with_reducible assumption) | (go_simp; done) | ((repeat' (first | (with_reducible assumption) | refine drewC ?_ | refine allocC ?_)); done), by first | (with_reducible assumption) | (go_simp; done) | ((repeat' (first | (with_reducible assumption) | refine drewC ?_ | refine allocC ?_)); done), by first | (with_reducible assumption) | (go_simp; done) | ((repeat' (first | (with_reducible assumption) | refine drewC ?_ | refine allocC ?_)); done), by first | (with_reducible assumption) | (go_simp; done) | ((repeat' (first | (with_reducible assumption) | refine drewC ?_ | refine allocC ?_)); done), by first | (with_reducible assumption) | (go_simp; done) | ((repeat' (first | (with_reducible assumption) | refine drewC ?_ | refine allocC ?_)); done), by first | (with_reducible assumption) | (go_simp; done) | ((repeat' (first | (with_reducible assumption) | refine drewC ?_ | refine allocC ?_)); done), by first | (with_reducible assumption) | (go_simp; done) | ((repeat' (first | (with_reducible assumption) | refine drewC ?_ | refine allocC ?_)); done), by first | (with_reducible assumption) | (go_simp; done) | ((repeat' (first | (with_reducible assumption) | refine drewC ?_ | refine allocC ?_)); done)⟩
  refine' wpAnyH_take (i := 0) (v := _) rfl (by kernel_rfl) (by kernel_rfl) (by kernel_rfl) (fun _ _ _ h => h) (Or.inl ⟨by kernel_rfl, ?hy⟩) (by assumption) ?_
  case hy => (intro W hW; obtain ⟨hb, h0, h1, h2, h3, h4, h5, h6, h7, h8, h9, h10, h11, h12, h13, h14, h15, h16, h17, h18, h19, h20, h21, h22, h23, h24, h25, h26, h27, h28, h29, h30, h31, h32, h33, h34, h35, h36, h37, h38, h39⟩ := hW; go_simp; try (with_reducible rfl))
  try simp only [Act.put, List.setIfInBounds_toArray, List.set_cons_zero, List.set_cons_succ, List.getElem_toArray, List.getElem_cons_zero]
  refine' wpAnyH_take (i := 1) (v := _) rfl (by kernel_rfl) (by kernel_rfl) (by kernel_rfl) (fun _ _ _ h => h) (Or.inl ⟨by kernel_rfl, ?hy⟩) (by assumption) ?_
  case hy => (intro W hW; obtain ⟨hb, h0, h1, h2, h3, h4, h5, h6, h7, h8, h9, h10, h11, h12, h13, h14, h15, h16, h17, h18, h19, h20, h21, h22, h23, h24, h25, h26, h27, h28, h29, h30, h31, h32, h33, h34, h35, h36, h37, h38, h39⟩ := hW; go_simp; try (with_reducible rfl))
  try simp only [Act.put, List.setIfInBounds_toArray, List.set_cons_zero, List.set_cons_succ, List.getElem_toArray, List.getElem_cons_succ, List.getElem_cons_zero]
  refine' wpAnyH_take (i := 2) (v := _) rfl (by kernel_rfl) (by kernel_rfl) (by kernel_rfl) (fun _ _ _ h => h) (Or.inl ⟨by kernel_rfl, ?hy⟩) (by assumption) ?_
  case hy => (intro W hW; obtain ⟨hb, h0, h1, h2, h3, h4, h5, h6, h7, h8, h9, h10, h11, h12, h13, h14, h15, h16, h17, h18, h19, h20, h21, h22, h23, h24, h25, h26, h27, h28, h29, h30, h31, h32, h33, h34, h35, h36, h37, h38, h39⟩ := hW; go_simp; try (with_reducible rfl))
  try simp only [Act.put, List.setIfInBounds_toArray, List.set_cons_zero, List.set_cons_succ, List.getElem_toArray, List.getElem_cons_succ, List.getElem_cons_zero]
  refine' wpAnyH_take (i := 3) (v := _) rfl (by kernel_rfl) (by kernel_rfl) (by kernel_rfl) (fun _ _ _ h => h) (Or.inl ⟨by kernel_rfl, ?hy⟩) (by assumption) ?_
  case hy => (intro W hW; obtain ⟨hb, h0, h1, h2, h3, h4, h5, h6, h7, h8, h9, h10, h11, h12, h13, h14, h15, h16, h17, h18, h19, h20, h21, h22, h23, h24, h25, h26, h27, h28, h29, h30, h31, h32, h33, h34, h35, h36, h37, h38, h39⟩ := hW; go_simp; try (with_reducible rfl))
  try simp only [Act.put, List.setIfInBounds_toArray, List.set_cons_zero, List.set_cons_succ, List.getElem_toArray, List.getElem_cons_succ, List.getElem_cons_zero]
  refine' wpAnyH_take (i := 4) (v := _) rfl (by kernel_rfl) (by kernel_rfl) (by kernel_rfl) (fun _ _ _ h => h) (Or.inl ⟨by kernel_rfl, ?hy⟩) (by assumption) ?_
  case hy => (intro W hW; obtain ⟨hb, h0, h1, h2, h3, h4, h5, h6, h7, h8, h9, h10, h11, h12, h13, h14, h15, h16, h17, h18, h19, h20, h21, h22, h23, h24, h25, h26, h27, h28, h29, h30, h31, h32, h33, h34, h35, h36, h37, h38, h39⟩ := hW; go_simp; try (with_reducible rfl))
  try simp only [Act.put, List.setIfInBounds_toArray, List.set_cons_zero, List.set_cons_succ, List.getElem_toArray, List.getElem_cons_succ, List.getElem_cons_zero]
  refine' wpAnyH_take (i := 5) (v := _) rfl (by kernel_rfl) (by kernel_rfl) (by kernel_rfl) (fun _ _ _ h => h) (Or.inl ⟨by kernel_rfl, ?hy⟩) (by assumption) ?_
  case hy => (intro W hW; obtain ⟨hb, h0, h1, h2, h3, h4, h5, h6, h7, h8, h9, h10, h11, h12, h13, h14, h15, h16, h17, h18, h19, h20, h21, h22, h23, h24, h25, h26, h27, h28, h29, h30, h31, h32, h33, h34, h35, h36, h37, h38, h39⟩ := hW; go_simp; try (with_reducible rfl))
  try simp only [Act.put, List.setIfInBounds_toArray, List.set_cons_zero, List.set_cons_succ, List.getElem_toArray, List.getElem_cons_succ, List.getElem_cons_zero]
  refine' wpAnyH_take (i := 6) (v := _) rfl (by kernel_rfl) (by kernel_rfl) (by kernel_rfl) (fun _ _ _ h => h) (Or.inl ⟨by kernel_rfl, ?hy⟩) (by assumption) ?_
  case hy => (intro W hW; obtain ⟨hb, h0, h1, h2, h3, h4, h5, h6, h7, h8, h9, h10, h11, h12, h13, h14, h15, h16, h17, h18, h19, h20, h21, h22, h23, h24, h25, h26, h27, h28, h29, h30, h31, h32, h33, h34, h35, h36, h37, h38, h39⟩ := hW; go_simp; try (with_reducible rfl))
  try simp only [Act.put, List.setIfInBounds_toArray, List.set_cons_zero, List.set_cons_succ, List.getElem_toArray, List.getElem_cons_succ, List.getElem_cons_zero]
  refine' wpAnyH_take (i := 7) (v := _) rfl (by kernel_rfl) (by kernel_rfl) (by kernel_rfl) (fun _ _ _ h => h) (Or.inl ⟨by kernel_rfl, ?hy⟩) (by assumption) ?_
  case hy => (intro W hW; obtain ⟨hb, h0, h1, h2, h3, h4, h5, h6, h7, h8, h9, h10, h11, h12, h13, h14, h15, h16, h17, h18, h19, h20, h21, h22, h23, h24, h25, h26, h27, h28, h29, h30, h31, h32, h33, h34, h35, h36, h37, h38, h39⟩ := hW; go_simp; try (with_reducible rfl))
  try simp only [Act.put, List.setIfInBounds_toArray, List.set_cons_zero, List.set_cons_succ, List.getElem_toArray, List.getElem_cons_succ, List.getElem_cons_zero]
  refine' wpAnyH_take (i := 8) (v := _) rfl (by kernel_rfl) (by kernel_rfl) (by kernel_rfl) (fun _ _ _ h => h) (Or.inl ⟨by kernel_rfl, ?hy⟩) (by assumption) ?_
  case hy => (intro W hW; obtain ⟨hb, h0, h1, h2, h3, h4, h5, h6, h7, h8, h9, h10, h11, h12, h13, h14, h15, h16, h17, h18, h19, h20, h21, h22, h23, h24, h25, h26, h27, h28, h29, h30, h31, h32, h33, h34, h35, h36, h37, h38, h39⟩ := hW; go_simp; try (with_reducible rfl))
  try simp only [Act.put, List.setIfInBounds_toArray, List.set_cons_zero, List.set_cons_succ, List.getElem_toArray, List.getElem_cons_succ, List.getElem_cons_zero]
  refine' wpAnyH_take (i := 9) (v := _) rfl (by kernel_rfl) (by kernel_rfl) (by kernel_rfl) (fun _ _ _ h => h) (Or.inl ⟨by kernel_rfl, ?hy⟩) (by assumption) ?_
  case hy => (intro W hW; obtain ⟨hb, h0, h1, h2, h3, h4, h5, h6, h7, h8, h9, h10, h11, h12, h13, h14, h15, h16, h17, h18, h19, h20, h21, h22, h23, h24, h25, h26, h27, h28, h29, h30, h31, h32, h33, h34, h35, h36, h37, h38, h39⟩ := hW; go_simp; try (with_reducible rfl))
  try simp only [Act.put, List.setIfInBounds_toArray, List.set_cons_zero, List.set_cons_succ, List.getElem_toArray, List.getElem_cons_succ, List.getElem_cons_zero]
  refine' wpAnyH_take (i := 10) (v := _) rfl (by kernel_rfl) (by kernel_rfl) (by kernel_rfl) (fun _ _ _ h => h) (Or.inl ⟨by kernel_rfl, ?hy⟩) (by assumption) ?_
  case hy => (intro W hW; obtain ⟨hb, h0, h1, h2, h3, h4, h5, h6, h7, h8, h9, h10, h11, h12, h13, h14, h15, h16, h17, h18, h19, h20, h21, h22, h23, h24, h25, h26, h27, h28, h29, h30, h31, h32, h33, h34, h35, h36, h37, h38, h39⟩ := hW; go_simp; try (with_reducible rfl))
  try simp only [Act.put, List.setIfInBounds_toArray, List.set_cons_zero, List.set_cons_succ, List.getElem_toArray, List.getElem_cons_succ, List.getElem_cons_zero]
  refine' wpAnyH_take (i := 11) (v := _) rfl (by kernel_rfl) (by kernel_rfl) (by kernel_rfl) (fun _ _ _ h => h) (Or.inl ⟨by kernel_rfl, ?hy⟩) (by assumption) ?_
  case hy => (intro W hW; obtain ⟨hb, h0, h1, h2, h3, h4, h5, h6, h7, h8, h9, h10, h11, h12, h13, h14, h15, h16, h17, h18, h19, h20, h21, h22, h23, h24, h25, h26, h27, h28, h29, h30, h31, h32, h33, h34, h35, h36, h37, h38, h39⟩ := hW; go_simp; try (with_reducible rfl))
  try simp only [Act.put, List.setIfInBounds_toArray, List.set_cons_zero, List.set_cons_succ, List.getElem_toArray, List.getElem_cons_succ, List.getElem_cons_zero]
  refine' wpAnyH_take (i := 12) (v := _) rfl (by kernel_rfl) (by kernel_rfl) (by kernel_rfl) (fun _ _ _ h => h) (Or.inl ⟨by kernel_rfl, ?hy⟩) (by assumption) ?_
  case hy => (intro W hW; obtain ⟨hb, h0, h1, h2, h3, h4, h5, h6, h7, h8, h9, h10, h11, h12, h13, h14, h15, h16, h17, h18, h19, h20, h21, h22, h23, h24, h25, h26, h27, h28, h29, h30, h31, h32, h33, h34, h35, h36, h37, h38, h39⟩ := hW; go_simp; try (with_reducible rfl))
  try simp only [Act.put, List.setIfInBounds_toArray, List.set_cons_zero, List.set_cons_succ, List.getElem_toArray, List.getElem_cons_succ, List.getElem_cons_zero]
  refine' wpAnyH_take (i := 13) (v := _) rfl (by kernel_rfl) (by kernel_rfl) (by kernel_rfl) (fun _ _ _ h => h) (Or.inl ⟨by kernel_rfl, ?hy⟩) (by assumption) ?_
  case hy => (intro W hW; obtain ⟨hb, h0, h1, h2, h3, h4, h5, h6, h7, h8, h9, h10, h11, h12, h13, h14, h15, h16, h17, h18, h19, h20, h21, h22, h23, h24, h25, h26, h27, h28, h29, h30, h31, h32, h33, h34, h35, h36, h37, h38, h39⟩ := hW; go_simp; try (with_reducible rfl))
  try simp only [Act.put, List.setIfInBounds_toArray, List.set_cons_zero, List.set_cons_succ, List.getElem_toArray, List.getElem_cons_succ, List.getElem_cons_zero]
  skip
  refine wpAnyH_ready (rs := [14, 18]) (by kernel_rfl) (by simp) ?_
  refine AllReadyH.cons rfl (fun K hK => ?_) (AllReadyH.cons rfl (fun K hK => ?_) AllReadyH.nil)
  · go_simp
    refine (KC.out _ (rangeB (w := w) hH.1 hr)).mono ?_
    rintro e wa ⟨rfl, hba⟩
    refine hK.out _ _ (hH.below hba) (fun hH1 => ?_)
    clear hK
    try simp only [Act.put, List.setIfInBounds_toArray, List.set_cons_zero, List.set_cons_succ, List.getElem_toArray, List.getElem_cons_succ, List.getElem_cons_zero]
    refine' wpAnyH_take (i := 15) (v := _) rfl (by kernel_rfl) (by kernel_rfl) (by kernel_rfl) (fun _ _ _ h => h) (Or.inl ⟨by kernel_rfl, ?hy⟩) (by assumption) ?_
    case hy => (intro W hW; obtain ⟨hb, h0, h1, h2, h3, h4, h5, h6, h7, h8, h9, h10, h11, h12, h13, h14, h15, h16, h17, h18, h19, h20, h21, h22, h23, h24, h25, h26, h27, h28, h29, h30, h31, h32, h33, h34, h35, h36, h37, h38, h39⟩ := hW; go_simp; try (with_reducible rfl))
    try simp only [Act.put, List.setIfInBounds_toArray, List.set_cons_zero, List.set_cons_succ, List.getElem_toArray, List.getElem_cons_succ, List.getElem_cons_zero]
    refine' wpAnyH_take (i := 16) (v := _) rfl (by kernel_rfl) (by kernel_rfl) (by kernel_rfl) (fun _ _ _ h => h) (Or.inl ⟨by kernel_rfl, ?hy⟩) (by assumption) ?_
    case hy => (intro W hW; obtain ⟨hb, h0, h1, h2, h3, h4, h5, h6, h7, h8, h9, h10, h11, h12, h13, h14, h15, h16, h17, h18, h19, h20, h21, h22, h23, h24, h25, h26, h27, h28, h29, h30, h31, h32, h33, h34, h35, h36, h37, h38, h39⟩ := hW; go_simp; try (with_reducible rfl))
    try simp only [Act.put, List.setIfInBounds_toArray, List.set_cons_zero, List.set_cons_succ, List.getElem_toArray, List.getElem_cons_succ, List.getElem_cons_zero]
    refine' wpAnyH_take (i := 17) (v := _) rfl (by kernel_rfl) (by kernel_rfl) (by kernel_rfl) (fun _ _ _ h => h) (Or.inl ⟨by kernel_rfl, ?hy⟩) (by assumption) ?_
    case hy => (intro W hW; obtain ⟨hb, h0, h1, h2, h3, h4, h5, h6, h7, h8, h9, h10, h11, h12, h13, h14, h15, h16, h17, h18, h19, h20, h21, h22, h23, h24, h25, h26, h27, h28, h29, h30, h31, h32, h33, h34, h35, h36, h37, h38, h39⟩ := hW; go_simp; try (with_reducible rfl))
    try simp only [Act.put, List.setIfInBounds_toArray, List.set_cons_zero, List.set_cons_succ, List.getElem_toArray, List.getElem_cons_succ, List.getElem_cons_zero]
    refine wpAnyH_ready (rs := [18]) (by kernel_rfl) (by simp) ?_
    refine AllReadyH.cons rfl (fun K hK => ?_) AllReadyH.nil
    go_simp
    refine hK.out _ _ (hH1.below (belowA _ _)) (fun hH2 => ?_)
    clear hK
    try simp only [Act.put, List.setIfInBounds_toArray, List.set_cons_zero, List.set_cons_succ, List.getElem_toArray, List.getElem_cons_succ, List.getElem_cons_zero]
    refine wpAnyH_ready (rs := [19]) (by kernel_rfl) (by simp) ?_
    refine AllReadyH.cons rfl (fun K hK => ?_) AllReadyH.nil
    go_simp
    refine hK.out _ _ (hH1.below (belowA _ _)) (fun hH3 => ?_)
    clear hK
    try simp only [Act.put, List.setIfInBounds_toArray, List.set_cons_zero, List.set_cons_succ, List.getElem_toArray, List.getElem_cons_succ, List.getElem_cons_zero]
    refine' wpAnyH_take (i := 20) (v := _) rfl (by kernel_rfl) (by kernel_rfl) (by kernel_rfl) (fun _ _ _ h => h) (Or.inl ⟨by kernel_rfl, ?hy⟩) (by assumption) ?_
    case hy => (intro W hW; obtain ⟨hb, h0, h1, h2, h3, h4, h5, h6, h7, h8, h9, h10, h11, h12, h13, h14, h15, h16, h17, h18, h19, h20, h21, h22, h23, h24, h25, h26, h27, h28, h29, h30, h31, h32, h33, h34, h35, h36, h37, h38, h39⟩ := hW; go_simp; try (with_reducible rfl))
    try simp only [Act.put, List.setIfInBounds_toArray, List.set_cons_zero, List.set_cons_succ, List.getElem_toArray, List.getElem_cons_succ, List.getElem_cons_zero]
    refine wpAnyH_done (by kernel_rfl) ?_ _
    refine then_world (fun V => RwS k n s r p0 p1 p2 q0 q1 q2 e0 e1 e2 l0 l1 l2 l3 l4 l5 l6 l7 l8 x0 x1 x2 x3 x4 x5 x6 x7 x8 y0 y1 y2 y3 y4 y5 y6 y7 y8 w w5.heap.size w6.heap.size w7.heap.size V ∧ V.cell? ⟨wa.heap.size, 0, none⟩ = some (.int .i64 y0) ∧ V.cell? ⟨wa.heap.size, 1, none⟩ = some (.int .i64 y1) ∧ V.cell? ⟨wa.heap.size, 2, none⟩ = some (.int .i64 y2) ∧ V.cell? ⟨wa.heap.size, 3, none⟩ = some (.int .i64 y3) ∧ V.cell? ⟨wa.heap.size, 4, none⟩ = some (.int .i64 y4) ∧ V.cell? ⟨wa.heap.size, 5, none⟩ = some (.int .i64 y5) ∧ V.cell? ⟨wa.heap.size, 6, none⟩ = some (.int .i64 y6) ∧ V.cell? ⟨wa.heap.size, 7, none⟩ = some (.int .i64 y7) ∧ V.cell? ⟨wa.heap.size, 8, none⟩ = some (.int .i64 y8)) ⟨hH3, by go_simp, by go_simp, by go_simp, by go_simp, by go_simp, by go_simp, by go_simp, by go_simp, by go_simp⟩ ?_
    clear hH hH1 hH2 hH3 hba
    rintro V ⟨hV, yy0, yy1, yy2, yy3, yy4, yy5, yy6, yy7, yy8⟩
    obtain ⟨hb, h0, h1, h2, h3, h4, h5, h6, h7, h8, h9, h10, h11, h12, h13, h14, h15, h16, h17, h18, h19, h20, h21, h22, h23, h24, h25, h26, h27, h28, h29, h30, h31, h32, h33, h34, h35, h36, h37, h38, h39⟩ := hV
    go_wp2_with fail
    refine (KS.out _ (ht.below (by first | (with_reducible assumption) | (go_grown; done)))).mono ?_
    rintro e w21 ⟨rfl, hb21⟩
    have p21xb : Below w.heap.size w w21 := belowT (by first | (go_grown; done) | exact And.left (by assumption)) hb21
    have p21x0 : w21.cell? ⟨w.heap.size + 1, 0, none⟩ = some (.int .i64 p0) := keep1 hb21 (by first | (with_reducible assumption) | (go_simp; done))
    have p21x1 : w21.cell? ⟨w.heap.size + 1, 1, none⟩ = some (.int .i64 p1) := keep1 hb21 (by first | (with_reducible assumption) | (go_simp; done))
    have p21x2 : w21.cell? ⟨w.heap.size + 1, 2, none⟩ = some (.int .i64 p2) := keep1 hb21 (by first | (with_reducible assumption) | (go_simp; done))
    have p21x3 : w21.cell? ⟨w5.heap.size, 0, none⟩ = some (.int .i64 l0) := keep1 hb21 (by first | (with_reducible assumption) | (go_simp; done))
    have p21x4 : w21.cell? ⟨w5.heap.size, 1, none⟩ = some (.int .i64 l1) := keep1 hb21 (by first | (with_reducible assumption) | (go_simp; done))
    have p21x5 : w21.cell? ⟨w5.heap.size, 2, none⟩ = some (.int .i64 l2) := keep1 hb21 (by first | (with_reducible assumption) | (go_simp; done))
    have p21x6 : w21.cell? ⟨w5.heap.size, 3, none⟩ = some (.int .i64 l3) := keep1 hb21 (by first | (with_reducible assumption) | (go_simp; done))
    have p21x7 : w21.cell? ⟨w5.heap.size, 4, none⟩ = some (.int .i64 l4) := keep1 hb21 (by first | (with_reducible assumption) | (go_simp; done))
    have p21x8 : w21.cell? ⟨w5.heap.size, 5, none⟩ = some (.int .i64 l5) := keep1 hb21 (by first | (with_reducible assumption) | (go_simp; done))
    have p21x9 : w21.cell? ⟨w5.heap.size, 6, none⟩ = some (.int .i64 l6) := keep1 hb21 (by first | (with_reducible assumption) | (go_simp; done))
    have p21x10 : w21.cell? ⟨w5.heap.size, 7, none⟩ = some (.int .i64 l7) := keep1 hb21 (by first | (with_reducible assumption) | (go_simp; done))
    have p21x11 : w21.cell? ⟨w5.heap.size, 8, none⟩ = some (.int .i64 l8) := keep1 hb21 (by first | (with_reducible assumption) | (go_simp; done))
    have p21x12 : w21.cell? ⟨w6.heap.size, 0, none⟩ = some (.int .i64 x0) := keep1 hb21 (by first | (with_reducible assumption) | (go_simp; done))
    have p21x13 : w21.cell? ⟨w6.heap.size, 1, none⟩ = some (.int .i64 x1) := keep1 hb21 (by first | (with_reducible assumption) | (go_simp; done))
    have p21x14 : w21.cell? ⟨w6.heap.size, 2, none⟩ = some (.int .i64 x2) := keep1 hb21 (by first | (with_reducible assumption) | (go_simp; done))
    have p21x15 : w21.cell? ⟨w6.heap.size, 3, none⟩ = some (.int .i64 x3) := keep1 hb21 (by first | (with_reducible assumption) | (go_simp; done))
    have p21x16 : w21.cell? ⟨w6.heap.size, 4, none⟩ = some (.int .i64 x4) := keep1 hb21 (by first | (with_reducible assumption) | (go_simp; done))
    have p21x17 : w21.cell? ⟨w6.heap.size, 5, none⟩ = some (.int .i64 x5) := keep1 hb21 (by first | (with_reducible assumption) | (go_simp; done))
    have p21x18 : w21.cell? ⟨w6.heap.size, 6, none⟩ = some (.int .i64 x6) := keep1 hb21 (by first | (with_reducible assumption) | (go_simp; done))
    have p21x19 : w21.cell? ⟨w6.heap.size, 7, none⟩ = some (.int .i64 x7) := keep1 hb21 (by first | (with_reducible assumption) | (go_simp; done))
    have p21x20 : w21.cell? ⟨w6.heap.size, 8, none⟩ = some (.int .i64 x8) := keep1 hb21 (by first | (with_reducible assumption) | (go_simp; done))
    have p21xz0 : w.heap.size + 1 < w21.heap.size := block_lt p21x0
    have p21xz3 : w5.heap.size < w21.heap.size := block_lt p21x3
    have p21xz12 : w6.heap.size < w21.heap.size := block_lt p21x12
    have p21xs := p21xb.size
    go_wp2_with fail
    refine (KF.out _ (ht.below (by first | (with_reducible assumption) | (go_grown; done)))).mono ?_
    rintro e w22 ⟨rfl, hb22⟩
    have p22xb : Below w.heap.size w w22 := belowT (by first | (go_grown; done) | exact And.left (by assumption)) hb22
    have p22x0 : w22.cell? ⟨w.heap.size + 1, 0, none⟩ = some (.int .i64 p0) := keep1 hb22 (by first | (with_reducible assumption) | (go_simp; done))
    have p22x1 : w22.cell? ⟨w.heap.size + 1, 1, none⟩ = some (.int .i64 p1) := keep1 hb22 (by first | (with_reducible assumption) | (go_simp; done))
    have p22x2 : w22.cell? ⟨w.heap.size + 1, 2, none⟩ = some (.int .i64 p2) := keep1 hb22 (by first | (with_reducible assumption) | (go_simp; done))
    have p22x3 : w22.cell? ⟨w5.heap.size, 0, none⟩ = some (.int .i64 l0) := keep1 hb22 (by first | (with_reducible assumption) | (go_simp; done))
    have p22x4 : w22.cell? ⟨w5.heap.size, 1, none⟩ = some (.int .i64 l1) := keep1 hb22 (by first | (with_reducible assumption) | (go_simp; done))
    have p22x5 : w22.cell? ⟨w5.heap.size, 2, none⟩ = some (.int .i64 l2) := keep1 hb22 (by first | (with_reducible assumption) | (go_simp; done))
    have p22x6 : w22.cell? ⟨w5.heap.size, 3, none⟩ = some (.int .i64 l3) := keep1 hb22 (by first | (with_reducible assumption) | (go_simp; done))
    have p22x7 : w22.cell? ⟨w5.heap.size, 4, none⟩ = some (.int .i64 l4) := keep1 hb22 (by first | (with_reducible assumption) | (go_simp; done))
    have p22x8 : w22.cell? ⟨w5.heap.size, 5, none⟩ = some (.int .i64 l5) := keep1 hb22 (by first | (with_reducible assumption) | (go_simp; done))
    have p22x9 : w22.cell? ⟨w5.heap.size, 6, none⟩ = some (.int .i64 l6) := keep1 hb22 (by first | (with_reducible assumption) | (go_simp; done))
    have p22x10 : w22.cell? ⟨w5.heap.size, 7, none⟩ = some (.int .i64 l7) := keep1 hb22 (by first | (with_reducible assumption) | (go_simp; done))
    have p22x11 : w22.cell? ⟨w5.heap.size, 8, none⟩ = some (.int .i64 l8) := keep1 hb22 (by first | (with_reducible assumption) | (go_simp; done))
    have p22x12 : w22.cell? ⟨w6.heap.size, 0, none⟩ = some (.int .i64 x0) := keep1 hb22 (by first | (with_reducible assumption) | (go_simp; done))
    have p22x13 : w22.cell? ⟨w6.heap.size, 1, none⟩ = some (.int .i64 x1) := keep1 hb22 (by first | (with_reducible assumption) | (go_simp; done))
    have p22x14 : w22.cell? ⟨w6.heap.size, 2, none⟩ = some (.int .i64 x2) := keep1 hb22 (by first | (with_reducible assumption) | (go_simp; done))
    have p22x15 : w22.cell? ⟨w6.heap.size, 3, none⟩ = some (.int .i64 x3) := keep1 hb22 (by first | (with_reducible assumption) | (go_simp; done))
    have p22x16 : w22.cell? ⟨w6.heap.size, 4, none⟩ = some (.int .i64 x4) := keep1 hb22 (by first | (with_reducible assumption) | (go_simp; done))
    have p22x17 : w22.cell? ⟨w6.heap.size, 5, none⟩ = some (.int .i64 x5) := keep1 hb22 (by first | (with_reducible assumption) | (go_simp; done))
    have p22x18 : w22.cell? ⟨w6.heap.size, 6, none⟩ = some (.int .i64 x6) := keep1 hb22 (by first | (with_reducible assumption) | (go_simp; done))
    have p22x19 : w22.cell? ⟨w6.heap.size, 7, none⟩ = some (.int .i64 x7) := keep1 hb22 (by first | (with_reducible assumption) | (go_simp; done))
    have p22x20 : w22.cell? ⟨w6.heap.size, 8, none⟩ = some (.int .i64 x8) := keep1 hb22 (by first | (with_reducible assumption) | (go_simp; done))
    have p22xz0 : w.heap.size + 1 < w22.heap.size := block_lt p22x0
    have p22xz3 : w5.heap.size < w22.heap.size := block_lt p22x3
    have p22xz12 : w6.heap.size < w22.heap.size := block_lt p22x12
    have p22xs := p22xb.size
    go_wp2_with fail
    refine (KN.out _).mono ?_
    rintro e w23 ⟨rfl, hb23⟩
    have p23xb : Below w.heap.size w w23 := belowT (by first | (go_grown; done) | exact And.left (by assumption)) hb23
    have p23x0 : w23.cell? ⟨w.heap.size + 1, 0, none⟩ = some (.int .i64 p0) := keep1 hb23 (by first | (with_reducible assumption) | (go_simp; done))
    have p23x1 : w23.cell? ⟨w.heap.size + 1, 1, none⟩ = some (.int .i64 p1) := keep1 hb23 (by first | (with_reducible assumption) | (go_simp; done))
    have p23x2 : w23.cell? ⟨w.heap.size + 1, 2, none⟩ = some (.int .i64 p2) := keep1 hb23 (by first | (with_reducible assumption) | (go_simp; done))
    have p23x3 : w23.cell? ⟨w5.heap.size, 0, none⟩ = some (.int .i64 l0) := keep1 hb23 (by first | (with_reducible assumption) | (go_simp; done))
    have p23x4 : w23.cell? ⟨w5.heap.size, 1, none⟩ = some (.int .i64 l1) := keep1 hb23 (by first | (with_reducible assumption) | (go_simp; done))
    have p23x5 : w23.cell? ⟨w5.heap.size, 2, none⟩ = some (.int .i64 l2) := keep1 hb23 (by first | (with_reducible assumption) | (go_simp; done))
    have p23x6 : w23.cell? ⟨w5.heap.size, 3, none⟩ = some (.int .i64 l3) := keep1 hb23 (by first | (with_reducible assumption) | (go_simp; done))
    have p23x7 : w23.cell? ⟨w5.heap.size, 4, none⟩ = some (.int .i64 l4) := keep1 hb23 (by first | (with_reducible assumption) | (go_simp; done))
    have p23x8 : w23.cell? ⟨w5.heap.size, 5, none⟩ = some (.int .i64 l5) := keep1 hb23 (by first | (with_reducible assumption) | (go_simp; done))
    have p23x9 : w23.cell? ⟨w5.heap.size, 6, none⟩ = some (.int .i64 l6) := keep1 hb23 (by first | (with_reducible assumption) | (go_simp; done))
    have p23x10 : w23.cell? ⟨w5.heap.size, 7, none⟩ = some (.int .i64 l7) := keep1 hb23 (by first | (with_reducible assumption) | (go_simp; done))
    have p23x11 : w23.cell? ⟨w5.heap.size, 8, none⟩ = some (.int .i64 l8) := keep1 hb23 (by first | (with_reducible assumption) | (go_simp; done))
    have p23x12 : w23.cell? ⟨w6.heap.size, 0, none⟩ = some (.int .i64 x0) := keep1 hb23 (by first | (with_reducible assumption) | (go_simp; done))
    have p23x13 : w23.cell? ⟨w6.heap.size, 1, none⟩ = some (.int .i64 x1) := keep1 hb23 (by first | (with_reducible assumption) | (go_simp; done))
    have p23x14 : w23.cell? ⟨w6.heap.size, 2, none⟩ = some (.int .i64 x2) := keep1 hb23 (by first | (with_reducible assumption) | (go_simp; done))
    have p23x15 : w23.cell? ⟨w6.heap.size, 3, none⟩ = some (.int .i64 x3) := keep1 hb23 (by first | (with_reducible assumption) | (go_simp; done))
    have p23x16 : w23.cell? ⟨w6.heap.size, 4, none⟩ = some (.int .i64 x4) := keep1 hb23 (by first | (with_reducible assumption) | (go_simp; done))
    have p23x17 : w23.cell? ⟨w6.heap.size, 5, none⟩ = some (.int .i64 x5) := keep1 hb23 (by first | (with_reducible assumption) | (go_simp; done))
    have p23x18 : w23.cell? ⟨w6.heap.size, 6, none⟩ = some (.int .i64 x6) := keep1 hb23 (by first | (with_reducible assumption) | (go_simp; done))
    have p23x19 : w23.cell? ⟨w6.heap.size, 7, none⟩ = some (.int .i64 x7) := keep1 hb23 (by first | (with_reducible assumption) | (go_simp; done))
    have p23x20 : w23.cell? ⟨w6.heap.size, 8, none⟩ = some (.int .i64 x8) := keep1 hb23 (by first | (with_reducible assumption) | (go_simp; done))
    have p23x21 : w23.cell? ⟨w22.heap.size, 0, none⟩ = some (.int .i64 ua) := keep1 hb23 (by first | (with_reducible assumption) | (go_simp; done))
    have p23x22 : w23.cell? ⟨w22.heap.size, 1, none⟩ = some (.int .i64 va) := keep1 hb23 (by first | (with_reducible assumption) | (go_simp; done))
    have p23xz0 : w.heap.size + 1 < w23.heap.size := block_lt p23x0
    have p23xz3 : w5.heap.size < w23.heap.size := block_lt p23x3
    have p23xz12 : w6.heap.size < w23.heap.size := block_lt p23x12
    have p23xz21 : w22.heap.size < w23.heap.size := block_lt p23x21
    have p23xs := p23xb.size
    go_wp2_with fail
    refine (KG.out _).mono ?_
    rintro e w24 ⟨rfl, hb24⟩
    have p24xb : Below w.heap.size w w24 := belowT (by first | (go_grown; done) | exact And.left (by assumption)) hb24
    have p24x0 : w24.cell? ⟨w.heap.size + 1, 0, none⟩ = some (.int .i64 p0) := keep1 hb24 (by first | (with_reducible assumption) | (go_simp; done))
    have p24x1 : w24.cell? ⟨w.heap.size + 1, 1, none⟩ = some (.int .i64 p1) := keep1 hb24 (by first | (with_reducible assumption) | (go_simp; done))
    have p24x2 : w24.cell? ⟨w.heap.size + 1, 2, none⟩ = some (.int .i64 p2) := keep1 hb24 (by first | (with_reducible assumption) | (go_simp; done))
    have p24x3 : w24.cell? ⟨w5.heap.size, 0, none⟩ = some (.int .i64 l0) := keep1 hb24 (by first | (with_reducible assumption) | (go_simp; done))
    have p24x4 : w24.cell? ⟨w5.heap.size, 1, none⟩ = some (.int .i64 l1) := keep1 hb24 (by first | (with_reducible assumption) | (go_simp; done))
    have p24x5 : w24.cell? ⟨w5.heap.size, 2, none⟩ = some (.int .i64 l2) := keep1 hb24 (by first | (with_reducible assumption) | (go_simp; done))
    have p24x6 : w24.cell? ⟨w5.heap.size, 3, none⟩ = some (.int .i64 l3) := keep1 hb24 (by first | (with_reducible assumption) | (go_simp; done))
    have p24x7 : w24.cell? ⟨w5.heap.size, 4, none⟩ = some (.int .i64 l4) := keep1 hb24 (by first | (with_reducible assumption) | (go_simp; done))
    have p24x8 : w24.cell? ⟨w5.heap.size, 5, none⟩ = some (.int .i64 l5) := keep1 hb24 (by first | (with_reducible assumption) | (go_simp; done))
    have p24x9 : w24.cell? ⟨w5.heap.size, 6, none⟩ = some (.int .i64 l6) := keep1 hb24 (by first | (with_reducible assumption) | (go_simp; done))
    have p24x10 : w24.cell? ⟨w5.heap.size, 7, none⟩ = some (.int .i64 l7) := keep1 hb24 (by first | (with_reducible assumption) | (go_simp; done))
    have p24x11 : w24.cell? ⟨w5.heap.size, 8, none⟩ = some (.int .i64 l8) := keep1 hb24 (by first | (with_reducible assumption) | (go_simp; done))
    have p24x12 : w24.cell? ⟨w6.heap.size, 0, none⟩ = some (.int .i64 x0) := keep1 hb24 (by first | (with_reducible assumption) | (go_simp; done))
    have p24x13 : w24.cell? ⟨w6.heap.size, 1, none⟩ = some (.int .i64 x1) := keep1 hb24 (by first | (with_reducible assumption) | (go_simp; done))
    have p24x14 : w24.cell? ⟨w6.heap.size, 2, none⟩ = some (.int .i64 x2) := keep1 hb24 (by first | (with_reducible assumption) | (go_simp; done))
    have p24x15 : w24.cell? ⟨w6.heap.size, 3, none⟩ = some (.int .i64 x3) := keep1 hb24 (by first | (with_reducible assumption) | (go_simp; done))
    have p24x16 : w24.cell? ⟨w6.heap.size, 4, none⟩ = some (.int .i64 x4) := keep1 hb24 (by first | (with_reducible assumption) | (go_simp; done))
    have p24x17 : w24.cell? ⟨w6.heap.size, 5, none⟩ = some (.int .i64 x5) := keep1 hb24 (by first | (with_reducible assumption) | (go_simp; done))
    have p24x18 : w24.cell? ⟨w6.heap.size, 6, none⟩ = some (.int .i64 x6) := keep1 hb24 (by first | (with_reducible assumption) | (go_simp; done))
    have p24x19 : w24.cell? ⟨w6.heap.size, 7, none⟩ = some (.int .i64 x7) := keep1 hb24 (by first | (with_reducible assumption) | (go_simp; done))
    have p24x20 : w24.cell? ⟨w6.heap.size, 8, none⟩ = some (.int .i64 x8) := keep1 hb24 (by first | (with_reducible assumption) | (go_simp; done))
    have p24x21 : w24.cell? ⟨w22.heap.size, 0, none⟩ = some (.int .i64 ua) := keep1 hb24 (by first | (with_reducible assumption) | (go_simp; done))
    have p24x22 : w24.cell? ⟨w22.heap.size, 1, none⟩ = some (.int .i64 va) := keep1 hb24 (by first | (with_reducible assumption) | (go_simp; done))
    have p24xz0 : w.heap.size + 1 < w24.heap.size := block_lt p24x0
    have p24xz3 : w5.heap.size < w24.heap.size := block_lt p24x3
    have p24xz12 : w6.heap.size < w24.heap.size := block_lt p24x12
    have p24xz21 : w22.heap.size < w24.heap.size := block_lt p24x21
    have p24xs := p24xb.size
    go_wp2_with fail
    refine (KH.out _).mono ?_
    rintro e w25 ⟨rfl, hb25⟩
    have p25xb : Below w.heap.size w w25 := belowT (by first | (go_grown; done) | exact And.left (by assumption)) hb25
    have p25x0 : w25.cell? ⟨w.heap.size + 1, 0, none⟩ = some (.int .i64 p0) := keep1 hb25 (by first | (with_reducible assumption) | (go_simp; done))
    have p25x1 : w25.cell? ⟨w.heap.size + 1, 1, none⟩ = some (.int .i64 p1) := keep1 hb25 (by first | (with_reducible assumption) | (go_simp; done))
    have p25x2 : w25.cell? ⟨w.heap.size + 1, 2, none⟩ = some (.int .i64 p2) := keep1 hb25 (by first | (with_reducible assumption) | (go_simp; done))
    have p25x3 : w25.cell? ⟨w5.heap.size, 0, none⟩ = some (.int .i64 l0) := keep1 hb25 (by first | (with_reducible assumption) | (go_simp; done))
    have p25x4 : w25.cell? ⟨w5.heap.size, 1, none⟩ = some (.int .i64 l1) := keep1 hb25 (by first | (with_reducible assumption) | (go_simp; done))
    have p25x5 : w25.cell? ⟨w5.heap.size, 2, none⟩ = some (.int .i64 l2) := keep1 hb25 (by first | (with_reducible assumption) | (go_simp; done))
    have p25x6 : w25.cell? ⟨w5.heap.size, 3, none⟩ = some (.int .i64 l3) := keep1 hb25 (by first | (with_reducible assumption) | (go_simp; done))
    have p25x7 : w25.cell? ⟨w5.heap.size, 4, none⟩ = some (.int .i64 l4) := keep1 hb25 (by first | (with_reducible assumption) | (go_simp; done))
    have p25x8 : w25.cell? ⟨w5.heap.size, 5, none⟩ = some (.int .i64 l5) := keep1 hb25 (by first | (with_reducible assumption) | (go_simp; done))
    have p25x9 : w25.cell? ⟨w5.heap.size, 6, none⟩ = some (.int .i64 l6) := keep1 hb25 (by first | (with_reducible assumption) | (go_simp; done))
    have p25x10 : w25.cell? ⟨w5.heap.size, 7, none⟩ = some (.int .i64 l7) := keep1 hb25 (by first | (with_reducible assumption) | (go_simp; done))
    have p25x11 : w25.cell? ⟨w5.heap.size, 8, none⟩ = some (.int .i64 l8) := keep1 hb25 (by first | (with_reducible assumption) | (go_simp; done))
    have p25x12 : w25.cell? ⟨w6.heap.size, 0, none⟩ = some (.int .i64 x0) := keep1 hb25 (by first | (with_reducible assumption) | (go_simp; done))
    have p25x13 : w25.cell? ⟨w6.heap.size, 1, none⟩ = some (.int .i64 x1) := keep1 hb25 (by first | (with_reducible assumption) | (go_simp; done))
    have p25x14 : w25.cell? ⟨w6.heap.size, 2, none⟩ = some (.int .i64 x2) := keep1 hb25 (by first | (with_reducible assumption) | (go_simp; done))
    have p25x15 : w25.cell? ⟨w6.heap.size, 3, none⟩ = some (.int .i64 x3) := keep1 hb25 (by first | (with_reducible assumption) | (go_simp; done))
    have p25x16 : w25.cell? ⟨w6.heap.size, 4, none⟩ = some (.int .i64 x4) := keep1 hb25 (by first | (with_reducible assumption) | (go_simp; done))
    have p25x17 : w25.cell? ⟨w6.heap.size, 5, none⟩ = some (.int .i64 x5) := keep1 hb25 (by first | (with_reducible assumption) | (go_simp; done))
    have p25x18 : w25.cell? ⟨w6.heap.size, 6, none⟩ = some (.int .i64 x6) := keep1 hb25 (by first | (with_reducible assumption) | (go_simp; done))
    have p25x19 : w25.cell? ⟨w6.heap.size, 7, none⟩ = some (.int .i64 x7) := keep1 hb25 (by first | (with_reducible assumption) | (go_simp; done))
    have p25x20 : w25.cell? ⟨w6.heap.size, 8, none⟩ = some (.int .i64 x8) := keep1 hb25 (by first | (with_reducible assumption) | (go_simp; done))
    have p25x21 : w25.cell? ⟨w22.heap.size, 0, none⟩ = some (.int .i64 ua) := keep1 hb25 (by first | (with_reducible assumption) | (go_simp; done))
    have p25x22 : w25.cell? ⟨w22.heap.size, 1, none⟩ = some (.int .i64 va) := keep1 hb25 (by first | (with_reducible assumption) | (go_simp; done))
    have p25xz0 : w.heap.size + 1 < w25.heap.size := block_lt p25x0
    have p25xz3 : w5.heap.size < w25.heap.size := block_lt p25x3
    have p25xz12 : w6.heap.size < w25.heap.size := block_lt p25x12
    have p25xz21 : w22.heap.size < w25.heap.size := block_lt p25x21
    have p25xs := p25xb.size
    go_wp2_with fail
    refine (KO.out _ (rangeB (w := w) (by first | (with_reducible assumption) | (go_grown; done)) hr)).mono ?_
    rintro e w26 ⟨rfl, hb26⟩
    have p26xb : Below w.heap.size w w26 := belowT (by first | (go_grown; done) | exact And.left (by assumption)) hb26
    have p26x0 : w26.cell? ⟨w.heap.size + 1, 0, none⟩ = some (.int .i64 p0) := keep1 hb26 (by first | (with_reducible assumption) | (go_simp; done))
    have p26x1 : w26.cell? ⟨w.heap.size + 1, 1, none⟩ = some (.int .i64 p1) := keep1 hb26 (by first | (with_reducible assumption) | (go_simp; done))
    have p26x2 : w26.cell? ⟨w.heap.size + 1, 2, none⟩ = some (.int .i64 p2) := keep1 hb26 (by first | (with_reducible assumption) | (go_simp; done))
    have p26x3 : w26.cell? ⟨w5.heap.size, 0, none⟩ = some (.int .i64 l0) := keep1 hb26 (by first | (with_reducible assumption) | (go_simp; done))
    have p26x4 : w26.cell? ⟨w5.heap.size, 1, none⟩ = some (.int .i64 l1) := keep1 hb26 (by first | (with_reducible assumption) | (go_simp; done))
    have p26x5 : w26.cell? ⟨w5.heap.size, 2, none⟩ = some (.int .i64 l2) := keep1 hb26 (by first | (with_reducible assumption) | (go_simp; done))
    have p26x6 : w26.cell? ⟨w5.heap.size, 3, none⟩ = some (.int .i64 l3) := keep1 hb26 (by first | (with_reducible assumption) | (go_simp; done))
    have p26x7 : w26.cell? ⟨w5.heap.size, 4, none⟩ = some (.int .i64 l4) := keep1 hb26 (by first | (with_reducible assumption) | (go_simp; done))
    have p26x8 : w26.cell? ⟨w5.heap.size, 5, none⟩ = some (.int .i64 l5) := keep1 hb26 (by first | (with_reducible assumption) | (go_simp; done))
    have p26x9 : w26.cell? ⟨w5.heap.size, 6, none⟩ = some (.int .i64 l6) := keep1 hb26 (by first | (with_reducible assumption) | (go_simp; done))
    have p26x10 : w26.cell? ⟨w5.heap.size, 7, none⟩ = some (.int .i64 l7) := keep1 hb26 (by first | (with_reducible assumption) | (go_simp; done))
    have p26x11 : w26.cell? ⟨w5.heap.size, 8, none⟩ = some (.int .i64 l8) := keep1 hb26 (by first | (with_reducible assumption) | (go_simp; done))
    have p26x12 : w26.cell? ⟨w6.heap.size, 0, none⟩ = some (.int .i64 x0) := keep1 hb26 (by first | (with_reducible assumption) | (go_simp; done))
    have p26x13 : w26.cell? ⟨w6.heap.size, 1, none⟩ = some (.int .i64 x1) := keep1 hb26 (by first | (with_reducible assumption) | (go_simp; done))
    have p26x14 : w26.cell? ⟨w6.heap.size, 2, none⟩ = some (.int .i64 x2) := keep1 hb26 (by first | (with_reducible assumption) | (go_simp; done))
    have p26x15 : w26.cell? ⟨w6.heap.size, 3, none⟩ = some (.int .i64 x3) := keep1 hb26 (by first | (with_reducible assumption) | (go_simp; done))
    have p26x16 : w26.cell? ⟨w6.heap.size, 4, none⟩ = some (.int .i64 x4) := keep1 hb26 (by first | (with_reducible assumption) | (go_simp; done))
    have p26x17 : w26.cell? ⟨w6.heap.size, 5, none⟩ = some (.int .i64 x5) := keep1 hb26 (by first | (with_reducible assumption) | (go_simp; done))
    have p26x18 : w26.cell? ⟨w6.heap.size, 6, none⟩ = some (.int .i64 x6) := keep1 hb26 (by first | (with_reducible assumption) | (go_simp; done))
    have p26x19 : w26.cell? ⟨w6.heap.size, 7, none⟩ = some (.int .i64 x7) := keep1 hb26 (by first | (with_reducible assumption) | (go_simp; done))
    have p26x20 : w26.cell? ⟨w6.heap.size, 8, none⟩ = some (.int .i64 x8) := keep1 hb26 (by first | (with_reducible assumption) | (go_simp; done))
    have p26x21 : w26.cell? ⟨w22.heap.size, 0, none⟩ = some (.int .i64 ua) := keep1 hb26 (by first | (with_reducible assumption) | (go_simp; done))
    have p26x22 : w26.cell? ⟨w22.heap.size, 1, none⟩ = some (.int .i64 va) := keep1 hb26 (by first | (with_reducible assumption) | (go_simp; done))
    have p26xz0 : w.heap.size + 1 < w26.heap.size := block_lt p26x0
    have p26xz3 : w5.heap.size < w26.heap.size := block_lt p26x3
    have p26xz12 : w6.heap.size < w26.heap.size := block_lt p26x12
    have p26xz21 : w22.heap.size < w26.heap.size := block_lt p26x21
    have p26xs := p26xb.size
    go_wp2_with fail
    refine (KY.out _ (ht.below (by first | (with_reducible assumption) | (go_grown; done)))).mono ?_
    rintro e w27 ⟨rfl, hb27⟩
    have p27xb : Below w.heap.size w w27 := belowT (by first | (go_grown; done) | exact And.left (by assumption)) hb27
    have p27x0 : w27.cell? ⟨w.heap.size + 1, 0, none⟩ = some (.int .i64 p0) := keep1 hb27 (by first | (with_reducible assumption) | (go_simp; done))
    have p27x1 : w27.cell? ⟨w.heap.size + 1, 1, none⟩ = some (.int .i64 p1) := keep1 hb27 (by first | (with_reducible assumption) | (go_simp; done))
    have p27x2 : w27.cell? ⟨w.heap.size + 1, 2, none⟩ = some (.int .i64 p2) := keep1 hb27 (by first | (with_reducible assumption) | (go_simp; done))
    have p27x3 : w27.cell? ⟨w5.heap.size, 0, none⟩ = some (.int .i64 l0) := keep1 hb27 (by first | (with_reducible assumption) | (go_simp; done))
    have p27x4 : w27.cell? ⟨w5.heap.size, 1, none⟩ = some (.int .i64 l1) := keep1 hb27 (by first | (with_reducible assumption) | (go_simp; done))
    have p27x5 : w27.cell? ⟨w5.heap.size, 2, none⟩ = some (.int .i64 l2) := keep1 hb27 (by first | (with_reducible assumption) | (go_simp; done))
    have p27x6 : w27.cell? ⟨w5.heap.size, 3, none⟩ = some (.int .i64 l3) := keep1 hb27 (by first | (with_reducible assumption) | (go_simp; done))
    have p27x7 : w27.cell? ⟨w5.heap.size, 4, none⟩ = some (.int .i64 l4) := keep1 hb27 (by first | (with_reducible assumption) | (go_simp; done))
    have p27x8 : w27.cell? ⟨w5.heap.size, 5, none⟩ = some (.int .i64 l5) := keep1 hb27 (by first | (with_reducible assumption) | (go_simp; done))
    have p27x9 : w27.cell? ⟨w5.heap.size, 6, none⟩ = some (.int .i64 l6) := keep1 hb27 (by first | (with_reducible assumption) | (go_simp; done))
    have p27x10 : w27.cell? ⟨w5.heap.size, 7, none⟩ = some (.int .i64 l7) := keep1 hb27 (by first | (with_reducible assumption) | (go_simp; done))
    have p27x11 : w27.cell? ⟨w5.heap.size, 8, none⟩ = some (.int .i64 l8) := keep1 hb27 (by first | (with_reducible assumption) | (go_simp; done))
    have p27x12 : w27.cell? ⟨w6.heap.size, 0, none⟩ = some (.int .i64 x0) := keep1 hb27 (by first | (with_reducible assumption) | (go_simp; done))
    have p27x13 : w27.cell? ⟨w6.heap.size, 1, none⟩ = some (.int .i64 x1) := keep1 hb27 (by first | (with_reducible assumption) | (go_simp; done))
    have p27x14 : w27.cell? ⟨w6.heap.size, 2, none⟩ = some (.int .i64 x2) := keep1 hb27 (by first | (with_reducible assumption) | (go_simp; done))
    have p27x15 : w27.cell? ⟨w6.heap.size, 3, none⟩ = some (.int .i64 x3) := keep1 hb27 (by first | (with_reducible assumption) | (go_simp; done))
    have p27x16 : w27.cell? ⟨w6.heap.size, 4, none⟩ = some (.int .i64 x4) := keep1 hb27 (by first | (with_reducible assumption) | (go_simp; done))
    have p27x17 : w27.cell? ⟨w6.heap.size, 5, none⟩ = some (.int .i64 x5) := keep1 hb27 (by first | (with_reducible assumption) | (go_simp; done))
    have p27x18 : w27.cell? ⟨w6.heap.size, 6, none⟩ = some (.int .i64 x6) := keep1 hb27 (by first | (with_reducible assumption) | (go_simp; done))
    have p27x19 : w27.cell? ⟨w6.heap.size, 7, none⟩ = some (.int .i64 x7) := keep1 hb27 (by first | (with_reducible assumption) | (go_simp; done))
    have p27x20 : w27.cell? ⟨w6.heap.size, 8, none⟩ = some (.int .i64 x8) := keep1 hb27 (by first | (with_reducible assumption) | (go_simp; done))
    have p27x21 : w27.cell? ⟨w22.heap.size, 0, none⟩ = some (.int .i64 ua) := keep1 hb27 (by first | (with_reducible assumption) | (go_simp; done))
    have p27x22 : w27.cell? ⟨w22.heap.size, 1, none⟩ = some (.int .i64 va) := keep1 hb27 (by first | (with_reducible assumption) | (go_simp; done))
    have p27x23 : w27.cell? ⟨w26.heap.size, 0, none⟩ = some (.int .i64 z0) := keep1 hb27 (by first | (with_reducible assumption) | (go_simp; done))
    have p27x24 : w27.cell? ⟨w26.heap.size, 1, none⟩ = some (.int .i64 z1) := keep1 hb27 (by first | (with_reducible assumption) | (go_simp; done))
    have p27x25 : w27.cell? ⟨w26.heap.size, 2, none⟩ = some (.int .i64 z2) := keep1 hb27 (by first | (with_reducible assumption) | (go_simp; done))
    have p27x26 : w27.cell? ⟨w26.heap.size, 3, none⟩ = some (.int .i64 z3) := keep1 hb27 (by first | (with_reducible assumption) | (go_simp; done))
    have p27x27 : w27.cell? ⟨w26.heap.size, 4, none⟩ = some (.int .i64 z4) := keep1 hb27 (by first | (with_reducible assumption) | (go_simp; done))
    have p27x28 : w27.cell? ⟨w26.heap.size, 5, none⟩ = some (.int .i64 z5) := keep1 hb27 (by first | (with_reducible assumption) | (go_simp; done))
    have p27x29 : w27.cell? ⟨w26.heap.size, 6, none⟩ = some (.int .i64 z6) := keep1 hb27 (by first | (with_reducible assumption) | (go_simp; done))
    have p27x30 : w27.cell? ⟨w26.heap.size, 7, none⟩ = some (.int .i64 z7) := keep1 hb27 (by first | (with_reducible assumption) | (go_simp; done))
    have p27x31 : w27.cell? ⟨w26.heap.size, 8, none⟩ = some (.int .i64 z8) := keep1 hb27 (by first | (with_reducible assumption) | (go_simp; done))
    have p27xz0 : w.heap.size + 1 < w27.heap.size := block_lt p27x0
    have p27xz3 : w5.heap.size < w27.heap.size := block_lt p27x3
    have p27xz12 : w6.heap.size < w27.heap.size := block_lt p27x12
    have p27xz21 : w22.heap.size < w27.heap.size := block_lt p27x21
    have p27xz23 : w26.heap.size < w27.heap.size := block_lt p27x23
    have p27xs := p27xb.size
    go_wp2_with fail
    refine (KT.out _ (ht.below (by first | (with_reducible assumption) | (go_grown; done)))).mono ?_
    rintro e w28 ⟨rfl, hb28⟩
    have p28xb : Below w.heap.size w w28 := belowT (by first | (go_grown; done) | exact And.left (by assumption)) hb28
    have p28x0 : w28.cell? ⟨w.heap.size + 1, 0, none⟩ = some (.int .i64 p0) := keep1 hb28 (by first | (with_reducible assumption) | (go_simp; done))
    have p28x1 : w28.cell? ⟨w.heap.size + 1, 1, none⟩ = some (.int .i64 p1) := keep1 hb28 (by first | (with_reducible assumption) | (go_simp; done))
    have p28x2 : w28.cell? ⟨w.heap.size + 1, 2, none⟩ = some (.int .i64 p2) := keep1 hb28 (by first | (with_reducible assumption) | (go_simp; done))
    have p28x3 : w28.cell? ⟨w5.heap.size, 0, none⟩ = some (.int .i64 l0) := keep1 hb28 (by first | (with_reducible assumption) | (go_simp; done))
    have p28x4 : w28.cell? ⟨w5.heap.size, 1, none⟩ = some (.int .i64 l1) := keep1 hb28 (by first | (with_reducible assumption) | (go_simp; done))
    have p28x5 : w28.cell? ⟨w5.heap.size, 2, none⟩ = some (.int .i64 l2) := keep1 hb28 (by first | (with_reducible assumption) | (go_simp; done))
    have p28x6 : w28.cell? ⟨w5.heap.size, 3, none⟩ = some (.int .i64 l3) := keep1 hb28 (by first | (with_reducible assumption) | (go_simp; done))
    have p28x7 : w28.cell? ⟨w5.heap.size, 4, none⟩ = some (.int .i64 l4) := keep1 hb28 (by first | (with_reducible assumption) | (go_simp; done))
    have p28x8 : w28.cell? ⟨w5.heap.size, 5, none⟩ = some (.int .i64 l5) := keep1 hb28 (by first | (with_reducible assumption) | (go_simp; done))
    have p28x9 : w28.cell? ⟨w5.heap.size, 6, none⟩ = some (.int .i64 l6) := keep1 hb28 (by first | (with_reducible assumption) | (go_simp; done))
    have p28x10 : w28.cell? ⟨w5.heap.size, 7, none⟩ = some (.int .i64 l7) := keep1 hb28 (by first | (with_reducible assumption) | (go_simp; done))
    have p28x11 : w28.cell? ⟨w5.heap.size, 8, none⟩ = some (.int .i64 l8) := keep1 hb28 (by first | (with_reducible assumption) | (go_simp; done))
    have p28x12 : w28.cell? ⟨w6.heap.size, 0, none⟩ = some (.int .i64 x0) := keep1 hb28 (by first | (with_reducible assumption) | (go_simp; done))
    have p28x13 : w28.cell? ⟨w6.heap.size, 1, none⟩ = some (.int .i64 x1) := keep1 hb28 (by first | (with_reducible assumption) | (go_simp; done))
    have p28x14 : w28.cell? ⟨w6.heap.size, 2, none⟩ = some (.int .i64 x2) := keep1 hb28 (by first | (with_reducible assumption) | (go_simp; done))
    have p28x15 : w28.cell? ⟨w6.heap.size, 3, none⟩ = some (.int .i64 x3) := keep1 hb28 (by first | (with_reducible assumption) | (go_simp; done))
    have p28x16 : w28.cell? ⟨w6.heap.size, 4, none⟩ = some (.int .i64 x4) := keep1 hb28 (by first | (with_reducible assumption) | (go_simp; done))
    have p28x17 : w28.cell? ⟨w6.heap.size, 5, none⟩ = some (.int .i64 x5) := keep1 hb28 (by first | (with_reducible assumption) | (go_simp; done))
    have p28x18 : w28.cell? ⟨w6.heap.size, 6, none⟩ = some (.int .i64 x6) := keep1 hb28 (by first | (with_reducible assumption) | (go_simp; done))
    have p28x19 : w28.cell? ⟨w6.heap.size, 7, none⟩ = some (.int .i64 x7) := keep1 hb28 (by first | (with_reducible assumption) | (go_simp; done))
    have p28x20 : w28.cell? ⟨w6.heap.size, 8, none⟩ = some (.int .i64 x8) := keep1 hb28 (by first | (with_reducible assumption) | (go_simp; done))
    have p28x21 : w28.cell? ⟨w22.heap.size, 0, none⟩ = some (.int .i64 ua) := keep1 hb28 (by first | (with_reducible assumption) | (go_simp; done))
    have p28x22 : w28.cell? ⟨w22.heap.size, 1, none⟩ = some (.int .i64 va) := keep1 hb28 (by first | (with_reducible assumption) | (go_simp; done))
    have p28x23 : w28.cell? ⟨w26.heap.size, 0, none⟩ = some (.int .i64 z0) := keep1 hb28 (by first | (with_reducible assumption) | (go_simp; done))
    have p28x24 : w28.cell? ⟨w26.heap.size, 1, none⟩ = some (.int .i64 z1) := keep1 hb28 (by first | (with_reducible assumption) | (go_simp; done))
    have p28x25 : w28.cell? ⟨w26.heap.size, 2, none⟩ = some (.int .i64 z2) := keep1 hb28 (by first | (with_reducible assumption) | (go_simp; done))
    have p28x26 : w28.cell? ⟨w26.heap.size, 3, none⟩ = some (.int .i64 z3) := keep1 hb28 (by first | (with_reducible assumption) | (go_simp; done))
    have p28x27 : w28.cell? ⟨w26.heap.size, 4, none⟩ = some (.int .i64 z4) := keep1 hb28 (by first | (with_reducible assumption) | (go_simp; done))
    have p28x28 : w28.cell? ⟨w26.heap.size, 5, none⟩ = some (.int .i64 z5) := keep1 hb28 (by first | (with_reducible assumption) | (go_simp; done))
    have p28x29 : w28.cell? ⟨w26.heap.size, 6, none⟩ = some (.int .i64 z6) := keep1 hb28 (by first | (with_reducible assumption) | (go_simp; done))
    have p28x30 : w28.cell? ⟨w26.heap.size, 7, none⟩ = some (.int .i64 z7) := keep1 hb28 (by first | (with_reducible assumption) | (go_simp; done))
    have p28x31 : w28.cell? ⟨w26.heap.size, 8, none⟩ = some (.int .i64 z8) := keep1 hb28 (by first | (with_reducible assumption) | (go_simp; done))
    have p28x32 : w28.cell? ⟨w27.heap.size, 0, none⟩ = some (.int .i64 ya) := keep1 hb28 (by first | (with_reducible assumption) | (go_simp; done))
    have p28x33 : w28.cell? ⟨w27.heap.size, 1, none⟩ = some (.int .i64 yb) := keep1 hb28 (by first | (with_reducible assumption) | (go_simp; done))
    have p28xz0 : w.heap.size + 1 < w28.heap.size := block_lt p28x0
    have p28xz3 : w5.heap.size < w28.heap.size := block_lt p28x3
    have p28xz12 : w6.heap.size < w28.heap.size := block_lt p28x12
    have p28xz21 : w22.heap.size < w28.heap.size := block_lt p28x21
    have p28xz23 : w26.heap.size < w28.heap.size := block_lt p28x23
    have p28xz32 : w27.heap.size < w28.heap.size := block_lt p28x32
    have p28xs := p28xb.size
    go_wp2_with fail
    refine (KU.out _ (ht.below (by first | (with_reducible assumption) | (go_grown; done)))).mono ?_
    rintro e w29 ⟨rfl, hb29⟩
    have p29xb : Below w.heap.size w w29 := belowT (by first | (go_grown; done) | exact And.left (by assumption)) hb29
    have p29x0 : w29.cell? ⟨w.heap.size + 1, 0, none⟩ = some (.int .i64 p0) := keep1 hb29 (by first | (with_reducible assumption) | (go_simp; done))
    have p29x1 : w29.cell? ⟨w.heap.size + 1, 1, none⟩ = some (.int .i64 p1) := keep1 hb29 (by first | (with_reducible assumption) | (go_simp; done))
    have p29x2 : w29.cell? ⟨w.heap.size + 1, 2, none⟩ = some (.int .i64 p2) := keep1 hb29 (by first | (with_reducible assumption) | (go_simp; done))
    have p29x3 : w29.cell? ⟨w5.heap.size, 0, none⟩ = some (.int .i64 l0) := keep1 hb29 (by first | (with_reducible assumption) | (go_simp; done))
    have p29x4 : w29.cell? ⟨w5.heap.size, 1, none⟩ = some (.int .i64 l1) := keep1 hb29 (by first | (with_reducible assumption) | (go_simp; done))
    have p29x5 : w29.cell? ⟨w5.heap.size, 2, none⟩ = some (.int .i64 l2) := keep1 hb29 (by first | (with_reducible assumption) | (go_simp; done))
    have p29x6 : w29.cell? ⟨w5.heap.size, 3, none⟩ = some (.int .i64 l3) := keep1 hb29 (by first | (with_reducible assumption) | (go_simp; done))
    have p29x7 : w29.cell? ⟨w5.heap.size, 4, none⟩ = some (.int .i64 l4) := keep1 hb29 (by first | (with_reducible assumption) | (go_simp; done))
    have p29x8 : w29.cell? ⟨w5.heap.size, 5, none⟩ = some (.int .i64 l5) := keep1 hb29 (by first | (with_reducible assumption) | (go_simp; done))
    have p29x9 : w29.cell? ⟨w5.heap.size, 6, none⟩ = some (.int .i64 l6) := keep1 hb29 (by first | (with_reducible assumption) | (go_simp; done))
    have p29x10 : w29.cell? ⟨w5.heap.size, 7, none⟩ = some (.int .i64 l7) := keep1 hb29 (by first | (with_reducible assumption) | (go_simp; done))
    have p29x11 : w29.cell? ⟨w5.heap.size, 8, none⟩ = some (.int .i64 l8) := keep1 hb29 (by first | (with_reducible assumption) | (go_simp; done))
    have p29x12 : w29.cell? ⟨w6.heap.size, 0, none⟩ = some (.int .i64 x0) := keep1 hb29 (by first | (with_reducible assumption) | (go_simp; done))
    have p29x13 : w29.cell? ⟨w6.heap.size, 1, none⟩ = some (.int .i64 x1) := keep1 hb29 (by first | (with_reducible assumption) | (go_simp; done))
    have p29x14 : w29.cell? ⟨w6.heap.size, 2, none⟩ = some (.int .i64 x2) := keep1 hb29 (by first | (with_reducible assumption) | (go_simp; done))
    have p29x15 : w29.cell? ⟨w6.heap.size, 3, none⟩ = some (.int .i64 x3) := keep1 hb29 (by first | (with_reducible assumption) | (go_simp; done))
    have p29x16 : w29.cell? ⟨w6.heap.size, 4, none⟩ = some (.int .i64 x4) := keep1 hb29 (by first | (with_reducible assumption) | (go_simp; done))
    have p29x17 : w29.cell? ⟨w6.heap.size, 5, none⟩ = some (.int .i64 x5) := keep1 hb29 (by first | (with_reducible assumption) | (go_simp; done))
    have p29x18 : w29.cell? ⟨w6.heap.size, 6, none⟩ = some (.int .i64 x6) := keep1 hb29 (by first | (with_reducible assumption) | (go_simp; done))
    have p29x19 : w29.cell? ⟨w6.heap.size, 7, none⟩ = some (.int .i64 x7) := keep1 hb29 (by first | (with_reducible assumption) | (go_simp; done))
    have p29x20 : w29.cell? ⟨w6.heap.size, 8, none⟩ = some (.int .i64 x8) := keep1 hb29 (by first | (with_reducible assumption) | (go_simp; done))
    have p29x21 : w29.cell? ⟨w22.heap.size, 0, none⟩ = some (.int .i64 ua) := keep1 hb29 (by first | (with_reducible assumption) | (go_simp; done))
    have p29x22 : w29.cell? ⟨w22.heap.size, 1, none⟩ = some (.int .i64 va) := keep1 hb29 (by first | (with_reducible assumption) | (go_simp; done))
    have p29x23 : w29.cell? ⟨w26.heap.size, 0, none⟩ = some (.int .i64 z0) := keep1 hb29 (by first | (with_reducible assumption) | (go_simp; done))
    have p29x24 : w29.cell? ⟨w26.heap.size, 1, none⟩ = some (.int .i64 z1) := keep1 hb29 (by first | (with_reducible assumption) | (go_simp; done))
    have p29x25 : w29.cell? ⟨w26.heap.size, 2, none⟩ = some (.int .i64 z2) := keep1 hb29 (by first | (with_reducible assumption) | (go_simp; done))
    have p29x26 : w29.cell? ⟨w26.heap.size, 3, none⟩ = some (.int .i64 z3) := keep1 hb29 (by first | (with_reducible assumption) | (go_simp; done))
    have p29x27 : w29.cell? ⟨w26.heap.size, 4, none⟩ = some (.int .i64 z4) := keep1 hb29 (by first | (with_reducible assumption) | (go_simp; done))
    have p29x28 : w29.cell? ⟨w26.heap.size, 5, none⟩ = some (.int .i64 z5) := keep1 hb29 (by first | (with_reducible assumption) | (go_simp; done))
    have p29x29 : w29.cell? ⟨w26.heap.size, 6, none⟩ = some (.int .i64 z6) := keep1 hb29 (by first | (with_reducible assumption) | (go_simp; done))
    have p29x30 : w29.cell? ⟨w26.heap.size, 7, none⟩ = some (.int .i64 z7) := keep1 hb29 (by first | (with_reducible assumption) | (go_simp; done))
    have p29x31 : w29.cell? ⟨w26.heap.size, 8, none⟩ = some (.int .i64 z8) := keep1 hb29 (by first | (with_reducible assumption) | (go_simp; done))
    have p29x32 : w29.cell? ⟨w27.heap.size, 0, none⟩ = some (.int .i64 ya) := keep1 hb29 (by first | (with_reducible assumption) | (go_simp; done))
    have p29x33 : w29.cell? ⟨w27.heap.size, 1, none⟩ = some (.int .i64 yb) := keep1 hb29 (by first | (with_reducible assumption) | (go_simp; done))
    have p29xz0 : w.heap.size + 1 < w29.heap.size := block_lt p29x0
    have p29xz3 : w5.heap.size < w29.heap.size := block_lt p29x3
    have p29xz12 : w6.heap.size < w29.heap.size := block_lt p29x12
    have p29xz21 : w22.heap.size < w29.heap.size := block_lt p29x21
    have p29xz23 : w26.heap.size < w29.heap.size := block_lt p29x23
    have p29xz32 : w27.heap.size < w29.heap.size := block_lt p29x32
    have p29xs := p29xb.size
    go_wp2_with (first | (go_at_call 27; refine (KW.out _).mono ?_; rintro e wz ⟨rfl, rfl⟩) | (go_at_call 36; refine (KM.out _).mono ?_; rintro e wz ⟨rfl, rfl⟩))
    go_returns
    exact ⟨rfl, by first | (go_grown; done) | assumption⟩
  · go_simp
    refine hK.out _ _ (hH.below (belowA _ _)) (fun hH1 => ?_)
    clear hK
    try simp only [Act.put, List.setIfInBounds_toArray, List.set_cons_zero, List.set_cons_succ, List.getElem_toArray, List.getElem_cons_succ, List.getElem_cons_zero]
    refine wpAnyH_ready (rs := [14]) (by kernel_rfl) (by simp) ?_
    refine AllReadyH.cons rfl (fun K hK => ?_) AllReadyH.nil
    go_simp
    refine (KC.out _ (rangeB (w := w) hH1.1 hr)).mono ?_
    rintro e wa ⟨rfl, hba⟩
    have x0c : wa.cell? ⟨w7.heap.size + 1, 0, none⟩ = some (.int .i64 0) := keep1 hba (by go_simp)
    have x1c : wa.cell? ⟨w7.heap.size + 1, 1, none⟩ = some (.int .i64 0) := keep1 hba (by go_simp)
    have x2c : wa.cell? ⟨w7.heap.size + 1, 2, none⟩ = some (.int .i64 0) := keep1 hba (by go_simp)
    have x3c : wa.cell? ⟨w7.heap.size + 1, 3, none⟩ = some (.int .i64 0) := keep1 hba (by go_simp)
    have x4c : wa.cell? ⟨w7.heap.size + 1, 4, none⟩ = some (.int .i64 0) := keep1 hba (by go_simp)
    have x5c : wa.cell? ⟨w7.heap.size + 1, 5, none⟩ = some (.int .i64 0) := keep1 hba (by go_simp)
    have x6c : wa.cell? ⟨w7.heap.size + 1, 6, none⟩ = some (.int .i64 0) := keep1 hba (by go_simp)
    have x7c : wa.cell? ⟨w7.heap.size + 1, 7, none⟩ = some (.int .i64 0) := keep1 hba (by go_simp)
    have x8c : wa.cell? ⟨w7.heap.size + 1, 8, none⟩ = some (.int .i64 0) := keep1 hba (by go_simp)
    have x0f : wa.frozen? ⟨w7.heap.size + 1, 0, none⟩ = false := keepF hba (by simp) (by go_simp)
    have x1f : wa.frozen? ⟨w7.heap.size + 1, 1, none⟩ = false := keepF hba (by simp) (by go_simp)
    have x2f : wa.frozen? ⟨w7.heap.size + 1, 2, none⟩ = false := keepF hba (by simp) (by go_simp)
    have x3f : wa.frozen? ⟨w7.heap.size + 1, 3, none⟩ = false := keepF hba (by simp) (by go_simp)
    have x4f : wa.frozen? ⟨w7.heap.size + 1, 4, none⟩ = false := keepF hba (by simp) (by go_simp)
    have x5f : wa.frozen? ⟨w7.heap.size + 1, 5, none⟩ = false := keepF hba (by simp) (by go_simp)
    have x6f : wa.frozen? ⟨w7.heap.size + 1, 6, none⟩ = false := keepF hba (by simp) (by go_simp)
    have x7f : wa.frozen? ⟨w7.heap.size + 1, 7, none⟩ = false := keepF hba (by simp) (by go_simp)
    have x8f : wa.frozen? ⟨w7.heap.size + 1, 8, none⟩ = false := keepF hba (by simp) (by go_simp)
    refine hK.out _ _ (hH1.below hba) (fun hH2 => ?_)
    clear hK
    try simp only [Act.put, List.setIfInBounds_toArray, List.set_cons_zero, List.set_cons_succ, List.getElem_toArray, List.getElem_cons_succ, List.getElem_cons_zero]
    refine' wpAnyH_take (i := 15) (v := _) rfl (by kernel_rfl) (by kernel_rfl) (by kernel_rfl) (fun _ _ _ h => h) (Or.inl ⟨by kernel_rfl, ?hy⟩) (by assumption) ?_
    case hy => (intro W hW; obtain ⟨hb, h0, h1, h2, h3, h4, h5, h6, h7, h8, h9, h10, h11, h12, h13, h14, h15, h16, h17, h18, h19, h20, h21, h22, h23, h24, h25, h26, h27, h28, h29, h30, h31, h32, h33, h34, h35, h36, h37, h38, h39⟩ := hW; go_simp; try (with_reducible rfl))
    try simp only [Act.put, List.setIfInBounds_toArray, List.set_cons_zero, List.set_cons_succ, List.getElem_toArray, List.getElem_cons_succ, List.getElem_cons_zero]
    refine' wpAnyH_take (i := 16) (v := _) rfl (by kernel_rfl) (by kernel_rfl) (by kernel_rfl) (fun _ _ _ h => h) (Or.inl ⟨by kernel_rfl, ?hy⟩) (by assumption) ?_
    case hy => (intro W hW; obtain ⟨hb, h0, h1, h2, h3, h4, h5, h6, h7, h8, h9, h10, h11, h12, h13, h14, h15, h16, h17, h18, h19, h20, h21, h22, h23, h24, h25, h26, h27, h28, h29, h30, h31, h32, h33, h34, h35, h36, h37, h38, h39⟩ := hW; go_simp; try (with_reducible rfl))
    try simp only [Act.put, List.setIfInBounds_toArray, List.set_cons_zero, List.set_cons_succ, List.getElem_toArray, List.getElem_cons_succ, List.getElem_cons_zero]
    refine' wpAnyH_take (i := 17) (v := _) rfl (by kernel_rfl) (by kernel_rfl) (by kernel_rfl) (fun _ _ _ h => h) (Or.inl ⟨by kernel_rfl, ?hy⟩) (by assumption) ?_
    case hy => (intro W hW; obtain ⟨hb, h0, h1, h2, h3, h4, h5, h6, h7, h8, h9, h10, h11, h12, h13, h14, h15, h16, h17, h18, h19, h20, h21, h22, h23, h24, h25, h26, h27, h28, h29, h30, h31, h32, h33, h34, h35, h36, h37, h38, h39⟩ := hW; go_simp; try (with_reducible rfl))
    try simp only [Act.put, List.setIfInBounds_toArray, List.set_cons_zero, List.set_cons_succ, List.getElem_toArray, List.getElem_cons_succ, List.getElem_cons_zero]
    refine wpAnyH_ready (rs := [19]) (by kernel_rfl) (by simp) ?_
    refine AllReadyH.cons rfl (fun K hK => ?_) AllReadyH.nil
    go_simp
    skip
    refine hK.out _ _ (((((((((hH2.set _ zq2 zq3 zq4 zq5).set _ zq2 zq3 zq4 zq5).set _ zq2 zq3 zq4 zq5).set _ zq2 zq3 zq4 zq5).set _ zq2 zq3 zq4 zq5).set _ zq2 zq3 zq4 zq5).set _ zq2 zq3 zq4 zq5).set _ zq2 zq3 zq4 zq5).set _ zq2 zq3 zq4 zq5) (fun hH3 => ?_)
    clear hK
    try simp only [Act.put, List.setIfInBounds_toArray, List.set_cons_zero, List.set_cons_succ, List.getElem_toArray, List.getElem_cons_succ, List.getElem_cons_zero]
    refine' wpAnyH_take (i := 20) (v := _) rfl (by kernel_rfl) (by kernel_rfl) (by kernel_rfl) (fun _ _ _ h => h) (Or.inl ⟨by kernel_rfl, ?hy⟩) (by assumption) ?_
    case hy => (intro W hW; obtain ⟨hb, h0, h1, h2, h3, h4, h5, h6, h7, h8, h9, h10, h11, h12, h13, h14, h15, h16, h17, h18, h19, h20, h21, h22, h23, h24, h25, h26, h27, h28, h29, h30, h31, h32, h33, h34, h35, h36, h37, h38, h39⟩ := hW; go_simp; try (with_reducible rfl))
    try simp only [Act.put, List.setIfInBounds_toArray, List.set_cons_zero, List.set_cons_succ, List.getElem_toArray, List.getElem_cons_succ, List.getElem_cons_zero]
    refine wpAnyH_done (by kernel_rfl) ?_ _
    refine then_world (fun V => RwS k n s r p0 p1 p2 q0 q1 q2 e0 e1 e2 l0 l1 l2 l3 l4 l5 l6 l7 l8 x0 x1 x2 x3 x4 x5 x6 x7 x8 y0 y1 y2 y3 y4 y5 y6 y7 y8 w w5.heap.size w6.heap.size w7.heap.size V ∧ V.cell? ⟨w7.heap.size + 1, 0, none⟩ = some (.int .i64 y0) ∧ V.cell? ⟨w7.heap.size + 1, 1, none⟩ = some (.int .i64 y1) ∧ V.cell? ⟨w7.heap.size + 1, 2, none⟩ = some (.int .i64 y2) ∧ V.cell? ⟨w7.heap.size + 1, 3, none⟩ = some (.int .i64 y3) ∧ V.cell? ⟨w7.heap.size + 1, 4, none⟩ = some (.int .i64 y4) ∧ V.cell? ⟨w7.heap.size + 1, 5, none⟩ = some (.int .i64 y5) ∧ V.cell? ⟨w7.heap.size + 1, 6, none⟩ = some (.int .i64 y6) ∧ V.cell? ⟨w7.heap.size + 1, 7, none⟩ = some (.int .i64 y7) ∧ V.cell? ⟨w7.heap.size + 1, 8, none⟩ = some (.int .i64 y8)) ⟨hH3, (seto (b' := w7.heap.size + 1) (o' := 8) (.int .i64 y8) (Or.inr (by decide)) (seto (b' := w7.heap.size + 1) (o' := 7) (.int .i64 y7) (Or.inr (by decide)) (seto (b' := w7.heap.size + 1) (o' := 6) (.int .i64 y6) (Or.inr (by decide)) (seto (b' := w7.heap.size + 1) (o' := 5) (.int .i64 y5) (Or.inr (by decide)) (seto (b' := w7.heap.size + 1) (o' := 4) (.int .i64 y4) (Or.inr (by decide)) (seto (b' := w7.heap.size + 1) (o' := 3) (.int .i64 y3) (Or.inr (by decide)) (seto (b' := w7.heap.size + 1) (o' := 2) (.int .i64 y2) (Or.inr (by decide)) (seto (b' := w7.heap.size + 1) (o' := 1) (.int .i64 y1) (Or.inr (by decide)) (setc (.int .i64 y0) x0c))))))))), (seto (b' := w7.heap.size + 1) (o' := 8) (.int .i64 y8) (Or.inr (by decide)) (seto (b' := w7.heap.size + 1) (o' := 7) (.int .i64 y7) (Or.inr (by decide)) (seto (b' := w7.heap.size + 1) (o' := 6) (.int .i64 y6) (Or.inr (by decide)) (seto (b' := w7.heap.size + 1) (o' := 5) (.int .i64 y5) (Or.inr (by decide)) (seto (b' := w7.heap.size + 1) (o' := 4) (.int .i64 y4) (Or.inr (by decide)) (seto (b' := w7.heap.size + 1) (o' := 3) (.int .i64 y3) (Or.inr (by decide)) (seto (b' := w7.heap.size + 1) (o' := 2) (.int .i64 y2) (Or.inr (by decide)) (setc (.int .i64 y1) (seto (b' := w7.heap.size + 1) (o' := 0) (.int .i64 y0) (Or.inr (by decide)) x1c))))))))), (seto (b' := w7.heap.size + 1) (o' := 8) (.int .i64 y8) (Or.inr (by decide)) (seto (b' := w7.heap.size + 1) (o' := 7) (.int .i64 y7) (Or.inr (by decide)) (seto (b' := w7.heap.size + 1) (o' := 6) (.int .i64 y6) (Or.inr (by decide)) (seto (b' := w7.heap.size + 1) (o' := 5) (.int .i64 y5) (Or.inr (by decide)) (seto (b' := w7.heap.size + 1) (o' := 4) (.int .i64 y4) (Or.inr (by decide)) (seto (b' := w7.heap.size + 1) (o' := 3) (.int .i64 y3) (Or.inr (by decide)) (setc (.int .i64 y2) (seto (b' := w7.heap.size + 1) (o' := 1) (.int .i64 y1) (Or.inr (by decide)) (seto (b' := w7.heap.size + 1) (o' := 0) (.int .i64 y0) (Or.inr (by decide)) x2c))))))))), (seto (b' := w7.heap.size + 1) (o' := 8) (.int .i64 y8) (Or.inr (by decide)) (seto (b' := w7.heap.size + 1) (o' := 7) (.int .i64 y7) (Or.inr (by decide)) (seto (b' := w7.heap.size + 1) (o' := 6) (.int .i64 y6) (Or.inr (by decide)) (seto (b' := w7.heap.size + 1) (o' := 5) (.int .i64 y5) (Or.inr (by decide)) (seto (b' := w7.heap.size + 1) (o' := 4) (.int .i64 y4) (Or.inr (by decide)) (setc (.int .i64 y3) (seto (b' := w7.heap.size + 1) (o' := 2) (.int .i64 y2) (Or.inr (by decide)) (seto (b' := w7.heap.size + 1) (o' := 1) (.int .i64 y1) (Or.inr (by decide)) (seto (b' := w7.heap.size + 1) (o' := 0) (.int .i64 y0) (Or.inr (by decide)) x3c))))))))), (seto (b' := w7.heap.size + 1) (o' := 8) (.int .i64 y8) (Or.inr (by decide)) (seto (b' := w7.heap.size + 1) (o' := 7) (.int .i64 y7) (Or.inr (by decide)) (seto (b' := w7.heap.size + 1) (o' := 6) (.int .i64 y6) (Or.inr (by decide)) (seto (b' := w7.heap.size + 1) (o' := 5) (.int .i64 y5) (Or.inr (by decide)) (setc (.int .i64 y4) (seto (b' := w7.heap.size + 1) (o' := 3) (.int .i64 y3) (Or.inr (by decide)) (seto (b' := w7.heap.size + 1) (o' := 2) (.int .i64 y2) (Or.inr (by decide)) (seto (b' := w7.heap.size + 1) (o' := 1) (.int .i64 y1) (Or.inr (by decide)) (seto (b' := w7.heap.size + 1) (o' := 0) (.int .i64 y0) (Or.inr (by decide)) x4c))))))))), (seto (b' := w7.heap.size + 1) (o' := 8) (.int .i64 y8) (Or.inr (by decide)) (seto (b' := w7.heap.size + 1) (o' := 7) (.int .i64 y7) (Or.inr (by decide)) (seto (b' := w7.heap.size + 1) (o' := 6) (.int .i64 y6) (Or.inr (by decide)) (setc (.int .i64 y5) (seto (b' := w7.heap.size + 1) (o' := 4) (.int .i64 y4) (Or.inr (by decide)) (seto (b' := w7.heap.size + 1) (o' := 3) (.int .i64 y3) (Or.inr (by decide)) (seto (b' := w7.heap.size + 1) (o' := 2) (.int .i64 y2) (Or.inr (by decide)) (seto (b' := w7.heap.size + 1) (o' := 1) (.int .i64 y1) (Or.inr (by decide)) (seto (b' := w7.heap.size + 1) (o' := 0) (.int .i64 y0) (Or.inr (by decide)) x5c))))))))), (seto (b' := w7.heap.size + 1) (o' := 8) (.int .i64 y8) (Or.inr (by decide)) (seto (b' := w7.heap.size + 1) (o' := 7) (.int .i64 y7) (Or.inr (by decide)) (setc (.int .i64 y6) (seto (b' := w7.heap.size + 1) (o' := 5) (.int .i64 y5) (Or.inr (by decide)) (seto (b' := w7.heap.size + 1) (o' := 4) (.int .i64 y4) (Or.inr (by decide)) (seto (b' := w7.heap.size + 1) (o' := 3) (.int .i64 y3) (Or.inr (by decide)) (seto (b' := w7.heap.size + 1) (o' := 2) (.int .i64 y2) (Or.inr (by decide)) (seto (b' := w7.heap.size + 1) (o' := 1) (.int .i64 y1) (Or.inr (by decide)) (seto (b' := w7.heap.size + 1) (o' := 0) (.int .i64 y0) (Or.inr (by decide)) x6c))))))))), (seto (b' := w7.heap.size + 1) (o' := 8) (.int .i64 y8) (Or.inr (by decide)) (setc (.int .i64 y7) (seto (b' := w7.heap.size + 1) (o' := 6) (.int .i64 y6) (Or.inr (by decide)) (seto (b' := w7.heap.size + 1) (o' := 5) (.int .i64 y5) (Or.inr (by decide)) (seto (b' := w7.heap.size + 1) (o' := 4) (.int .i64 y4) (Or.inr (by decide)) (seto (b' := w7.heap.size + 1) (o' := 3) (.int .i64 y3) (Or.inr (by decide)) (seto (b' := w7.heap.size + 1) (o' := 2) (.int .i64 y2) (Or.inr (by decide)) (seto (b' := w7.heap.size + 1) (o' := 1) (.int .i64 y1) (Or.inr (by decide)) (seto (b' := w7.heap.size + 1) (o' := 0) (.int .i64 y0) (Or.inr (by decide)) x7c))))))))), (setc (.int .i64 y8) (seto (b' := w7.heap.size + 1) (o' := 7) (.int .i64 y7) (Or.inr (by decide)) (seto (b' := w7.heap.size + 1) (o' := 6) (.int .i64 y6) (Or.inr (by decide)) (seto (b' := w7.heap.size + 1) (o' := 5) (.int .i64 y5) (Or.inr (by decide)) (seto (b' := w7.heap.size + 1) (o' := 4) (.int .i64 y4) (Or.inr (by decide)) (seto (b' := w7.heap.size + 1) (o' := 3) (.int .i64 y3) (Or.inr (by decide)) (seto (b' := w7.heap.size + 1) (o' := 2) (.int .i64 y2) (Or.inr (by decide)) (seto (b' := w7.heap.size + 1) (o' := 1) (.int .i64 y1) (Or.inr (by decide)) (seto (b' := w7.heap.size + 1) (o' := 0) (.int .i64 y0) (Or.inr (by decide)) x8c)))))))))⟩ ?_
    clear hH hH1 hH2 hH3 hba x0c x0f x1c x1f x2c x2f x3c x3f x4c x4f x5c x5f x6c x6f x7c x7f x8c x8f
    rintro V ⟨hV, yy0, yy1, yy2, yy3, yy4, yy5, yy6, yy7, yy8⟩
    obtain ⟨hb, h0, h1, h2, h3, h4, h5, h6, h7, h8, h9, h10, h11, h12, h13, h14, h15, h16, h17, h18, h19, h20, h21, h22, h23, h24, h25, h26, h27, h28, h29, h30, h31, h32, h33, h34, h35, h36, h37, h38, h39⟩ := hV
    go_wp2_with fail
    refine (KS.out _ (ht.below (by first | (with_reducible assumption) | (go_grown; done)))).mono ?_
    rintro e w21 ⟨rfl, hb21⟩
    have p21xb : Below w.heap.size w w21 := belowT (by first | (go_grown; done) | exact And.left (by assumption)) hb21
    have p21x0 : w21.cell? ⟨w.heap.size + 1, 0, none⟩ = some (.int .i64 p0) := keep1 hb21 (by first | (with_reducible assumption) | (go_simp; done))
    have p21x1 : w21.cell? ⟨w.heap.size + 1, 1, none⟩ = some (.int .i64 p1) := keep1 hb21 (by first | (with_reducible assumption) | (go_simp; done))
    have p21x2 : w21.cell? ⟨w.heap.size + 1, 2, none⟩ = some (.int .i64 p2) := keep1 hb21 (by first | (with_reducible assumption) | (go_simp; done))
    have p21x3 : w21.cell? ⟨w5.heap.size, 0, none⟩ = some (.int .i64 l0) := keep1 hb21 (by first | (with_reducible assumption) | (go_simp; done))
    have p21x4 : w21.cell? ⟨w5.heap.size, 1, none⟩ = some (.int .i64 l1) := keep1 hb21 (by first | (with_reducible assumption) | (go_simp; done))
    have p21x5 : w21.cell? ⟨w5.heap.size, 2, none⟩ = some (.int .i64 l2) := keep1 hb21 (by first | (with_reducible assumption) | (go_simp; done))
    have p21x6 : w21.cell? ⟨w5.heap.size, 3, none⟩ = some (.int .i64 l3) := keep1 hb21 (by first | (with_reducible assumption) | (go_simp; done))
    have p21x7 : w21.cell? ⟨w5.heap.size, 4, none⟩ = some (.int .i64 l4) := keep1 hb21 (by first | (with_reducible assumption) | (go_simp; done))
    have p21x8 : w21.cell? ⟨w5.heap.size, 5, none⟩ = some (.int .i64 l5) := keep1 hb21 (by first | (with_reducible assumption) | (go_simp; done))
    have p21x9 : w21.cell? ⟨w5.heap.size, 6, none⟩ = some (.int .i64 l6) := keep1 hb21 (by first | (with_reducible assumption) | (go_simp; done))
    have p21x10 : w21.cell? ⟨w5.heap.size, 7, none⟩ = some (.int .i64 l7) := keep1 hb21 (by first | (with_reducible assumption) | (go_simp; done))
    have p21x11 : w21.cell? ⟨w5.heap.size, 8, none⟩ = some (.int .i64 l8) := keep1 hb21 (by first | (with_reducible assumption) | (go_simp; done))
    have p21x12 : w21.cell? ⟨w6.heap.size, 0, none⟩ = some (.int .i64 x0) := keep1 hb21 (by first | (with_reducible assumption) | (go_simp; done))
    have p21x13 : w21.cell? ⟨w6.heap.size, 1, none⟩ = some (.int .i64 x1) := keep1 hb21 (by first | (with_reducible assumption) | (go_simp; done))
    have p21x14 : w21.cell? ⟨w6.heap.size, 2, none⟩ = some (.int .i64 x2) := keep1 hb21 (by first | (with_reducible assumption) | (go_simp; done))
    have p21x15 : w21.cell? ⟨w6.heap.size, 3, none⟩ = some (.int .i64 x3) := keep1 hb21 (by first | (with_reducible assumption) | (go_simp; done))
    have p21x16 : w21.cell? ⟨w6.heap.size, 4, none⟩ = some (.int .i64 x4) := keep1 hb21 (by first | (with_reducible assumption) | (go_simp; done))
    have p21x17 : w21.cell? ⟨w6.heap.size, 5, none⟩ = some (.int .i64 x5) := keep1 hb21 (by first | (with_reducible assumption) | (go_simp; done))
    have p21x18 : w21.cell? ⟨w6.heap.size, 6, none⟩ = some (.int .i64 x6) := keep1 hb21 (by first | (with_reducible assumption) | (go_simp; done))
    have p21x19 : w21.cell? ⟨w6.heap.size, 7, none⟩ = some (.int .i64 x7) := keep1 hb21 (by first | (with_reducible assumption) | (go_simp; done))
    have p21x20 : w21.cell? ⟨w6.heap.size, 8, none⟩ = some (.int .i64 x8) := keep1 hb21 (by first | (with_reducible assumption) | (go_simp; done))
    have p21xz0 : w.heap.size + 1 < w21.heap.size := block_lt p21x0
    have p21xz3 : w5.heap.size < w21.heap.size := block_lt p21x3
    have p21xz12 : w6.heap.size < w21.heap.size := block_lt p21x12
    have p21xs := p21xb.size
    go_wp2_with fail
    refine (KF.out _ (ht.below (by first | (with_reducible assumption) | (go_grown; done)))).mono ?_
    rintro e w22 ⟨rfl, hb22⟩
    have p22xb : Below w.heap.size w w22 := belowT (by first | (go_grown; done) | exact And.left (by assumption)) hb22
    have p22x0 : w22.cell? ⟨w.heap.size + 1, 0, none⟩ = some (.int .i64 p0) := keep1 hb22 (by first | (with_reducible assumption) | (go_simp; done))
    have p22x1 : w22.cell? ⟨w.heap.size + 1, 1, none⟩ = some (.int .i64 p1) := keep1 hb22 (by first | (with_reducible assumption) | (go_simp; done))
    have p22x2 : w22.cell? ⟨w.heap.size + 1, 2, none⟩ = some (.int .i64 p2) := keep1 hb22 (by first | (with_reducible assumption) | (go_simp; done))
    have p22x3 : w22.cell? ⟨w5.heap.size, 0, none⟩ = some (.int .i64 l0) := keep1 hb22 (by first | (with_reducible assumption) | (go_simp; done))
    have p22x4 : w22.cell? ⟨w5.heap.size, 1, none⟩ = some (.int .i64 l1) := keep1 hb22 (by first | (with_reducible assumption) | (go_simp; done))
    have p22x5 : w22.cell? ⟨w5.heap.size, 2, none⟩ = some (.int .i64 l2) := keep1 hb22 (by first | (with_reducible assumption) | (go_simp; done))
    have p22x6 : w22.cell? ⟨w5.heap.size, 3, none⟩ = some (.int .i64 l3) := keep1 hb22 (by first | (with_reducible assumption) | (go_simp; done))
    have p22x7 : w22.cell? ⟨w5.heap.size, 4, none⟩ = some (.int .i64 l4) := keep1 hb22 (by first | (with_reducible assumption) | (go_simp; done))
    have p22x8 : w22.cell? ⟨w5.heap.size, 5, none⟩ = some (.int .i64 l5) := keep1 hb22 (by first | (with_reducible assumption) | (go_simp; done))
    have p22x9 : w22.cell? ⟨w5.heap.size, 6, none⟩ = some (.int .i64 l6) := keep1 hb22 (by first | (with_reducible assumption) | (go_simp; done))
    have p22x10 : w22.cell? ⟨w5.heap.size, 7, none⟩ = some (.int .i64 l7) := keep1 hb22 (by first | (with_reducible assumption) | (go_simp; done))
    have p22x11 : w22.cell? ⟨w5.heap.size, 8, none⟩ = some (.int .i64 l8) := keep1 hb22 (by first | (with_reducible assumption) | (go_simp; done))
    have p22x12 : w22.cell? ⟨w6.heap.size, 0, none⟩ = some (.int .i64 x0) := keep1 hb22 (by first | (with_reducible assumption) | (go_simp; done))
    have p22x13 : w22.cell? ⟨w6.heap.size, 1, none⟩ = some (.int .i64 x1) := keep1 hb22 (by first | (with_reducible assumption) | (go_simp; done))
    have p22x14 : w22.cell? ⟨w6.heap.size, 2, none⟩ = some (.int .i64 x2) := keep1 hb22 (by first | (with_reducible assumption) | (go_simp; done))
    have p22x15 : w22.cell? ⟨w6.heap.size, 3, none⟩ = some (.int .i64 x3) := keep1 hb22 (by first | (with_reducible assumption) | (go_simp; done))
    have p22x16 : w22.cell? ⟨w6.heap.size, 4, none⟩ = some (.int .i64 x4) := keep1 hb22 (by first | (with_reducible assumption) | (go_simp; done))
    have p22x17 : w22.cell? ⟨w6.heap.size, 5, none⟩ = some (.int .i64 x5) := keep1 hb22 (by first | (with_reducible assumption) | (go_simp; done))
    have p22x18 : w22.cell? ⟨w6.heap.size, 6, none⟩ = some (.int .i64 x6) := keep1 hb22 (by first | (with_reducible assumption) | (go_simp; done))
    have p22x19 : w22.cell? ⟨w6.heap.size, 7, none⟩ = some (.int .i64 x7) := keep1 hb22 (by first | (with_reducible assumption) | (go_simp; done))
    have p22x20 : w22.cell? ⟨w6.heap.size, 8, none⟩ = some (.int .i64 x8) := keep1 hb22 (by first | (with_reducible assumption) | (go_simp; done))
    have p22xz0 : w.heap.size + 1 < w22.heap.size := block_lt p22x0
    have p22xz3 : w5.heap.size < w22.heap.size := block_lt p22x3
    have p22xz12 : w6.heap.size < w22.heap.size := block_lt p22x12
    have p22xs := p22xb.size
    go_wp2_with fail
    refine (KN.out _).mono ?_
    rintro e w23 ⟨rfl, hb23⟩
    have p23xb : Below w.heap.size w w23 := belowT (by first | (go_grown; done) | exact And.left (by assumption)) hb23
    have p23x0 : w23.cell? ⟨w.heap.size + 1, 0, none⟩ = some (.int .i64 p0) := keep1 hb23 (by first | (with_reducible assumption) | (go_simp; done))
    have p23x1 : w23.cell? ⟨w.heap.size + 1, 1, none⟩ = some (.int .i64 p1) := keep1 hb23 (by first | (with_reducible assumption) | (go_simp; done))
    have p23x2 : w23.cell? ⟨w.heap.size + 1, 2, none⟩ = some (.int .i64 p2) := keep1 hb23 (by first | (with_reducible assumption) | (go_simp; done))
    have p23x3 : w23.cell? ⟨w5.heap.size, 0, none⟩ = some (.int .i64 l0) := keep1 hb23 (by first | (with_reducible assumption) | (go_simp; done))
    have p23x4 : w23.cell? ⟨w5.heap.size, 1, none⟩ = some (.int .i64 l1) := keep1 hb23 (by first | (with_reducible assumption) | (go_simp; done))
    have p23x5 : w23.cell? ⟨w5.heap.size, 2, none⟩ = some (.int .i64 l2) := keep1 hb23 (by first | (with_reducible assumption) | (go_simp; done))
    have p23x6 : w23.cell? ⟨w5.heap.size, 3, none⟩ = some (.int .i64 l3) := keep1 hb23 (by first | (with_reducible assumption) | (go_simp; done))
    have p23x7 : w23.cell? ⟨w5.heap.size, 4, none⟩ = some (.int .i64 l4) := keep1 hb23 (by first | (with_reducible assumption) | (go_simp; done))
    have p23x8 : w23.cell? ⟨w5.heap.size, 5, none⟩ = some (.int .i64 l5) := keep1 hb23 (by first | (with_reducible assumption) | (go_simp; done))
    have p23x9 : w23.cell? ⟨w5.heap.size, 6, none⟩ = some (.int .i64 l6) := keep1 hb23 (by first | (with_reducible assumption) | (go_simp; done))
    have p23x10 : w23.cell? ⟨w5.heap.size, 7, none⟩ = some (.int .i64 l7) := keep1 hb23 (by first | (with_reducible assumption) | (go_simp; done))
    have p23x11 : w23.cell? ⟨w5.heap.size, 8, none⟩ = some (.int .i64 l8) := keep1 hb23 (by first | (with_reducible assumption) | (go_simp; done))
    have p23x12 : w23.cell? ⟨w6.heap.size, 0, none⟩ = some (.int .i64 x0) := keep1 hb23 (by first | (with_reducible assumption) | (go_simp; done))
    have p23x13 : w23.cell? ⟨w6.heap.size, 1, none⟩ = some (.int .i64 x1) := keep1 hb23 (by first | (with_reducible assumption) | (go_simp; done))
    have p23x14 : w23.cell? ⟨w6.heap.size, 2, none⟩ = some (.int .i64 x2) := keep1 hb23 (by first | (with_reducible assumption) | (go_simp; done))
    have p23x15 : w23.cell? ⟨w6.heap.size, 3, none⟩ = some (.int .i64 x3) := keep1 hb23 (by first | (with_reducible assumption) | (go_simp; done))
    have p23x16 : w23.cell? ⟨w6.heap.size, 4, none⟩ = some (.int .i64 x4) := keep1 hb23 (by first | (with_reducible assumption) | (go_simp; done))
    have p23x17 : w23.cell? ⟨w6.heap.size, 5, none⟩ = some (.int .i64 x5) := keep1 hb23 (by first | (with_reducible assumption) | (go_simp; done))
    have p23x18 : w23.cell? ⟨w6.heap.size, 6, none⟩ = some (.int .i64 x6) := keep1 hb23 (by first | (with_reducible assumption) | (go_simp; done))
    have p23x19 : w23.cell? ⟨w6.heap.size, 7, none⟩ = some (.int .i64 x7) := keep1 hb23 (by first | (with_reducible assumption) | (go_simp; done))
    have p23x20 : w23.cell? ⟨w6.heap.size, 8, none⟩ = some (.int .i64 x8) := keep1 hb23 (by first | (with_reducible assumption) | (go_simp; done))
    have p23x21 : w23.cell? ⟨w22.heap.size, 0, none⟩ = some (.int .i64 ua) := keep1 hb23 (by first | (with_reducible assumption) | (go_simp; done))
    have p23x22 : w23.cell? ⟨w22.heap.size, 1, none⟩ = some (.int .i64 va) := keep1 hb23 (by first | (with_reducible assumption) | (go_simp; done))
    have p23xz0 : w.heap.size + 1 < w23.heap.size := block_lt p23x0
    have p23xz3 : w5.heap.size < w23.heap.size := block_lt p23x3
    have p23xz12 : w6.heap.size < w23.heap.size := block_lt p23x12
    have p23xz21 : w22.heap.size < w23.heap.size := block_lt p23x21
    have p23xs := p23xb.size
    go_wp2_with fail
    refine (KG.out _).mono ?_
    rintro e w24 ⟨rfl, hb24⟩
    have p24xb : Below w.heap.size w w24 := belowT (by first | (go_grown; done) | exact And.left (by assumption)) hb24
    have p24x0 : w24.cell? ⟨w.heap.size + 1, 0, none⟩ = some (.int .i64 p0) := keep1 hb24 (by first | (with_reducible assumption) | (go_simp; done))
    have p24x1 : w24.cell? ⟨w.heap.size + 1, 1, none⟩ = some (.int .i64 p1) := keep1 hb24 (by first | (with_reducible assumption) | (go_simp; done))
    have p24x2 : w24.cell? ⟨w.heap.size + 1, 2, none⟩ = some (.int .i64 p2) := keep1 hb24 (by first | (with_reducible assumption) | (go_simp; done))
    have p24x3 : w24.cell? ⟨w5.heap.size, 0, none⟩ = some (.int .i64 l0) := keep1 hb24 (by first | (with_reducible assumption) | (go_simp; done))
    have p24x4 : w24.cell? ⟨w5.heap.size, 1, none⟩ = some (.int .i64 l1) := keep1 hb24 (by first | (with_reducible assumption) | (go_simp; done))
    have p24x5 : w24.cell? ⟨w5.heap.size, 2, none⟩ = some (.int .i64 l2) := keep1 hb24 (by first | (with_reducible assumption) | (go_simp; done))
    have p24x6 : w24.cell? ⟨w5.heap.size, 3, none⟩ = some (.int .i64 l3) := keep1 hb24 (by first | (with_reducible assumption) | (go_simp; done))
    have p24x7 : w24.cell? ⟨w5.heap.size, 4, none⟩ = some (.int .i64 l4) := keep1 hb24 (by first | (with_reducible assumption) | (go_simp; done))
    have p24x8 : w24.cell? ⟨w5.heap.size, 5, none⟩ = some (.int .i64 l5) := keep1 hb24 (by first | (with_reducible assumption) | (go_simp; done))
    have p24x9 : w24.cell? ⟨w5.heap.size, 6, none⟩ = some (.int .i64 l6) := keep1 hb24 (by first | (with_reducible assumption) | (go_simp; done))
    have p24x10 : w24.cell? ⟨w5.heap.size, 7, none⟩ = some (.int .i64 l7) := keep1 hb24 (by first | (with_reducible assumption) | (go_simp; done))
    have p24x11 : w24.cell? ⟨w5.heap.size, 8, none⟩ = some (.int .i64 l8) := keep1 hb24 (by first | (with_reducible assumption) | (go_simp; done))
    have p24x12 : w24.cell? ⟨w6.heap.size, 0, none⟩ = some (.int .i64 x0) := keep1 hb24 (by first | (with_reducible assumption) | (go_simp; done))
    have p24x13 : w24.cell? ⟨w6.heap.size, 1, none⟩ = some (.int .i64 x1) := keep1 hb24 (by first | (with_reducible assumption) | (go_simp; done))
    have p24x14 : w24.cell? ⟨w6.heap.size, 2, none⟩ = some (.int .i64 x2) := keep1 hb24 (by first | (with_reducible assumption) | (go_simp; done))
    have p24x15 : w24.cell? ⟨w6.heap.size, 3, none⟩ = some (.int .i64 x3) := keep1 hb24 (by first | (with_reducible assumption) | (go_simp; done))
    have p24x16 : w24.cell? ⟨w6.heap.size, 4, none⟩ = some (.int .i64 x4) := keep1 hb24 (by first | (with_reducible assumption) | (go_simp; done))
    have p24x17 : w24.cell? ⟨w6.heap.size, 5, none⟩ = some (.int .i64 x5) := keep1 hb24 (by first | (with_reducible assumption) | (go_simp; done))
    have p24x18 : w24.cell? ⟨w6.heap.size, 6, none⟩ = some (.int .i64 x6) := keep1 hb24 (by first | (with_reducible assumption) | (go_simp; done))
    have p24x19 : w24.cell? ⟨w6.heap.size, 7, none⟩ = some (.int .i64 x7) := keep1 hb24 (by first | (with_reducible assumption) | (go_simp; done))
    have p24x20 : w24.cell? ⟨w6.heap.size, 8, none⟩ = some (.int .i64 x8) := keep1 hb24 (by first | (with_reducible assumption) | (go_simp; done))
    have p24x21 : w24.cell? ⟨w22.heap.size, 0, none⟩ = some (.int .i64 ua) := keep1 hb24 (by first | (with_reducible assumption) | (go_simp; done))
    have p24x22 : w24.cell? ⟨w22.heap.size, 1, none⟩ = some (.int .i64 va) := keep1 hb24 (by first | (with_reducible assumption) | (go_simp; done))
    have p24xz0 : w.heap.size + 1 < w24.heap.size := block_lt p24x0
    have p24xz3 : w5.heap.size < w24.heap.size := block_lt p24x3
    have p24xz12 : w6.heap.size < w24.heap.size := block_lt p24x12
    have p24xz21 : w22.heap.size < w24.heap.size := block_lt p24x21
    have p24xs := p24xb.size
    go_wp2_with fail
    refine (KH.out _).mono ?_
    rintro e w25 ⟨rfl, hb25⟩
    have p25xb : Below w.heap.size w w25 := belowT (by first | (go_grown; done) | exact And.left (by assumption)) hb25
    have p25x0 : w25.cell? ⟨w.heap.size + 1, 0, none⟩ = some (.int .i64 p0) := keep1 hb25 (by first | (with_reducible assumption) | (go_simp; done))
    have p25x1 : w25.cell? ⟨w.heap.size + 1, 1, none⟩ = some (.int .i64 p1) := keep1 hb25 (by first | (with_reducible assumption) | (go_simp; done))
    have p25x2 : w25.cell? ⟨w.heap.size + 1, 2, none⟩ = some (.int .i64 p2) := keep1 hb25 (by first | (with_reducible assumption) | (go_simp; done))
    have p25x3 : w25.cell? ⟨w5.heap.size, 0, none⟩ = some (.int .i64 l0) := keep1 hb25 (by first | (with_reducible assumption) | (go_simp; done))
    have p25x4 : w25.cell? ⟨w5.heap.size, 1, none⟩ = some (.int .i64 l1) := keep1 hb25 (by first | (with_reducible assumption) | (go_simp; done))
    have p25x5 : w25.cell? ⟨w5.heap.size, 2, none⟩ = some (.int .i64 l2) := keep1 hb25 (by first | (with_reducible assumption) | (go_simp; done))
    have p25x6 : w25.cell? ⟨w5.heap.size, 3, none⟩ = some (.int .i64 l3) := keep1 hb25 (by first | (with_reducible assumption) | (go_simp; done))
    have p25x7 : w25.cell? ⟨w5.heap.size, 4, none⟩ = some (.int .i64 l4) := keep1 hb25 (by first | (with_reducible assumption) | (go_simp; done))
    have p25x8 : w25.cell? ⟨w5.heap.size, 5, none⟩ = some (.int .i64 l5) := keep1 hb25 (by first | (with_reducible assumption) | (go_simp; done))
    have p25x9 : w25.cell? ⟨w5.heap.size, 6, none⟩ = some (.int .i64 l6) := keep1 hb25 (by first | (with_reducible assumption) | (go_simp; done))
    have p25x10 : w25.cell? ⟨w5.heap.size, 7, none⟩ = some (.int .i64 l7) := keep1 hb25 (by first | (with_reducible assumption) | (go_simp; done))
    have p25x11 : w25.cell? ⟨w5.heap.size, 8, none⟩ = some (.int .i64 l8) := keep1 hb25 (by first | (with_reducible assumption) | (go_simp; done))
    have p25x12 : w25.cell? ⟨w6.heap.size, 0, none⟩ = some (.int .i64 x0) := keep1 hb25 (by first | (with_reducible assumption) | (go_simp; done))
    have p25x13 : w25.cell? ⟨w6.heap.size, 1, none⟩ = some (.int .i64 x1) := keep1 hb25 (by first | (with_reducible assumption) | (go_simp; done))
    have p25x14 : w25.cell? ⟨w6.heap.size, 2, none⟩ = some (.int .i64 x2) := keep1 hb25 (by first | (with_reducible assumption) | (go_simp; done))
    have p25x15 : w25.cell? ⟨w6.heap.size, 3, none⟩ = some (.int .i64 x3) := keep1 hb25 (by first | (with_reducible assumption) | (go_simp; done))
    have p25x16 : w25.cell? ⟨w6.heap.size, 4, none⟩ = some (.int .i64 x4) := keep1 hb25 (by first | (with_reducible assumption) | (go_simp; done))
    have p25x17 : w25.cell? ⟨w6.heap.size, 5, none⟩ = some (.int .i64 x5) := keep1 hb25 (by first | (with_reducible assumption) | (go_simp; done))
    have p25x18 : w25.cell? ⟨w6.heap.size, 6, none⟩ = some (.int .i64 x6) := keep1 hb25 (by first | (with_reducible assumption) | (go_simp; done))
    have p25x19 : w25.cell? ⟨w6.heap.size, 7, none⟩ = some (.int .i64 x7) := keep1 hb25 (by first | (with_reducible assumption) | (go_simp; done))
    have p25x20 : w25.cell? ⟨w6.heap.size, 8, none⟩ = some (.int .i64 x8) := keep1 hb25 (by first | (with_reducible assumption) | (go_simp; done))
    have p25x21 : w25.cell? ⟨w22.heap.size, 0, none⟩ = some (.int .i64 ua) := keep1 hb25 (by first | (with_reducible assumption) | (go_simp; done))
    have p25x22 : w25.cell? ⟨w22.heap.size, 1, none⟩ = some (.int .i64 va) := keep1 hb25 (by first | (with_reducible assumption) | (go_simp; done))
    have p25xz0 : w.heap.size + 1 < w25.heap.size := block_lt p25x0
    have p25xz3 : w5.heap.size < w25.heap.size := block_lt p25x3
    have p25xz12 : w6.heap.size < w25.heap.size := block_lt p25x12
    have p25xz21 : w22.heap.size < w25.heap.size := block_lt p25x21
    have p25xs := p25xb.size
    go_wp2_with fail
    refine (KO.out _ (rangeB (w := w) (by first | (with_reducible assumption) | (go_grown; done)) hr)).mono ?_
    rintro e w26 ⟨rfl, hb26⟩
    have p26xb : Below w.heap.size w w26 := belowT (by first | (go_grown; done) | exact And.left (by assumption)) hb26
    have p26x0 : w26.cell? ⟨w.heap.size + 1, 0, none⟩ = some (.int .i64 p0) := keep1 hb26 (by first | (with_reducible assumption) | (go_simp; done))
    have p26x1 : w26.cell? ⟨w.heap.size + 1, 1, none⟩ = some (.int .i64 p1) := keep1 hb26 (by first | (with_reducible assumption) | (go_simp; done))
    have p26x2 : w26.cell? ⟨w.heap.size + 1, 2, none⟩ = some (.int .i64 p2) := keep1 hb26 (by first | (with_reducible assumption) | (go_simp; done))
    have p26x3 : w26.cell? ⟨w5.heap.size, 0, none⟩ = some (.int .i64 l0) := keep1 hb26 (by first | (with_reducible assumption) | (go_simp; done))
    have p26x4 : w26.cell? ⟨w5.heap.size, 1, none⟩ = some (.int .i64 l1) := keep1 hb26 (by first | (with_reducible assumption) | (go_simp; done))
    have p26x5 : w26.cell? ⟨w5.heap.size, 2, none⟩ = some (.int .i64 l2) := keep1 hb26 (by first | (with_reducible assumption) | (go_simp; done))
    have p26x6 : w26.cell? ⟨w5.heap.size, 3, none⟩ = some (.int .i64 l3) := keep1 hb26 (by first | (with_reducible assumption) | (go_simp; done))
    have p26x7 : w26.cell? ⟨w5.heap.size, 4, none⟩ = some (.int .i64 l4) := keep1 hb26 (by first | (with_reducible assumption) | (go_simp; done))
    have p26x8 : w26.cell? ⟨w5.heap.size, 5, none⟩ = some (.int .i64 l5) := keep1 hb26 (by first | (with_reducible assumption) | (go_simp; done))
    have p26x9 : w26.cell? ⟨w5.heap.size, 6, none⟩ = some (.int .i64 l6) := keep1 hb26 (by first | (with_reducible assumption) | (go_simp; done))
    have p26x10 : w26.cell? ⟨w5.heap.size, 7, none⟩ = some (.int .i64 l7) := keep1 hb26 (by first | (with_reducible assumption) | (go_simp; done))
    have p26x11 : w26.cell? ⟨w5.heap.size, 8, none⟩ = some (.int .i64 l8) := keep1 hb26 (by first | (with_reducible assumption) | (go_simp; done))
    have p26x12 : w26.cell? ⟨w6.heap.size, 0, none⟩ = some (.int .i64 x0) := keep1 hb26 (by first | (with_reducible assumption) | (go_simp; done))
    have p26x13 : w26.cell? ⟨w6.heap.size, 1, none⟩ = some (.int .i64 x1) := keep1 hb26 (by first | (with_reducible assumption) | (go_simp; done))
    have p26x14 : w26.cell? ⟨w6.heap.size, 2, none⟩ = some (.int .i64 x2) := keep1 hb26 (by first | (with_reducible assumption) | (go_simp; done))
    have p26x15 : w26.cell? ⟨w6.heap.size, 3, none⟩ = some (.int .i64 x3) := keep1 hb26 (by first | (with_reducible assumption) | (go_simp; done))
    have p26x16 : w26.cell? ⟨w6.heap.size, 4, none⟩ = some (.int .i64 x4) := keep1 hb26 (by first | (with_reducible assumption) | (go_simp; done))
    have p26x17 : w26.cell? ⟨w6.heap.size, 5, none⟩ = some (.int .i64 x5) := keep1 hb26 (by first | (with_reducible assumption) | (go_simp; done))
    have p26x18 : w26.cell? ⟨w6.heap.size, 6, none⟩ = some (.int .i64 x6) := keep1 hb26 (by first | (with_reducible assumption) | (go_simp; done))
    have p26x19 : w26.cell? ⟨w6.heap.size, 7, none⟩ = some (.int .i64 x7) := keep1 hb26 (by first | (with_reducible assumption) | (go_simp; done))
    have p26x20 : w26.cell? ⟨w6.heap.size, 8, none⟩ = some (.int .i64 x8) := keep1 hb26 (by first | (with_reducible assumption) | (go_simp; done))
    have p26x21 : w26.cell? ⟨w22.heap.size, 0, none⟩ = some (.int .i64 ua) := keep1 hb26 (by first | (with_reducible assumption) | (go_simp; done))
    have p26x22 : w26.cell? ⟨w22.heap.size, 1, none⟩ = some (.int .i64 va) := keep1 hb26 (by first | (with_reducible assumption) | (go_simp; done))
    have p26xz0 : w.heap.size + 1 < w26.heap.size := block_lt p26x0
    have p26xz3 : w5.heap.size < w26.heap.size := block_lt p26x3
    have p26xz12 : w6.heap.size < w26.heap.size := block_lt p26x12
    have p26xz21 : w22.heap.size < w26.heap.size := block_lt p26x21
    have p26xs := p26xb.size
    go_wp2_with fail
    refine (KY.out _ (ht.below (by first | (with_reducible assumption) | (go_grown; done)))).mono ?_
    rintro e w27 ⟨rfl, hb27⟩
    have p27xb : Below w.heap.size w w27 := belowT (by first | (go_grown; done) | exact And.left (by assumption)) hb27
    have p27x0 : w27.cell? ⟨w.heap.size + 1, 0, none⟩ = some (.int .i64 p0) := keep1 hb27 (by first | (with_reducible assumption) | (go_simp; done))
    have p27x1 : w27.cell? ⟨w.heap.size + 1, 1, none⟩ = some (.int .i64 p1) := keep1 hb27 (by first | (with_reducible assumption) | (go_simp; done))
    have p27x2 : w27.cell? ⟨w.heap.size + 1, 2, none⟩ = some (.int .i64 p2) := keep1 hb27 (by first | (with_reducible assumption) | (go_simp; done))
    have p27x3 : w27.cell? ⟨w5.heap.size, 0, none⟩ = some (.int .i64 l0) := keep1 hb27 (by first | (with_reducible assumption) | (go_simp; done))
    have p27x4 : w27.cell? ⟨w5.heap.size, 1, none⟩ = some (.int .i64 l1) := keep1 hb27 (by first | (with_reducible assumption) | (go_simp; done))
    have p27x5 : w27.cell? ⟨w5.heap.size, 2, none⟩ = some (.int .i64 l2) := keep1 hb27 (by first | (with_reducible assumption) | (go_simp; done))
    have p27x6 : w27.cell? ⟨w5.heap.size, 3, none⟩ = some (.int .i64 l3) := keep1 hb27 (by first | (with_reducible assumption) | (go_simp; done))
    have p27x7 : w27.cell? ⟨w5.heap.size, 4, none⟩ = some (.int .i64 l4) := keep1 hb27 (by first | (with_reducible assumption) | (go_simp; done))
    have p27x8 : w27.cell? ⟨w5.heap.size, 5, none⟩ = some (.int .i64 l5) := keep1 hb27 (by first | (with_reducible assumption) | (go_simp; done))
    have p27x9 : w27.cell? ⟨w5.heap.size, 6, none⟩ = some (.int .i64 l6) := keep1 hb27 (by first | (with_reducible assumption) | (go_simp; done))
    have p27x10 : w27.cell? ⟨w5.heap.size, 7, none⟩ = some (.int .i64 l7) := keep1 hb27 (by first | (with_reducible assumption) | (go_simp; done))
    have p27x11 : w27.cell? ⟨w5.heap.size, 8, none⟩ = some (.int .i64 l8) := keep1 hb27 (by first | (with_reducible assumption) | (go_simp; done))
    have p27x12 : w27.cell? ⟨w6.heap.size, 0, none⟩ = some (.int .i64 x0) := keep1 hb27 (by first | (with_reducible assumption) | (go_simp; done))
    have p27x13 : w27.cell? ⟨w6.heap.size, 1, none⟩ = some (.int .i64 x1) := keep1 hb27 (by first | (with_reducible assumption) | (go_simp; done))
    have p27x14 : w27.cell? ⟨w6.heap.size, 2, none⟩ = some (.int .i64 x2) := keep1 hb27 (by first | (with_reducible assumption) | (go_simp; done))
    have p27x15 : w27.cell? ⟨w6.heap.size, 3, none⟩ = some (.int .i64 x3) := keep1 hb27 (by first | (with_reducible assumption) | (go_simp; done))
    have p27x16 : w27.cell? ⟨w6.heap.size, 4, none⟩ = some (.int .i64 x4) := keep1 hb27 (by first | (with_reducible assumption) | (go_simp; done))
    have p27x17 : w27.cell? ⟨w6.heap.size, 5, none⟩ = some (.int .i64 x5) := keep1 hb27 (by first | (with_reducible assumption) | (go_simp; done))
    have p27x18 : w27.cell? ⟨w6.heap.size, 6, none⟩ = some (.int .i64 x6) := keep1 hb27 (by first | (with_reducible assumption) | (go_simp; done))
    have p27x19 : w27.cell? ⟨w6.heap.size, 7, none⟩ = some (.int .i64 x7) := keep1 hb27 (by first | (with_reducible assumption) | (go_simp; done))
    have p27x20 : w27.cell? ⟨w6.heap.size, 8, none⟩ = some (.int .i64 x8) := keep1 hb27 (by first | (with_reducible assumption) | (go_simp; done))
    have p27x21 : w27.cell? ⟨w22.heap.size, 0, none⟩ = some (.int .i64 ua) := keep1 hb27 (by first | (with_reducible assumption) | (go_simp; done))
    have p27x22 : w27.cell? ⟨w22.heap.size, 1, none⟩ = some (.int .i64 va) := keep1 hb27 (by first | (with_reducible assumption) | (go_simp; done))
    have p27x23 : w27.cell? ⟨w26.heap.size, 0, none⟩ = some (.int .i64 z0) := keep1 hb27 (by first | (with_reducible assumption) | (go_simp; done))
    have p27x24 : w27.cell? ⟨w26.heap.size, 1, none⟩ = some (.int .i64 z1) := keep1 hb27 (by first | (with_reducible assumption) | (go_simp; done))
    have p27x25 : w27.cell? ⟨w26.heap.size, 2, none⟩ = some (.int .i64 z2) := keep1 hb27 (by first | (with_reducible assumption) | (go_simp; done))
    have p27x26 : w27.cell? ⟨w26.heap.size, 3, none⟩ = some (.int .i64 z3) := keep1 hb27 (by first | (with_reducible assumption) | (go_simp; done))
    have p27x27 : w27.cell? ⟨w26.heap.size, 4, none⟩ = some (.int .i64 z4) := keep1 hb27 (by first | (with_reducible assumption) | (go_simp; done))
    have p27x28 : w27.cell? ⟨w26.heap.size, 5, none⟩ = some (.int .i64 z5) := keep1 hb27 (by first | (with_reducible assumption) | (go_simp; done))
    have p27x29 : w27.cell? ⟨w26.heap.size, 6, none⟩ = some (.int .i64 z6) := keep1 hb27 (by first | (with_reducible assumption) | (go_simp; done))
    have p27x30 : w27.cell? ⟨w26.heap.size, 7, none⟩ = some (.int .i64 z7) := keep1 hb27 (by first | (with_reducible assumption) | (go_simp; done))
    have p27x31 : w27.cell? ⟨w26.heap.size, 8, none⟩ = some (.int .i64 z8) := keep1 hb27 (by first | (with_reducible assumption) | (go_simp; done))
    have p27xz0 : w.heap.size + 1 < w27.heap.size := block_lt p27x0
    have p27xz3 : w5.heap.size < w27.heap.size := block_lt p27x3
    have p27xz12 : w6.heap.size < w27.heap.size := block_lt p27x12
    have p27xz21 : w22.heap.size < w27.heap.size := block_lt p27x21
    have p27xz23 : w26.heap.size < w27.heap.size := block_lt p27x23
    have p27xs := p27xb.size
    go_wp2_with fail
    refine (KT.out _ (ht.below (by first | (with_reducible assumption) | (go_grown; done)))).mono ?_
    rintro e w28 ⟨rfl, hb28⟩
    have p28xb : Below w.heap.size w w28 := belowT (by first | (go_grown; done) | exact And.left (by assumption)) hb28
    have p28x0 : w28.cell? ⟨w.heap.size + 1, 0, none⟩ = some (.int .i64 p0) := keep1 hb28 (by first | (with_reducible assumption) | (go_simp; done))
    have p28x1 : w28.cell? ⟨w.heap.size + 1, 1, none⟩ = some (.int .i64 p1) := keep1 hb28 (by first | (with_reducible assumption) | (go_simp; done))
    have p28x2 : w28.cell? ⟨w.heap.size + 1, 2, none⟩ = some (.int .i64 p2) := keep1 hb28 (by first | (with_reducible assumption) | (go_simp; done))
    have p28x3 : w28.cell? ⟨w5.heap.size, 0, none⟩ = some (.int .i64 l0) := keep1 hb28 (by first | (with_reducible assumption) | (go_simp; done))
    have p28x4 : w28.cell? ⟨w5.heap.size, 1, none⟩ = some (.int .i64 l1) := keep1 hb28 (by first | (with_reducible assumption) | (go_simp; done))
    have p28x5 : w28.cell? ⟨w5.heap.size, 2, none⟩ = some (.int .i64 l2) := keep1 hb28 (by first | (with_reducible assumption) | (go_simp; done))
    have p28x6 : w28.cell? ⟨w5.heap.size, 3, none⟩ = some (.int .i64 l3) := keep1 hb28 (by first | (with_reducible assumption) | (go_simp; done))
    have p28x7 : w28.cell? ⟨w5.heap.size, 4, none⟩ = some (.int .i64 l4) := keep1 hb28 (by first | (with_reducible assumption) | (go_simp; done))
    have p28x8 : w28.cell? ⟨w5.heap.size, 5, none⟩ = some (.int .i64 l5) := keep1 hb28 (by first | (with_reducible assumption) | (go_simp; done))
    have p28x9 : w28.cell? ⟨w5.heap.size, 6, none⟩ = some (.int .i64 l6) := keep1 hb28 (by first | (with_reducible assumption) | (go_simp; done))
    have p28x10 : w28.cell? ⟨w5.heap.size, 7, none⟩ = some (.int .i64 l7) := keep1 hb28 (by first | (with_reducible assumption) | (go_simp; done))
    have p28x11 : w28.cell? ⟨w5.heap.size, 8, none⟩ = some (.int .i64 l8) := keep1 hb28 (by first | (with_reducible assumption) | (go_simp; done))
    have p28x12 : w28.cell? ⟨w6.heap.size, 0, none⟩ = some (.int .i64 x0) := keep1 hb28 (by first | (with_reducible assumption) | (go_simp; done))
    have p28x13 : w28.cell? ⟨w6.heap.size, 1, none⟩ = some (.int .i64 x1) := keep1 hb28 (by first | (with_reducible assumption) | (go_simp; done))
    have p28x14 : w28.cell? ⟨w6.heap.size, 2, none⟩ = some (.int .i64 x2) := keep1 hb28 (by first | (with_reducible assumption) | (go_simp; done))
    have p28x15 : w28.cell? ⟨w6.heap.size, 3, none⟩ = some (.int .i64 x3) := keep1 hb28 (by first | (with_reducible assumption) | (go_simp; done))
    have p28x16 : w28.cell? ⟨w6.heap.size, 4, none⟩ = some (.int .i64 x4) := keep1 hb28 (by first | (with_reducible assumption) | (go_simp; done))
    have p28x17 : w28.cell? ⟨w6.heap.size, 5, none⟩ = some (.int .i64 x5) := keep1 hb28 (by first | (with_reducible assumption) | (go_simp; done))
    have p28x18 : w28.cell? ⟨w6.heap.size, 6, none⟩ = some (.int .i64 x6) := keep1 hb28 (by first | (with_reducible assumption) | (go_simp; done))
    have p28x19 : w28.cell? ⟨w6.heap.size, 7, none⟩ = some (.int .i64 x7) := keep1 hb28 (by first | (with_reducible assumption) | (go_simp; done))
    have p28x20 : w28.cell? ⟨w6.heap.size, 8, none⟩ = some (.int .i64 x8) := keep1 hb28 (by first | (with_reducible assumption) | (go_simp; done))
    have p28x21 : w28.cell? ⟨w22.heap.size, 0, none⟩ = some (.int .i64 ua) := keep1 hb28 (by first | (with_reducible assumption) | (go_simp; done))
    have p28x22 : w28.cell? ⟨w22.heap.size, 1, none⟩ = some (.int .i64 va) := keep1 hb28 (by first | (with_reducible assumption) | (go_simp; done))
    have p28x23 : w28.cell? ⟨w26.heap.size, 0, none⟩ = some (.int .i64 z0) := keep1 hb28 (by first | (with_reducible assumption) | (go_simp; done))
    have p28x24 : w28.cell? ⟨w26.heap.size, 1, none⟩ = some (.int .i64 z1) := keep1 hb28 (by first | (with_reducible assumption) | (go_simp; done))
    have p28x25 : w28.cell? ⟨w26.heap.size, 2, none⟩ = some (.int .i64 z2) := keep1 hb28 (by first | (with_reducible assumption) | (go_simp; done))
    have p28x26 : w28.cell? ⟨w26.heap.size, 3, none⟩ = some (.int .i64 z3) := keep1 hb28 (by first | (with_reducible assumption) | (go_simp; done))
    have p28x27 : w28.cell? ⟨w26.heap.size, 4, none⟩ = some (.int .i64 z4) := keep1 hb28 (by first | (with_reducible assumption) | (go_simp; done))
    have p28x28 : w28.cell? ⟨w26.heap.size, 5, none⟩ = some (.int .i64 z5) := keep1 hb28 (by first | (with_reducible assumption) | (go_simp; done))
    have p28x29 : w28.cell? ⟨w26.heap.size, 6, none⟩ = some (.int .i64 z6) := keep1 hb28 (by first | (with_reducible assumption) | (go_simp; done))
    have p28x30 : w28.cell? ⟨w26.heap.size, 7, none⟩ = some (.int .i64 z7) := keep1 hb28 (by first | (with_reducible assumption) | (go_simp; done))
    have p28x31 : w28.cell? ⟨w26.heap.size, 8, none⟩ = some (.int .i64 z8) := keep1 hb28 (by first | (with_reducible assumption) | (go_simp; done))
    have p28x32 : w28.cell? ⟨w27.heap.size, 0, none⟩ = some (.int .i64 ya) := keep1 hb28 (by first | (with_reducible assumption) | (go_simp; done))
    have p28x33 : w28.cell? ⟨w27.heap.size, 1, none⟩ = some (.int .i64 yb) := keep1 hb28 (by first | (with_reducible assumption) | (go_simp; done))
    have p28xz0 : w.heap.size + 1 < w28.heap.size := block_lt p28x0
    have p28xz3 : w5.heap.size < w28.heap.size := block_lt p28x3
    have p28xz12 : w6.heap.size < w28.heap.size := block_lt p28x12
    have p28xz21 : w22.heap.size < w28.heap.size := block_lt p28x21
    have p28xz23 : w26.heap.size < w28.heap.size := block_lt p28x23
    have p28xz32 : w27.heap.size < w28.heap.size := block_lt p28x32
    have p28xs := p28xb.size
    go_wp2_with fail
    refine (KU.out _ (ht.below (by first | (with_reducible assumption) | (go_grown; done)))).mono ?_
    rintro e w29 ⟨rfl, hb29⟩
    have p29xb : Below w.heap.size w w29 := belowT (by first | (go_grown; done) | exact And.left (by assumption)) hb29
    have p29x0 : w29.cell? ⟨w.heap.size + 1, 0, none⟩ = some (.int .i64 p0) := keep1 hb29 (by first | (with_reducible assumption) | (go_simp; done))
    have p29x1 : w29.cell? ⟨w.heap.size + 1, 1, none⟩ = some (.int .i64 p1) := keep1 hb29 (by first | (with_reducible assumption) | (go_simp; done))
    have p29x2 : w29.cell? ⟨w.heap.size + 1, 2, none⟩ = some (.int .i64 p2) := keep1 hb29 (by first | (with_reducible assumption) | (go_simp; done))
    have p29x3 : w29.cell? ⟨w5.heap.size, 0, none⟩ = some (.int .i64 l0) := keep1 hb29 (by first | (with_reducible assumption) | (go_simp; done))
    have p29x4 : w29.cell? ⟨w5.heap.size, 1, none⟩ = some (.int .i64 l1) := keep1 hb29 (by first | (with_reducible assumption) | (go_simp; done))
    have p29x5 : w29.cell? ⟨w5.heap.size, 2, none⟩ = some (.int .i64 l2) := keep1 hb29 (by first | (with_reducible assumption) | (go_simp; done))
    have p29x6 : w29.cell? ⟨w5.heap.size, 3, none⟩ = some (.int .i64 l3) := keep1 hb29 (by first | (with_reducible assumption) | (go_simp; done))
    have p29x7 : w29.cell? ⟨w5.heap.size, 4, none⟩ = some (.int .i64 l4) := keep1 hb29 (by first | (with_reducible assumption) | (go_simp; done))
    have p29x8 : w29.cell? ⟨w5.heap.size, 5, none⟩ = some (.int .i64 l5) := keep1 hb29 (by first | (with_reducible assumption) | (go_simp; done))
    have p29x9 : w29.cell? ⟨w5.heap.size, 6, none⟩ = some (.int .i64 l6) := keep1 hb29 (by first | (with_reducible assumption) | (go_simp; done))
    have p29x10 : w29.cell? ⟨w5.heap.size, 7, none⟩ = some (.int .i64 l7) := keep1 hb29 (by first | (with_reducible assumption) | (go_simp; done))
    have p29x11 : w29.cell? ⟨w5.heap.size, 8, none⟩ = some (.int .i64 l8) := keep1 hb29 (by first | (with_reducible assumption) | (go_simp; done))
    have p29x12 : w29.cell? ⟨w6.heap.size, 0, none⟩ = some (.int .i64 x0) := keep1 hb29 (by first | (with_reducible assumption) | (go_simp; done))
    have p29x13 : w29.cell? ⟨w6.heap.size, 1, none⟩ = some (.int .i64 x1) := keep1 hb29 (by first | (with_reducible assumption) | (go_simp; done))
    have p29x14 : w29.cell? ⟨w6.heap.size, 2, none⟩ = some (.int .i64 x2) := keep1 hb29 (by first | (with_reducible assumption) | (go_simp; done))
    have p29x15 : w29.cell? ⟨w6.heap.size, 3, none⟩ = some (.int .i64 x3) := keep1 hb29 (by first | (with_reducible assumption) | (go_simp; done))
    have p29x16 : w29.cell? ⟨w6.heap.size, 4, none⟩ = some (.int .i64 x4) := keep1 hb29 (by first | (with_reducible assumption) | (go_simp; done))
    have p29x17 : w29.cell? ⟨w6.heap.size, 5, none⟩ = some (.int .i64 x5) := keep1 hb29 (by first | (with_reducible assumption) | (go_simp; done))
    have p29x18 : w29.cell? ⟨w6.heap.size, 6, none⟩ = some (.int .i64 x6) := keep1 hb29 (by first | (with_reducible assumption) | (go_simp; done))
    have p29x19 : w29.cell? ⟨w6.heap.size, 7, none⟩ = some (.int .i64 x7) := keep1 hb29 (by first | (with_reducible assumption) | (go_simp; done))
    have p29x20 : w29.cell? ⟨w6.heap.size, 8, none⟩ = some (.int .i64 x8) := keep1 hb29 (by first | (with_reducible assumption) | (go_simp; done))
    have p29x21 : w29.cell? ⟨w22.heap.size, 0, none⟩ = some (.int .i64 ua) := keep1 hb29 (by first | (with_reducible assumption) | (go_simp; done))
    have p29x22 : w29.cell? ⟨w22.heap.size, 1, none⟩ = some (.int .i64 va) := keep1 hb29 (by first | (with_reducible assumption) | (go_simp; done))
    have p29x23 : w29.cell? ⟨w26.heap.size, 0, none⟩ = some (.int .i64 z0) := keep1 hb29 (by first | (with_reducible assumption) | (go_simp; done))
    have p29x24 : w29.cell? ⟨w26.heap.size, 1, none⟩ = some (.int .i64 z1) := keep1 hb29 (by first | (with_reducible assumption) | (go_simp; done))
    have p29x25 : w29.cell? ⟨w26.heap.size, 2, none⟩ = some (.int .i64 z2) := keep1 hb29 (by first | (with_reducible assumption) | (go_simp; done))
    have p29x26 : w29.cell? ⟨w26.heap.size, 3, none⟩ = some (.int .i64 z3) := keep1 hb29 (by first | (with_reducible assumption) | (go_simp; done))
    have p29x27 : w29.cell? ⟨w26.heap.size, 4, none⟩ = some (.int .i64 z4) := keep1 hb29 (by first | (with_reducible assumption) | (go_simp; done))
    have p29x28 : w29.cell? ⟨w26.heap.size, 5, none⟩ = some (.int .i64 z5) := keep1 hb29 (by first | (with_reducible assumption) | (go_simp; done))
    have p29x29 : w29.cell? ⟨w26.heap.size, 6, none⟩ = some (.int .i64 z6) := keep1 hb29 (by first | (with_reducible assumption) | (go_simp; done))
    have p29x30 : w29.cell? ⟨w26.heap.size, 7, none⟩ = some (.int .i64 z7) := keep1 hb29 (by first | (with_reducible assumption) | (go_simp; done))
    have p29x31 : w29.cell? ⟨w26.heap.size, 8, none⟩ = some (.int .i64 z8) := keep1 hb29 (by first | (with_reducible assumption) | (go_simp; done))
    have p29x32 : w29.cell? ⟨w27.heap.size, 0, none⟩ = some (.int .i64 ya) := keep1 hb29 (by first | (with_reducible assumption) | (go_simp; done))
    have p29x33 : w29.cell? ⟨w27.heap.size, 1, none⟩ = some (.int .i64 yb) := keep1 hb29 (by first | (with_reducible assumption) | (go_simp; done))
    have p29xz0 : w.heap.size + 1 < w29.heap.size := block_lt p29x0
    have p29xz3 : w5.heap.size < w29.heap.size := block_lt p29x3
    have p29xz12 : w6.heap.size < w29.heap.size := block_lt p29x12
    have p29xz21 : w22.heap.size < w29.heap.size := block_lt p29x21
    have p29xz23 : w26.heap.size < w29.heap.size := block_lt p29x23
    have p29xz32 : w27.heap.size < w29.heap.size := block_lt p29x32
    have p29xs := p29xb.size
    go_wp2_with (first | (go_at_call 27; refine (KW.out _).mono ?_; rintro e wz ⟨rfl, rfl⟩) | (go_at_call 36; refine (KM.out _).mono ?_; rintro e wz ⟨rfl, rfl⟩))
    go_returns
    exact ⟨rfl, by first | (go_grown; done) | assumption⟩
end Go.Proofs.YtngdhmliohjigaaDoor
