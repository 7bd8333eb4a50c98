/- The reference's lines with renamed terminals. -/
import Derived.Test.YtngdhmliohjigaaDoorSQ7
namespace Go.Proofs.YtngdhmliohjigaaDoor
open Go.RowKit
set_option maxRecDepth 100000 in
set_option maxHeartbeats 4000000 in
theorem voltage_01 (x0 x1 x2 x3 x4 x5 x6 x7 x8 : Int) (w : World) (h0 : Lim x0) (h1 : Lim x1) (h2 : Lim x2) (h3 : Lim x3) (h4 : Lim x4) (h5 : Lim x5) (h6 : Lim x6) (h7 : Lim x7) (h8 : Lim x8) :
    Calls Tryd.prog 96 #[.agg #[.int .i64 x0, .int .i64 x1, .int .i64 x2, .int .i64 x3, .int .i64 x4, .int .i64 x5, .int .i64 x6, .int .i64 x7, .int .i64 x8], .int .i64 0, .int .i64 1] w fun e w' => e = .returned (.agg #[.int .i64 x0, .int .i64 x1, .int .i64 x2]) ∧ Below w.heap.size w w' := by
  obtain ⟨l0, u0⟩ := h0
  obtain ⟨l1, u1⟩ := h1
  obtain ⟨l2, u2⟩ := h2
  obtain ⟨l3, u3⟩ := h3
  obtain ⟨l4, u4⟩ := h4
  obtain ⟨l5, u5⟩ := h5
  obtain ⟨l6, u6⟩ := h6
  obtain ⟨l7, u7⟩ := h7
  obtain ⟨l8, u8⟩ := h8
  go_enter Tryd.func96, Tryd.ntmps96
  go_wp2
  go_returns
  exact ⟨rfl, by (repeat' (first | (with_reducible exact Below.refl _ _) | (with_reducible assumption) | (with_reducible refine Below.drew ?_) | (with_reducible refine belowQ ?_) | (with_reducible refine Below.setCell ?_ ?_ _) | (with_reducible refine Below.alloc ?_ ?_ _) | omega | (dsimp only; omega) | (simp; done) | (simp; omega)))⟩
set_option maxRecDepth 100000 in
set_option maxHeartbeats 4000000 in
theorem voltage_02 (x0 x1 x2 x3 x4 x5 x6 x7 x8 : Int) (w : World) (h0 : Lim x0) (h1 : Lim x1) (h2 : Lim x2) (h3 : Lim x3) (h4 : Lim x4) (h5 : Lim x5) (h6 : Lim x6) (h7 : Lim x7) (h8 : Lim x8) :
    Calls Tryd.prog 96 #[.agg #[.int .i64 x0, .int .i64 x1, .int .i64 x2, .int .i64 x3, .int .i64 x4, .int .i64 x5, .int .i64 x6, .int .i64 x7, .int .i64 x8], .int .i64 0, .int .i64 2] w fun e w' => e = .returned (.agg #[.int .i64 (-x6), .int .i64 (-x7), .int .i64 (-x8)]) ∧ Below w.heap.size w w' := by
  obtain ⟨l0, u0⟩ := h0
  obtain ⟨l1, u1⟩ := h1
  obtain ⟨l2, u2⟩ := h2
  obtain ⟨l3, u3⟩ := h3
  obtain ⟨l4, u4⟩ := h4
  obtain ⟨l5, u5⟩ := h5
  obtain ⟨l6, u6⟩ := h6
  obtain ⟨l7, u7⟩ := h7
  obtain ⟨l8, u8⟩ := h8
  go_enter Tryd.func96, Tryd.ntmps96
  go_wp2_with fail
  go_region
  go_wp2
  go_returns
  exact ⟨rfl, by (repeat' (first | (with_reducible exact Below.refl _ _) | (with_reducible assumption) | (with_reducible refine Below.drew ?_) | (with_reducible refine belowQ ?_) | (with_reducible refine Below.setCell ?_ ?_ _) | (with_reducible refine Below.alloc ?_ ?_ _) | omega | (dsimp only; omega) | (simp; done) | (simp; omega)))⟩
set_option maxRecDepth 100000 in
set_option maxHeartbeats 4000000 in
theorem voltage_10 (x0 x1 x2 x3 x4 x5 x6 x7 x8 : Int) (w : World) (h0 : Lim x0) (h1 : Lim x1) (h2 : Lim x2) (h3 : Lim x3) (h4 : Lim x4) (h5 : Lim x5) (h6 : Lim x6) (h7 : Lim x7) (h8 : Lim x8) :
    Calls Tryd.prog 96 #[.agg #[.int .i64 x0, .int .i64 x1, .int .i64 x2, .int .i64 x3, .int .i64 x4, .int .i64 x5, .int .i64 x6, .int .i64 x7, .int .i64 x8], .int .i64 1, .int .i64 0] w fun e w' => e = .returned (.agg #[.int .i64 (-x0), .int .i64 (-x1), .int .i64 (-x2)]) ∧ Below w.heap.size w w' := by
  obtain ⟨l0, u0⟩ := h0
  obtain ⟨l1, u1⟩ := h1
  obtain ⟨l2, u2⟩ := h2
  obtain ⟨l3, u3⟩ := h3
  obtain ⟨l4, u4⟩ := h4
  obtain ⟨l5, u5⟩ := h5
  obtain ⟨l6, u6⟩ := h6
  obtain ⟨l7, u7⟩ := h7
  obtain ⟨l8, u8⟩ := h8
  go_enter Tryd.func96, Tryd.ntmps96
  go_wp2_with fail
  go_region
  go_wp2
  go_returns
  exact ⟨rfl, by (repeat' (first | (with_reducible exact Below.refl _ _) | (with_reducible assumption) | (with_reducible refine Below.drew ?_) | (with_reducible refine belowQ ?_) | (with_reducible refine Below.setCell ?_ ?_ _) | (with_reducible refine Below.alloc ?_ ?_ _) | omega | (dsimp only; omega) | (simp; done) | (simp; omega)))⟩
set_option maxRecDepth 100000 in
set_option maxHeartbeats 4000000 in
theorem voltage_12 (x0 x1 x2 x3 x4 x5 x6 x7 x8 : Int) (w : World) (h0 : Lim x0) (h1 : Lim x1) (h2 : Lim x2) (h3 : Lim x3) (h4 : Lim x4) (h5 : Lim x5) (h6 : Lim x6) (h7 : Lim x7) (h8 : Lim x8) :
    Calls Tryd.prog 96 #[.agg #[.int .i64 x0, .int .i64 x1, .int .i64 x2, .int .i64 x3, .int .i64 x4, .int .i64 x5, .int .i64 x6, .int .i64 x7, .int .i64 x8], .int .i64 1, .int .i64 2] w fun e w' => e = .returned (.agg #[.int .i64 x3, .int .i64 x4, .int .i64 x5]) ∧ Below w.heap.size w w' := by
  obtain ⟨l0, u0⟩ := h0
  obtain ⟨l1, u1⟩ := h1
  obtain ⟨l2, u2⟩ := h2
  obtain ⟨l3, u3⟩ := h3
  obtain ⟨l4, u4⟩ := h4
  obtain ⟨l5, u5⟩ := h5
  obtain ⟨l6, u6⟩ := h6
  obtain ⟨l7, u7⟩ := h7
  obtain ⟨l8, u8⟩ := h8
  go_enter Tryd.func96, Tryd.ntmps96
  go_wp2
  go_returns
  exact ⟨rfl, by (repeat' (first | (with_reducible exact Below.refl _ _) | (with_reducible assumption) | (with_reducible refine Below.drew ?_) | (with_reducible refine belowQ ?_) | (with_reducible refine Below.setCell ?_ ?_ _) | (with_reducible refine Below.alloc ?_ ?_ _) | omega | (dsimp only; omega) | (simp; done) | (simp; omega)))⟩
set_option maxRecDepth 100000 in
set_option maxHeartbeats 4000000 in
theorem voltage_20 (x0 x1 x2 x3 x4 x5 x6 x7 x8 : Int) (w : World) (h0 : Lim x0) (h1 : Lim x1) (h2 : Lim x2) (h3 : Lim x3) (h4 : Lim x4) (h5 : Lim x5) (h6 : Lim x6) (h7 : Lim x7) (h8 : Lim x8) :
    Calls Tryd.prog 96 #[.agg #[.int .i64 x0, .int .i64 x1, .int .i64 x2, .int .i64 x3, .int .i64 x4, .int .i64 x5, .int .i64 x6, .int .i64 x7, .int .i64 x8], .int .i64 2, .int .i64 0] w fun e w' => e = .returned (.agg #[.int .i64 x6, .int .i64 x7, .int .i64 x8]) ∧ Below w.heap.size w w' := by
  obtain ⟨l0, u0⟩ := h0
  obtain ⟨l1, u1⟩ := h1
  obtain ⟨l2, u2⟩ := h2
  obtain ⟨l3, u3⟩ := h3
  obtain ⟨l4, u4⟩ := h4
  obtain ⟨l5, u5⟩ := h5
  obtain ⟨l6, u6⟩ := h6
  obtain ⟨l7, u7⟩ := h7
  obtain ⟨l8, u8⟩ := h8
  go_enter Tryd.func96, Tryd.ntmps96
  go_wp2
  go_returns
  exact ⟨rfl, by (repeat' (first | (with_reducible exact Below.refl _ _) | (with_reducible assumption) | (with_reducible refine Below.drew ?_) | (with_reducible refine belowQ ?_) | (with_reducible refine Below.setCell ?_ ?_ _) | (with_reducible refine Below.alloc ?_ ?_ _) | omega | (dsimp only; omega) | (simp; done) | (simp; omega)))⟩
set_option maxRecDepth 100000 in
set_option maxHeartbeats 4000000 in
theorem voltage_21 (x0 x1 x2 x3 x4 x5 x6 x7 x8 : Int) (w : World) (h0 : Lim x0) (h1 : Lim x1) (h2 : Lim x2) (h3 : Lim x3) (h4 : Lim x4) (h5 : Lim x5) (h6 : Lim x6) (h7 : Lim x7) (h8 : Lim x8) :
    Calls Tryd.prog 96 #[.agg #[.int .i64 x0, .int .i64 x1, .int .i64 x2, .int .i64 x3, .int .i64 x4, .int .i64 x5, .int .i64 x6, .int .i64 x7, .int .i64 x8], .int .i64 2, .int .i64 1] w fun e w' => e = .returned (.agg #[.int .i64 (-x3), .int .i64 (-x4), .int .i64 (-x5)]) ∧ Below w.heap.size w w' := by
  obtain ⟨l0, u0⟩ := h0
  obtain ⟨l1, u1⟩ := h1
  obtain ⟨l2, u2⟩ := h2
  obtain ⟨l3, u3⟩ := h3
  obtain ⟨l4, u4⟩ := h4
  obtain ⟨l5, u5⟩ := h5
  obtain ⟨l6, u6⟩ := h6
  obtain ⟨l7, u7⟩ := h7
  obtain ⟨l8, u8⟩ := h8
  go_enter Tryd.func96, Tryd.ntmps96
  go_wp2_with fail
  go_region
  go_wp2
  go_returns
  exact ⟨rfl, by (repeat' (first | (with_reducible exact Below.refl _ _) | (with_reducible assumption) | (with_reducible refine Below.drew ?_) | (with_reducible refine belowQ ?_) | (with_reducible refine Below.setCell ?_ ?_ _) | (with_reducible refine Below.alloc ?_ ?_ _) | omega | (dsimp only; omega) | (simp; done) | (simp; omega)))⟩
/-- A block that may be written. -/
def Fr9 (W : World) (b : Nat) : Prop := ∀ j : Nat, j < 9 → (∃ c, W.cell? ⟨b, j, none⟩ = some c) ∧ W.frozen? ⟨b, j, none⟩ = false
theorem Fr9.below {W W' : World} {b : Nat} (h : Fr9 W b) (hz : b < W.heap.size) (hb : Below W.heap.size W W') : Fr9 W' b := fun j hj => ⟨(h j hj).1.imp fun _ e => keep1 hb e, keepF hb hz (h j hj).2⟩
theorem Fr9.set {W : World} {b o : Nat} (v : Value) (h : Fr9 W b) : Fr9 (W.setCell ⟨b, o, none⟩ v) b := fun j hj => by
  obtain ⟨⟨c, hc⟩, hf⟩ := h j hj
  refine ⟨?_, by rw [World.frozen?_setCell]; exact hf⟩
  by_cases e : j = o
  · subst e
    exact ⟨v, setc v hc⟩
  · exact ⟨c, seto v (Or.inr e) hc⟩
def RnS (x0 x1 x2 x3 x4 x5 x6 x7 x8 p0 p1 p2 : Int) (w W : World) : Prop := Below w.heap.size w W ∧ w.heap.size + 1 + 1 < W.heap.size ∧ Fr9 W (w.heap.size + 1 + 1) ∧ W.cell? ⟨w.heap.size, 0, none⟩ = some (.int .i64 x0) ∧ W.cell? ⟨w.heap.size, 1, none⟩ = some (.int .i64 x1) ∧ W.cell? ⟨w.heap.size, 2, none⟩ = some (.int .i64 x2) ∧ W.cell? ⟨w.heap.size, 3, none⟩ = some (.int .i64 x3) ∧ W.cell? ⟨w.heap.size, 4, none⟩ = some (.int .i64 x4) ∧ W.cell? ⟨w.heap.size, 5, none⟩ = some (.int .i64 x5) ∧ W.cell? ⟨w.heap.size, 6, none⟩ = some (.int .i64 x6) ∧ W.cell? ⟨w.heap.size, 7, none⟩ = some (.int .i64 x7) ∧ W.cell? ⟨w.heap.size, 8, none⟩ = some (.int .i64 x8) ∧ W.cell? ⟨w.heap.size + 1, 0, none⟩ = some (.int .i64 p0) ∧ W.cell? ⟨w.heap.size + 1, 1, none⟩ = some (.int .i64 p1) ∧ W.cell? ⟨w.heap.size + 1, 2, none⟩ = some (.int .i64 p2)
theorem RnS.below {x0 x1 x2 x3 x4 x5 x6 x7 x8 p0 p1 p2 : Int} {w W W' : World} (h : RnS x0 x1 x2 x3 x4 x5 x6 x7 x8 p0 p1 p2 w W) (hb : Below W.heap.size W W') : RnS x0 x1 x2 x3 x4 x5 x6 x7 x8 p0 p1 p2 w W' := by
  obtain ⟨a, z, fr, c0, c1, c2, c3, c4, c5, c6, c7, c8, c9, c10, c11⟩ := h
  exact ⟨belowT a hb, Nat.lt_of_lt_of_le z hb.size, fr.below z hb, keep1 hb c0, keep1 hb c1, keep1 hb c2, keep1 hb c3, keep1 hb c4, keep1 hb c5, keep1 hb c6, keep1 hb c7, keep1 hb c8, keep1 hb c9, keep1 hb c10, keep1 hb c11⟩
theorem RnS.set {x0 x1 x2 x3 x4 x5 x6 x7 x8 p0 p1 p2 : Int} {w W : World} {o : Nat} (v : Value) (h : RnS x0 x1 x2 x3 x4 x5 x6 x7 x8 p0 p1 p2 w W) : RnS x0 x1 x2 x3 x4 x5 x6 x7 x8 p0 p1 p2 w (W.setCell ⟨w.heap.size + 1 + 1, o, none⟩ v) := by
  obtain ⟨a, z, fr, c0, c1, c2, c3, c4, c5, c6, c7, c8, c9, c10, c11⟩ := h
  exact ⟨Below.setCell a (by dsimp only; omega) v, by simpa using z, fr.set v, seto v (Or.inl (by omega)) c0, seto v (Or.inl (by omega)) c1, seto v (Or.inl (by omega)) c2, seto v (Or.inl (by omega)) c3, seto v (Or.inl (by omega)) c4, seto v (Or.inl (by omega)) c5, seto v (Or.inl (by omega)) c6, seto v (Or.inl (by omega)) c7, seto v (Or.inl (by omega)) c8, seto v (Or.inl (by omega)) c9, seto v (Or.inl (by omega)) c10, seto v (Or.inl (by omega)) c11⟩
set_option maxRecDepth 100000 in
set_option maxHeartbeats 8000000 in
theorem rrenamed_0 (x0 x1 x2 x3 x4 x5 x6 x7 x8 : Int) (w : World) (h0 : Lim x0) (h1 : Lim x1) (h2 : Lim x2) (h3 : Lim x3) (h4 : Lim x4) (h5 : Lim x5) (h6 : Lim x6) (h7 : Lim x7) (h8 : Lim x8) :
    Calls Tryd.prog 34 #[.agg #[.int .i64 x0, .int .i64 x1, .int .i64 x2, .int .i64 x3, .int .i64 x4, .int .i64 x5, .int .i64 x6, .int .i64 x7, .int .i64 x8], .agg #[.int .i64 0, .int .i64 1, .int .i64 2]] w fun e w' => e = .returned (.agg #[.int .i64 x0, .int .i64 x1, .int .i64 x2, .int .i64 x3, .int .i64 x4, .int .i64 x5, .int .i64 x6, .int .i64 x7, .int .i64 x8]) ∧ Below w.heap.size w w' := by
  have K0 := Lib.hid (fun w => voltage_01 x0 x1 x2 x3 x4 x5 x6 x7 x8 w h0 h1 h2 h3 h4 h5 h6 h7 h8)
  have K1 := Lib.hid (fun w => voltage_12 x0 x1 x2 x3 x4 x5 x6 x7 x8 w h0 h1 h2 h3 h4 h5 h6 h7 h8)
  have K2 := Lib.hid (fun w => voltage_20 x0 x1 x2 x3 x4 x5 x6 x7 x8 w h0 h1 h2 h3 h4 h5 h6 h7 h8)
  clear h0 h1 h2 h3 h4 h5 h6 h7 h8
  go_enter Tryd.func34, Tryd.ntmps34
  go_wp2_with fail
  refine wp_region_held_drew (S := RnS x0 x1 x2 x3 x4 x5 x6 x7 x8 0 1 2 w) (by kernel_rfl) ?hS (fun hH => ?_)
  case hS =>
    refine ⟨by go_grown, by simp, fun j hj => ?_, by go_simp, by go_simp, by go_simp, by go_simp, by go_simp, by go_simp, by go_simp, by go_simp, by go_simp, by go_simp, by go_simp, by go_simp⟩
    obtain rfl | rfl | rfl | rfl | rfl | rfl | rfl | rfl | rfl : j = 0 ∨ j = 1 ∨ j = 2 ∨ j = 3 ∨ j = 4 ∨ j = 5 ∨ j = 6 ∨ j = 7 ∨ j = 8 := by omega
    all_goals exact ⟨⟨.int .i64 0, by go_simp⟩, by go_simp⟩
  refine' wpAnyH_take (i := 0) (v := _) rfl (by kernel_rfl) (by kernel_rfl) (by kernel_rfl) (fun _ _ _ h => h) (Or.inl ⟨by kernel_rfl, ?hy⟩) (by assumption) ?_
  case hy => (intro W hW; obtain ⟨qb, qz, qf, q0, q1, q2, q3, q4, q5, q6, q7, q8, q9, q10, q11⟩ := hW; go_simp; try (with_reducible rfl))
  try simp only [Act.put, List.setIfInBounds_toArray, List.set_cons_zero, List.set_cons_succ, List.getElem_toArray, List.getElem_cons_zero]
  refine' wpAnyH_take (i := 1) (v := _) rfl (by kernel_rfl) (by kernel_rfl) (by kernel_rfl) (fun _ _ _ h => h) (Or.inl ⟨by kernel_rfl, ?hy⟩) (by assumption) ?_
  case hy => (intro W hW; obtain ⟨qb, qz, qf, q0, q1, q2, q3, q4, q5, q6, q7, q8, q9, q10, q11⟩ := hW; go_simp; try (with_reducible rfl))
  try simp only [Act.put, List.setIfInBounds_toArray, List.set_cons_zero, List.set_cons_succ, List.getElem_toArray, List.getElem_cons_succ, List.getElem_cons_zero]
  refine' wpAnyH_take (i := 2) (v := _) rfl (by kernel_rfl) (by kernel_rfl) (by kernel_rfl) (fun _ _ _ h => h) (Or.inl ⟨by kernel_rfl, ?hy⟩) (by assumption) ?_
  case hy => (intro W hW; obtain ⟨qb, qz, qf, q0, q1, q2, q3, q4, q5, q6, q7, q8, q9, q10, q11⟩ := hW; go_simp; try (with_reducible rfl))
  try simp only [Act.put, List.setIfInBounds_toArray, List.set_cons_zero, List.set_cons_succ, List.getElem_toArray, List.getElem_cons_succ, List.getElem_cons_zero]
  refine' wpAnyH_take (i := 3) (v := _) rfl (by kernel_rfl) (by kernel_rfl) (by kernel_rfl) (fun _ _ _ h => h) (Or.inl ⟨by kernel_rfl, ?hy⟩) (by assumption) ?_
  case hy => (intro W hW; obtain ⟨qb, qz, qf, q0, q1, q2, q3, q4, q5, q6, q7, q8, q9, q10, q11⟩ := hW; go_simp; try (with_reducible rfl))
  try simp only [Act.put, List.setIfInBounds_toArray, List.set_cons_zero, List.set_cons_succ, List.getElem_toArray, List.getElem_cons_succ, List.getElem_cons_zero]
  refine' wpAnyH_take (i := 4) (v := _) rfl (by kernel_rfl) (by kernel_rfl) (by kernel_rfl) (fun _ _ _ h => h) (Or.inl ⟨by kernel_rfl, ?hy⟩) (by assumption) ?_
  case hy => (intro W hW; obtain ⟨qb, qz, qf, q0, q1, q2, q3, q4, q5, q6, q7, q8, q9, q10, q11⟩ := hW; go_simp; try (with_reducible rfl))
  try simp only [Act.put, List.setIfInBounds_toArray, List.set_cons_zero, List.set_cons_succ, List.getElem_toArray, List.getElem_cons_succ, List.getElem_cons_zero]
  refine' wpAnyH_take (i := 6) (v := _) rfl (by kernel_rfl) (by kernel_rfl) (by kernel_rfl) (fun _ _ _ h => h) (Or.inl ⟨by kernel_rfl, ?hy⟩) (by assumption) ?_
  case hy => (intro W hW; obtain ⟨qb, qz, qf, q0, q1, q2, q3, q4, q5, q6, q7, q8, q9, q10, q11⟩ := hW; go_simp; try (with_reducible rfl))
  try simp only [Act.put, List.setIfInBounds_toArray, List.set_cons_zero, List.set_cons_succ, List.getElem_toArray, List.getElem_cons_succ, List.getElem_cons_zero]
  refine' wpAnyH_take (i := 7) (v := _) rfl (by kernel_rfl) (by kernel_rfl) (by kernel_rfl) (fun _ _ _ h => h) (Or.inl ⟨by kernel_rfl, ?hy⟩) (by assumption) ?_
  case hy => (intro W hW; obtain ⟨qb, qz, qf, q0, q1, q2, q3, q4, q5, q6, q7, q8, q9, q10, q11⟩ := hW; go_simp; try (with_reducible rfl))
  try simp only [Act.put, List.setIfInBounds_toArray, List.set_cons_zero, List.set_cons_succ, List.getElem_toArray, List.getElem_cons_succ, List.getElem_cons_zero]
  refine' wpAnyH_take (i := 8) (v := _) rfl (by kernel_rfl) (by kernel_rfl) (by kernel_rfl) (fun _ _ _ h => h) (Or.inl ⟨by kernel_rfl, ?hy⟩) (by assumption) ?_
  case hy => (intro W hW; obtain ⟨qb, qz, qf, q0, q1, q2, q3, q4, q5, q6, q7, q8, q9, q10, q11⟩ := hW; go_simp; try (with_reducible rfl))
  try simp only [Act.put, List.setIfInBounds_toArray, List.set_cons_zero, List.set_cons_succ, List.getElem_toArray, List.getElem_cons_succ, List.getElem_cons_zero]
  refine' wpAnyH_take (i := 9) (v := _) rfl (by kernel_rfl) (by kernel_rfl) (by kernel_rfl) (fun _ _ _ h => h) (Or.inl ⟨by kernel_rfl, ?hy⟩) (by assumption) ?_
  case hy => (intro W hW; obtain ⟨qb, qz, qf, q0, q1, q2, q3, q4, q5, q6, q7, q8, q9, q10, q11⟩ := hW; go_simp; try (with_reducible rfl))
  try simp only [Act.put, List.setIfInBounds_toArray, List.set_cons_zero, List.set_cons_succ, List.getElem_toArray, List.getElem_cons_succ, List.getElem_cons_zero]
  refine' wpAnyH_take (i := 10) (v := _) rfl (by kernel_rfl) (by kernel_rfl) (by kernel_rfl) (fun _ _ _ h => h) (Or.inl ⟨by kernel_rfl, ?hy⟩) (by assumption) ?_
  case hy => (intro W hW; obtain ⟨qb, qz, qf, q0, q1, q2, q3, q4, q5, q6, q7, q8, q9, q10, q11⟩ := hW; go_simp; try (with_reducible rfl))
  try simp only [Act.put, List.setIfInBounds_toArray, List.set_cons_zero, List.set_cons_succ, List.getElem_toArray, List.getElem_cons_succ, List.getElem_cons_zero]
  refine' wpAnyH_take (i := 12) (v := _) rfl (by kernel_rfl) (by kernel_rfl) (by kernel_rfl) (fun _ _ _ h => h) (Or.inl ⟨by kernel_rfl, ?hy⟩) (by assumption) ?_
  case hy => (intro W hW; obtain ⟨qb, qz, qf, q0, q1, q2, q3, q4, q5, q6, q7, q8, q9, q10, q11⟩ := hW; go_simp; try (with_reducible rfl))
  try simp only [Act.put, List.setIfInBounds_toArray, List.set_cons_zero, List.set_cons_succ, List.getElem_toArray, List.getElem_cons_succ, List.getElem_cons_zero]
  refine' wpAnyH_take (i := 13) (v := _) rfl (by kernel_rfl) (by kernel_rfl) (by kernel_rfl) (fun _ _ _ h => h) (Or.inl ⟨by kernel_rfl, ?hy⟩) (by assumption) ?_
  case hy => (intro W hW; obtain ⟨qb, qz, qf, q0, q1, q2, q3, q4, q5, q6, q7, q8, q9, q10, q11⟩ := hW; go_simp; try (with_reducible rfl))
  try simp only [Act.put, List.setIfInBounds_toArray, List.set_cons_zero, List.set_cons_succ, List.getElem_toArray, List.getElem_cons_succ, List.getElem_cons_zero]
  refine' wpAnyH_take (i := 14) (v := _) rfl (by kernel_rfl) (by kernel_rfl) (by kernel_rfl) (fun _ _ _ h => h) (Or.inl ⟨by kernel_rfl, ?hy⟩) (by assumption) ?_
  case hy => (intro W hW; obtain ⟨qb, qz, qf, q0, q1, q2, q3, q4, q5, q6, q7, q8, q9, q10, q11⟩ := hW; go_simp; try (with_reducible rfl))
  try simp only [Act.put, List.setIfInBounds_toArray, List.set_cons_zero, List.set_cons_succ, List.getElem_toArray, List.getElem_cons_succ, List.getElem_cons_zero]
  refine' wpAnyH_take (i := 15) (v := _) rfl (by kernel_rfl) (by kernel_rfl) (by kernel_rfl) (fun _ _ _ h => h) (Or.inl ⟨by kernel_rfl, ?hy⟩) (by assumption) ?_
  case hy => (intro W hW; obtain ⟨qb, qz, qf, q0, q1, q2, q3, q4, q5, q6, q7, q8, q9, q10, q11⟩ := hW; go_simp; try (with_reducible rfl))
  try simp only [Act.put, List.setIfInBounds_toArray, List.set_cons_zero, List.set_cons_succ, List.getElem_toArray, List.getElem_cons_succ, List.getElem_cons_zero]
  refine' wpAnyH_take (i := 16) (v := _) rfl (by kernel_rfl) (by kernel_rfl) (by kernel_rfl) (fun _ _ _ h => h) (Or.inl ⟨by kernel_rfl, ?hy⟩) (by assumption) ?_
  case hy => (intro W hW; obtain ⟨qb, qz, qf, q0, q1, q2, q3, q4, q5, q6, q7, q8, q9, q10, q11⟩ := hW; go_simp; try (with_reducible rfl))
  try simp only [Act.put, List.setIfInBounds_toArray, List.set_cons_zero, List.set_cons_succ, List.getElem_toArray, List.getElem_cons_succ, List.getElem_cons_zero]
  refine wpAnyH_ready (rs := [5]) (by kernel_rfl) (by simp) ?_
  refine AllReadyH.cons rfl (fun K hK => ?_) AllReadyH.nil
  go_simp
  refine (K0.out _).mono ?_
  rintro e wr0 ⟨rfl, hbr0⟩
  refine hK.out _ _ (RnS.below hH hbr0) (fun hH0 => ?_)
  clear hK
  try simp only [Act.put, List.setIfInBounds_toArray, List.set_cons_zero, List.set_cons_succ, List.getElem_toArray, List.getElem_cons_succ, List.getElem_cons_zero]
  refine wpAnyH_ready (rs := [11]) (by kernel_rfl) (by simp) ?_
  refine AllReadyH.cons rfl (fun K hK => ?_) AllReadyH.nil
  go_simp
  refine (K1.out _).mono ?_
  rintro e wr1 ⟨rfl, hbr1⟩
  refine hK.out _ _ (RnS.below hH0 hbr1) (fun hH1 => ?_)
  clear hK
  try simp only [Act.put, List.setIfInBounds_toArray, List.set_cons_zero, List.set_cons_succ, List.getElem_toArray, List.getElem_cons_succ, List.getElem_cons_zero]
  refine wpAnyH_ready (rs := [17]) (by kernel_rfl) (by simp) ?_
  refine AllReadyH.cons rfl (fun K hK => ?_) AllReadyH.nil
  go_simp
  refine (K2.out _).mono ?_
  rintro e wr2 ⟨rfl, hbr2⟩
  refine hK.out _ _ (RnS.below hH1 hbr2) (fun hH2 => ?_)
  clear hK
  try simp only [Act.put, List.setIfInBounds_toArray, List.set_cons_zero, List.set_cons_succ, List.getElem_toArray, List.getElem_cons_succ, List.getElem_cons_zero]
  refine' wpAnyH_take (i := 18) (v := _) rfl (by kernel_rfl) (by kernel_rfl) (by kernel_rfl) (fun _ _ _ h => h) (Or.inl ⟨by kernel_rfl, ?hy⟩) (by assumption) ?_
  case hy => (intro W hW; obtain ⟨qb, qz, qf, q0, q1, q2, q3, q4, q5, q6, q7, q8, q9, q10, q11⟩ := hW; go_simp; try (with_reducible rfl))
  try simp only [Act.put, List.setIfInBounds_toArray, List.set_cons_zero, List.set_cons_succ, List.getElem_toArray, List.getElem_cons_succ, List.getElem_cons_zero]
  obtain ⟨sb, sz, sf, -⟩ := id hH2
  obtain ⟨⟨c0, g0⟩, k0⟩ := sf 0 (by decide)
  obtain ⟨⟨c1, g1⟩, k1⟩ := sf 1 (by decide)
  obtain ⟨⟨c2, g2⟩, k2⟩ := sf 2 (by decide)
  obtain ⟨⟨c3, g3⟩, k3⟩ := sf 3 (by decide)
  obtain ⟨⟨c4, g4⟩, k4⟩ := sf 4 (by decide)
  obtain ⟨⟨c5, g5⟩, k5⟩ := sf 5 (by decide)
  obtain ⟨⟨c6, g6⟩, k6⟩ := sf 6 (by decide)
  obtain ⟨⟨c7, g7⟩, k7⟩ := sf 7 (by decide)
  obtain ⟨⟨c8, g8⟩, k8⟩ := sf 8 (by decide)
  refine wpAnyH_ready (rs := [19]) (by kernel_rfl) (by simp) ?_
  refine AllReadyH.cons rfl (fun K hK => ?_) AllReadyH.nil
  go_simp
  refine hK.out _ _ (((((((((RnS.set _ hH2).set _).set _).set _).set _).set _).set _).set _).set _) (fun hHF => ?_)
  clear hK
  try simp only [Act.put, List.setIfInBounds_toArray, List.set_cons_zero, List.set_cons_succ, List.getElem_toArray, List.getElem_cons_succ, List.getElem_cons_zero]
  refine wpAnyH_done (by kernel_rfl) ?_ _
  clear hH hH0 hH1 hH2 hHF
  go_wp2
  have s0 := seto (b' := w.heap.size + 1 + 1) (o' := 8) (.int .i64 x8) (by omega) (seto (b' := w.heap.size + 1 + 1) (o' := 7) (.int .i64 x7) (by omega) (seto (b' := w.heap.size + 1 + 1) (o' := 6) (.int .i64 x6) (by omega) (seto (b' := w.heap.size + 1 + 1) (o' := 5) (.int .i64 x5) (by omega) (seto (b' := w.heap.size + 1 + 1) (o' := 4) (.int .i64 x4) (by omega) (seto (b' := w.heap.size + 1 + 1) (o' := 3) (.int .i64 x3) (by omega) (seto (b' := w.heap.size + 1 + 1) (o' := 2) (.int .i64 x2) (by omega) (seto (b' := w.heap.size + 1 + 1) (o' := 1) (.int .i64 x1) (by omega) (setc (.int .i64 x0) g0))))))))
  have s1 := seto (b' := w.heap.size + 1 + 1) (o' := 8) (.int .i64 x8) (by omega) (seto (b' := w.heap.size + 1 + 1) (o' := 7) (.int .i64 x7) (by omega) (seto (b' := w.heap.size + 1 + 1) (o' := 6) (.int .i64 x6) (by omega) (seto (b' := w.heap.size + 1 + 1) (o' := 5) (.int .i64 x5) (by omega) (seto (b' := w.heap.size + 1 + 1) (o' := 4) (.int .i64 x4) (by omega) (seto (b' := w.heap.size + 1 + 1) (o' := 3) (.int .i64 x3) (by omega) (seto (b' := w.heap.size + 1 + 1) (o' := 2) (.int .i64 x2) (by omega) (setc (.int .i64 x1) (seto (b' := w.heap.size + 1 + 1) (o' := 0) (.int .i64 x0) (by omega) g1))))))))
  have s2 := seto (b' := w.heap.size + 1 + 1) (o' := 8) (.int .i64 x8) (by omega) (seto (b' := w.heap.size + 1 + 1) (o' := 7) (.int .i64 x7) (by omega) (seto (b' := w.heap.size + 1 + 1) (o' := 6) (.int .i64 x6) (by omega) (seto (b' := w.heap.size + 1 + 1) (o' := 5) (.int .i64 x5) (by omega) (seto (b' := w.heap.size + 1 + 1) (o' := 4) (.int .i64 x4) (by omega) (seto (b' := w.heap.size + 1 + 1) (o' := 3) (.int .i64 x3) (by omega) (setc (.int .i64 x2) (seto (b' := w.heap.size + 1 + 1) (o' := 1) (.int .i64 x1) (by omega) (seto (b' := w.heap.size + 1 + 1) (o' := 0) (.int .i64 x0) (by omega) g2))))))))
  have s3 := seto (b' := w.heap.size + 1 + 1) (o' := 8) (.int .i64 x8) (by omega) (seto (b' := w.heap.size + 1 + 1) (o' := 7) (.int .i64 x7) (by omega) (seto (b' := w.heap.size + 1 + 1) (o' := 6) (.int .i64 x6) (by omega) (seto (b' := w.heap.size + 1 + 1) (o' := 5) (.int .i64 x5) (by omega) (seto (b' := w.heap.size + 1 + 1) (o' := 4) (.int .i64 x4) (by omega) (setc (.int .i64 x3) (seto (b' := w.heap.size + 1 + 1) (o' := 2) (.int .i64 x2) (by omega) (seto (b' := w.heap.size + 1 + 1) (o' := 1) (.int .i64 x1) (by omega) (seto (b' := w.heap.size + 1 + 1) (o' := 0) (.int .i64 x0) (by omega) g3))))))))
  have s4 := seto (b' := w.heap.size + 1 + 1) (o' := 8) (.int .i64 x8) (by omega) (seto (b' := w.heap.size + 1 + 1) (o' := 7) (.int .i64 x7) (by omega) (seto (b' := w.heap.size + 1 + 1) (o' := 6) (.int .i64 x6) (by omega) (seto (b' := w.heap.size + 1 + 1) (o' := 5) (.int .i64 x5) (by omega) (setc (.int .i64 x4) (seto (b' := w.heap.size + 1 + 1) (o' := 3) (.int .i64 x3) (by omega) (seto (b' := w.heap.size + 1 + 1) (o' := 2) (.int .i64 x2) (by omega) (seto (b' := w.heap.size + 1 + 1) (o' := 1) (.int .i64 x1) (by omega) (seto (b' := w.heap.size + 1 + 1) (o' := 0) (.int .i64 x0) (by omega) g4))))))))
  have s5 := seto (b' := w.heap.size + 1 + 1) (o' := 8) (.int .i64 x8) (by omega) (seto (b' := w.heap.size + 1 + 1) (o' := 7) (.int .i64 x7) (by omega) (seto (b' := w.heap.size + 1 + 1) (o' := 6) (.int .i64 x6) (by omega) (setc (.int .i64 x5) (seto (b' := w.heap.size + 1 + 1) (o' := 4) (.int .i64 x4) (by omega) (seto (b' := w.heap.size + 1 + 1) (o' := 3) (.int .i64 x3) (by omega) (seto (b' := w.heap.size + 1 + 1) (o' := 2) (.int .i64 x2) (by omega) (seto (b' := w.heap.size + 1 + 1) (o' := 1) (.int .i64 x1) (by omega) (seto (b' := w.heap.size + 1 + 1) (o' := 0) (.int .i64 x0) (by omega) g5))))))))
  have s6 := seto (b' := w.heap.size + 1 + 1) (o' := 8) (.int .i64 x8) (by omega) (seto (b' := w.heap.size + 1 + 1) (o' := 7) (.int .i64 x7) (by omega) (setc (.int .i64 x6) (seto (b' := w.heap.size + 1 + 1) (o' := 5) (.int .i64 x5) (by omega) (seto (b' := w.heap.size + 1 + 1) (o' := 4) (.int .i64 x4) (by omega) (seto (b' := w.heap.size + 1 + 1) (o' := 3) (.int .i64 x3) (by omega) (seto (b' := w.heap.size + 1 + 1) (o' := 2) (.int .i64 x2) (by omega) (seto (b' := w.heap.size + 1 + 1) (o' := 1) (.int .i64 x1) (by omega) (seto (b' := w.heap.size + 1 + 1) (o' := 0) (.int .i64 x0) (by omega) g6))))))))
  have s7 := seto (b' := w.heap.size + 1 + 1) (o' := 8) (.int .i64 x8) (by omega) (setc (.int .i64 x7) (seto (b' := w.heap.size + 1 + 1) (o' := 6) (.int .i64 x6) (by omega) (seto (b' := w.heap.size + 1 + 1) (o' := 5) (.int .i64 x5) (by omega) (seto (b' := w.heap.size + 1 + 1) (o' := 4) (.int .i64 x4) (by omega) (seto (b' := w.heap.size + 1 + 1) (o' := 3) (.int .i64 x3) (by omega) (seto (b' := w.heap.size + 1 + 1) (o' := 2) (.int .i64 x2) (by omega) (seto (b' := w.heap.size + 1 + 1) (o' := 1) (.int .i64 x1) (by omega) (seto (b' := w.heap.size + 1 + 1) (o' := 0) (.int .i64 x0) (by omega) g7))))))))
  have s8 := setc (.int .i64 x8) (seto (b' := w.heap.size + 1 + 1) (o' := 7) (.int .i64 x7) (by omega) (seto (b' := w.heap.size + 1 + 1) (o' := 6) (.int .i64 x6) (by omega) (seto (b' := w.heap.size + 1 + 1) (o' := 5) (.int .i64 x5) (by omega) (seto (b' := w.heap.size + 1 + 1) (o' := 4) (.int .i64 x4) (by omega) (seto (b' := w.heap.size + 1 + 1) (o' := 3) (.int .i64 x3) (by omega) (seto (b' := w.heap.size + 1 + 1) (o' := 2) (.int .i64 x2) (by omega) (seto (b' := w.heap.size + 1 + 1) (o' := 1) (.int .i64 x1) (by omega) (seto (b' := w.heap.size + 1 + 1) (o' := 0) (.int .i64 x0) (by omega) g8))))))))
  refine bodyPost_ret (by simp [results, Tryd.results34, go_sem, s0, s1, s2, s3, s4, s5, s6, s7, s8]; try rfl) rfl ?_
  exact ⟨by rfl, by (repeat' (first | (with_reducible exact Below.refl _ _) | (with_reducible assumption) | (with_reducible refine Below.drew ?_) | (with_reducible refine belowQ ?_) | (with_reducible refine Below.setCell ?_ ?_ _) | (with_reducible refine Below.alloc ?_ ?_ _) | omega | (dsimp only; omega) | (simp; done) | (simp; omega)))⟩
set_option maxRecDepth 100000 in
set_option maxHeartbeats 8000000 in
theorem rrenamed_1 (x0 x1 x2 x3 x4 x5 x6 x7 x8 : Int) (w : World) (h0 : Lim x0) (h1 : Lim x1) (h2 : Lim x2) (h3 : Lim x3) (h4 : Lim x4) (h5 : Lim x5) (h6 : Lim x6) (h7 : Lim x7) (h8 : Lim x8) :
    Calls Tryd.prog 34 #[.agg #[.int .i64 x0, .int .i64 x1, .int .i64 x2, .int .i64 x3, .int .i64 x4, .int .i64 x5, .int .i64 x6, .int .i64 x7, .int .i64 x8], .agg #[.int .i64 0, .int .i64 2, .int .i64 1]] w fun e w' => e = .returned (.agg #[.int .i64 (-x6), .int .i64 (-x7), .int .i64 (-x8), .int .i64 (-x3), .int .i64 (-x4), .int .i64 (-x5), .int .i64 (-x0), .int .i64 (-x1), .int .i64 (-x2)]) ∧ Below w.heap.size w w' := by
  have K0 := Lib.hid (fun w => voltage_02 x0 x1 x2 x3 x4 x5 x6 x7 x8 w h0 h1 h2 h3 h4 h5 h6 h7 h8)
  have K1 := Lib.hid (fun w => voltage_21 x0 x1 x2 x3 x4 x5 x6 x7 x8 w h0 h1 h2 h3 h4 h5 h6 h7 h8)
  have K2 := Lib.hid (fun w => voltage_10 x0 x1 x2 x3 x4 x5 x6 x7 x8 w h0 h1 h2 h3 h4 h5 h6 h7 h8)
  clear h0 h1 h2 h3 h4 h5 h6 h7 h8
  go_enter Tryd.func34, Tryd.ntmps34
  go_wp2_with fail
  refine wp_region_held_drew (S := RnS x0 x1 x2 x3 x4 x5 x6 x7 x8 0 2 1 w) (by kernel_rfl) ?hS (fun hH => ?_)
  case hS =>
    refine ⟨by go_grown, by simp, fun j hj => ?_, by go_simp, by go_simp, by go_simp, by go_simp, by go_simp, by go_simp, by go_simp, by go_simp, by go_simp, by go_simp, by go_simp, by go_simp⟩
    obtain rfl | rfl | rfl | rfl | rfl | rfl | rfl | rfl | rfl : j = 0 ∨ j = 1 ∨ j = 2 ∨ j = 3 ∨ j = 4 ∨ j = 5 ∨ j = 6 ∨ j = 7 ∨ j = 8 := by omega
    all_goals exact ⟨⟨.int .i64 0, by go_simp⟩, by go_simp⟩
  refine' wpAnyH_take (i := 0) (v := _) rfl (by kernel_rfl) (by kernel_rfl) (by kernel_rfl) (fun _ _ _ h => h) (Or.inl ⟨by kernel_rfl, ?hy⟩) (by assumption) ?_
  case hy => (intro W hW; obtain ⟨qb, qz, qf, q0, q1, q2, q3, q4, q5, q6, q7, q8, q9, q10, q11⟩ := hW; go_simp; try (with_reducible rfl))
  try simp only [Act.put, List.setIfInBounds_toArray, List.set_cons_zero, List.set_cons_succ, List.getElem_toArray, List.getElem_cons_zero]
  refine' wpAnyH_take (i := 1) (v := _) rfl (by kernel_rfl) (by kernel_rfl) (by kernel_rfl) (fun _ _ _ h => h) (Or.inl ⟨by kernel_rfl, ?hy⟩) (by assumption) ?_
  case hy => (intro W hW; obtain ⟨qb, qz, qf, q0, q1, q2, q3, q4, q5, q6, q7, q8, q9, q10, q11⟩ := hW; go_simp; try (with_reducible rfl))
  try simp only [Act.put, List.setIfInBounds_toArray, List.set_cons_zero, List.set_cons_succ, List.getElem_toArray, List.getElem_cons_succ, List.getElem_cons_zero]
  refine' wpAnyH_take (i := 2) (v := _) rfl (by kernel_rfl) (by kernel_rfl) (by kernel_rfl) (fun _ _ _ h => h) (Or.inl ⟨by kernel_rfl, ?hy⟩) (by assumption) ?_
  case hy => (intro W hW; obtain ⟨qb, qz, qf, q0, q1, q2, q3, q4, q5, q6, q7, q8, q9, q10, q11⟩ := hW; go_simp; try (with_reducible rfl))
  try simp only [Act.put, List.setIfInBounds_toArray, List.set_cons_zero, List.set_cons_succ, List.getElem_toArray, List.getElem_cons_succ, List.getElem_cons_zero]
  refine' wpAnyH_take (i := 3) (v := _) rfl (by kernel_rfl) (by kernel_rfl) (by kernel_rfl) (fun _ _ _ h => h) (Or.inl ⟨by kernel_rfl, ?hy⟩) (by assumption) ?_
  case hy => (intro W hW; obtain ⟨qb, qz, qf, q0, q1, q2, q3, q4, q5, q6, q7, q8, q9, q10, q11⟩ := hW; go_simp; try (with_reducible rfl))
  try simp only [Act.put, List.setIfInBounds_toArray, List.set_cons_zero, List.set_cons_succ, List.getElem_toArray, List.getElem_cons_succ, List.getElem_cons_zero]
  refine' wpAnyH_take (i := 4) (v := _) rfl (by kernel_rfl) (by kernel_rfl) (by kernel_rfl) (fun _ _ _ h => h) (Or.inl ⟨by kernel_rfl, ?hy⟩) (by assumption) ?_
  case hy => (intro W hW; obtain ⟨qb, qz, qf, q0, q1, q2, q3, q4, q5, q6, q7, q8, q9, q10, q11⟩ := hW; go_simp; try (with_reducible rfl))
  try simp only [Act.put, List.setIfInBounds_toArray, List.set_cons_zero, List.set_cons_succ, List.getElem_toArray, List.getElem_cons_succ, List.getElem_cons_zero]
  refine' wpAnyH_take (i := 6) (v := _) rfl (by kernel_rfl) (by kernel_rfl) (by kernel_rfl) (fun _ _ _ h => h) (Or.inl ⟨by kernel_rfl, ?hy⟩) (by assumption) ?_
  case hy => (intro W hW; obtain ⟨qb, qz, qf, q0, q1, q2, q3, q4, q5, q6, q7, q8, q9, q10, q11⟩ := hW; go_simp; try (with_reducible rfl))
  try simp only [Act.put, List.setIfInBounds_toArray, List.set_cons_zero, List.set_cons_succ, List.getElem_toArray, List.getElem_cons_succ, List.getElem_cons_zero]
  refine' wpAnyH_take (i := 7) (v := _) rfl (by kernel_rfl) (by kernel_rfl) (by kernel_rfl) (fun _ _ _ h => h) (Or.inl ⟨by kernel_rfl, ?hy⟩) (by assumption) ?_
  case hy => (intro W hW; obtain ⟨qb, qz, qf, q0, q1, q2, q3, q4, q5, q6, q7, q8, q9, q10, q11⟩ := hW; go_simp; try (with_reducible rfl))
  try simp only [Act.put, List.setIfInBounds_toArray, List.set_cons_zero, List.set_cons_succ, List.getElem_toArray, List.getElem_cons_succ, List.getElem_cons_zero]
  refine' wpAnyH_take (i := 8) (v := _) rfl (by kernel_rfl) (by kernel_rfl) (by kernel_rfl) (fun _ _ _ h => h) (Or.inl ⟨by kernel_rfl, ?hy⟩) (by assumption) ?_
  case hy => (intro W hW; obtain ⟨qb, qz, qf, q0, q1, q2, q3, q4, q5, q6, q7, q8, q9, q10, q11⟩ := hW; go_simp; try (with_reducible rfl))
  try simp only [Act.put, List.setIfInBounds_toArray, List.set_cons_zero, List.set_cons_succ, List.getElem_toArray, List.getElem_cons_succ, List.getElem_cons_zero]
  refine' wpAnyH_take (i := 9) (v := _) rfl (by kernel_rfl) (by kernel_rfl) (by kernel_rfl) (fun _ _ _ h => h) (Or.inl ⟨by kernel_rfl, ?hy⟩) (by assumption) ?_
  case hy => (intro W hW; obtain ⟨qb, qz, qf, q0, q1, q2, q3, q4, q5, q6, q7, q8, q9, q10, q11⟩ := hW; go_simp; try (with_reducible rfl))
  try simp only [Act.put, List.setIfInBounds_toArray, List.set_cons_zero, List.set_cons_succ, List.getElem_toArray, List.getElem_cons_succ, List.getElem_cons_zero]
  refine' wpAnyH_take (i := 10) (v := _) rfl (by kernel_rfl) (by kernel_rfl) (by kernel_rfl) (fun _ _ _ h => h) (Or.inl ⟨by kernel_rfl, ?hy⟩) (by assumption) ?_
  case hy => (intro W hW; obtain ⟨qb, qz, qf, q0, q1, q2, q3, q4, q5, q6, q7, q8, q9, q10, q11⟩ := hW; go_simp; try (with_reducible rfl))
  try simp only [Act.put, List.setIfInBounds_toArray, List.set_cons_zero, List.set_cons_succ, List.getElem_toArray, List.getElem_cons_succ, List.getElem_cons_zero]
  refine' wpAnyH_take (i := 12) (v := _) rfl (by kernel_rfl) (by kernel_rfl) (by kernel_rfl) (fun _ _ _ h => h) (Or.inl ⟨by kernel_rfl, ?hy⟩) (by assumption) ?_
  case hy => (intro W hW; obtain ⟨qb, qz, qf, q0, q1, q2, q3, q4, q5, q6, q7, q8, q9, q10, q11⟩ := hW; go_simp; try (with_reducible rfl))
  try simp only [Act.put, List.setIfInBounds_toArray, List.set_cons_zero, List.set_cons_succ, List.getElem_toArray, List.getElem_cons_succ, List.getElem_cons_zero]
  refine' wpAnyH_take (i := 13) (v := _) rfl (by kernel_rfl) (by kernel_rfl) (by kernel_rfl) (fun _ _ _ h => h) (Or.inl ⟨by kernel_rfl, ?hy⟩) (by assumption) ?_
  case hy => (intro W hW; obtain ⟨qb, qz, qf, q0, q1, q2, q3, q4, q5, q6, q7, q8, q9, q10, q11⟩ := hW; go_simp; try (with_reducible rfl))
  try simp only [Act.put, List.setIfInBounds_toArray, List.set_cons_zero, List.set_cons_succ, List.getElem_toArray, List.getElem_cons_succ, List.getElem_cons_zero]
  refine' wpAnyH_take (i := 14) (v := _) rfl (by kernel_rfl) (by kernel_rfl) (by kernel_rfl) (fun _ _ _ h => h) (Or.inl ⟨by kernel_rfl, ?hy⟩) (by assumption) ?_
  case hy => (intro W hW; obtain ⟨qb, qz, qf, q0, q1, q2, q3, q4, q5, q6, q7, q8, q9, q10, q11⟩ := hW; go_simp; try (with_reducible rfl))
  try simp only [Act.put, List.setIfInBounds_toArray, List.set_cons_zero, List.set_cons_succ, List.getElem_toArray, List.getElem_cons_succ, List.getElem_cons_zero]
  refine' wpAnyH_take (i := 15) (v := _) rfl (by kernel_rfl) (by kernel_rfl) (by kernel_rfl) (fun _ _ _ h => h) (Or.inl ⟨by kernel_rfl, ?hy⟩) (by assumption) ?_
  case hy => (intro W hW; obtain ⟨qb, qz, qf, q0, q1, q2, q3, q4, q5, q6, q7, q8, q9, q10, q11⟩ := hW; go_simp; try (with_reducible rfl))
  try simp only [Act.put, List.setIfInBounds_toArray, List.set_cons_zero, List.set_cons_succ, List.getElem_toArray, List.getElem_cons_succ, List.getElem_cons_zero]
  refine' wpAnyH_take (i := 16) (v := _) rfl (by kernel_rfl) (by kernel_rfl) (by kernel_rfl) (fun _ _ _ h => h) (Or.inl ⟨by kernel_rfl, ?hy⟩) (by assumption) ?_
  case hy => (intro W hW; obtain ⟨qb, qz, qf, q0, q1, q2, q3, q4, q5, q6, q7, q8, q9, q10, q11⟩ := hW; go_simp; try (with_reducible rfl))
  try simp only [Act.put, List.setIfInBounds_toArray, List.set_cons_zero, List.set_cons_succ, List.getElem_toArray, List.getElem_cons_succ, List.getElem_cons_zero]
  refine wpAnyH_ready (rs := [5]) (by kernel_rfl) (by simp) ?_
  refine AllReadyH.cons rfl (fun K hK => ?_) AllReadyH.nil
  go_simp
  refine (K0.out _).mono ?_
  rintro e wr0 ⟨rfl, hbr0⟩
  refine hK.out _ _ (RnS.below hH hbr0) (fun hH0 => ?_)
  clear hK
  try simp only [Act.put, List.setIfInBounds_toArray, List.set_cons_zero, List.set_cons_succ, List.getElem_toArray, List.getElem_cons_succ, List.getElem_cons_zero]
  refine wpAnyH_ready (rs := [11]) (by kernel_rfl) (by simp) ?_
  refine AllReadyH.cons rfl (fun K hK => ?_) AllReadyH.nil
  go_simp
  refine (K1.out _).mono ?_
  rintro e wr1 ⟨rfl, hbr1⟩
  refine hK.out _ _ (RnS.below hH0 hbr1) (fun hH1 => ?_)
  clear hK
  try simp only [Act.put, List.setIfInBounds_toArray, List.set_cons_zero, List.set_cons_succ, List.getElem_toArray, List.getElem_cons_succ, List.getElem_cons_zero]
  refine wpAnyH_ready (rs := [17]) (by kernel_rfl) (by simp) ?_
  refine AllReadyH.cons rfl (fun K hK => ?_) AllReadyH.nil
  go_simp
  refine (K2.out _).mono ?_
  rintro e wr2 ⟨rfl, hbr2⟩
  refine hK.out _ _ (RnS.below hH1 hbr2) (fun hH2 => ?_)
  clear hK
  try simp only [Act.put, List.setIfInBounds_toArray, List.set_cons_zero, List.set_cons_succ, List.getElem_toArray, List.getElem_cons_succ, List.getElem_cons_zero]
  refine' wpAnyH_take (i := 18) (v := _) rfl (by kernel_rfl) (by kernel_rfl) (by kernel_rfl) (fun _ _ _ h => h) (Or.inl ⟨by kernel_rfl, ?hy⟩) (by assumption) ?_
  case hy => (intro W hW; obtain ⟨qb, qz, qf, q0, q1, q2, q3, q4, q5, q6, q7, q8, q9, q10, q11⟩ := hW; go_simp; try (with_reducible rfl))
  try simp only [Act.put, List.setIfInBounds_toArray, List.set_cons_zero, List.set_cons_succ, List.getElem_toArray, List.getElem_cons_succ, List.getElem_cons_zero]
  obtain ⟨sb, sz, sf, -⟩ := id hH2
  obtain ⟨⟨c0, g0⟩, k0⟩ := sf 0 (by decide)
  obtain ⟨⟨c1, g1⟩, k1⟩ := sf 1 (by decide)
  obtain ⟨⟨c2, g2⟩, k2⟩ := sf 2 (by decide)
  obtain ⟨⟨c3, g3⟩, k3⟩ := sf 3 (by decide)
  obtain ⟨⟨c4, g4⟩, k4⟩ := sf 4 (by decide)
  obtain ⟨⟨c5, g5⟩, k5⟩ := sf 5 (by decide)
  obtain ⟨⟨c6, g6⟩, k6⟩ := sf 6 (by decide)
  obtain ⟨⟨c7, g7⟩, k7⟩ := sf 7 (by decide)
  obtain ⟨⟨c8, g8⟩, k8⟩ := sf 8 (by decide)
  refine wpAnyH_ready (rs := [19]) (by kernel_rfl) (by simp) ?_
  refine AllReadyH.cons rfl (fun K hK => ?_) AllReadyH.nil
  go_simp
  refine hK.out _ _ (((((((((RnS.set _ hH2).set _).set _).set _).set _).set _).set _).set _).set _) (fun hHF => ?_)
  clear hK
  try simp only [Act.put, List.setIfInBounds_toArray, List.set_cons_zero, List.set_cons_succ, List.getElem_toArray, List.getElem_cons_succ, List.getElem_cons_zero]
  refine wpAnyH_done (by kernel_rfl) ?_ _
  clear hH hH0 hH1 hH2 hHF
  go_wp2
  have s0 := seto (b' := w.heap.size + 1 + 1) (o' := 8) (.int .i64 (-x2)) (by omega) (seto (b' := w.heap.size + 1 + 1) (o' := 7) (.int .i64 (-x1)) (by omega) (seto (b' := w.heap.size + 1 + 1) (o' := 6) (.int .i64 (-x0)) (by omega) (seto (b' := w.heap.size + 1 + 1) (o' := 5) (.int .i64 (-x5)) (by omega) (seto (b' := w.heap.size + 1 + 1) (o' := 4) (.int .i64 (-x4)) (by omega) (seto (b' := w.heap.size + 1 + 1) (o' := 3) (.int .i64 (-x3)) (by omega) (seto (b' := w.heap.size + 1 + 1) (o' := 2) (.int .i64 (-x8)) (by omega) (seto (b' := w.heap.size + 1 + 1) (o' := 1) (.int .i64 (-x7)) (by omega) (setc (.int .i64 (-x6)) g0))))))))
  have s1 := seto (b' := w.heap.size + 1 + 1) (o' := 8) (.int .i64 (-x2)) (by omega) (seto (b' := w.heap.size + 1 + 1) (o' := 7) (.int .i64 (-x1)) (by omega) (seto (b' := w.heap.size + 1 + 1) (o' := 6) (.int .i64 (-x0)) (by omega) (seto (b' := w.heap.size + 1 + 1) (o' := 5) (.int .i64 (-x5)) (by omega) (seto (b' := w.heap.size + 1 + 1) (o' := 4) (.int .i64 (-x4)) (by omega) (seto (b' := w.heap.size + 1 + 1) (o' := 3) (.int .i64 (-x3)) (by omega) (seto (b' := w.heap.size + 1 + 1) (o' := 2) (.int .i64 (-x8)) (by omega) (setc (.int .i64 (-x7)) (seto (b' := w.heap.size + 1 + 1) (o' := 0) (.int .i64 (-x6)) (by omega) g1))))))))
  have s2 := seto (b' := w.heap.size + 1 + 1) (o' := 8) (.int .i64 (-x2)) (by omega) (seto (b' := w.heap.size + 1 + 1) (o' := 7) (.int .i64 (-x1)) (by omega) (seto (b' := w.heap.size + 1 + 1) (o' := 6) (.int .i64 (-x0)) (by omega) (seto (b' := w.heap.size + 1 + 1) (o' := 5) (.int .i64 (-x5)) (by omega) (seto (b' := w.heap.size + 1 + 1) (o' := 4) (.int .i64 (-x4)) (by omega) (seto (b' := w.heap.size + 1 + 1) (o' := 3) (.int .i64 (-x3)) (by omega) (setc (.int .i64 (-x8)) (seto (b' := w.heap.size + 1 + 1) (o' := 1) (.int .i64 (-x7)) (by omega) (seto (b' := w.heap.size + 1 + 1) (o' := 0) (.int .i64 (-x6)) (by omega) g2))))))))
  have s3 := seto (b' := w.heap.size + 1 + 1) (o' := 8) (.int .i64 (-x2)) (by omega) (seto (b' := w.heap.size + 1 + 1) (o' := 7) (.int .i64 (-x1)) (by omega) (seto (b' := w.heap.size + 1 + 1) (o' := 6) (.int .i64 (-x0)) (by omega) (seto (b' := w.heap.size + 1 + 1) (o' := 5) (.int .i64 (-x5)) (by omega) (seto (b' := w.heap.size + 1 + 1) (o' := 4) (.int .i64 (-x4)) (by omega) (setc (.int .i64 (-x3)) (seto (b' := w.heap.size + 1 + 1) (o' := 2) (.int .i64 (-x8)) (by omega) (seto (b' := w.heap.size + 1 + 1) (o' := 1) (.int .i64 (-x7)) (by omega) (seto (b' := w.heap.size + 1 + 1) (o' := 0) (.int .i64 (-x6)) (by omega) g3))))))))
  have s4 := seto (b' := w.heap.size + 1 + 1) (o' := 8) (.int .i64 (-x2)) (by omega) (seto (b' := w.heap.size + 1 + 1) (o' := 7) (.int .i64 (-x1)) (by omega) (seto (b' := w.heap.size + 1 + 1) (o' := 6) (.int .i64 (-x0)) (by omega) (seto (b' := w.heap.size + 1 + 1) (o' := 5) (.int .i64 (-x5)) (by omega) (setc (.int .i64 (-x4)) (seto (b' := w.heap.size + 1 + 1) (o' := 3) (.int .i64 (-x3)) (by omega) (seto (b' := w.heap.size + 1 + 1) (o' := 2) (.int .i64 (-x8)) (by omega) (seto (b' := w.heap.size + 1 + 1) (o' := 1) (.int .i64 (-x7)) (by omega) (seto (b' := w.heap.size + 1 + 1) (o' := 0) (.int .i64 (-x6)) (by omega) g4))))))))
  have s5 := seto (b' := w.heap.size + 1 + 1) (o' := 8) (.int .i64 (-x2)) (by omega) (seto (b' := w.heap.size + 1 + 1) (o' := 7) (.int .i64 (-x1)) (by omega) (seto (b' := w.heap.size + 1 + 1) (o' := 6) (.int .i64 (-x0)) (by omega) (setc (.int .i64 (-x5)) (seto (b' := w.heap.size + 1 + 1) (o' := 4) (.int .i64 (-x4)) (by omega) (seto (b' := w.heap.size + 1 + 1) (o' := 3) (.int .i64 (-x3)) (by omega) (seto (b' := w.heap.size + 1 + 1) (o' := 2) (.int .i64 (-x8)) (by omega) (seto (b' := w.heap.size + 1 + 1) (o' := 1) (.int .i64 (-x7)) (by omega) (seto (b' := w.heap.size + 1 + 1) (o' := 0) (.int .i64 (-x6)) (by omega) g5))))))))
  have s6 := seto (b' := w.heap.size + 1 + 1) (o' := 8) (.int .i64 (-x2)) (by omega) (seto (b' := w.heap.size + 1 + 1) (o' := 7) (.int .i64 (-x1)) (by omega) (setc (.int .i64 (-x0)) (seto (b' := w.heap.size + 1 + 1) (o' := 5) (.int .i64 (-x5)) (by omega) (seto (b' := w.heap.size + 1 + 1) (o' := 4) (.int .i64 (-x4)) (by omega) (seto (b' := w.heap.size + 1 + 1) (o' := 3) (.int .i64 (-x3)) (by omega) (seto (b' := w.heap.size + 1 + 1) (o' := 2) (.int .i64 (-x8)) (by omega) (seto (b' := w.heap.size + 1 + 1) (o' := 1) (.int .i64 (-x7)) (by omega) (seto (b' := w.heap.size + 1 + 1) (o' := 0) (.int .i64 (-x6)) (by omega) g6))))))))
  have s7 := seto (b' := w.heap.size + 1 + 1) (o' := 8) (.int .i64 (-x2)) (by omega) (setc (.int .i64 (-x1)) (seto (b' := w.heap.size + 1 + 1) (o' := 6) (.int .i64 (-x0)) (by omega) (seto (b' := w.heap.size + 1 + 1) (o' := 5) (.int .i64 (-x5)) (by omega) (seto (b' := w.heap.size + 1 + 1) (o' := 4) (.int .i64 (-x4)) (by omega) (seto (b' := w.heap.size + 1 + 1) (o' := 3) (.int .i64 (-x3)) (by omega) (seto (b' := w.heap.size + 1 + 1) (o' := 2) (.int .i64 (-x8)) (by omega) (seto (b' := w.heap.size + 1 + 1) (o' := 1) (.int .i64 (-x7)) (by omega) (seto (b' := w.heap.size + 1 + 1) (o' := 0) (.int .i64 (-x6)) (by omega) g7))))))))
  have s8 := setc (.int .i64 (-x2)) (seto (b' := w.heap.size + 1 + 1) (o' := 7) (.int .i64 (-x1)) (by omega) (seto (b' := w.heap.size + 1 + 1) (o' := 6) (.int .i64 (-x0)) (by omega) (seto (b' := w.heap.size + 1 + 1) (o' := 5) (.int .i64 (-x5)) (by omega) (seto (b' := w.heap.size + 1 + 1) (o' := 4) (.int .i64 (-x4)) (by omega) (seto (b' := w.heap.size + 1 + 1) (o' := 3) (.int .i64 (-x3)) (by omega) (seto (b' := w.heap.size + 1 + 1) (o' := 2) (.int .i64 (-x8)) (by omega) (seto (b' := w.heap.size + 1 + 1) (o' := 1) (.int .i64 (-x7)) (by omega) (seto (b' := w.heap.size + 1 + 1) (o' := 0) (.int .i64 (-x6)) (by omega) g8))))))))
  refine bodyPost_ret (by simp [results, Tryd.results34, go_sem, s0, s1, s2, s3, s4, s5, s6, s7, s8]; try rfl) rfl ?_
  exact ⟨by rfl, by (repeat' (first | (with_reducible exact Below.refl _ _) | (with_reducible assumption) | (with_reducible refine Below.drew ?_) | (with_reducible refine belowQ ?_) | (with_reducible refine Below.setCell ?_ ?_ _) | (with_reducible refine Below.alloc ?_ ?_ _) | omega | (dsimp only; omega) | (simp; done) | (simp; omega)))⟩
set_option maxRecDepth 100000 in
set_option maxHeartbeats 8000000 in
theorem rrenamed_2 (x0 x1 x2 x3 x4 x5 x6 x7 x8 : Int) (w : World) (h0 : Lim x0) (h1 : Lim x1) (h2 : Lim x2) (h3 : Lim x3) (h4 : Lim x4) (h5 : Lim x5) (h6 : Lim x6) (h7 : Lim x7) (h8 : Lim x8) :
    Calls Tryd.prog 34 #[.agg #[.int .i64 x0, .int .i64 x1, .int .i64 x2, .int .i64 x3, .int .i64 x4, .int .i64 x5, .int .i64 x6, .int .i64 x7, .int .i64 x8], .agg #[.int .i64 1, .int .i64 0, .int .i64 2]] w fun e w' => e = .returned (.agg #[.int .i64 (-x0), .int .i64 (-x1), .int .i64 (-x2), .int .i64 (-x6), .int .i64 (-x7), .int .i64 (-x8), .int .i64 (-x3), .int .i64 (-x4), .int .i64 (-x5)]) ∧ Below w.heap.size w w' := by
  have K0 := Lib.hid (fun w => voltage_10 x0 x1 x2 x3 x4 x5 x6 x7 x8 w h0 h1 h2 h3 h4 h5 h6 h7 h8)
  have K1 := Lib.hid (fun w => voltage_02 x0 x1 x2 x3 x4 x5 x6 x7 x8 w h0 h1 h2 h3 h4 h5 h6 h7 h8)
  have K2 := Lib.hid (fun w => voltage_21 x0 x1 x2 x3 x4 x5 x6 x7 x8 w h0 h1 h2 h3 h4 h5 h6 h7 h8)
  clear h0 h1 h2 h3 h4 h5 h6 h7 h8
  go_enter Tryd.func34, Tryd.ntmps34
  go_wp2_with fail
  refine wp_region_held_drew (S := RnS x0 x1 x2 x3 x4 x5 x6 x7 x8 1 0 2 w) (by kernel_rfl) ?hS (fun hH => ?_)
  case hS =>
    refine ⟨by go_grown, by simp, fun j hj => ?_, by go_simp, by go_simp, by go_simp, by go_simp, by go_simp, by go_simp, by go_simp, by go_simp, by go_simp, by go_simp, by go_simp, by go_simp⟩
    obtain rfl | rfl | rfl | rfl | rfl | rfl | rfl | rfl | rfl : j = 0 ∨ j = 1 ∨ j = 2 ∨ j = 3 ∨ j = 4 ∨ j = 5 ∨ j = 6 ∨ j = 7 ∨ j = 8 := by omega
    all_goals exact ⟨⟨.int .i64 0, by go_simp⟩, by go_simp⟩
  refine' wpAnyH_take (i := 0) (v := _) rfl (by kernel_rfl) (by kernel_rfl) (by kernel_rfl) (fun _ _ _ h => h) (Or.inl ⟨by kernel_rfl, ?hy⟩) (by assumption) ?_
  case hy => (intro W hW; obtain ⟨qb, qz, qf, q0, q1, q2, q3, q4, q5, q6, q7, q8, q9, q10, q11⟩ := hW; go_simp; try (with_reducible rfl))
  try simp only [Act.put, List.setIfInBounds_toArray, List.set_cons_zero, List.set_cons_succ, List.getElem_toArray, List.getElem_cons_zero]
  refine' wpAnyH_take (i := 1) (v := _) rfl (by kernel_rfl) (by kernel_rfl) (by kernel_rfl) (fun _ _ _ h => h) (Or.inl ⟨by kernel_rfl, ?hy⟩) (by assumption) ?_
  case hy => (intro W hW; obtain ⟨qb, qz, qf, q0, q1, q2, q3, q4, q5, q6, q7, q8, q9, q10, q11⟩ := hW; go_simp; try (with_reducible rfl))
  try simp only [Act.put, List.setIfInBounds_toArray, List.set_cons_zero, List.set_cons_succ, List.getElem_toArray, List.getElem_cons_succ, List.getElem_cons_zero]
  refine' wpAnyH_take (i := 2) (v := _) rfl (by kernel_rfl) (by kernel_rfl) (by kernel_rfl) (fun _ _ _ h => h) (Or.inl ⟨by kernel_rfl, ?hy⟩) (by assumption) ?_
  case hy => (intro W hW; obtain ⟨qb, qz, qf, q0, q1, q2, q3, q4, q5, q6, q7, q8, q9, q10, q11⟩ := hW; go_simp; try (with_reducible rfl))
  try simp only [Act.put, List.setIfInBounds_toArray, List.set_cons_zero, List.set_cons_succ, List.getElem_toArray, List.getElem_cons_succ, List.getElem_cons_zero]
  refine' wpAnyH_take (i := 3) (v := _) rfl (by kernel_rfl) (by kernel_rfl) (by kernel_rfl) (fun _ _ _ h => h) (Or.inl ⟨by kernel_rfl, ?hy⟩) (by assumption) ?_
  case hy => (intro W hW; obtain ⟨qb, qz, qf, q0, q1, q2, q3, q4, q5, q6, q7, q8, q9, q10, q11⟩ := hW; go_simp; try (with_reducible rfl))
  try simp only [Act.put, List.setIfInBounds_toArray, List.set_cons_zero, List.set_cons_succ, List.getElem_toArray, List.getElem_cons_succ, List.getElem_cons_zero]
  refine' wpAnyH_take (i := 4) (v := _) rfl (by kernel_rfl) (by kernel_rfl) (by kernel_rfl) (fun _ _ _ h => h) (Or.inl ⟨by kernel_rfl, ?hy⟩) (by assumption) ?_
  case hy => (intro W hW; obtain ⟨qb, qz, qf, q0, q1, q2, q3, q4, q5, q6, q7, q8, q9, q10, q11⟩ := hW; go_simp; try (with_reducible rfl))
  try simp only [Act.put, List.setIfInBounds_toArray, List.set_cons_zero, List.set_cons_succ, List.getElem_toArray, List.getElem_cons_succ, List.getElem_cons_zero]
  refine' wpAnyH_take (i := 6) (v := _) rfl (by kernel_rfl) (by kernel_rfl) (by kernel_rfl) (fun _ _ _ h => h) (Or.inl ⟨by kernel_rfl, ?hy⟩) (by assumption) ?_
  case hy => (intro W hW; obtain ⟨qb, qz, qf, q0, q1, q2, q3, q4, q5, q6, q7, q8, q9, q10, q11⟩ := hW; go_simp; try (with_reducible rfl))
  try simp only [Act.put, List.setIfInBounds_toArray, List.set_cons_zero, List.set_cons_succ, List.getElem_toArray, List.getElem_cons_succ, List.getElem_cons_zero]
  refine' wpAnyH_take (i := 7) (v := _) rfl (by kernel_rfl) (by kernel_rfl) (by kernel_rfl) (fun _ _ _ h => h) (Or.inl ⟨by kernel_rfl, ?hy⟩) (by assumption) ?_
  case hy => (intro W hW; obtain ⟨qb, qz, qf, q0, q1, q2, q3, q4, q5, q6, q7, q8, q9, q10, q11⟩ := hW; go_simp; try (with_reducible rfl))
  try simp only [Act.put, List.setIfInBounds_toArray, List.set_cons_zero, List.set_cons_succ, List.getElem_toArray, List.getElem_cons_succ, List.getElem_cons_zero]
  refine' wpAnyH_take (i := 8) (v := _) rfl (by kernel_rfl) (by kernel_rfl) (by kernel_rfl) (fun _ _ _ h => h) (Or.inl ⟨by kernel_rfl, ?hy⟩) (by assumption) ?_
  case hy => (intro W hW; obtain ⟨qb, qz, qf, q0, q1, q2, q3, q4, q5, q6, q7, q8, q9, q10, q11⟩ := hW; go_simp; try (with_reducible rfl))
  try simp only [Act.put, List.setIfInBounds_toArray, List.set_cons_zero, List.set_cons_succ, List.getElem_toArray, List.getElem_cons_succ, List.getElem_cons_zero]
  refine' wpAnyH_take (i := 9) (v := _) rfl (by kernel_rfl) (by kernel_rfl) (by kernel_rfl) (fun _ _ _ h => h) (Or.inl ⟨by kernel_rfl, ?hy⟩) (by assumption) ?_
  case hy => (intro W hW; obtain ⟨qb, qz, qf, q0, q1, q2, q3, q4, q5, q6, q7, q8, q9, q10, q11⟩ := hW; go_simp; try (with_reducible rfl))
  try simp only [Act.put, List.setIfInBounds_toArray, List.set_cons_zero, List.set_cons_succ, List.getElem_toArray, List.getElem_cons_succ, List.getElem_cons_zero]
  refine' wpAnyH_take (i := 10) (v := _) rfl (by kernel_rfl) (by kernel_rfl) (by kernel_rfl) (fun _ _ _ h => h) (Or.inl ⟨by kernel_rfl, ?hy⟩) (by assumption) ?_
  case hy => (intro W hW; obtain ⟨qb, qz, qf, q0, q1, q2, q3, q4, q5, q6, q7, q8, q9, q10, q11⟩ := hW; go_simp; try (with_reducible rfl))
  try simp only [Act.put, List.setIfInBounds_toArray, List.set_cons_zero, List.set_cons_succ, List.getElem_toArray, List.getElem_cons_succ, List.getElem_cons_zero]
  refine' wpAnyH_take (i := 12) (v := _) rfl (by kernel_rfl) (by kernel_rfl) (by kernel_rfl) (fun _ _ _ h => h) (Or.inl ⟨by kernel_rfl, ?hy⟩) (by assumption) ?_
  case hy => (intro W hW; obtain ⟨qb, qz, qf, q0, q1, q2, q3, q4, q5, q6, q7, q8, q9, q10, q11⟩ := hW; go_simp; try (with_reducible rfl))
  try simp only [Act.put, List.setIfInBounds_toArray, List.set_cons_zero, List.set_cons_succ, List.getElem_toArray, List.getElem_cons_succ, List.getElem_cons_zero]
  refine' wpAnyH_take (i := 13) (v := _) rfl (by kernel_rfl) (by kernel_rfl) (by kernel_rfl) (fun _ _ _ h => h) (Or.inl ⟨by kernel_rfl, ?hy⟩) (by assumption) ?_
  case hy => (intro W hW; obtain ⟨qb, qz, qf, q0, q1, q2, q3, q4, q5, q6, q7, q8, q9, q10, q11⟩ := hW; go_simp; try (with_reducible rfl))
  try simp only [Act.put, List.setIfInBounds_toArray, List.set_cons_zero, List.set_cons_succ, List.getElem_toArray, List.getElem_cons_succ, List.getElem_cons_zero]
  refine' wpAnyH_take (i := 14) (v := _) rfl (by kernel_rfl) (by kernel_rfl) (by kernel_rfl) (fun _ _ _ h => h) (Or.inl ⟨by kernel_rfl, ?hy⟩) (by assumption) ?_
  case hy => (intro W hW; obtain ⟨qb, qz, qf, q0, q1, q2, q3, q4, q5, q6, q7, q8, q9, q10, q11⟩ := hW; go_simp; try (with_reducible rfl))
  try simp only [Act.put, List.setIfInBounds_toArray, List.set_cons_zero, List.set_cons_succ, List.getElem_toArray, List.getElem_cons_succ, List.getElem_cons_zero]
  refine' wpAnyH_take (i := 15) (v := _) rfl (by kernel_rfl) (by kernel_rfl) (by kernel_rfl) (fun _ _ _ h => h) (Or.inl ⟨by kernel_rfl, ?hy⟩) (by assumption) ?_
  case hy => (intro W hW; obtain ⟨qb, qz, qf, q0, q1, q2, q3, q4, q5, q6, q7, q8, q9, q10, q11⟩ := hW; go_simp; try (with_reducible rfl))
  try simp only [Act.put, List.setIfInBounds_toArray, List.set_cons_zero, List.set_cons_succ, List.getElem_toArray, List.getElem_cons_succ, List.getElem_cons_zero]
  refine' wpAnyH_take (i := 16) (v := _) rfl (by kernel_rfl) (by kernel_rfl) (by kernel_rfl) (fun _ _ _ h => h) (Or.inl ⟨by kernel_rfl, ?hy⟩) (by assumption) ?_
  case hy => (intro W hW; obtain ⟨qb, qz, qf, q0, q1, q2, q3, q4, q5, q6, q7, q8, q9, q10, q11⟩ := hW; go_simp; try (with_reducible rfl))
  try simp only [Act.put, List.setIfInBounds_toArray, List.set_cons_zero, List.set_cons_succ, List.getElem_toArray, List.getElem_cons_succ, List.getElem_cons_zero]
  refine wpAnyH_ready (rs := [5]) (by kernel_rfl) (by simp) ?_
  refine AllReadyH.cons rfl (fun K hK => ?_) AllReadyH.nil
  go_simp
  refine (K0.out _).mono ?_
  rintro e wr0 ⟨rfl, hbr0⟩
  refine hK.out _ _ (RnS.below hH hbr0) (fun hH0 => ?_)
  clear hK
  try simp only [Act.put, List.setIfInBounds_toArray, List.set_cons_zero, List.set_cons_succ, List.getElem_toArray, List.getElem_cons_succ, List.getElem_cons_zero]
  refine wpAnyH_ready (rs := [11]) (by kernel_rfl) (by simp) ?_
  refine AllReadyH.cons rfl (fun K hK => ?_) AllReadyH.nil
  go_simp
  refine (K1.out _).mono ?_
  rintro e wr1 ⟨rfl, hbr1⟩
  refine hK.out _ _ (RnS.below hH0 hbr1) (fun hH1 => ?_)
  clear hK
  try simp only [Act.put, List.setIfInBounds_toArray, List.set_cons_zero, List.set_cons_succ, List.getElem_toArray, List.getElem_cons_succ, List.getElem_cons_zero]
  refine wpAnyH_ready (rs := [17]) (by kernel_rfl) (by simp) ?_
  refine AllReadyH.cons rfl (fun K hK => ?_) AllReadyH.nil
  go_simp
  refine (K2.out _).mono ?_
  rintro e wr2 ⟨rfl, hbr2⟩
  refine hK.out _ _ (RnS.below hH1 hbr2) (fun hH2 => ?_)
  clear hK
  try simp only [Act.put, List.setIfInBounds_toArray, List.set_cons_zero, List.set_cons_succ, List.getElem_toArray, List.getElem_cons_succ, List.getElem_cons_zero]
  refine' wpAnyH_take (i := 18) (v := _) rfl (by kernel_rfl) (by kernel_rfl) (by kernel_rfl) (fun _ _ _ h => h) (Or.inl ⟨by kernel_rfl, ?hy⟩) (by assumption) ?_
  case hy => (intro W hW; obtain ⟨qb, qz, qf, q0, q1, q2, q3, q4, q5, q6, q7, q8, q9, q10, q11⟩ := hW; go_simp; try (with_reducible rfl))
  try simp only [Act.put, List.setIfInBounds_toArray, List.set_cons_zero, List.set_cons_succ, List.getElem_toArray, List.getElem_cons_succ, List.getElem_cons_zero]
  obtain ⟨sb, sz, sf, -⟩ := id hH2
  obtain ⟨⟨c0, g0⟩, k0⟩ := sf 0 (by decide)
  obtain ⟨⟨c1, g1⟩, k1⟩ := sf 1 (by decide)
  obtain ⟨⟨c2, g2⟩, k2⟩ := sf 2 (by decide)
  obtain ⟨⟨c3, g3⟩, k3⟩ := sf 3 (by decide)
  obtain ⟨⟨c4, g4⟩, k4⟩ := sf 4 (by decide)
  obtain ⟨⟨c5, g5⟩, k5⟩ := sf 5 (by decide)
  obtain ⟨⟨c6, g6⟩, k6⟩ := sf 6 (by decide)
  obtain ⟨⟨c7, g7⟩, k7⟩ := sf 7 (by decide)
  obtain ⟨⟨c8, g8⟩, k8⟩ := sf 8 (by decide)
  refine wpAnyH_ready (rs := [19]) (by kernel_rfl) (by simp) ?_
  refine AllReadyH.cons rfl (fun K hK => ?_) AllReadyH.nil
  go_simp
  refine hK.out _ _ (((((((((RnS.set _ hH2).set _).set _).set _).set _).set _).set _).set _).set _) (fun hHF => ?_)
  clear hK
  try simp only [Act.put, List.setIfInBounds_toArray, List.set_cons_zero, List.set_cons_succ, List.getElem_toArray, List.getElem_cons_succ, List.getElem_cons_zero]
  refine wpAnyH_done (by kernel_rfl) ?_ _
  clear hH hH0 hH1 hH2 hHF
  go_wp2
  have s0 := seto (b' := w.heap.size + 1 + 1) (o' := 8) (.int .i64 (-x5)) (by omega) (seto (b' := w.heap.size + 1 + 1) (o' := 7) (.int .i64 (-x4)) (by omega) (seto (b' := w.heap.size + 1 + 1) (o' := 6) (.int .i64 (-x3)) (by omega) (seto (b' := w.heap.size + 1 + 1) (o' := 5) (.int .i64 (-x8)) (by omega) (seto (b' := w.heap.size + 1 + 1) (o' := 4) (.int .i64 (-x7)) (by omega) (seto (b' := w.heap.size + 1 + 1) (o' := 3) (.int .i64 (-x6)) (by omega) (seto (b' := w.heap.size + 1 + 1) (o' := 2) (.int .i64 (-x2)) (by omega) (seto (b' := w.heap.size + 1 + 1) (o' := 1) (.int .i64 (-x1)) (by omega) (setc (.int .i64 (-x0)) g0))))))))
  have s1 := seto (b' := w.heap.size + 1 + 1) (o' := 8) (.int .i64 (-x5)) (by omega) (seto (b' := w.heap.size + 1 + 1) (o' := 7) (.int .i64 (-x4)) (by omega) (seto (b' := w.heap.size + 1 + 1) (o' := 6) (.int .i64 (-x3)) (by omega) (seto (b' := w.heap.size + 1 + 1) (o' := 5) (.int .i64 (-x8)) (by omega) (seto (b' := w.heap.size + 1 + 1) (o' := 4) (.int .i64 (-x7)) (by omega) (seto (b' := w.heap.size + 1 + 1) (o' := 3) (.int .i64 (-x6)) (by omega) (seto (b' := w.heap.size + 1 + 1) (o' := 2) (.int .i64 (-x2)) (by omega) (setc (.int .i64 (-x1)) (seto (b' := w.heap.size + 1 + 1) (o' := 0) (.int .i64 (-x0)) (by omega) g1))))))))
  have s2 := seto (b' := w.heap.size + 1 + 1) (o' := 8) (.int .i64 (-x5)) (by omega) (seto (b' := w.heap.size + 1 + 1) (o' := 7) (.int .i64 (-x4)) (by omega) (seto (b' := w.heap.size + 1 + 1) (o' := 6) (.int .i64 (-x3)) (by omega) (seto (b' := w.heap.size + 1 + 1) (o' := 5) (.int .i64 (-x8)) (by omega) (seto (b' := w.heap.size + 1 + 1) (o' := 4) (.int .i64 (-x7)) (by omega) (seto (b' := w.heap.size + 1 + 1) (o' := 3) (.int .i64 (-x6)) (by omega) (setc (.int .i64 (-x2)) (seto (b' := w.heap.size + 1 + 1) (o' := 1) (.int .i64 (-x1)) (by omega) (seto (b' := w.heap.size + 1 + 1) (o' := 0) (.int .i64 (-x0)) (by omega) g2))))))))
  have s3 := seto (b' := w.heap.size + 1 + 1) (o' := 8) (.int .i64 (-x5)) (by omega) (seto (b' := w.heap.size + 1 + 1) (o' := 7) (.int .i64 (-x4)) (by omega) (seto (b' := w.heap.size + 1 + 1) (o' := 6) (.int .i64 (-x3)) (by omega) (seto (b' := w.heap.size + 1 + 1) (o' := 5) (.int .i64 (-x8)) (by omega) (seto (b' := w.heap.size + 1 + 1) (o' := 4) (.int .i64 (-x7)) (by omega) (setc (.int .i64 (-x6)) (seto (b' := w.heap.size + 1 + 1) (o' := 2) (.int .i64 (-x2)) (by omega) (seto (b' := w.heap.size + 1 + 1) (o' := 1) (.int .i64 (-x1)) (by omega) (seto (b' := w.heap.size + 1 + 1) (o' := 0) (.int .i64 (-x0)) (by omega) g3))))))))
  have s4 := seto (b' := w.heap.size + 1 + 1) (o' := 8) (.int .i64 (-x5)) (by omega) (seto (b' := w.heap.size + 1 + 1) (o' := 7) (.int .i64 (-x4)) (by omega) (seto (b' := w.heap.size + 1 + 1) (o' := 6) (.int .i64 (-x3)) (by omega) (seto (b' := w.heap.size + 1 + 1) (o' := 5) (.int .i64 (-x8)) (by omega) (setc (.int .i64 (-x7)) (seto (b' := w.heap.size + 1 + 1) (o' := 3) (.int .i64 (-x6)) (by omega) (seto (b' := w.heap.size + 1 + 1) (o' := 2) (.int .i64 (-x2)) (by omega) (seto (b' := w.heap.size + 1 + 1) (o' := 1) (.int .i64 (-x1)) (by omega) (seto (b' := w.heap.size + 1 + 1) (o' := 0) (.int .i64 (-x0)) (by omega) g4))))))))
  have s5 := seto (b' := w.heap.size + 1 + 1) (o' := 8) (.int .i64 (-x5)) (by omega) (seto (b' := w.heap.size + 1 + 1) (o' := 7) (.int .i64 (-x4)) (by omega) (seto (b' := w.heap.size + 1 + 1) (o' := 6) (.int .i64 (-x3)) (by omega) (setc (.int .i64 (-x8)) (seto (b' := w.heap.size + 1 + 1) (o' := 4) (.int .i64 (-x7)) (by omega) (seto (b' := w.heap.size + 1 + 1) (o' := 3) (.int .i64 (-x6)) (by omega) (seto (b' := w.heap.size + 1 + 1) (o' := 2) (.int .i64 (-x2)) (by omega) (seto (b' := w.heap.size + 1 + 1) (o' := 1) (.int .i64 (-x1)) (by omega) (seto (b' := w.heap.size + 1 + 1) (o' := 0) (.int .i64 (-x0)) (by omega) g5))))))))
  have s6 := seto (b' := w.heap.size + 1 + 1) (o' := 8) (.int .i64 (-x5)) (by omega) (seto (b' := w.heap.size + 1 + 1) (o' := 7) (.int .i64 (-x4)) (by omega) (setc (.int .i64 (-x3)) (seto (b' := w.heap.size + 1 + 1) (o' := 5) (.int .i64 (-x8)) (by omega) (seto (b' := w.heap.size + 1 + 1) (o' := 4) (.int .i64 (-x7)) (by omega) (seto (b' := w.heap.size + 1 + 1) (o' := 3) (.int .i64 (-x6)) (by omega) (seto (b' := w.heap.size + 1 + 1) (o' := 2) (.int .i64 (-x2)) (by omega) (seto (b' := w.heap.size + 1 + 1) (o' := 1) (.int .i64 (-x1)) (by omega) (seto (b' := w.heap.size + 1 + 1) (o' := 0) (.int .i64 (-x0)) (by omega) g6))))))))
  have s7 := seto (b' := w.heap.size + 1 + 1) (o' := 8) (.int .i64 (-x5)) (by omega) (setc (.int .i64 (-x4)) (seto (b' := w.heap.size + 1 + 1) (o' := 6) (.int .i64 (-x3)) (by omega) (seto (b' := w.heap.size + 1 + 1) (o' := 5) (.int .i64 (-x8)) (by omega) (seto (b' := w.heap.size + 1 + 1) (o' := 4) (.int .i64 (-x7)) (by omega) (seto (b' := w.heap.size + 1 + 1) (o' := 3) (.int .i64 (-x6)) (by omega) (seto (b' := w.heap.size + 1 + 1) (o' := 2) (.int .i64 (-x2)) (by omega) (seto (b' := w.heap.size + 1 + 1) (o' := 1) (.int .i64 (-x1)) (by omega) (seto (b' := w.heap.size + 1 + 1) (o' := 0) (.int .i64 (-x0)) (by omega) g7))))))))
  have s8 := setc (.int .i64 (-x5)) (seto (b' := w.heap.size + 1 + 1) (o' := 7) (.int .i64 (-x4)) (by omega) (seto (b' := w.heap.size + 1 + 1) (o' := 6) (.int .i64 (-x3)) (by omega) (seto (b' := w.heap.size + 1 + 1) (o' := 5) (.int .i64 (-x8)) (by omega) (seto (b' := w.heap.size + 1 + 1) (o' := 4) (.int .i64 (-x7)) (by omega) (seto (b' := w.heap.size + 1 + 1) (o' := 3) (.int .i64 (-x6)) (by omega) (seto (b' := w.heap.size + 1 + 1) (o' := 2) (.int .i64 (-x2)) (by omega) (seto (b' := w.heap.size + 1 + 1) (o' := 1) (.int .i64 (-x1)) (by omega) (seto (b' := w.heap.size + 1 + 1) (o' := 0) (.int .i64 (-x0)) (by omega) g8))))))))
  refine bodyPost_ret (by simp [results, Tryd.results34, go_sem, s0, s1, s2, s3, s4, s5, s6, s7, s8]; try rfl) rfl ?_
  exact ⟨by rfl, by (repeat' (first | (with_reducible exact Below.refl _ _) | (with_reducible assumption) | (with_reducible refine Below.drew ?_) | (with_reducible refine belowQ ?_) | (with_reducible refine Below.setCell ?_ ?_ _) | (with_reducible refine Below.alloc ?_ ?_ _) | omega | (dsimp only; omega) | (simp; done) | (simp; omega)))⟩
set_option maxRecDepth 100000 in
set_option maxHeartbeats 8000000 in
theorem rrenamed_3 (x0 x1 x2 x3 x4 x5 x6 x7 x8 : Int) (w : World) (h0 : Lim x0) (h1 : Lim x1) (h2 : Lim x2) (h3 : Lim x3) (h4 : Lim x4) (h5 : Lim x5) (h6 : Lim x6) (h7 : Lim x7) (h8 : Lim x8) :
    Calls Tryd.prog 34 #[.agg #[.int .i64 x0, .int .i64 x1, .int .i64 x2, .int .i64 x3, .int .i64 x4, .int .i64 x5, .int .i64 x6, .int .i64 x7, .int .i64 x8], .agg #[.int .i64 1, .int .i64 2, .int .i64 0]] w fun e w' => e = .returned (.agg #[.int .i64 x3, .int .i64 x4, .int .i64 x5, .int .i64 x6, .int .i64 x7, .int .i64 x8, .int .i64 x0, .int .i64 x1, .int .i64 x2]) ∧ Below w.heap.size w w' := by
  have K0 := Lib.hid (fun w => voltage_12 x0 x1 x2 x3 x4 x5 x6 x7 x8 w h0 h1 h2 h3 h4 h5 h6 h7 h8)
  have K1 := Lib.hid (fun w => voltage_20 x0 x1 x2 x3 x4 x5 x6 x7 x8 w h0 h1 h2 h3 h4 h5 h6 h7 h8)
  have K2 := Lib.hid (fun w => voltage_01 x0 x1 x2 x3 x4 x5 x6 x7 x8 w h0 h1 h2 h3 h4 h5 h6 h7 h8)
  clear h0 h1 h2 h3 h4 h5 h6 h7 h8
  go_enter Tryd.func34, Tryd.ntmps34
  go_wp2_with fail
  refine wp_region_held_drew (S := RnS x0 x1 x2 x3 x4 x5 x6 x7 x8 1 2 0 w) (by kernel_rfl) ?hS (fun hH => ?_)
  case hS =>
    refine ⟨by go_grown, by simp, fun j hj => ?_, by go_simp, by go_simp, by go_simp, by go_simp, by go_simp, by go_simp, by go_simp, by go_simp, by go_simp, by go_simp, by go_simp, by go_simp⟩
    obtain rfl | rfl | rfl | rfl | rfl | rfl | rfl | rfl | rfl : j = 0 ∨ j = 1 ∨ j = 2 ∨ j = 3 ∨ j = 4 ∨ j = 5 ∨ j = 6 ∨ j = 7 ∨ j = 8 := by omega
    all_goals exact ⟨⟨.int .i64 0, by go_simp⟩, by go_simp⟩
  refine' wpAnyH_take (i := 0) (v := _) rfl (by kernel_rfl) (by kernel_rfl) (by kernel_rfl) (fun _ _ _ h => h) (Or.inl ⟨by kernel_rfl, ?hy⟩) (by assumption) ?_
  case hy => (intro W hW; obtain ⟨qb, qz, qf, q0, q1, q2, q3, q4, q5, q6, q7, q8, q9, q10, q11⟩ := hW; go_simp; try (with_reducible rfl))
  try simp only [Act.put, List.setIfInBounds_toArray, List.set_cons_zero, List.set_cons_succ, List.getElem_toArray, List.getElem_cons_zero]
  refine' wpAnyH_take (i := 1) (v := _) rfl (by kernel_rfl) (by kernel_rfl) (by kernel_rfl) (fun _ _ _ h => h) (Or.inl ⟨by kernel_rfl, ?hy⟩) (by assumption) ?_
  case hy => (intro W hW; obtain ⟨qb, qz, qf, q0, q1, q2, q3, q4, q5, q6, q7, q8, q9, q10, q11⟩ := hW; go_simp; try (with_reducible rfl))
  try simp only [Act.put, List.setIfInBounds_toArray, List.set_cons_zero, List.set_cons_succ, List.getElem_toArray, List.getElem_cons_succ, List.getElem_cons_zero]
  refine' wpAnyH_take (i := 2) (v := _) rfl (by kernel_rfl) (by kernel_rfl) (by kernel_rfl) (fun _ _ _ h => h) (Or.inl ⟨by kernel_rfl, ?hy⟩) (by assumption) ?_
  case hy => (intro W hW; obtain ⟨qb, qz, qf, q0, q1, q2, q3, q4, q5, q6, q7, q8, q9, q10, q11⟩ := hW; go_simp; try (with_reducible rfl))
  try simp only [Act.put, List.setIfInBounds_toArray, List.set_cons_zero, List.set_cons_succ, List.getElem_toArray, List.getElem_cons_succ, List.getElem_cons_zero]
  refine' wpAnyH_take (i := 3) (v := _) rfl (by kernel_rfl) (by kernel_rfl) (by kernel_rfl) (fun _ _ _ h => h) (Or.inl ⟨by kernel_rfl, ?hy⟩) (by assumption) ?_
  case hy => (intro W hW; obtain ⟨qb, qz, qf, q0, q1, q2, q3, q4, q5, q6, q7, q8, q9, q10, q11⟩ := hW; go_simp; try (with_reducible rfl))
  try simp only [Act.put, List.setIfInBounds_toArray, List.set_cons_zero, List.set_cons_succ, List.getElem_toArray, List.getElem_cons_succ, List.getElem_cons_zero]
  refine' wpAnyH_take (i := 4) (v := _) rfl (by kernel_rfl) (by kernel_rfl) (by kernel_rfl) (fun _ _ _ h => h) (Or.inl ⟨by kernel_rfl, ?hy⟩) (by assumption) ?_
  case hy => (intro W hW; obtain ⟨qb, qz, qf, q0, q1, q2, q3, q4, q5, q6, q7, q8, q9, q10, q11⟩ := hW; go_simp; try (with_reducible rfl))
  try simp only [Act.put, List.setIfInBounds_toArray, List.set_cons_zero, List.set_cons_succ, List.getElem_toArray, List.getElem_cons_succ, List.getElem_cons_zero]
  refine' wpAnyH_take (i := 6) (v := _) rfl (by kernel_rfl) (by kernel_rfl) (by kernel_rfl) (fun _ _ _ h => h) (Or.inl ⟨by kernel_rfl, ?hy⟩) (by assumption) ?_
  case hy => (intro W hW; obtain ⟨qb, qz, qf, q0, q1, q2, q3, q4, q5, q6, q7, q8, q9, q10, q11⟩ := hW; go_simp; try (with_reducible rfl))
  try simp only [Act.put, List.setIfInBounds_toArray, List.set_cons_zero, List.set_cons_succ, List.getElem_toArray, List.getElem_cons_succ, List.getElem_cons_zero]
  refine' wpAnyH_take (i := 7) (v := _) rfl (by kernel_rfl) (by kernel_rfl) (by kernel_rfl) (fun _ _ _ h => h) (Or.inl ⟨by kernel_rfl, ?hy⟩) (by assumption) ?_
  case hy => (intro W hW; obtain ⟨qb, qz, qf, q0, q1, q2, q3, q4, q5, q6, q7, q8, q9, q10, q11⟩ := hW; go_simp; try (with_reducible rfl))
  try simp only [Act.put, List.setIfInBounds_toArray, List.set_cons_zero, List.set_cons_succ, List.getElem_toArray, List.getElem_cons_succ, List.getElem_cons_zero]
  refine' wpAnyH_take (i := 8) (v := _) rfl (by kernel_rfl) (by kernel_rfl) (by kernel_rfl) (fun _ _ _ h => h) (Or.inl ⟨by kernel_rfl, ?hy⟩) (by assumption) ?_
  case hy => (intro W hW; obtain ⟨qb, qz, qf, q0, q1, q2, q3, q4, q5, q6, q7, q8, q9, q10, q11⟩ := hW; go_simp; try (with_reducible rfl))
  try simp only [Act.put, List.setIfInBounds_toArray, List.set_cons_zero, List.set_cons_succ, List.getElem_toArray, List.getElem_cons_succ, List.getElem_cons_zero]
  refine' wpAnyH_take (i := 9) (v := _) rfl (by kernel_rfl) (by kernel_rfl) (by kernel_rfl) (fun _ _ _ h => h) (Or.inl ⟨by kernel_rfl, ?hy⟩) (by assumption) ?_
  case hy => (intro W hW; obtain ⟨qb, qz, qf, q0, q1, q2, q3, q4, q5, q6, q7, q8, q9, q10, q11⟩ := hW; go_simp; try (with_reducible rfl))
  try simp only [Act.put, List.setIfInBounds_toArray, List.set_cons_zero, List.set_cons_succ, List.getElem_toArray, List.getElem_cons_succ, List.getElem_cons_zero]
  refine' wpAnyH_take (i := 10) (v := _) rfl (by kernel_rfl) (by kernel_rfl) (by kernel_rfl) (fun _ _ _ h => h) (Or.inl ⟨by kernel_rfl, ?hy⟩) (by assumption) ?_
  case hy => (intro W hW; obtain ⟨qb, qz, qf, q0, q1, q2, q3, q4, q5, q6, q7, q8, q9, q10, q11⟩ := hW; go_simp; try (with_reducible rfl))
  try simp only [Act.put, List.setIfInBounds_toArray, List.set_cons_zero, List.set_cons_succ, List.getElem_toArray, List.getElem_cons_succ, List.getElem_cons_zero]
  refine' wpAnyH_take (i := 12) (v := _) rfl (by kernel_rfl) (by kernel_rfl) (by kernel_rfl) (fun _ _ _ h => h) (Or.inl ⟨by kernel_rfl, ?hy⟩) (by assumption) ?_
  case hy => (intro W hW; obtain ⟨qb, qz, qf, q0, q1, q2, q3, q4, q5, q6, q7, q8, q9, q10, q11⟩ := hW; go_simp; try (with_reducible rfl))
  try simp only [Act.put, List.setIfInBounds_toArray, List.set_cons_zero, List.set_cons_succ, List.getElem_toArray, List.getElem_cons_succ, List.getElem_cons_zero]
  refine' wpAnyH_take (i := 13) (v := _) rfl (by kernel_rfl) (by kernel_rfl) (by kernel_rfl) (fun _ _ _ h => h) (Or.inl ⟨by kernel_rfl, ?hy⟩) (by assumption) ?_
  case hy => (intro W hW; obtain ⟨qb, qz, qf, q0, q1, q2, q3, q4, q5, q6, q7, q8, q9, q10, q11⟩ := hW; go_simp; try (with_reducible rfl))
  try simp only [Act.put, List.setIfInBounds_toArray, List.set_cons_zero, List.set_cons_succ, List.getElem_toArray, List.getElem_cons_succ, List.getElem_cons_zero]
  refine' wpAnyH_take (i := 14) (v := _) rfl (by kernel_rfl) (by kernel_rfl) (by kernel_rfl) (fun _ _ _ h => h) (Or.inl ⟨by kernel_rfl, ?hy⟩) (by assumption) ?_
  case hy => (intro W hW; obtain ⟨qb, qz, qf, q0, q1, q2, q3, q4, q5, q6, q7, q8, q9, q10, q11⟩ := hW; go_simp; try (with_reducible rfl))
  try simp only [Act.put, List.setIfInBounds_toArray, List.set_cons_zero, List.set_cons_succ, List.getElem_toArray, List.getElem_cons_succ, List.getElem_cons_zero]
  refine' wpAnyH_take (i := 15) (v := _) rfl (by kernel_rfl) (by kernel_rfl) (by kernel_rfl) (fun _ _ _ h => h) (Or.inl ⟨by kernel_rfl, ?hy⟩) (by assumption) ?_
  case hy => (intro W hW; obtain ⟨qb, qz, qf, q0, q1, q2, q3, q4, q5, q6, q7, q8, q9, q10, q11⟩ := hW; go_simp; try (with_reducible rfl))
  try simp only [Act.put, List.setIfInBounds_toArray, List.set_cons_zero, List.set_cons_succ, List.getElem_toArray, List.getElem_cons_succ, List.getElem_cons_zero]
  refine' wpAnyH_take (i := 16) (v := _) rfl (by kernel_rfl) (by kernel_rfl) (by kernel_rfl) (fun _ _ _ h => h) (Or.inl ⟨by kernel_rfl, ?hy⟩) (by assumption) ?_
  case hy => (intro W hW; obtain ⟨qb, qz, qf, q0, q1, q2, q3, q4, q5, q6, q7, q8, q9, q10, q11⟩ := hW; go_simp; try (with_reducible rfl))
  try simp only [Act.put, List.setIfInBounds_toArray, List.set_cons_zero, List.set_cons_succ, List.getElem_toArray, List.getElem_cons_succ, List.getElem_cons_zero]
  refine wpAnyH_ready (rs := [5]) (by kernel_rfl) (by simp) ?_
  refine AllReadyH.cons rfl (fun K hK => ?_) AllReadyH.nil
  go_simp
  refine (K0.out _).mono ?_
  rintro e wr0 ⟨rfl, hbr0⟩
  refine hK.out _ _ (RnS.below hH hbr0) (fun hH0 => ?_)
  clear hK
  try simp only [Act.put, List.setIfInBounds_toArray, List.set_cons_zero, List.set_cons_succ, List.getElem_toArray, List.getElem_cons_succ, List.getElem_cons_zero]
  refine wpAnyH_ready (rs := [11]) (by kernel_rfl) (by simp) ?_
  refine AllReadyH.cons rfl (fun K hK => ?_) AllReadyH.nil
  go_simp
  refine (K1.out _).mono ?_
  rintro e wr1 ⟨rfl, hbr1⟩
  refine hK.out _ _ (RnS.below hH0 hbr1) (fun hH1 => ?_)
  clear hK
  try simp only [Act.put, List.setIfInBounds_toArray, List.set_cons_zero, List.set_cons_succ, List.getElem_toArray, List.getElem_cons_succ, List.getElem_cons_zero]
  refine wpAnyH_ready (rs := [17]) (by kernel_rfl) (by simp) ?_
  refine AllReadyH.cons rfl (fun K hK => ?_) AllReadyH.nil
  go_simp
  refine (K2.out _).mono ?_
  rintro e wr2 ⟨rfl, hbr2⟩
  refine hK.out _ _ (RnS.below hH1 hbr2) (fun hH2 => ?_)
  clear hK
  try simp only [Act.put, List.setIfInBounds_toArray, List.set_cons_zero, List.set_cons_succ, List.getElem_toArray, List.getElem_cons_succ, List.getElem_cons_zero]
  refine' wpAnyH_take (i := 18) (v := _) rfl (by kernel_rfl) (by kernel_rfl) (by kernel_rfl) (fun _ _ _ h => h) (Or.inl ⟨by kernel_rfl, ?hy⟩) (by assumption) ?_
  case hy => (intro W hW; obtain ⟨qb, qz, qf, q0, q1, q2, q3, q4, q5, q6, q7, q8, q9, q10, q11⟩ := hW; go_simp; try (with_reducible rfl))
  try simp only [Act.put, List.setIfInBounds_toArray, List.set_cons_zero, List.set_cons_succ, List.getElem_toArray, List.getElem_cons_succ, List.getElem_cons_zero]
  obtain ⟨sb, sz, sf, -⟩ := id hH2
  obtain ⟨⟨c0, g0⟩, k0⟩ := sf 0 (by decide)
  obtain ⟨⟨c1, g1⟩, k1⟩ := sf 1 (by decide)
  obtain ⟨⟨c2, g2⟩, k2⟩ := sf 2 (by decide)
  obtain ⟨⟨c3, g3⟩, k3⟩ := sf 3 (by decide)
  obtain ⟨⟨c4, g4⟩, k4⟩ := sf 4 (by decide)
  obtain ⟨⟨c5, g5⟩, k5⟩ := sf 5 (by decide)
  obtain ⟨⟨c6, g6⟩, k6⟩ := sf 6 (by decide)
  obtain ⟨⟨c7, g7⟩, k7⟩ := sf 7 (by decide)
  obtain ⟨⟨c8, g8⟩, k8⟩ := sf 8 (by decide)
  refine wpAnyH_ready (rs := [19]) (by kernel_rfl) (by simp) ?_
  refine AllReadyH.cons rfl (fun K hK => ?_) AllReadyH.nil
  go_simp
  refine hK.out _ _ (((((((((RnS.set _ hH2).set _).set _).set _).set _).set _).set _).set _).set _) (fun hHF => ?_)
  clear hK
  try simp only [Act.put, List.setIfInBounds_toArray, List.set_cons_zero, List.set_cons_succ, List.getElem_toArray, List.getElem_cons_succ, List.getElem_cons_zero]
  refine wpAnyH_done (by kernel_rfl) ?_ _
  clear hH hH0 hH1 hH2 hHF
  go_wp2
  have s0 := seto (b' := w.heap.size + 1 + 1) (o' := 8) (.int .i64 x2) (by omega) (seto (b' := w.heap.size + 1 + 1) (o' := 7) (.int .i64 x1) (by omega) (seto (b' := w.heap.size + 1 + 1) (o' := 6) (.int .i64 x0) (by omega) (seto (b' := w.heap.size + 1 + 1) (o' := 5) (.int .i64 x8) (by omega) (seto (b' := w.heap.size + 1 + 1) (o' := 4) (.int .i64 x7) (by omega) (seto (b' := w.heap.size + 1 + 1) (o' := 3) (.int .i64 x6) (by omega) (seto (b' := w.heap.size + 1 + 1) (o' := 2) (.int .i64 x5) (by omega) (seto (b' := w.heap.size + 1 + 1) (o' := 1) (.int .i64 x4) (by omega) (setc (.int .i64 x3) g0))))))))
  have s1 := seto (b' := w.heap.size + 1 + 1) (o' := 8) (.int .i64 x2) (by omega) (seto (b' := w.heap.size + 1 + 1) (o' := 7) (.int .i64 x1) (by omega) (seto (b' := w.heap.size + 1 + 1) (o' := 6) (.int .i64 x0) (by omega) (seto (b' := w.heap.size + 1 + 1) (o' := 5) (.int .i64 x8) (by omega) (seto (b' := w.heap.size + 1 + 1) (o' := 4) (.int .i64 x7) (by omega) (seto (b' := w.heap.size + 1 + 1) (o' := 3) (.int .i64 x6) (by omega) (seto (b' := w.heap.size + 1 + 1) (o' := 2) (.int .i64 x5) (by omega) (setc (.int .i64 x4) (seto (b' := w.heap.size + 1 + 1) (o' := 0) (.int .i64 x3) (by omega) g1))))))))
  have s2 := seto (b' := w.heap.size + 1 + 1) (o' := 8) (.int .i64 x2) (by omega) (seto (b' := w.heap.size + 1 + 1) (o' := 7) (.int .i64 x1) (by omega) (seto (b' := w.heap.size + 1 + 1) (o' := 6) (.int .i64 x0) (by omega) (seto (b' := w.heap.size + 1 + 1) (o' := 5) (.int .i64 x8) (by omega) (seto (b' := w.heap.size + 1 + 1) (o' := 4) (.int .i64 x7) (by omega) (seto (b' := w.heap.size + 1 + 1) (o' := 3) (.int .i64 x6) (by omega) (setc (.int .i64 x5) (seto (b' := w.heap.size + 1 + 1) (o' := 1) (.int .i64 x4) (by omega) (seto (b' := w.heap.size + 1 + 1) (o' := 0) (.int .i64 x3) (by omega) g2))))))))
  have s3 := seto (b' := w.heap.size + 1 + 1) (o' := 8) (.int .i64 x2) (by omega) (seto (b' := w.heap.size + 1 + 1) (o' := 7) (.int .i64 x1) (by omega) (seto (b' := w.heap.size + 1 + 1) (o' := 6) (.int .i64 x0) (by omega) (seto (b' := w.heap.size + 1 + 1) (o' := 5) (.int .i64 x8) (by omega) (seto (b' := w.heap.size + 1 + 1) (o' := 4) (.int .i64 x7) (by omega) (setc (.int .i64 x6) (seto (b' := w.heap.size + 1 + 1) (o' := 2) (.int .i64 x5) (by omega) (seto (b' := w.heap.size + 1 + 1) (o' := 1) (.int .i64 x4) (by omega) (seto (b' := w.heap.size + 1 + 1) (o' := 0) (.int .i64 x3) (by omega) g3))))))))
  have s4 := seto (b' := w.heap.size + 1 + 1) (o' := 8) (.int .i64 x2) (by omega) (seto (b' := w.heap.size + 1 + 1) (o' := 7) (.int .i64 x1) (by omega) (seto (b' := w.heap.size + 1 + 1) (o' := 6) (.int .i64 x0) (by omega) (seto (b' := w.heap.size + 1 + 1) (o' := 5) (.int .i64 x8) (by omega) (setc (.int .i64 x7) (seto (b' := w.heap.size + 1 + 1) (o' := 3) (.int .i64 x6) (by omega) (seto (b' := w.heap.size + 1 + 1) (o' := 2) (.int .i64 x5) (by omega) (seto (b' := w.heap.size + 1 + 1) (o' := 1) (.int .i64 x4) (by omega) (seto (b' := w.heap.size + 1 + 1) (o' := 0) (.int .i64 x3) (by omega) g4))))))))
  have s5 := seto (b' := w.heap.size + 1 + 1) (o' := 8) (.int .i64 x2) (by omega) (seto (b' := w.heap.size + 1 + 1) (o' := 7) (.int .i64 x1) (by omega) (seto (b' := w.heap.size + 1 + 1) (o' := 6) (.int .i64 x0) (by omega) (setc (.int .i64 x8) (seto (b' := w.heap.size + 1 + 1) (o' := 4) (.int .i64 x7) (by omega) (seto (b' := w.heap.size + 1 + 1) (o' := 3) (.int .i64 x6) (by omega) (seto (b' := w.heap.size + 1 + 1) (o' := 2) (.int .i64 x5) (by omega) (seto (b' := w.heap.size + 1 + 1) (o' := 1) (.int .i64 x4) (by omega) (seto (b' := w.heap.size + 1 + 1) (o' := 0) (.int .i64 x3) (by omega) g5))))))))
  have s6 := seto (b' := w.heap.size + 1 + 1) (o' := 8) (.int .i64 x2) (by omega) (seto (b' := w.heap.size + 1 + 1) (o' := 7) (.int .i64 x1) (by omega) (setc (.int .i64 x0) (seto (b' := w.heap.size + 1 + 1) (o' := 5) (.int .i64 x8) (by omega) (seto (b' := w.heap.size + 1 + 1) (o' := 4) (.int .i64 x7) (by omega) (seto (b' := w.heap.size + 1 + 1) (o' := 3) (.int .i64 x6) (by omega) (seto (b' := w.heap.size + 1 + 1) (o' := 2) (.int .i64 x5) (by omega) (seto (b' := w.heap.size + 1 + 1) (o' := 1) (.int .i64 x4) (by omega) (seto (b' := w.heap.size + 1 + 1) (o' := 0) (.int .i64 x3) (by omega) g6))))))))
  have s7 := seto (b' := w.heap.size + 1 + 1) (o' := 8) (.int .i64 x2) (by omega) (setc (.int .i64 x1) (seto (b' := w.heap.size + 1 + 1) (o' := 6) (.int .i64 x0) (by omega) (seto (b' := w.heap.size + 1 + 1) (o' := 5) (.int .i64 x8) (by omega) (seto (b' := w.heap.size + 1 + 1) (o' := 4) (.int .i64 x7) (by omega) (seto (b' := w.heap.size + 1 + 1) (o' := 3) (.int .i64 x6) (by omega) (seto (b' := w.heap.size + 1 + 1) (o' := 2) (.int .i64 x5) (by omega) (seto (b' := w.heap.size + 1 + 1) (o' := 1) (.int .i64 x4) (by omega) (seto (b' := w.heap.size + 1 + 1) (o' := 0) (.int .i64 x3) (by omega) g7))))))))
  have s8 := setc (.int .i64 x2) (seto (b' := w.heap.size + 1 + 1) (o' := 7) (.int .i64 x1) (by omega) (seto (b' := w.heap.size + 1 + 1) (o' := 6) (.int .i64 x0) (by omega) (seto (b' := w.heap.size + 1 + 1) (o' := 5) (.int .i64 x8) (by omega) (seto (b' := w.heap.size + 1 + 1) (o' := 4) (.int .i64 x7) (by omega) (seto (b' := w.heap.size + 1 + 1) (o' := 3) (.int .i64 x6) (by omega) (seto (b' := w.heap.size + 1 + 1) (o' := 2) (.int .i64 x5) (by omega) (seto (b' := w.heap.size + 1 + 1) (o' := 1) (.int .i64 x4) (by omega) (seto (b' := w.heap.size + 1 + 1) (o' := 0) (.int .i64 x3) (by omega) g8))))))))
  refine bodyPost_ret (by simp [results, Tryd.results34, go_sem, s0, s1, s2, s3, s4, s5, s6, s7, s8]; try rfl) rfl ?_
  exact ⟨by rfl, by (repeat' (first | (with_reducible exact Below.refl _ _) | (with_reducible assumption) | (with_reducible refine Below.drew ?_) | (with_reducible refine belowQ ?_) | (with_reducible refine Below.setCell ?_ ?_ _) | (with_reducible refine Below.alloc ?_ ?_ _) | omega | (dsimp only; omega) | (simp; done) | (simp; omega)))⟩
set_option maxRecDepth 100000 in
set_option maxHeartbeats 8000000 in
theorem rrenamed_4 (x0 x1 x2 x3 x4 x5 x6 x7 x8 : Int) (w : World) (h0 : Lim x0) (h1 : Lim x1) (h2 : Lim x2) (h3 : Lim x3) (h4 : Lim x4) (h5 : Lim x5) (h6 : Lim x6) (h7 : Lim x7) (h8 : Lim x8) :
    Calls Tryd.prog 34 #[.agg #[.int .i64 x0, .int .i64 x1, .int .i64 x2, .int .i64 x3, .int .i64 x4, .int .i64 x5, .int .i64 x6, .int .i64 x7, .int .i64 x8], .agg #[.int .i64 2, .int .i64 0, .int .i64 1]] w fun e w' => e = .returned (.agg #[.int .i64 x6, .int .i64 x7, .int .i64 x8, .int .i64 x0, .int .i64 x1, .int .i64 x2, .int .i64 x3, .int .i64 x4, .int .i64 x5]) ∧ Below w.heap.size w w' := by
  have K0 := Lib.hid (fun w => voltage_20 x0 x1 x2 x3 x4 x5 x6 x7 x8 w h0 h1 h2 h3 h4 h5 h6 h7 h8)
  have K1 := Lib.hid (fun w => voltage_01 x0 x1 x2 x3 x4 x5 x6 x7 x8 w h0 h1 h2 h3 h4 h5 h6 h7 h8)
  have K2 := Lib.hid (fun w => voltage_12 x0 x1 x2 x3 x4 x5 x6 x7 x8 w h0 h1 h2 h3 h4 h5 h6 h7 h8)
  clear h0 h1 h2 h3 h4 h5 h6 h7 h8
  go_enter Tryd.func34, Tryd.ntmps34
  go_wp2_with fail
  refine wp_region_held_drew (S := RnS x0 x1 x2 x3 x4 x5 x6 x7 x8 2 0 1 w) (by kernel_rfl) ?hS (fun hH => ?_)
  case hS =>
    refine ⟨by go_grown, by simp, fun j hj => ?_, by go_simp, by go_simp, by go_simp, by go_simp, by go_simp, by go_simp, by go_simp, by go_simp, by go_simp, by go_simp, by go_simp, by go_simp⟩
    obtain rfl | rfl | rfl | rfl | rfl | rfl | rfl | rfl | rfl : j = 0 ∨ j = 1 ∨ j = 2 ∨ j = 3 ∨ j = 4 ∨ j = 5 ∨ j = 6 ∨ j = 7 ∨ j = 8 := by omega
    all_goals exact ⟨⟨.int .i64 0, by go_simp⟩, by go_simp⟩
  refine' wpAnyH_take (i := 0) (v := _) rfl (by kernel_rfl) (by kernel_rfl) (by kernel_rfl) (fun _ _ _ h => h) (Or.inl ⟨by kernel_rfl, ?hy⟩) (by assumption) ?_
  case hy => (intro W hW; obtain ⟨qb, qz, qf, q0, q1, q2, q3, q4, q5, q6, q7, q8, q9, q10, q11⟩ := hW; go_simp; try (with_reducible rfl))
  try simp only [Act.put, List.setIfInBounds_toArray, List.set_cons_zero, List.set_cons_succ, List.getElem_toArray, List.getElem_cons_zero]
  refine' wpAnyH_take (i := 1) (v := _) rfl (by kernel_rfl) (by kernel_rfl) (by kernel_rfl) (fun _ _ _ h => h) (Or.inl ⟨by kernel_rfl, ?hy⟩) (by assumption) ?_
  case hy => (intro W hW; obtain ⟨qb, qz, qf, q0, q1, q2, q3, q4, q5, q6, q7, q8, q9, q10, q11⟩ := hW; go_simp; try (with_reducible rfl))
  try simp only [Act.put, List.setIfInBounds_toArray, List.set_cons_zero, List.set_cons_succ, List.getElem_toArray, List.getElem_cons_succ, List.getElem_cons_zero]
  refine' wpAnyH_take (i := 2) (v := _) rfl (by kernel_rfl) (by kernel_rfl) (by kernel_rfl) (fun _ _ _ h => h) (Or.inl ⟨by kernel_rfl, ?hy⟩) (by assumption) ?_
  case hy => (intro W hW; obtain ⟨qb, qz, qf, q0, q1, q2, q3, q4, q5, q6, q7, q8, q9, q10, q11⟩ := hW; go_simp; try (with_reducible rfl))
  try simp only [Act.put, List.setIfInBounds_toArray, List.set_cons_zero, List.set_cons_succ, List.getElem_toArray, List.getElem_cons_succ, List.getElem_cons_zero]
  refine' wpAnyH_take (i := 3) (v := _) rfl (by kernel_rfl) (by kernel_rfl) (by kernel_rfl) (fun _ _ _ h => h) (Or.inl ⟨by kernel_rfl, ?hy⟩) (by assumption) ?_
  case hy => (intro W hW; obtain ⟨qb, qz, qf, q0, q1, q2, q3, q4, q5, q6, q7, q8, q9, q10, q11⟩ := hW; go_simp; try (with_reducible rfl))
  try simp only [Act.put, List.setIfInBounds_toArray, List.set_cons_zero, List.set_cons_succ, List.getElem_toArray, List.getElem_cons_succ, List.getElem_cons_zero]
  refine' wpAnyH_take (i := 4) (v := _) rfl (by kernel_rfl) (by kernel_rfl) (by kernel_rfl) (fun _ _ _ h => h) (Or.inl ⟨by kernel_rfl, ?hy⟩) (by assumption) ?_
  case hy => (intro W hW; obtain ⟨qb, qz, qf, q0, q1, q2, q3, q4, q5, q6, q7, q8, q9, q10, q11⟩ := hW; go_simp; try (with_reducible rfl))
  try simp only [Act.put, List.setIfInBounds_toArray, List.set_cons_zero, List.set_cons_succ, List.getElem_toArray, List.getElem_cons_succ, List.getElem_cons_zero]
  refine' wpAnyH_take (i := 6) (v := _) rfl (by kernel_rfl) (by kernel_rfl) (by kernel_rfl) (fun _ _ _ h => h) (Or.inl ⟨by kernel_rfl, ?hy⟩) (by assumption) ?_
  case hy => (intro W hW; obtain ⟨qb, qz, qf, q0, q1, q2, q3, q4, q5, q6, q7, q8, q9, q10, q11⟩ := hW; go_simp; try (with_reducible rfl))
  try simp only [Act.put, List.setIfInBounds_toArray, List.set_cons_zero, List.set_cons_succ, List.getElem_toArray, List.getElem_cons_succ, List.getElem_cons_zero]
  refine' wpAnyH_take (i := 7) (v := _) rfl (by kernel_rfl) (by kernel_rfl) (by kernel_rfl) (fun _ _ _ h => h) (Or.inl ⟨by kernel_rfl, ?hy⟩) (by assumption) ?_
  case hy => (intro W hW; obtain ⟨qb, qz, qf, q0, q1, q2, q3, q4, q5, q6, q7, q8, q9, q10, q11⟩ := hW; go_simp; try (with_reducible rfl))
  try simp only [Act.put, List.setIfInBounds_toArray, List.set_cons_zero, List.set_cons_succ, List.getElem_toArray, List.getElem_cons_succ, List.getElem_cons_zero]
  refine' wpAnyH_take (i := 8) (v := _) rfl (by kernel_rfl) (by kernel_rfl) (by kernel_rfl) (fun _ _ _ h => h) (Or.inl ⟨by kernel_rfl, ?hy⟩) (by assumption) ?_
  case hy => (intro W hW; obtain ⟨qb, qz, qf, q0, q1, q2, q3, q4, q5, q6, q7, q8, q9, q10, q11⟩ := hW; go_simp; try (with_reducible rfl))
  try simp only [Act.put, List.setIfInBounds_toArray, List.set_cons_zero, List.set_cons_succ, List.getElem_toArray, List.getElem_cons_succ, List.getElem_cons_zero]
  refine' wpAnyH_take (i := 9) (v := _) rfl (by kernel_rfl) (by kernel_rfl) (by kernel_rfl) (fun _ _ _ h => h) (Or.inl ⟨by kernel_rfl, ?hy⟩) (by assumption) ?_
  case hy => (intro W hW; obtain ⟨qb, qz, qf, q0, q1, q2, q3, q4, q5, q6, q7, q8, q9, q10, q11⟩ := hW; go_simp; try (with_reducible rfl))
  try simp only [Act.put, List.setIfInBounds_toArray, List.set_cons_zero, List.set_cons_succ, List.getElem_toArray, List.getElem_cons_succ, List.getElem_cons_zero]
  refine' wpAnyH_take (i := 10) (v := _) rfl (by kernel_rfl) (by kernel_rfl) (by kernel_rfl) (fun _ _ _ h => h) (Or.inl ⟨by kernel_rfl, ?hy⟩) (by assumption) ?_
  case hy => (intro W hW; obtain ⟨qb, qz, qf, q0, q1, q2, q3, q4, q5, q6, q7, q8, q9, q10, q11⟩ := hW; go_simp; try (with_reducible rfl))
  try simp only [Act.put, List.setIfInBounds_toArray, List.set_cons_zero, List.set_cons_succ, List.getElem_toArray, List.getElem_cons_succ, List.getElem_cons_zero]
  refine' wpAnyH_take (i := 12) (v := _) rfl (by kernel_rfl) (by kernel_rfl) (by kernel_rfl) (fun _ _ _ h => h) (Or.inl ⟨by kernel_rfl, ?hy⟩) (by assumption) ?_
  case hy => (intro W hW; obtain ⟨qb, qz, qf, q0, q1, q2, q3, q4, q5, q6, q7, q8, q9, q10, q11⟩ := hW; go_simp; try (with_reducible rfl))
  try simp only [Act.put, List.setIfInBounds_toArray, List.set_cons_zero, List.set_cons_succ, List.getElem_toArray, List.getElem_cons_succ, List.getElem_cons_zero]
  refine' wpAnyH_take (i := 13) (v := _) rfl (by kernel_rfl) (by kernel_rfl) (by kernel_rfl) (fun _ _ _ h => h) (Or.inl ⟨by kernel_rfl, ?hy⟩) (by assumption) ?_
  case hy => (intro W hW; obtain ⟨qb, qz, qf, q0, q1, q2, q3, q4, q5, q6, q7, q8, q9, q10, q11⟩ := hW; go_simp; try (with_reducible rfl))
  try simp only [Act.put, List.setIfInBounds_toArray, List.set_cons_zero, List.set_cons_succ, List.getElem_toArray, List.getElem_cons_succ, List.getElem_cons_zero]
  refine' wpAnyH_take (i := 14) (v := _) rfl (by kernel_rfl) (by kernel_rfl) (by kernel_rfl) (fun _ _ _ h => h) (Or.inl ⟨by kernel_rfl, ?hy⟩) (by assumption) ?_
  case hy => (intro W hW; obtain ⟨qb, qz, qf, q0, q1, q2, q3, q4, q5, q6, q7, q8, q9, q10, q11⟩ := hW; go_simp; try (with_reducible rfl))
  try simp only [Act.put, List.setIfInBounds_toArray, List.set_cons_zero, List.set_cons_succ, List.getElem_toArray, List.getElem_cons_succ, List.getElem_cons_zero]
  refine' wpAnyH_take (i := 15) (v := _) rfl (by kernel_rfl) (by kernel_rfl) (by kernel_rfl) (fun _ _ _ h => h) (Or.inl ⟨by kernel_rfl, ?hy⟩) (by assumption) ?_
  case hy => (intro W hW; obtain ⟨qb, qz, qf, q0, q1, q2, q3, q4, q5, q6, q7, q8, q9, q10, q11⟩ := hW; go_simp; try (with_reducible rfl))
  try simp only [Act.put, List.setIfInBounds_toArray, List.set_cons_zero, List.set_cons_succ, List.getElem_toArray, List.getElem_cons_succ, List.getElem_cons_zero]
  refine' wpAnyH_take (i := 16) (v := _) rfl (by kernel_rfl) (by kernel_rfl) (by kernel_rfl) (fun _ _ _ h => h) (Or.inl ⟨by kernel_rfl, ?hy⟩) (by assumption) ?_
  case hy => (intro W hW; obtain ⟨qb, qz, qf, q0, q1, q2, q3, q4, q5, q6, q7, q8, q9, q10, q11⟩ := hW; go_simp; try (with_reducible rfl))
  try simp only [Act.put, List.setIfInBounds_toArray, List.set_cons_zero, List.set_cons_succ, List.getElem_toArray, List.getElem_cons_succ, List.getElem_cons_zero]
  refine wpAnyH_ready (rs := [5]) (by kernel_rfl) (by simp) ?_
  refine AllReadyH.cons rfl (fun K hK => ?_) AllReadyH.nil
  go_simp
  refine (K0.out _).mono ?_
  rintro e wr0 ⟨rfl, hbr0⟩
  refine hK.out _ _ (RnS.below hH hbr0) (fun hH0 => ?_)
  clear hK
  try simp only [Act.put, List.setIfInBounds_toArray, List.set_cons_zero, List.set_cons_succ, List.getElem_toArray, List.getElem_cons_succ, List.getElem_cons_zero]
  refine wpAnyH_ready (rs := [11]) (by kernel_rfl) (by simp) ?_
  refine AllReadyH.cons rfl (fun K hK => ?_) AllReadyH.nil
  go_simp
  refine (K1.out _).mono ?_
  rintro e wr1 ⟨rfl, hbr1⟩
  refine hK.out _ _ (RnS.below hH0 hbr1) (fun hH1 => ?_)
  clear hK
  try simp only [Act.put, List.setIfInBounds_toArray, List.set_cons_zero, List.set_cons_succ, List.getElem_toArray, List.getElem_cons_succ, List.getElem_cons_zero]
  refine wpAnyH_ready (rs := [17]) (by kernel_rfl) (by simp) ?_
  refine AllReadyH.cons rfl (fun K hK => ?_) AllReadyH.nil
  go_simp
  refine (K2.out _).mono ?_
  rintro e wr2 ⟨rfl, hbr2⟩
  refine hK.out _ _ (RnS.below hH1 hbr2) (fun hH2 => ?_)
  clear hK
  try simp only [Act.put, List.setIfInBounds_toArray, List.set_cons_zero, List.set_cons_succ, List.getElem_toArray, List.getElem_cons_succ, List.getElem_cons_zero]
  refine' wpAnyH_take (i := 18) (v := _) rfl (by kernel_rfl) (by kernel_rfl) (by kernel_rfl) (fun _ _ _ h => h) (Or.inl ⟨by kernel_rfl, ?hy⟩) (by assumption) ?_
  case hy => (intro W hW; obtain ⟨qb, qz, qf, q0, q1, q2, q3, q4, q5, q6, q7, q8, q9, q10, q11⟩ := hW; go_simp; try (with_reducible rfl))
  try simp only [Act.put, List.setIfInBounds_toArray, List.set_cons_zero, List.set_cons_succ, List.getElem_toArray, List.getElem_cons_succ, List.getElem_cons_zero]
  obtain ⟨sb, sz, sf, -⟩ := id hH2
  obtain ⟨⟨c0, g0⟩, k0⟩ := sf 0 (by decide)
  obtain ⟨⟨c1, g1⟩, k1⟩ := sf 1 (by decide)
  obtain ⟨⟨c2, g2⟩, k2⟩ := sf 2 (by decide)
  obtain ⟨⟨c3, g3⟩, k3⟩ := sf 3 (by decide)
  obtain ⟨⟨c4, g4⟩, k4⟩ := sf 4 (by decide)
  obtain ⟨⟨c5, g5⟩, k5⟩ := sf 5 (by decide)
  obtain ⟨⟨c6, g6⟩, k6⟩ := sf 6 (by decide)
  obtain ⟨⟨c7, g7⟩, k7⟩ := sf 7 (by decide)
  obtain ⟨⟨c8, g8⟩, k8⟩ := sf 8 (by decide)
  refine wpAnyH_ready (rs := [19]) (by kernel_rfl) (by simp) ?_
  refine AllReadyH.cons rfl (fun K hK => ?_) AllReadyH.nil
  go_simp
  refine hK.out _ _ (((((((((RnS.set _ hH2).set _).set _).set _).set _).set _).set _).set _).set _) (fun hHF => ?_)
  clear hK
  try simp only [Act.put, List.setIfInBounds_toArray, List.set_cons_zero, List.set_cons_succ, List.getElem_toArray, List.getElem_cons_succ, List.getElem_cons_zero]
  refine wpAnyH_done (by kernel_rfl) ?_ _
  clear hH hH0 hH1 hH2 hHF
  go_wp2
  have s0 := seto (b' := w.heap.size + 1 + 1) (o' := 8) (.int .i64 x5) (by omega) (seto (b' := w.heap.size + 1 + 1) (o' := 7) (.int .i64 x4) (by omega) (seto (b' := w.heap.size + 1 + 1) (o' := 6) (.int .i64 x3) (by omega) (seto (b' := w.heap.size + 1 + 1) (o' := 5) (.int .i64 x2) (by omega) (seto (b' := w.heap.size + 1 + 1) (o' := 4) (.int .i64 x1) (by omega) (seto (b' := w.heap.size + 1 + 1) (o' := 3) (.int .i64 x0) (by omega) (seto (b' := w.heap.size + 1 + 1) (o' := 2) (.int .i64 x8) (by omega) (seto (b' := w.heap.size + 1 + 1) (o' := 1) (.int .i64 x7) (by omega) (setc (.int .i64 x6) g0))))))))
  have s1 := seto (b' := w.heap.size + 1 + 1) (o' := 8) (.int .i64 x5) (by omega) (seto (b' := w.heap.size + 1 + 1) (o' := 7) (.int .i64 x4) (by omega) (seto (b' := w.heap.size + 1 + 1) (o' := 6) (.int .i64 x3) (by omega) (seto (b' := w.heap.size + 1 + 1) (o' := 5) (.int .i64 x2) (by omega) (seto (b' := w.heap.size + 1 + 1) (o' := 4) (.int .i64 x1) (by omega) (seto (b' := w.heap.size + 1 + 1) (o' := 3) (.int .i64 x0) (by omega) (seto (b' := w.heap.size + 1 + 1) (o' := 2) (.int .i64 x8) (by omega) (setc (.int .i64 x7) (seto (b' := w.heap.size + 1 + 1) (o' := 0) (.int .i64 x6) (by omega) g1))))))))
  have s2 := seto (b' := w.heap.size + 1 + 1) (o' := 8) (.int .i64 x5) (by omega) (seto (b' := w.heap.size + 1 + 1) (o' := 7) (.int .i64 x4) (by omega) (seto (b' := w.heap.size + 1 + 1) (o' := 6) (.int .i64 x3) (by omega) (seto (b' := w.heap.size + 1 + 1) (o' := 5) (.int .i64 x2) (by omega) (seto (b' := w.heap.size + 1 + 1) (o' := 4) (.int .i64 x1) (by omega) (seto (b' := w.heap.size + 1 + 1) (o' := 3) (.int .i64 x0) (by omega) (setc (.int .i64 x8) (seto (b' := w.heap.size + 1 + 1) (o' := 1) (.int .i64 x7) (by omega) (seto (b' := w.heap.size + 1 + 1) (o' := 0) (.int .i64 x6) (by omega) g2))))))))
  have s3 := seto (b' := w.heap.size + 1 + 1) (o' := 8) (.int .i64 x5) (by omega) (seto (b' := w.heap.size + 1 + 1) (o' := 7) (.int .i64 x4) (by omega) (seto (b' := w.heap.size + 1 + 1) (o' := 6) (.int .i64 x3) (by omega) (seto (b' := w.heap.size + 1 + 1) (o' := 5) (.int .i64 x2) (by omega) (seto (b' := w.heap.size + 1 + 1) (o' := 4) (.int .i64 x1) (by omega) (setc (.int .i64 x0) (seto (b' := w.heap.size + 1 + 1) (o' := 2) (.int .i64 x8) (by omega) (seto (b' := w.heap.size + 1 + 1) (o' := 1) (.int .i64 x7) (by omega) (seto (b' := w.heap.size + 1 + 1) (o' := 0) (.int .i64 x6) (by omega) g3))))))))
  have s4 := seto (b' := w.heap.size + 1 + 1) (o' := 8) (.int .i64 x5) (by omega) (seto (b' := w.heap.size + 1 + 1) (o' := 7) (.int .i64 x4) (by omega) (seto (b' := w.heap.size + 1 + 1) (o' := 6) (.int .i64 x3) (by omega) (seto (b' := w.heap.size + 1 + 1) (o' := 5) (.int .i64 x2) (by omega) (setc (.int .i64 x1) (seto (b' := w.heap.size + 1 + 1) (o' := 3) (.int .i64 x0) (by omega) (seto (b' := w.heap.size + 1 + 1) (o' := 2) (.int .i64 x8) (by omega) (seto (b' := w.heap.size + 1 + 1) (o' := 1) (.int .i64 x7) (by omega) (seto (b' := w.heap.size + 1 + 1) (o' := 0) (.int .i64 x6) (by omega) g4))))))))
  have s5 := seto (b' := w.heap.size + 1 + 1) (o' := 8) (.int .i64 x5) (by omega) (seto (b' := w.heap.size + 1 + 1) (o' := 7) (.int .i64 x4) (by omega) (seto (b' := w.heap.size + 1 + 1) (o' := 6) (.int .i64 x3) (by omega) (setc (.int .i64 x2) (seto (b' := w.heap.size + 1 + 1) (o' := 4) (.int .i64 x1) (by omega) (seto (b' := w.heap.size + 1 + 1) (o' := 3) (.int .i64 x0) (by omega) (seto (b' := w.heap.size + 1 + 1) (o' := 2) (.int .i64 x8) (by omega) (seto (b' := w.heap.size + 1 + 1) (o' := 1) (.int .i64 x7) (by omega) (seto (b' := w.heap.size + 1 + 1) (o' := 0) (.int .i64 x6) (by omega) g5))))))))
  have s6 := seto (b' := w.heap.size + 1 + 1) (o' := 8) (.int .i64 x5) (by omega) (seto (b' := w.heap.size + 1 + 1) (o' := 7) (.int .i64 x4) (by omega) (setc (.int .i64 x3) (seto (b' := w.heap.size + 1 + 1) (o' := 5) (.int .i64 x2) (by omega) (seto (b' := w.heap.size + 1 + 1) (o' := 4) (.int .i64 x1) (by omega) (seto (b' := w.heap.size + 1 + 1) (o' := 3) (.int .i64 x0) (by omega) (seto (b' := w.heap.size + 1 + 1) (o' := 2) (.int .i64 x8) (by omega) (seto (b' := w.heap.size + 1 + 1) (o' := 1) (.int .i64 x7) (by omega) (seto (b' := w.heap.size + 1 + 1) (o' := 0) (.int .i64 x6) (by omega) g6))))))))
  have s7 := seto (b' := w.heap.size + 1 + 1) (o' := 8) (.int .i64 x5) (by omega) (setc (.int .i64 x4) (seto (b' := w.heap.size + 1 + 1) (o' := 6) (.int .i64 x3) (by omega) (seto (b' := w.heap.size + 1 + 1) (o' := 5) (.int .i64 x2) (by omega) (seto (b' := w.heap.size + 1 + 1) (o' := 4) (.int .i64 x1) (by omega) (seto (b' := w.heap.size + 1 + 1) (o' := 3) (.int .i64 x0) (by omega) (seto (b' := w.heap.size + 1 + 1) (o' := 2) (.int .i64 x8) (by omega) (seto (b' := w.heap.size + 1 + 1) (o' := 1) (.int .i64 x7) (by omega) (seto (b' := w.heap.size + 1 + 1) (o' := 0) (.int .i64 x6) (by omega) g7))))))))
  have s8 := setc (.int .i64 x5) (seto (b' := w.heap.size + 1 + 1) (o' := 7) (.int .i64 x4) (by omega) (seto (b' := w.heap.size + 1 + 1) (o' := 6) (.int .i64 x3) (by omega) (seto (b' := w.heap.size + 1 + 1) (o' := 5) (.int .i64 x2) (by omega) (seto (b' := w.heap.size + 1 + 1) (o' := 4) (.int .i64 x1) (by omega) (seto (b' := w.heap.size + 1 + 1) (o' := 3) (.int .i64 x0) (by omega) (seto (b' := w.heap.size + 1 + 1) (o' := 2) (.int .i64 x8) (by omega) (seto (b' := w.heap.size + 1 + 1) (o' := 1) (.int .i64 x7) (by omega) (seto (b' := w.heap.size + 1 + 1) (o' := 0) (.int .i64 x6) (by omega) g8))))))))
  refine bodyPost_ret (by simp [results, Tryd.results34, go_sem, s0, s1, s2, s3, s4, s5, s6, s7, s8]; try rfl) rfl ?_
  exact ⟨by rfl, by (repeat' (first | (with_reducible exact Below.refl _ _) | (with_reducible assumption) | (with_reducible refine Below.drew ?_) | (with_reducible refine belowQ ?_) | (with_reducible refine Below.setCell ?_ ?_ _) | (with_reducible refine Below.alloc ?_ ?_ _) | omega | (dsimp only; omega) | (simp; done) | (simp; omega)))⟩
set_option maxRecDepth 100000 in
set_option maxHeartbeats 8000000 in
theorem rrenamed_5 (x0 x1 x2 x3 x4 x5 x6 x7 x8 : Int) (w : World) (h0 : Lim x0) (h1 : Lim x1) (h2 : Lim x2) (h3 : Lim x3) (h4 : Lim x4) (h5 : Lim x5) (h6 : Lim x6) (h7 : Lim x7) (h8 : Lim x8) :
    Calls Tryd.prog 34 #[.agg #[.int .i64 x0, .int .i64 x1, .int .i64 x2, .int .i64 x3, .int .i64 x4, .int .i64 x5, .int .i64 x6, .int .i64 x7, .int .i64 x8], .agg #[.int .i64 2, .int .i64 1, .int .i64 0]] w fun e w' => e = .returned (.agg #[.int .i64 (-x3), .int .i64 (-x4), .int .i64 (-x5), .int .i64 (-x0), .int .i64 (-x1), .int .i64 (-x2), .int .i64 (-x6), .int .i64 (-x7), .int .i64 (-x8)]) ∧ Below w.heap.size w w' := by
  have K0 := Lib.hid (fun w => voltage_21 x0 x1 x2 x3 x4 x5 x6 x7 x8 w h0 h1 h2 h3 h4 h5 h6 h7 h8)
  have K1 := Lib.hid (fun w => voltage_10 x0 x1 x2 x3 x4 x5 x6 x7 x8 w h0 h1 h2 h3 h4 h5 h6 h7 h8)
  have K2 := Lib.hid (fun w => voltage_02 x0 x1 x2 x3 x4 x5 x6 x7 x8 w h0 h1 h2 h3 h4 h5 h6 h7 h8)
  clear h0 h1 h2 h3 h4 h5 h6 h7 h8
  go_enter Tryd.func34, Tryd.ntmps34
  go_wp2_with fail
  refine wp_region_held_drew (S := RnS x0 x1 x2 x3 x4 x5 x6 x7 x8 2 1 0 w) (by kernel_rfl) ?hS (fun hH => ?_)
  case hS =>
    refine ⟨by go_grown, by simp, fun j hj => ?_, by go_simp, by go_simp, by go_simp, by go_simp, by go_simp, by go_simp, by go_simp, by go_simp, by go_simp, by go_simp, by go_simp, by go_simp⟩
    obtain rfl | rfl | rfl | rfl | rfl | rfl | rfl | rfl | rfl : j = 0 ∨ j = 1 ∨ j = 2 ∨ j = 3 ∨ j = 4 ∨ j = 5 ∨ j = 6 ∨ j = 7 ∨ j = 8 := by omega
    all_goals exact ⟨⟨.int .i64 0, by go_simp⟩, by go_simp⟩
  refine' wpAnyH_take (i := 0) (v := _) rfl (by kernel_rfl) (by kernel_rfl) (by kernel_rfl) (fun _ _ _ h => h) (Or.inl ⟨by kernel_rfl, ?hy⟩) (by assumption) ?_
  case hy => (intro W hW; obtain ⟨qb, qz, qf, q0, q1, q2, q3, q4, q5, q6, q7, q8, q9, q10, q11⟩ := hW; go_simp; try (with_reducible rfl))
  try simp only [Act.put, List.setIfInBounds_toArray, List.set_cons_zero, List.set_cons_succ, List.getElem_toArray, List.getElem_cons_zero]
  refine' wpAnyH_take (i := 1) (v := _) rfl (by kernel_rfl) (by kernel_rfl) (by kernel_rfl) (fun _ _ _ h => h) (Or.inl ⟨by kernel_rfl, ?hy⟩) (by assumption) ?_
  case hy => (intro W hW; obtain ⟨qb, qz, qf, q0, q1, q2, q3, q4, q5, q6, q7, q8, q9, q10, q11⟩ := hW; go_simp; try (with_reducible rfl))
  try simp only [Act.put, List.setIfInBounds_toArray, List.set_cons_zero, List.set_cons_succ, List.getElem_toArray, List.getElem_cons_succ, List.getElem_cons_zero]
  refine' wpAnyH_take (i := 2) (v := _) rfl (by kernel_rfl) (by kernel_rfl) (by kernel_rfl) (fun _ _ _ h => h) (Or.inl ⟨by kernel_rfl, ?hy⟩) (by assumption) ?_
  case hy => (intro W hW; obtain ⟨qb, qz, qf, q0, q1, q2, q3, q4, q5, q6, q7, q8, q9, q10, q11⟩ := hW; go_simp; try (with_reducible rfl))
  try simp only [Act.put, List.setIfInBounds_toArray, List.set_cons_zero, List.set_cons_succ, List.getElem_toArray, List.getElem_cons_succ, List.getElem_cons_zero]
  refine' wpAnyH_take (i := 3) (v := _) rfl (by kernel_rfl) (by kernel_rfl) (by kernel_rfl) (fun _ _ _ h => h) (Or.inl ⟨by kernel_rfl, ?hy⟩) (by assumption) ?_
  case hy => (intro W hW; obtain ⟨qb, qz, qf, q0, q1, q2, q3, q4, q5, q6, q7, q8, q9, q10, q11⟩ := hW; go_simp; try (with_reducible rfl))
  try simp only [Act.put, List.setIfInBounds_toArray, List.set_cons_zero, List.set_cons_succ, List.getElem_toArray, List.getElem_cons_succ, List.getElem_cons_zero]
  refine' wpAnyH_take (i := 4) (v := _) rfl (by kernel_rfl) (by kernel_rfl) (by kernel_rfl) (fun _ _ _ h => h) (Or.inl ⟨by kernel_rfl, ?hy⟩) (by assumption) ?_
  case hy => (intro W hW; obtain ⟨qb, qz, qf, q0, q1, q2, q3, q4, q5, q6, q7, q8, q9, q10, q11⟩ := hW; go_simp; try (with_reducible rfl))
  try simp only [Act.put, List.setIfInBounds_toArray, List.set_cons_zero, List.set_cons_succ, List.getElem_toArray, List.getElem_cons_succ, List.getElem_cons_zero]
  refine' wpAnyH_take (i := 6) (v := _) rfl (by kernel_rfl) (by kernel_rfl) (by kernel_rfl) (fun _ _ _ h => h) (Or.inl ⟨by kernel_rfl, ?hy⟩) (by assumption) ?_
  case hy => (intro W hW; obtain ⟨qb, qz, qf, q0, q1, q2, q3, q4, q5, q6, q7, q8, q9, q10, q11⟩ := hW; go_simp; try (with_reducible rfl))
  try simp only [Act.put, List.setIfInBounds_toArray, List.set_cons_zero, List.set_cons_succ, List.getElem_toArray, List.getElem_cons_succ, List.getElem_cons_zero]
  refine' wpAnyH_take (i := 7) (v := _) rfl (by kernel_rfl) (by kernel_rfl) (by kernel_rfl) (fun _ _ _ h => h) (Or.inl ⟨by kernel_rfl, ?hy⟩) (by assumption) ?_
  case hy => (intro W hW; obtain ⟨qb, qz, qf, q0, q1, q2, q3, q4, q5, q6, q7, q8, q9, q10, q11⟩ := hW; go_simp; try (with_reducible rfl))
  try simp only [Act.put, List.setIfInBounds_toArray, List.set_cons_zero, List.set_cons_succ, List.getElem_toArray, List.getElem_cons_succ, List.getElem_cons_zero]
  refine' wpAnyH_take (i := 8) (v := _) rfl (by kernel_rfl) (by kernel_rfl) (by kernel_rfl) (fun _ _ _ h => h) (Or.inl ⟨by kernel_rfl, ?hy⟩) (by assumption) ?_
  case hy => (intro W hW; obtain ⟨qb, qz, qf, q0, q1, q2, q3, q4, q5, q6, q7, q8, q9, q10, q11⟩ := hW; go_simp; try (with_reducible rfl))
  try simp only [Act.put, List.setIfInBounds_toArray, List.set_cons_zero, List.set_cons_succ, List.getElem_toArray, List.getElem_cons_succ, List.getElem_cons_zero]
  refine' wpAnyH_take (i := 9) (v := _) rfl (by kernel_rfl) (by kernel_rfl) (by kernel_rfl) (fun _ _ _ h => h) (Or.inl ⟨by kernel_rfl, ?hy⟩) (by assumption) ?_
  case hy => (intro W hW; obtain ⟨qb, qz, qf, q0, q1, q2, q3, q4, q5, q6, q7, q8, q9, q10, q11⟩ := hW; go_simp; try (with_reducible rfl))
  try simp only [Act.put, List.setIfInBounds_toArray, List.set_cons_zero, List.set_cons_succ, List.getElem_toArray, List.getElem_cons_succ, List.getElem_cons_zero]
  refine' wpAnyH_take (i := 10) (v := _) rfl (by kernel_rfl) (by kernel_rfl) (by kernel_rfl) (fun _ _ _ h => h) (Or.inl ⟨by kernel_rfl, ?hy⟩) (by assumption) ?_
  case hy => (intro W hW; obtain ⟨qb, qz, qf, q0, q1, q2, q3, q4, q5, q6, q7, q8, q9, q10, q11⟩ := hW; go_simp; try (with_reducible rfl))
  try simp only [Act.put, List.setIfInBounds_toArray, List.set_cons_zero, List.set_cons_succ, List.getElem_toArray, List.getElem_cons_succ, List.getElem_cons_zero]
  refine' wpAnyH_take (i := 12) (v := _) rfl (by kernel_rfl) (by kernel_rfl) (by kernel_rfl) (fun _ _ _ h => h) (Or.inl ⟨by kernel_rfl, ?hy⟩) (by assumption) ?_
  case hy => (intro W hW; obtain ⟨qb, qz, qf, q0, q1, q2, q3, q4, q5, q6, q7, q8, q9, q10, q11⟩ := hW; go_simp; try (with_reducible rfl))
  try simp only [Act.put, List.setIfInBounds_toArray, List.set_cons_zero, List.set_cons_succ, List.getElem_toArray, List.getElem_cons_succ, List.getElem_cons_zero]
  refine' wpAnyH_take (i := 13) (v := _) rfl (by kernel_rfl) (by kernel_rfl) (by kernel_rfl) (fun _ _ _ h => h) (Or.inl ⟨by kernel_rfl, ?hy⟩) (by assumption) ?_
  case hy => (intro W hW; obtain ⟨qb, qz, qf, q0, q1, q2, q3, q4, q5, q6, q7, q8, q9, q10, q11⟩ := hW; go_simp; try (with_reducible rfl))
  try simp only [Act.put, List.setIfInBounds_toArray, List.set_cons_zero, List.set_cons_succ, List.getElem_toArray, List.getElem_cons_succ, List.getElem_cons_zero]
  refine' wpAnyH_take (i := 14) (v := _) rfl (by kernel_rfl) (by kernel_rfl) (by kernel_rfl) (fun _ _ _ h => h) (Or.inl ⟨by kernel_rfl, ?hy⟩) (by assumption) ?_
  case hy => (intro W hW; obtain ⟨qb, qz, qf, q0, q1, q2, q3, q4, q5, q6, q7, q8, q9, q10, q11⟩ := hW; go_simp; try (with_reducible rfl))
  try simp only [Act.put, List.setIfInBounds_toArray, List.set_cons_zero, List.set_cons_succ, List.getElem_toArray, List.getElem_cons_succ, List.getElem_cons_zero]
  refine' wpAnyH_take (i := 15) (v := _) rfl (by kernel_rfl) (by kernel_rfl) (by kernel_rfl) (fun _ _ _ h => h) (Or.inl ⟨by kernel_rfl, ?hy⟩) (by assumption) ?_
  case hy => (intro W hW; obtain ⟨qb, qz, qf, q0, q1, q2, q3, q4, q5, q6, q7, q8, q9, q10, q11⟩ := hW; go_simp; try (with_reducible rfl))
  try simp only [Act.put, List.setIfInBounds_toArray, List.set_cons_zero, List.set_cons_succ, List.getElem_toArray, List.getElem_cons_succ, List.getElem_cons_zero]
  refine' wpAnyH_take (i := 16) (v := _) rfl (by kernel_rfl) (by kernel_rfl) (by kernel_rfl) (fun _ _ _ h => h) (Or.inl ⟨by kernel_rfl, ?hy⟩) (by assumption) ?_
  case hy => (intro W hW; obtain ⟨qb, qz, qf, q0, q1, q2, q3, q4, q5, q6, q7, q8, q9, q10, q11⟩ := hW; go_simp; try (with_reducible rfl))
  try simp only [Act.put, List.setIfInBounds_toArray, List.set_cons_zero, List.set_cons_succ, List.getElem_toArray, List.getElem_cons_succ, List.getElem_cons_zero]
  refine wpAnyH_ready (rs := [5]) (by kernel_rfl) (by simp) ?_
  refine AllReadyH.cons rfl (fun K hK => ?_) AllReadyH.nil
  go_simp
  refine (K0.out _).mono ?_
  rintro e wr0 ⟨rfl, hbr0⟩
  refine hK.out _ _ (RnS.below hH hbr0) (fun hH0 => ?_)
  clear hK
  try simp only [Act.put, List.setIfInBounds_toArray, List.set_cons_zero, List.set_cons_succ, List.getElem_toArray, List.getElem_cons_succ, List.getElem_cons_zero]
  refine wpAnyH_ready (rs := [11]) (by kernel_rfl) (by simp) ?_
  refine AllReadyH.cons rfl (fun K hK => ?_) AllReadyH.nil
  go_simp
  refine (K1.out _).mono ?_
  rintro e wr1 ⟨rfl, hbr1⟩
  refine hK.out _ _ (RnS.below hH0 hbr1) (fun hH1 => ?_)
  clear hK
  try simp only [Act.put, List.setIfInBounds_toArray, List.set_cons_zero, List.set_cons_succ, List.getElem_toArray, List.getElem_cons_succ, List.getElem_cons_zero]
  refine wpAnyH_ready (rs := [17]) (by kernel_rfl) (by simp) ?_
  refine AllReadyH.cons rfl (fun K hK => ?_) AllReadyH.nil
  go_simp
  refine (K2.out _).mono ?_
  rintro e wr2 ⟨rfl, hbr2⟩
  refine hK.out _ _ (RnS.below hH1 hbr2) (fun hH2 => ?_)
  clear hK
  try simp only [Act.put, List.setIfInBounds_toArray, List.set_cons_zero, List.set_cons_succ, List.getElem_toArray, List.getElem_cons_succ, List.getElem_cons_zero]
  refine' wpAnyH_take (i := 18) (v := _) rfl (by kernel_rfl) (by kernel_rfl) (by kernel_rfl) (fun _ _ _ h => h) (Or.inl ⟨by kernel_rfl, ?hy⟩) (by assumption) ?_
  case hy => (intro W hW; obtain ⟨qb, qz, qf, q0, q1, q2, q3, q4, q5, q6, q7, q8, q9, q10, q11⟩ := hW; go_simp; try (with_reducible rfl))
  try simp only [Act.put, List.setIfInBounds_toArray, List.set_cons_zero, List.set_cons_succ, List.getElem_toArray, List.getElem_cons_succ, List.getElem_cons_zero]
  obtain ⟨sb, sz, sf, -⟩ := id hH2
  obtain ⟨⟨c0, g0⟩, k0⟩ := sf 0 (by decide)
  obtain ⟨⟨c1, g1⟩, k1⟩ := sf 1 (by decide)
  obtain ⟨⟨c2, g2⟩, k2⟩ := sf 2 (by decide)
  obtain ⟨⟨c3, g3⟩, k3⟩ := sf 3 (by decide)
  obtain ⟨⟨c4, g4⟩, k4⟩ := sf 4 (by decide)
  obtain ⟨⟨c5, g5⟩, k5⟩ := sf 5 (by decide)
  obtain ⟨⟨c6, g6⟩, k6⟩ := sf 6 (by decide)
  obtain ⟨⟨c7, g7⟩, k7⟩ := sf 7 (by decide)
  obtain ⟨⟨c8, g8⟩, k8⟩ := sf 8 (by decide)
  refine wpAnyH_ready (rs := [19]) (by kernel_rfl) (by simp) ?_
  refine AllReadyH.cons rfl (fun K hK => ?_) AllReadyH.nil
  go_simp
  refine hK.out _ _ (((((((((RnS.set _ hH2).set _).set _).set _).set _).set _).set _).set _).set _) (fun hHF => ?_)
  clear hK
  try simp only [Act.put, List.setIfInBounds_toArray, List.set_cons_zero, List.set_cons_succ, List.getElem_toArray, List.getElem_cons_succ, List.getElem_cons_zero]
  refine wpAnyH_done (by kernel_rfl) ?_ _
  clear hH hH0 hH1 hH2 hHF
  go_wp2
  have s0 := seto (b' := w.heap.size + 1 + 1) (o' := 8) (.int .i64 (-x8)) (by omega) (seto (b' := w.heap.size + 1 + 1) (o' := 7) (.int .i64 (-x7)) (by omega) (seto (b' := w.heap.size + 1 + 1) (o' := 6) (.int .i64 (-x6)) (by omega) (seto (b' := w.heap.size + 1 + 1) (o' := 5) (.int .i64 (-x2)) (by omega) (seto (b' := w.heap.size + 1 + 1) (o' := 4) (.int .i64 (-x1)) (by omega) (seto (b' := w.heap.size + 1 + 1) (o' := 3) (.int .i64 (-x0)) (by omega) (seto (b' := w.heap.size + 1 + 1) (o' := 2) (.int .i64 (-x5)) (by omega) (seto (b' := w.heap.size + 1 + 1) (o' := 1) (.int .i64 (-x4)) (by omega) (setc (.int .i64 (-x3)) g0))))))))
  have s1 := seto (b' := w.heap.size + 1 + 1) (o' := 8) (.int .i64 (-x8)) (by omega) (seto (b' := w.heap.size + 1 + 1) (o' := 7) (.int .i64 (-x7)) (by omega) (seto (b' := w.heap.size + 1 + 1) (o' := 6) (.int .i64 (-x6)) (by omega) (seto (b' := w.heap.size + 1 + 1) (o' := 5) (.int .i64 (-x2)) (by omega) (seto (b' := w.heap.size + 1 + 1) (o' := 4) (.int .i64 (-x1)) (by omega) (seto (b' := w.heap.size + 1 + 1) (o' := 3) (.int .i64 (-x0)) (by omega) (seto (b' := w.heap.size + 1 + 1) (o' := 2) (.int .i64 (-x5)) (by omega) (setc (.int .i64 (-x4)) (seto (b' := w.heap.size + 1 + 1) (o' := 0) (.int .i64 (-x3)) (by omega) g1))))))))
  have s2 := seto (b' := w.heap.size + 1 + 1) (o' := 8) (.int .i64 (-x8)) (by omega) (seto (b' := w.heap.size + 1 + 1) (o' := 7) (.int .i64 (-x7)) (by omega) (seto (b' := w.heap.size + 1 + 1) (o' := 6) (.int .i64 (-x6)) (by omega) (seto (b' := w.heap.size + 1 + 1) (o' := 5) (.int .i64 (-x2)) (by omega) (seto (b' := w.heap.size + 1 + 1) (o' := 4) (.int .i64 (-x1)) (by omega) (seto (b' := w.heap.size + 1 + 1) (o' := 3) (.int .i64 (-x0)) (by omega) (setc (.int .i64 (-x5)) (seto (b' := w.heap.size + 1 + 1) (o' := 1) (.int .i64 (-x4)) (by omega) (seto (b' := w.heap.size + 1 + 1) (o' := 0) (.int .i64 (-x3)) (by omega) g2))))))))
  have s3 := seto (b' := w.heap.size + 1 + 1) (o' := 8) (.int .i64 (-x8)) (by omega) (seto (b' := w.heap.size + 1 + 1) (o' := 7) (.int .i64 (-x7)) (by omega) (seto (b' := w.heap.size + 1 + 1) (o' := 6) (.int .i64 (-x6)) (by omega) (seto (b' := w.heap.size + 1 + 1) (o' := 5) (.int .i64 (-x2)) (by omega) (seto (b' := w.heap.size + 1 + 1) (o' := 4) (.int .i64 (-x1)) (by omega) (setc (.int .i64 (-x0)) (seto (b' := w.heap.size + 1 + 1) (o' := 2) (.int .i64 (-x5)) (by omega) (seto (b' := w.heap.size + 1 + 1) (o' := 1) (.int .i64 (-x4)) (by omega) (seto (b' := w.heap.size + 1 + 1) (o' := 0) (.int .i64 (-x3)) (by omega) g3))))))))
  have s4 := seto (b' := w.heap.size + 1 + 1) (o' := 8) (.int .i64 (-x8)) (by omega) (seto (b' := w.heap.size + 1 + 1) (o' := 7) (.int .i64 (-x7)) (by omega) (seto (b' := w.heap.size + 1 + 1) (o' := 6) (.int .i64 (-x6)) (by omega) (seto (b' := w.heap.size + 1 + 1) (o' := 5) (.int .i64 (-x2)) (by omega) (setc (.int .i64 (-x1)) (seto (b' := w.heap.size + 1 + 1) (o' := 3) (.int .i64 (-x0)) (by omega) (seto (b' := w.heap.size + 1 + 1) (o' := 2) (.int .i64 (-x5)) (by omega) (seto (b' := w.heap.size + 1 + 1) (o' := 1) (.int .i64 (-x4)) (by omega) (seto (b' := w.heap.size + 1 + 1) (o' := 0) (.int .i64 (-x3)) (by omega) g4))))))))
  have s5 := seto (b' := w.heap.size + 1 + 1) (o' := 8) (.int .i64 (-x8)) (by omega) (seto (b' := w.heap.size + 1 + 1) (o' := 7) (.int .i64 (-x7)) (by omega) (seto (b' := w.heap.size + 1 + 1) (o' := 6) (.int .i64 (-x6)) (by omega) (setc (.int .i64 (-x2)) (seto (b' := w.heap.size + 1 + 1) (o' := 4) (.int .i64 (-x1)) (by omega) (seto (b' := w.heap.size + 1 + 1) (o' := 3) (.int .i64 (-x0)) (by omega) (seto (b' := w.heap.size + 1 + 1) (o' := 2) (.int .i64 (-x5)) (by omega) (seto (b' := w.heap.size + 1 + 1) (o' := 1) (.int .i64 (-x4)) (by omega) (seto (b' := w.heap.size + 1 + 1) (o' := 0) (.int .i64 (-x3)) (by omega) g5))))))))
  have s6 := seto (b' := w.heap.size + 1 + 1) (o' := 8) (.int .i64 (-x8)) (by omega) (seto (b' := w.heap.size + 1 + 1) (o' := 7) (.int .i64 (-x7)) (by omega) (setc (.int .i64 (-x6)) (seto (b' := w.heap.size + 1 + 1) (o' := 5) (.int .i64 (-x2)) (by omega) (seto (b' := w.heap.size + 1 + 1) (o' := 4) (.int .i64 (-x1)) (by omega) (seto (b' := w.heap.size + 1 + 1) (o' := 3) (.int .i64 (-x0)) (by omega) (seto (b' := w.heap.size + 1 + 1) (o' := 2) (.int .i64 (-x5)) (by omega) (seto (b' := w.heap.size + 1 + 1) (o' := 1) (.int .i64 (-x4)) (by omega) (seto (b' := w.heap.size + 1 + 1) (o' := 0) (.int .i64 (-x3)) (by omega) g6))))))))
  have s7 := seto (b' := w.heap.size + 1 + 1) (o' := 8) (.int .i64 (-x8)) (by omega) (setc (.int .i64 (-x7)) (seto (b' := w.heap.size + 1 + 1) (o' := 6) (.int .i64 (-x6)) (by omega) (seto (b' := w.heap.size + 1 + 1) (o' := 5) (.int .i64 (-x2)) (by omega) (seto (b' := w.heap.size + 1 + 1) (o' := 4) (.int .i64 (-x1)) (by omega) (seto (b' := w.heap.size + 1 + 1) (o' := 3) (.int .i64 (-x0)) (by omega) (seto (b' := w.heap.size + 1 + 1) (o' := 2) (.int .i64 (-x5)) (by omega) (seto (b' := w.heap.size + 1 + 1) (o' := 1) (.int .i64 (-x4)) (by omega) (seto (b' := w.heap.size + 1 + 1) (o' := 0) (.int .i64 (-x3)) (by omega) g7))))))))
  have s8 := setc (.int .i64 (-x8)) (seto (b' := w.heap.size + 1 + 1) (o' := 7) (.int .i64 (-x7)) (by omega) (seto (b' := w.heap.size + 1 + 1) (o' := 6) (.int .i64 (-x6)) (by omega) (seto (b' := w.heap.size + 1 + 1) (o' := 5) (.int .i64 (-x2)) (by omega) (seto (b' := w.heap.size + 1 + 1) (o' := 4) (.int .i64 (-x1)) (by omega) (seto (b' := w.heap.size + 1 + 1) (o' := 3) (.int .i64 (-x0)) (by omega) (seto (b' := w.heap.size + 1 + 1) (o' := 2) (.int .i64 (-x5)) (by omega) (seto (b' := w.heap.size + 1 + 1) (o' := 1) (.int .i64 (-x4)) (by omega) (seto (b' := w.heap.size + 1 + 1) (o' := 0) (.int .i64 (-x3)) (by omega) g8))))))))
  refine bodyPost_ret (by simp [results, Tryd.results34, go_sem, s0, s1, s2, s3, s4, s5, s6, s7, s8]; try rfl) rfl ?_
  exact ⟨by rfl, by (repeat' (first | (with_reducible exact Below.refl _ _) | (with_reducible assumption) | (with_reducible refine Below.drew ?_) | (with_reducible refine belowQ ?_) | (with_reducible refine Below.setCell ?_ ?_ _) | (with_reducible refine Below.alloc ?_ ?_ _) | omega | (dsimp only; omega) | (simp; done) | (simp; omega)))⟩
end Go.Proofs.YtngdhmliohjigaaDoor
