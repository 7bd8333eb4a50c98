/- Contracts of package group's checks: limits, the first of several errors, kinds, windings, turns. -/
import Derived.Test.YtngdhmliohjigaaDoorProg
import Derived.WalkKit
import Derived.Handy
import Derived.Deep.RegionHeld3
namespace Go.Proofs.YtngdhmliohjigaaDoor
open Go.RowKit

theorem bcell {W w1 : World} (hb : Below W.heap.size W w1) : ∀ b o, b < W.heap.size → w1.cell? ⟨b, o, none⟩ = W.cell? ⟨b, o, none⟩ := fun b o h => hb.cell (p := ⟨b, o, none⟩) h
theorem bfree {W w1 : World} (hb : Below W.heap.size W w1) : ∀ b o, b < W.heap.size → w1.frozen? ⟨b, o, none⟩ = W.frozen? ⟨b, o, none⟩ := fun b o h => hb.frozen (p := ⟨b, o, none⟩) h

set_option maxHeartbeats 400000 in
theorem within_any (lo hi : Int) (w : World) :
    Calls Tryd.prog 86 #[.int .i64 lo, .int .i64 hi] w fun e w' => e = .returned (.func (.func 139) #[] #[.pointer (some ⟨w.heap.size, 0, none⟩), .pointer (some ⟨w.heap.size + 1, 0, none⟩)]) ∧ (w.alloc (.cells #[.int .i64 lo] 3)).alloc (.cells #[.int .i64 hi] 3) = w' := by
  go_enter Tryd.func86, Tryd.ntmps86
  go_wp2
  go_ret
  exact ⟨rfl, rfl⟩

theorem block_lt {w : World} {b o : Nat} {v : Value} (h : w.cell? ⟨b, o, none⟩ = some v) : b < w.heap.size := by
  rcases Nat.lt_or_ge b w.heap.size with h1 | h1
  · exact h1
  · simp [World.cell?, Array.getElem?_eq_none h1] at h
/-- What a cell holds it holds in every later world. -/
theorem keep1 {w w1 : World} {b o : Nat} {v : Value} (hb : Below w.heap.size w w1) (h : w.cell? ⟨b, o, none⟩ = some v) : w1.cell? ⟨b, o, none⟩ = some v :=
  (bcell hb b o (block_lt h)).trans h

theorem keepF {w w1 : World} {b o : Nat} (hb : Below w.heap.size w w1) (h : b < w.heap.size) (hf : w.frozen? ⟨b, o, none⟩ = false) : w1.frozen? ⟨b, o, none⟩ = false :=
  (bfree hb b o h).trans hf

theorem belowT {w W W1 : World} (h : Below w.heap.size w W) (hb : Below W.heap.size W W1) : Below w.heap.size w W1 := h.trans (hb.mono h.size)

/-- A cell behind a store to it, and behind a store to another one. -/
theorem setc {w : World} {b o : Nat} {u : Value} (x : Value) (h : w.cell? ⟨b, o, none⟩ = some u) : (w.setCell ⟨b, o, none⟩ x).cell? ⟨b, o, none⟩ = some x := World.cell?_setCell_same _ _ _ h
theorem seto {w : World} {b o b' o' : Nat} {u : Value} (x : Value) (hne : b ≠ b' ∨ o ≠ o') (h : w.cell? ⟨b, o, none⟩ = some u) : (w.setCell ⟨b', o', none⟩ x).cell? ⟨b, o, none⟩ = some u := by
  rw [World.cell?_setCell_other]
  · exact h
  · intro e; cases e; omega

/-- The error of a number outside its limits. -/
def outErr (lo hi x : Int) : Int := if x < lo ∨ hi < x then 2 else 0

set_option maxHeartbeats 400000 in
theorem within1_any (b o : Nat) (c : Nat) (b1 b2 : Nat) (x lo hi : Int) (w : World) (h0 : w.cell? ⟨b, o, none⟩ = some (.int .i64 x)) (h1 : w.cell? ⟨b1, 0, none⟩ = some (.int .i64 lo)) (h2 : w.cell? ⟨b2, 0, none⟩ = some (.int .i64 hi)) :
    Calls Tryd.prog 139 #[.slice (some ⟨b, o, none⟩) 1 c, .pointer (some ⟨b1, 0, none⟩), .pointer (some ⟨b2, 0, none⟩)] w fun e w' => e = .returned (.int .i64 (outErr lo hi x)) ∧ w = w' := by
  by_cases hlt : x < lo
  · go_enter Tryd.func139, Tryd.ntmps139
    go_wp2
    go_rounds 1
    go_ret
    exact ⟨by simp [outErr, hlt], rfl⟩
  · by_cases hgt : hi < x
    · go_enter Tryd.func139, Tryd.ntmps139
      go_wp2
      go_rounds 1
      go_ret
      exact ⟨by simp [outErr, hgt], rfl⟩
    · go_enter Tryd.func139, Tryd.ntmps139
      go_wp2
      go_rounds 2
      go_ret
      exact ⟨by simp [outErr, hgt, hlt], rfl⟩

/-- The first of two errors. -/
def fst2 (x y : Int) : Int := if x = 0 then y else x

set_option maxHeartbeats 400000 in
theorem firstOf2 (b o : Nat) (c : Nat) (x y : Int) (w : World) (h0 : w.cell? ⟨b, o, none⟩ = some (.int .i64 x)) (h1 : w.cell? ⟨b, o + 1, none⟩ = some (.int .i64 y)) :
    Calls Tryd.prog 84 #[.slice (some ⟨b, o, none⟩) 2 c] w fun e w' => e = .returned (.int .i64 (fst2 x y)) ∧ w = w' := by
  go_enter Tryd.func84, Tryd.ntmps84
  go_wp2
  go_rounds 3
  all_goals go_ret
  all_goals simp_all [fst2]


set_option maxHeartbeats 400000 in
theorem within2_any (b o : Nat) (c : Nat) (b1 b2 : Nat) (x y lo hi : Int) (w : World) (h0 : w.cell? ⟨b, o, none⟩ = some (.int .i64 x)) (h0' : w.cell? ⟨b, o + 1, none⟩ = some (.int .i64 y)) (h1 : w.cell? ⟨b1, 0, none⟩ = some (.int .i64 lo)) (h2 : w.cell? ⟨b2, 0, none⟩ = some (.int .i64 hi)) :
    Calls Tryd.prog 139 #[.slice (some ⟨b, o, none⟩) 2 c, .pointer (some ⟨b1, 0, none⟩), .pointer (some ⟨b2, 0, none⟩)] w fun e w' => e = .returned (.int .i64 (fst2 (outErr lo hi x) (outErr lo hi y))) ∧ w = w' := by
  by_cases hlt : x < lo
  · go_enter Tryd.func139, Tryd.ntmps139
    go_wp2
    go_rounds 1
    go_ret
    exact ⟨by simp [outErr, fst2, hlt], rfl⟩
  · by_cases hgt : hi < x
    · go_enter Tryd.func139, Tryd.ntmps139
      go_wp2
      go_rounds 1
      go_ret
      exact ⟨by simp [outErr, fst2, hgt], rfl⟩
    · by_cases hlt2 : y < lo
      · go_enter Tryd.func139, Tryd.ntmps139
        go_wp2
        go_rounds 2
        go_ret
        exact ⟨by simp [outErr, fst2, hgt, hlt, hlt2], rfl⟩
      · by_cases hgt2 : hi < y
        · go_enter Tryd.func139, Tryd.ntmps139
          go_wp2
          go_rounds 2
          go_ret
          exact ⟨by simp [outErr, fst2, hgt, hlt, hgt2], rfl⟩
        · go_enter Tryd.func139, Tryd.ntmps139
          go_wp2
          go_rounds 3
          go_ret
          exact ⟨by simp [outErr, fst2, hgt, hlt, hgt2, hlt2], rfl⟩
/-- The error of a kind. -/
def kindErr (k : Int) : Int := if k < 0 ∨ 3 ≤ k then 15 else 0
set_option maxHeartbeats 400000 in
theorem checkKind_any (k : Int) (w : World) :
    Calls Tryd.prog 85 #[.int .i64 k] w fun e w' => e = .returned (.int .i64 (kindErr k)) ∧ w = w' := by
  by_cases h0 : k < 0
  · go_enter Tryd.func85, Tryd.ntmps85
    go_wp2
    go_ret
    exact ⟨by simp [kindErr, h0], rfl⟩
  · by_cases h1 : 3 ≤ k
    · go_enter Tryd.func85, Tryd.ntmps85
      go_wp2
      go_ret
      exact ⟨by simp [kindErr, h1], rfl⟩
    · go_enter Tryd.func85, Tryd.ntmps85
      go_wp2
      go_ret
      exact ⟨by simp [kindErr, h0, h1], rfl⟩
/-- The first of three errors. -/
def fst3 (x y z : Int) : Int := if x = 0 then (if y = 0 then z else y) else x
set_option maxHeartbeats 400000 in
theorem firstOf3 (b o : Nat) (c : Nat) (x y z : Int) (w : World) (h0 : w.cell? ⟨b, o, none⟩ = some (.int .i64 x)) (h1 : w.cell? ⟨b, o + 1, none⟩ = some (.int .i64 y)) (h2 : w.cell? ⟨b, o + 2, none⟩ = some (.int .i64 z)) :
    Calls Tryd.prog 84 #[.slice (some ⟨b, o, none⟩) 3 c] w fun e w' => e = .returned (.int .i64 (fst3 x y z)) ∧ w = w' := by
  go_enter Tryd.func84, Tryd.ntmps84
  go_wp2
  go_rounds 4
  all_goals go_ret
  all_goals simp_all [fst3]
set_option maxHeartbeats 400000 in
theorem checkTurn_any (h : Int) (m : Bool) (w : World) :
    Calls Tryd.prog 105 #[.agg #[.int .i64 h, .bool m]] w fun e w' => e = .returned (.int .i64 (outErr 0 11 h)) ∧ Below w.heap.size w w' := by
  go_enter Tryd.func105, Tryd.ntmps105
  go_wp2
  go_region_held3 (fun W : World => W.cell? ⟨w.heap.size, 0, none⟩ = some (.int .i64 h)) (go_cell) (first | (go_at_call 86; refine (within_any _ _ _).mono ?_; rintro e w' ⟨rfl, rfl⟩) | (go_at_call 139; refine (within1_any _ _ _ _ _ h 0 11 _ ?_ ?_ ?_).mono ?_; go_simp; go_simp; go_simp; rintro e w' ⟨rfl, rfl⟩))
  all_goals (go_wp2; go_ret; exact ⟨rfl, by go_grown⟩)

end Go.Proofs.YtngdhmliohjigaaDoor
