/- The reference's lines of windings, by two loops over the places. -/
import Derived.Test.YtngdhmliohjigaaDoorRA
import Derived.IntWalk
namespace Go.Proofs.YtngdhmliohjigaaDoor
open Go.RowKit
/-- The turns of a kind on the limbs, from its own one on. -/
def fac (K i : Int) : Int := if K = 0 then (if i = 0 then 1 else if i = 1 then -1 else 0) else if K = 1 then (if i = 0 then 1 else 0) else (if i = 1 then -2 else 1)
theorem fac_bd (K i : Int) : -2 ≤ fac K i ∧ fac K i ≤ 1 := by
  unfold fac
  (repeat' split) <;> decide
/-- Which of the nine places are filled behind i numbers of row k; which number stands at a place. -/
def filled (k i s : Int) (j : Nat) : Bool := decide (((j / 3 : Nat) : Int) < k) || (decide (((j / 3 : Nat) : Int) = k) && decide ((((j % 3 : Nat) : Int) - k - s) % 3 < i))
def which (s : Int) (j : Nat) : Int := (((j % 3 : Nat) : Int) - ((j / 3 : Nat) : Int) - s) % 3
theorem filled_step : ∀ k ∈ [(0 : Int), 1, 2], ∀ i ∈ [(0 : Int), 1, 2], ∀ s ∈ [(0 : Int), 1, 2], ∀ j ∈ List.range 9,
    filled k (i + 1) s j = (filled k i s j || j == (3 * k + (k + i + s) % 3).toNat) ∧ (j = (3 * k + (k + i + s) % 3).toNat → which s j = i) := by decide +kernel
theorem filled_row : ∀ k ∈ [(0 : Int), 1, 2], ∀ s ∈ [(0 : Int), 1, 2], ∀ j ∈ List.range 9, filled (k + 1) 0 s j = filled k 3 s j := by decide +kernel
theorem filled_none : ∀ s ∈ [(0 : Int), 1, 2], ∀ j ∈ List.range 9, filled 0 0 s j = false := by decide +kernel
theorem filled_all : ∀ s ∈ [(0 : Int), 1, 2], ∀ j ∈ List.range 9, filled 3 0 s j = true := by decide +kernel
theorem mem3 (x : Int) (h0 : 0 ≤ x) (h1 : x ≤ 2) : x ∈ [(0 : Int), 1, 2] := by
  simp
  omega
def lv (K s t k i : Int) (j : Nat) : Int := if filled k i s j then t * fac K (which s j) else 0
/-- The nine numbers in memory. -/
def OutAt (K s t k i : Int) (B : Nat) (W : World) : Prop := ∀ j, j < 9 → W.cell? ⟨B, j, none⟩ = some (.int .i64 (lv K s t k i j)) ∧ W.frozen? ⟨B, j, none⟩ = false
theorem out_step {K s t k i : Int} {B : Nat} {W : World} (k0 : 0 ≤ k) (k1 : k ≤ 2) (i0 : 0 ≤ i) (i1 : i ≤ 2) (s0 : 0 ≤ s) (s1 : s ≤ 2) (h : OutAt K s t k i B W) {p : Nat} (hp : p = (3 * k + (k + i + s) % 3).toNat) :
    OutAt K s t k (i + 1) B (W.setCell ⟨B, p, none⟩ (.int .i64 (t * fac K i))) := fun j hj => by
  obtain ⟨a, b⟩ := filled_step k (mem3 k k0 k1) i (mem3 i i0 i1) s (mem3 s s0 s1) j (List.mem_range.2 hj)
  obtain ⟨c, d⟩ := h j hj
  rw [← hp] at a b
  by_cases e : j = p
  · subst e
    refine ⟨?_, by rw [World.frozen?_setCell]; exact d⟩
    rw [setc _ c]
    simp [lv, a, b rfl]
  · refine ⟨?_, by rw [World.frozen?_setCell]; exact d⟩
    rw [seto _ (Or.inr e) c]
    simp [lv, a, e]
theorem out_row {K s t k : Int} {B : Nat} {W : World} (k0 : 0 ≤ k) (k1 : k ≤ 2) (s0 : 0 ≤ s) (s1 : s ≤ 2) (h : OutAt K s t k 3 B W) : OutAt K s t (k + 1) 0 B W := fun j hj => by
  have e := filled_row k (mem3 k k0 k1) s (mem3 s s0 s1) j (List.mem_range.2 hj)
  obtain ⟨c, d⟩ := h j hj
  refine ⟨?_, d⟩
  rw [c]
  simp [lv, e]
end Go.Proofs.YtngdhmliohjigaaDoor
