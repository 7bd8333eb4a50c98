/- Contracts of divisors, phasors and hours. -/
import Derived.Test.YtngdhmliohjigaaDoorA
import Derived.Lib.Hide
import Derived.BigRegion
namespace Go.Proofs.YtngdhmliohjigaaDoor
open Go.RowKit

set_option maxRecDepth 100000 in
set_option maxHeartbeats 1000000 in
theorem phasorAt0 (x0 x1 x2 x3 x4 x5 x6 x7 x8 : Int) (w : World) (hx0 : -10000 ≤ x0 ∧ x0 ≤ 10000) (hx1 : -10000 ≤ x1 ∧ x1 ≤ 10000) (hx2 : -10000 ≤ x2 ∧ x2 ≤ 10000) (hs : 8 < w.heap.size) (g0 : w.cell? ⟨2, 0, none⟩ = some (.int .i64 1)) (g1 : w.cell? ⟨2, 1, none⟩ = some (.int .i64 0)) (g2 : w.cell? ⟨2, 2, none⟩ = some (.int .i64 (-1))) (g3 : w.cell? ⟨2, 3, none⟩ = some (.int .i64 (-1))) (g4 : w.cell? ⟨2, 4, none⟩ = some (.int .i64 0)) (g5 : w.cell? ⟨2, 5, none⟩ = some (.int .i64 1)) :
    Calls Tryd.prog 89 #[.agg #[.int .i64 x0, .int .i64 x1, .int .i64 x2, .int .i64 x3, .int .i64 x4, .int .i64 x5, .int .i64 x6, .int .i64 x7, .int .i64 x8], .int .i64 0] w fun e w' => e = .returned (.agg #[.int .i64 (x0 - x1), .int .i64 (x2 - x1)]) ∧ Below w.heap.size w w' := by
  have hs0 : 2 < w.heap.size := by omega
  have hs1 : 2 < w.heap.size + 1 := by omega
  have hs2 : 2 < w.heap.size + 1 + 1 := by omega
  have hs3 : 2 < w.heap.size + 1 + 1 + 1 := by omega
  have i0 : ∀ w, (Instr.index 25 (.agg #[.int .i64 x0, .int .i64 x1, .int .i64 x2]) (.int .i64 0)).run Tryd.prog w = .ok (.int .i64 x0) w := fun _ => by kernel_rfl
  have i1 : ∀ w, (Instr.index 25 (.agg #[.int .i64 x0, .int .i64 x1, .int .i64 x2]) (.int .i64 1)).run Tryd.prog w = .ok (.int .i64 x1) w := fun _ => by kernel_rfl
  have i2 : ∀ w, (Instr.index 25 (.agg #[.int .i64 x0, .int .i64 x1, .int .i64 x2]) (.int .i64 2)).run Tryd.prog w = .ok (.int .i64 x2) w := fun _ => by kernel_rfl
  go_enter Tryd.func89, Tryd.ntmps89
  go_wp2
  refine wp_loop_rounds 4 ?_
  iterate 3 (rw [rounds_succ]; go_wp2; go_region; go_wp2; go_region; go_wp2)
  rw [rounds_succ]
  go_wp2
  go_returns
  refine ⟨?_, by go_grown⟩
  rw [show x0 + -x1 = x0 - x1 from by omega, show -x1 + x2 = x2 - x1 from by omega]
end Go.Proofs.YtngdhmliohjigaaDoor
