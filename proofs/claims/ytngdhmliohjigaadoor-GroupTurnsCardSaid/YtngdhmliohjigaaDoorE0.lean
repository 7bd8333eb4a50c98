/- The lines of windings of one kind: the walk of linesFrom, a shift at a time. -/
import Derived.Test.YtngdhmliohjigaaDoorD
import Derived.BigRegion
namespace Go.Proofs.YtngdhmliohjigaaDoor
open Go.RowKit
set_option maxRecDepth 100000 in
set_option maxHeartbeats 8000000 in
theorem lines00 (n t : Int) (r : Bool) (w : World) (h1 : 1 ≤ n) (h2 : n ≤ 2000) (ht : t = if r then -n else n) (hs : 8 < w.heap.size) (g0 : w.cell? ⟨1, 0, none⟩ = some (.int .i64 1)) (g1 : w.cell? ⟨1, 1, none⟩ = some (.int .i64 (-1))) (g2 : w.cell? ⟨1, 2, none⟩ = some (.int .i64 0)) :
    Calls Tryd.prog 82 #[.agg #[.int .i64 0, .int .i64 n, .int .i64 0, .bool r]] w fun e w' => e = .returned (.agg #[.int .i64 (t * 1), .int .i64 (t * (-1)), .int .i64 (t * 0), .int .i64 (t * 0), .int .i64 (t * 1), .int .i64 (t * (-1)), .int .i64 (t * (-1)), .int .i64 (t * 0), .int .i64 (t * 1)]) ∧ Below w.heap.size w w' := by
  have t1 : -2000 ≤ t := by rw [ht]; split <;> omega
  have t2 : t ≤ 2000 := by rw [ht]; split <;> omega
  have hs0 : 1 < w.heap.size := by omega
  have hs1 : 1 < w.heap.size + 1 := by omega
  have hs2 : 1 < w.heap.size + 1 + 1 := by omega
  have hs3 : 1 < w.heap.size + 1 + 1 + 1 := by omega
  have hs4 : 1 < w.heap.size + 1 + 1 + 1 + 1 := by omega
  have Ht := Lib.hid ht
  clear ht
  go_enter Tryd.func82, Tryd.ntmps82
  go_wp2_with (go_at_call 83; refine (signed_any _ _ _ t r _ h1 h2 Ht.out).mono ?_; rintro e w1 ⟨rfl, rfl⟩)
  refine wp_loop_rounds 4 ?_
  iterate 3 (rw [rounds_succ]; go_wp2; refine wp_loop_rounds 4 ?_; (iterate 3 (rw [rounds_succ]; go_wp2; go_region; go_wp2)); rw [rounds_succ]; go_wp2)
  rw [rounds_succ]
  go_wp2
  go_returns
  refine ⟨by simp, by go_grown⟩
set_option maxRecDepth 100000 in
set_option maxHeartbeats 8000000 in
theorem lines01 (n t : Int) (r : Bool) (w : World) (h1 : 1 ≤ n) (h2 : n ≤ 2000) (ht : t = if r then -n else n) (hs : 8 < w.heap.size) (g0 : w.cell? ⟨1, 0, none⟩ = some (.int .i64 1)) (g1 : w.cell? ⟨1, 1, none⟩ = some (.int .i64 (-1))) (g2 : w.cell? ⟨1, 2, none⟩ = some (.int .i64 0)) :
    Calls Tryd.prog 82 #[.agg #[.int .i64 0, .int .i64 n, .int .i64 1, .bool r]] w fun e w' => e = .returned (.agg #[.int .i64 (t * 0), .int .i64 (t * 1), .int .i64 (t * (-1)), .int .i64 (t * (-1)), .int .i64 (t * 0), .int .i64 (t * 1), .int .i64 (t * 1), .int .i64 (t * (-1)), .int .i64 (t * 0)]) ∧ Below w.heap.size w w' := by
  have t1 : -2000 ≤ t := by rw [ht]; split <;> omega
  have t2 : t ≤ 2000 := by rw [ht]; split <;> omega
  have hs0 : 1 < w.heap.size := by omega
  have hs1 : 1 < w.heap.size + 1 := by omega
  have hs2 : 1 < w.heap.size + 1 + 1 := by omega
  have hs3 : 1 < w.heap.size + 1 + 1 + 1 := by omega
  have hs4 : 1 < w.heap.size + 1 + 1 + 1 + 1 := by omega
  have Ht := Lib.hid ht
  clear ht
  go_enter Tryd.func82, Tryd.ntmps82
  go_wp2_with (go_at_call 83; refine (signed_any _ _ _ t r _ h1 h2 Ht.out).mono ?_; rintro e w1 ⟨rfl, rfl⟩)
  refine wp_loop_rounds 4 ?_
  iterate 3 (rw [rounds_succ]; go_wp2; refine wp_loop_rounds 4 ?_; (iterate 3 (rw [rounds_succ]; go_wp2; go_region; go_wp2)); rw [rounds_succ]; go_wp2)
  rw [rounds_succ]
  go_wp2
  go_returns
  refine ⟨by simp, by go_grown⟩
set_option maxRecDepth 100000 in
set_option maxHeartbeats 8000000 in
theorem lines02 (n t : Int) (r : Bool) (w : World) (h1 : 1 ≤ n) (h2 : n ≤ 2000) (ht : t = if r then -n else n) (hs : 8 < w.heap.size) (g0 : w.cell? ⟨1, 0, none⟩ = some (.int .i64 1)) (g1 : w.cell? ⟨1, 1, none⟩ = some (.int .i64 (-1))) (g2 : w.cell? ⟨1, 2, none⟩ = some (.int .i64 0)) :
    Calls Tryd.prog 82 #[.agg #[.int .i64 0, .int .i64 n, .int .i64 2, .bool r]] w fun e w' => e = .returned (.agg #[.int .i64 (t * (-1)), .int .i64 (t * 0), .int .i64 (t * 1), .int .i64 (t * 1), .int .i64 (t * (-1)), .int .i64 (t * 0), .int .i64 (t * 0), .int .i64 (t * 1), .int .i64 (t * (-1))]) ∧ Below w.heap.size w w' := by
  have t1 : -2000 ≤ t := by rw [ht]; split <;> omega
  have t2 : t ≤ 2000 := by rw [ht]; split <;> omega
  have hs0 : 1 < w.heap.size := by omega
  have hs1 : 1 < w.heap.size + 1 := by omega
  have hs2 : 1 < w.heap.size + 1 + 1 := by omega
  have hs3 : 1 < w.heap.size + 1 + 1 + 1 := by omega
  have hs4 : 1 < w.heap.size + 1 + 1 + 1 + 1 := by omega
  have Ht := Lib.hid ht
  clear ht
  go_enter Tryd.func82, Tryd.ntmps82
  go_wp2_with (go_at_call 83; refine (signed_any _ _ _ t r _ h1 h2 Ht.out).mono ?_; rintro e w1 ⟨rfl, rfl⟩)
  refine wp_loop_rounds 4 ?_
  iterate 3 (rw [rounds_succ]; go_wp2; refine wp_loop_rounds 4 ?_; (iterate 3 (rw [rounds_succ]; go_wp2; go_region; go_wp2)); rw [rounds_succ]; go_wp2)
  rw [rounds_succ]
  go_wp2
  go_returns
  refine ⟨by simp, by go_grown⟩
end Go.Proofs.YtngdhmliohjigaaDoor
