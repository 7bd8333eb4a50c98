/- Contracts of the reference's hours. -/
import Derived.Test.YtngdhmliohjigaaDoorPH1
import Derived.BigRegion
import Derived.BigQuiet
import Derived.Deep.QuietTactic
namespace Go.Proofs.YtngdhmliohjigaaDoor
open Go.RowKit
set_option maxHeartbeats 1000000 in
theorem rhours_zero (w : World) :
    Calls Tryd.prog 40 #[.agg #[.int .i64 0, .int .i64 0]] w fun e w' => e = .returned (.tuple #[.int .i64 0, .int .i64 11]) ∧ Below w.heap.size w w' := by
  go_enter Tryd.func40, Tryd.ntmps40
  go_wp2
  go_returns
  exact ⟨rfl, by go_grown⟩
set_option maxRecDepth 100000 in
set_option maxHeartbeats 4000000 in
theorem rhours_d0 (p : Int) (w : World) (h : 0 < p) (hb : p ≤ 1000000) :
    Calls Tryd.prog 40 #[.agg #[.int .i64 (p), .int .i64 (0)]] w fun e w' => e = .returned (.tuple #[.int .i64 0, .int .i64 0]) ∧ Below w.heap.size w w' := by
  have hz : ¬ p = 0 := by omega
  go_enter Tryd.func40, Tryd.ntmps40
  go_wp2
  go_region
  go_wp2
  go_returns
  exact ⟨rfl, by go_grown⟩
set_option maxRecDepth 100000 in
set_option maxHeartbeats 4000000 in
theorem rhours_d1 (q : Int) (w : World) (h : 0 < q) (hb : q ≤ 1000000) :
    Calls Tryd.prog 40 #[.agg #[.int .i64 (2 * q), .int .i64 (q)]] w fun e w' => e = .returned (.tuple #[.int .i64 1, .int .i64 0]) ∧ Below w.heap.size w w' := by
  have hz : ¬ q = 0 := by omega
  go_enter Tryd.func40, Tryd.ntmps40
  go_wp2
  go_region
  go_wp2
  go_returns
  exact ⟨rfl, by go_grown⟩
set_option maxRecDepth 100000 in
set_option maxHeartbeats 4000000 in
theorem rhours_d2 (q : Int) (w : World) (h : 0 < q) (hb : q ≤ 1000000) :
    Calls Tryd.prog 40 #[.agg #[.int .i64 (q), .int .i64 (q)]] w fun e w' => e = .returned (.tuple #[.int .i64 2, .int .i64 0]) ∧ Below w.heap.size w w' := by
  have hz : ¬ q = 0 := by omega
  go_enter Tryd.func40, Tryd.ntmps40
  go_wp2
  go_region
  go_wp2
  go_returns
  exact ⟨rfl, by go_grown⟩
set_option maxRecDepth 100000 in
set_option maxHeartbeats 4000000 in
theorem rhours_d3 (p : Int) (w : World) (h : 0 < p) (hb : p ≤ 1000000) :
    Calls Tryd.prog 40 #[.agg #[.int .i64 (p), .int .i64 (2 * p)]] w fun e w' => e = .returned (.tuple #[.int .i64 3, .int .i64 0]) ∧ Below w.heap.size w w' := by
  have hz : ¬ p = 0 := by omega
  go_enter Tryd.func40, Tryd.ntmps40
  go_wp2
  go_region
  go_wp2
  go_returns
  exact ⟨rfl, by go_grown⟩
set_option maxRecDepth 100000 in
set_option maxHeartbeats 4000000 in
theorem rhours_d4 (q : Int) (w : World) (h : 0 < q) (hb : q ≤ 1000000) :
    Calls Tryd.prog 40 #[.agg #[.int .i64 (0), .int .i64 (q)]] w fun e w' => e = .returned (.tuple #[.int .i64 4, .int .i64 0]) ∧ Below w.heap.size w w' := by
  have hz : ¬ q = 0 := by omega
  go_enter Tryd.func40, Tryd.ntmps40
  go_wp2
  go_region
  go_wp2
  go_returns
  exact ⟨rfl, by go_grown⟩
set_option maxRecDepth 100000 in
set_option maxHeartbeats 4000000 in
theorem rhours_d5 (q : Int) (w : World) (h : 0 < q) (hb : q ≤ 1000000) :
    Calls Tryd.prog 40 #[.agg #[.int .i64 (-q), .int .i64 (q)]] w fun e w' => e = .returned (.tuple #[.int .i64 5, .int .i64 0]) ∧ Below w.heap.size w w' := by
  have hz : ¬ q = 0 := by omega
  go_enter Tryd.func40, Tryd.ntmps40
  go_wp2
  go_region
  go_wp2
  go_returns
  exact ⟨rfl, by go_grown⟩
end Go.Proofs.YtngdhmliohjigaaDoor
