/- The contract of CheckWinding. -/
import Derived.Test.YtngdhmliohjigaaDoorA
namespace Go.Proofs.YtngdhmliohjigaaDoor
open Go.RowKit
set_option maxHeartbeats 4000000 in
theorem checkWinding_any (k n s : Int) (r : Bool) (w : World) :
    Calls Tryd.prog 20 #[.agg #[.int .i64 k, .int .i64 n, .int .i64 s, .bool r]] w fun e w' => e = .returned (.int .i64 (fst3 (kindErr k) (outErr 1 2000 n) (outErr 0 2 s))) ∧ Below w.heap.size w w' := by
  go_enter Tryd.func20, Tryd.ntmps20
  go_wp2
  go_region_held3 (fun W : World => W.cell? ⟨w.heap.size, 0, none⟩ = some (.int .i64 k) ∧ W.cell? ⟨w.heap.size, 1, none⟩ = some (.int .i64 n) ∧ W.cell? ⟨w.heap.size, 2, none⟩ = some (.int .i64 s)) (go_simp) (first | (go_at_call 85; refine (checkKind_any _ _).mono ?_; rintro e w' ⟨rfl, rfl⟩) | (go_at_call 86; refine (within_any _ _ _).mono ?_; rintro e w' ⟨rfl, rfl⟩) | (go_at_call 139; refine (within1_any _ _ _ _ _ n 1 2000 _ ?_ ?_ ?_).mono ?_; (focus (go_simp; done)); go_simp; go_simp; rintro e w' ⟨rfl, rfl⟩) | (go_at_call 139; refine (within1_any _ _ _ _ _ s 0 2 _ ?_ ?_ ?_).mono ?_; (focus (go_simp; done)); go_simp; go_simp; rintro e w' ⟨rfl, rfl⟩) | (go_at_call 84; refine (firstOf3 _ _ _ (kindErr k) (outErr 1 2000 n) (outErr 0 2 s) _ ?_ ?_ ?_).mono ?_; go_simp; go_simp; go_simp; rintro e w' ⟨rfl, rfl⟩))
  all_goals (go_wp2; go_ret; exact ⟨rfl, by go_grown⟩)
end Go.Proofs.YtngdhmliohjigaaDoor
