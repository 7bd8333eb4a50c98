/- The sign of a winding, and what the tables hold. -/
import Derived.Test.YtngdhmliohjigaaDoorA
import Derived.Lib.Hide
namespace Go.Proofs.YtngdhmliohjigaaDoor
open Go.RowKit

set_option maxHeartbeats 400000 in
theorem signed_any (k n s t : Int) (r : Bool) (w : World) (h1 : 1 ≤ n) (h2 : n ≤ 2000) (ht : t = if r then -n else n) :
    Calls Tryd.prog 83 #[.agg #[.int .i64 k, .int .i64 n, .int .i64 s, .bool r]] w fun e w' => e = .returned (.int .i64 t) ∧ w.alloc (.cells #[.int .i64 k, .int .i64 n, .int .i64 s, .bool r] 23) = w' := by
  subst ht
  cases r
  · go_enter Tryd.func83, Tryd.ntmps83
    go_wp2
    go_ret
    exact ⟨rfl, rfl⟩
  · go_enter Tryd.func83, Tryd.ntmps83
    go_wp2
    go_ret
    exact ⟨rfl, rfl⟩
end Go.Proofs.YtngdhmliohjigaaDoor
