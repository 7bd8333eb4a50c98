/- The reference's sign of a winding. -/
import Derived.Test.YtngdhmliohjigaaDoorA
import Derived.Lib.Hide
namespace Go.Proofs.YtngdhmliohjigaaDoor
open Go.RowKit
theorem wpW {P : Program} {c : Code} {Q : Exit → Act → World → Prop} {a : Act} {w : World} (S : World → Prop) (h : S w) (k : ∀ W, S W → Code.wp P c Q a W) : Code.wp P c Q a w := k w h
theorem acell {w : World} {x : Obj} {b o : Nat} {v : Value} (h : w.cell? ⟨b, o, none⟩ = some v) : (w.alloc x).cell? ⟨b, o, none⟩ = some v := by
  rw [World.cell?_alloc_lt _ _ _ (block_lt h)]; exact h
theorem dcell {w : World} {a : Addr} {v : Value} (h : w.cell? a = some v) : w.drew.cell? a = some v := h
def sgn (r : Bool) : Int := if r then -1 else 1
theorem rsign_any (k n s : Int) (r : Bool) (w : World) :
    Calls Tryd.prog 87 #[.agg #[.int .i64 k, .int .i64 n, .int .i64 s, .bool r]] w fun e w' => e = .returned (.int .i64 (sgn r)) ∧ w.alloc (.cells #[.int .i64 k, .int .i64 n, .int .i64 s, .bool r] 23) = w' := by
  cases r
  · go_enter Tryd.func87, Tryd.ntmps87
    go_wp2
    go_ret
    exact ⟨rfl, rfl⟩
  · go_enter Tryd.func87, Tryd.ntmps87
    go_wp2
    go_ret
    exact ⟨rfl, rfl⟩
end Go.Proofs.YtngdhmliohjigaaDoor
