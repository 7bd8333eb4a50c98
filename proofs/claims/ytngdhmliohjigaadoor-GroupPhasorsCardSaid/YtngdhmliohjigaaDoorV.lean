/- Turns: what the law's walk asks of its callees, and the group's own laws. -/
import Derived.Test.YtngdhmliohjigaaDoorG
import Derived.Test.YtngdhmliohjigaaDoorU
namespace Go.Proofs.YtngdhmliohjigaaDoor
open Go.RowKit

def invH (h : Int) (m : Bool) : Int := if m then h else -h % 12
theorem invH_bd (h : Int) (m : Bool) (h0 : 0 ≤ h) (h1 : h ≤ 11) : 0 ≤ invH h m ∧ invH h m ≤ 11 := by unfold invH; split <;> omega
theorem inverse_all (h : Int) (m : Bool) (w : World) (h0 : 0 ≤ h) (h1 : h ≤ 11) :
    Calls Tryd.prog 55 #[.agg #[.int .i64 h, .bool m]] w fun e w' => e = .returned (.tuple #[.agg #[.int .i64 (invH h m), .bool m], .int .i64 0]) ∧ Below w.heap.size w w' := by
  cases m
  · exact inverse_false h w h0 h1
  · exact inverse_true h w h0 h1
def ordN (h : Int) : Int := if h = 0 then 1 else if h = 6 then 2 else if h = 4 ∨ h = 8 then 3 else if h = 3 ∨ h = 9 then 4 else if h = 2 ∨ h = 10 then 6 else 12
theorem ordN_found (h : Int) (h0 : 0 ≤ h) (h1 : h ≤ 11) : Found h (ordN h) := by
  have hh : h = 0 ∨ h = 1 ∨ h = 2 ∨ h = 3 ∨ h = 4 ∨ h = 5 ∨ h = 6 ∨ h = 7 ∨ h = 8 ∨ h = 9 ∨ h = 10 ∨ h = 11 := by omega
  rcases hh with rfl | rfl | rfl | rfl | rfl | rfl | rfl | rfl | rfl | rfl | rfl | rfl
  · exact ⟨1, by decide, ⟨by omega, by omega, fun j j1 j2 => by omega⟩, by decide⟩
  · exact ⟨12, by decide, ⟨by omega, by omega, fun j j1 j2 => by omega⟩, by decide⟩
  · exact ⟨6, by decide, ⟨by omega, by omega, fun j j1 j2 => by omega⟩, by decide⟩
  · exact ⟨4, by decide, ⟨by omega, by omega, fun j j1 j2 => by omega⟩, by decide⟩
  · exact ⟨3, by decide, ⟨by omega, by omega, fun j j1 j2 => by omega⟩, by decide⟩
  · exact ⟨12, by decide, ⟨by omega, by omega, fun j j1 j2 => by omega⟩, by decide⟩
  · exact ⟨2, by decide, ⟨by omega, by omega, fun j j1 j2 => by omega⟩, by decide⟩
  · exact ⟨12, by decide, ⟨by omega, by omega, fun j j1 j2 => by omega⟩, by decide⟩
  · exact ⟨3, by decide, ⟨by omega, by omega, fun j j1 j2 => by omega⟩, by decide⟩
  · exact ⟨4, by decide, ⟨by omega, by omega, fun j j1 j2 => by omega⟩, by decide⟩
  · exact ⟨6, by decide, ⟨by omega, by omega, fun j j1 j2 => by omega⟩, by decide⟩
  · exact ⟨12, by decide, ⟨by omega, by omega, fun j j1 j2 => by omega⟩, by decide⟩
def ordV (h : Int) (m : Bool) : Int := if m then 2 else ordN h
theorem ordV_bd (h : Int) (m : Bool) : 1 ≤ ordV h m ∧ ordV h m ≤ 12 ∧ 24 % ordV h m = 0 := by
  unfold ordV ordN
  repeat' split
  all_goals decide
theorem order_all (h : Int) (m : Bool) (w : World) (h0 : 0 ≤ h) (h1 : h ≤ 11) :
    Calls Tryd.prog 56 #[.agg #[.int .i64 h, .bool m]] w fun e w' => e = .returned (.tuple #[.int .i64 (ordV h m), .int .i64 0]) ∧ Below w.heap.size w w' := by
  cases m
  · refine (order_non h w h0 h1).mono ?_
    rintro e w1 ⟨⟨n, rfl, hn⟩, hb⟩
    exact ⟨by rw [Found.uniq h n _ hn (ordN_found h h0 h1)]; rfl, hb⟩
  · exact order_mir h w h0 h1
theorem rorder_all (h : Int) (m : Bool) (w : World) (h0 : 0 ≤ h) (h1 : h ≤ 11) :
    Calls Tryd.prog 60 #[.agg #[.int .i64 h, .bool m]] w fun e w' => e = .returned (.int .i64 (ordV h m)) ∧ Below w.heap.size w w' := by
  cases m
  · refine (rorder_non h w h0 h1).mono ?_
    rintro e w1 ⟨⟨n, rfl, hn⟩, hb⟩
    exact ⟨by rw [Found.uniq h n _ hn (ordN_found h h0 h1)]; rfl, hb⟩
  · exact rorder_mir h w h0 h1
theorem then_inv (h : Int) (m : Bool) : thenH h (invH h m) m = 0 := by
  cases m <;> simp [thenH, invH] <;> omega
theorem inv_then (h : Int) (m : Bool) : thenH (invH h m) h m = 0 := by
  cases m <;> simp [thenH, invH] <;> omega
theorem then_assoc (h k l : Int) (m n : Bool) : thenH (thenH h k m) l n = thenH h (thenH k l n) (m ^^ n) := by
  cases m <;> cases n <;> simp [thenH] <;> omega
theorem outErr_ok (h : Int) (h0 : 0 ≤ h) (h1 : h ≤ 11) : outErr 0 11 h = 0 := by simp [outErr]; omega
theorem outErr_no (h : Int) (hv : ¬ (0 ≤ h ∧ h ≤ 11)) : outErr 0 11 h = 2 := by simp [outErr]; omega
end Go.Proofs.YtngdhmliohjigaaDoor
