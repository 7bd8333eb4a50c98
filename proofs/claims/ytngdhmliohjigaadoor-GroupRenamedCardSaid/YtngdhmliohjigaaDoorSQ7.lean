/- The program's check of permutations: a table, looked through. -/
import Derived.Test.YtngdhmliohjigaaDoorSQ6
import Derived.Test.YtngdhmliohjigaaDoorEQ
import Derived.Deep.MidRow
namespace Go.Proofs.YtngdhmliohjigaaDoor
open Go.RowKit
/-- What the table of permutations holds. -/
def permL : List Value := [.int .i64 0, .int .i64 1, .int .i64 2, .int .i64 0, .int .i64 2, .int .i64 1, .int .i64 1, .int .i64 0, .int .i64 2, .int .i64 1, .int .i64 2, .int .i64 0, .int .i64 2, .int .i64 0, .int .i64 1, .int .i64 2, .int .i64 1, .int .i64 0]
theorem permInfo : (Tryd.prog.info? 157).map (·.size) = some permL.length := by kernel_rfl
theorem eql25 (a b c x y z : Int) (w : World) : (binOp .eql 25 (.agg #[.int .i64 a, .int .i64 b, .int .i64 c]) (.agg #[.int .i64 x, .int .i64 y, .int .i64 z])).run Tryd.prog w = .ok (.bool (a == x && b == y && c == z)) w := by
  rw [run_eql_struct, show (10000 : Nat) = 9998 + 2 from rfl, eq25]
  rfl
theorem perm_ix0 (w : World) : (Instr.index 157 (.agg permL.toArray) (.int .i64 0)).run Tryd.prog w = .ok (.agg #[.int .i64 0, .int .i64 1, .int .i64 2]) w := by kernel_rfl
theorem perm_ix1 (w : World) : (Instr.index 157 (.agg permL.toArray) (.int .i64 1)).run Tryd.prog w = .ok (.agg #[.int .i64 0, .int .i64 2, .int .i64 1]) w := by kernel_rfl
theorem perm_ix2 (w : World) : (Instr.index 157 (.agg permL.toArray) (.int .i64 2)).run Tryd.prog w = .ok (.agg #[.int .i64 1, .int .i64 0, .int .i64 2]) w := by kernel_rfl
theorem perm_ix3 (w : World) : (Instr.index 157 (.agg permL.toArray) (.int .i64 3)).run Tryd.prog w = .ok (.agg #[.int .i64 1, .int .i64 2, .int .i64 0]) w := by kernel_rfl
theorem perm_ix4 (w : World) : (Instr.index 157 (.agg permL.toArray) (.int .i64 4)).run Tryd.prog w = .ok (.agg #[.int .i64 2, .int .i64 0, .int .i64 1]) w := by kernel_rfl
theorem perm_ix5 (w : World) : (Instr.index 157 (.agg permL.toArray) (.int .i64 5)).run Tryd.prog w = .ok (.agg #[.int .i64 2, .int .i64 1, .int .i64 0]) w := by kernel_rfl
set_option maxRecDepth 100000 in
set_option maxHeartbeats 8000000 in
theorem checkPermutation_any (p0 p1 p2 : Int) (w : World) (hr : w.rangeAt 0 0 permL) :
    Calls Tryd.prog 93 #[.agg #[.int .i64 p0, .int .i64 p1, .int .i64 p2]] w fun e w' => e = .returned (.int .i64 (if permB p0 p1 p2 then 0 else 3)) ∧ Below w.heap.size w w' := by
  obtain ⟨R, hR⟩ : ∃ R : Int, (if permB p0 p1 p2 then 0 else 3) = R := ⟨_, rfl⟩
  rw [hR]
  unfold permB at hR
  have e0 := fun w => eql25 p0 p1 p2 0 1 2 w
  have e1 := fun w => eql25 p0 p1 p2 0 2 1 w
  have e2 := fun w => eql25 p0 p1 p2 1 0 2 w
  have e3 := fun w => eql25 p0 p1 p2 1 2 0 w
  have e4 := fun w => eql25 p0 p1 p2 2 0 1 w
  have e5 := fun w => eql25 p0 p1 p2 2 1 0 w
  generalize (p0 == 0 && p1 == 1 && p2 == 2) = t0 at hR e0
  generalize (p0 == 0 && p1 == 2 && p2 == 1) = t1 at hR e1
  generalize (p0 == 1 && p1 == 0 && p2 == 2) = t2 at hR e2
  generalize (p0 == 1 && p1 == 2 && p2 == 0) = t3 at hR e3
  generalize (p0 == 2 && p1 == 0 && p2 == 1) = t4 at hR e4
  generalize (p0 == 2 && p1 == 1 && p2 == 0) = t5 at hR e5
  have HR := Lib.hid hR
  clear hR
  cases t0 with
  | true =>
    obtain rfl : R = 0 := by have := HR.out; simp at this; exact this.symm
    have ix0 := perm_ix0
    have ix1 := perm_ix1
    have ix2 := perm_ix2
    have ix3 := perm_ix3
    have ix4 := perm_ix4
    have ix5 := perm_ix5
    go_enter Tryd.func93, Tryd.ntmps93
    go_wp2_with (refine wpList_load_mid rfl 157 _ rfl 0 0 rfl permL _ ?_ Tryd.underlying157 rfl permInfo ?_; exact rangeB (w := w) (by go_grown) hr)
    refine wp_loop_rounds 7 ?_
    rw [rounds_succ]
    go_wp2
    go_returns
    exact ⟨rfl, by go_grown⟩
  | false =>
    cases t1 with
    | true =>
      obtain rfl : R = 0 := by have := HR.out; simp at this; exact this.symm
      have ix0 := perm_ix0
      have ix1 := perm_ix1
      have ix2 := perm_ix2
      have ix3 := perm_ix3
      have ix4 := perm_ix4
      have ix5 := perm_ix5
      go_enter Tryd.func93, Tryd.ntmps93
      go_wp2_with (refine wpList_load_mid rfl 157 _ rfl 0 0 rfl permL _ ?_ Tryd.underlying157 rfl permInfo ?_; exact rangeB (w := w) (by go_grown) hr)
      refine wp_loop_rounds 7 ?_
      rw [rounds_succ]
      go_wp2
      rw [rounds_succ]
      go_wp2
      go_returns
      exact ⟨rfl, by go_grown⟩
    | false =>
      cases t2 with
      | true =>
        obtain rfl : R = 0 := by have := HR.out; simp at this; exact this.symm
        have ix0 := perm_ix0
        have ix1 := perm_ix1
        have ix2 := perm_ix2
        have ix3 := perm_ix3
        have ix4 := perm_ix4
        have ix5 := perm_ix5
        go_enter Tryd.func93, Tryd.ntmps93
        go_wp2_with (refine wpList_load_mid rfl 157 _ rfl 0 0 rfl permL _ ?_ Tryd.underlying157 rfl permInfo ?_; exact rangeB (w := w) (by go_grown) hr)
        refine wp_loop_rounds 7 ?_
        rw [rounds_succ]
        go_wp2
        rw [rounds_succ]
        go_wp2
        rw [rounds_succ]
        go_wp2
        go_returns
        exact ⟨rfl, by go_grown⟩
      | false =>
        cases t3 with
        | true =>
          obtain rfl : R = 0 := by have := HR.out; simp at this; exact this.symm
          have ix0 := perm_ix0
          have ix1 := perm_ix1
          have ix2 := perm_ix2
          have ix3 := perm_ix3
          have ix4 := perm_ix4
          have ix5 := perm_ix5
          go_enter Tryd.func93, Tryd.ntmps93
          go_wp2_with (refine wpList_load_mid rfl 157 _ rfl 0 0 rfl permL _ ?_ Tryd.underlying157 rfl permInfo ?_; exact rangeB (w := w) (by go_grown) hr)
          refine wp_loop_rounds 7 ?_
          rw [rounds_succ]
          go_wp2
          rw [rounds_succ]
          go_wp2
          rw [rounds_succ]
          go_wp2
          rw [rounds_succ]
          go_wp2
          go_returns
          exact ⟨rfl, by go_grown⟩
        | false =>
          cases t4 with
          | true =>
            obtain rfl : R = 0 := by have := HR.out; simp at this; exact this.symm
            have ix0 := perm_ix0
            have ix1 := perm_ix1
            have ix2 := perm_ix2
            have ix3 := perm_ix3
            have ix4 := perm_ix4
            have ix5 := perm_ix5
            go_enter Tryd.func93, Tryd.ntmps93
            go_wp2_with (refine wpList_load_mid rfl 157 _ rfl 0 0 rfl permL _ ?_ Tryd.underlying157 rfl permInfo ?_; exact rangeB (w := w) (by go_grown) hr)
            refine wp_loop_rounds 7 ?_
            rw [rounds_succ]
            go_wp2
            rw [rounds_succ]
            go_wp2
            rw [rounds_succ]
            go_wp2
            rw [rounds_succ]
            go_wp2
            rw [rounds_succ]
            go_wp2
            go_returns
            exact ⟨rfl, by go_grown⟩
          | false =>
            cases t5 with
            | true =>
              obtain rfl : R = 0 := by have := HR.out; simp at this; exact this.symm
              have ix0 := perm_ix0
              have ix1 := perm_ix1
              have ix2 := perm_ix2
              have ix3 := perm_ix3
              have ix4 := perm_ix4
              have ix5 := perm_ix5
              go_enter Tryd.func93, Tryd.ntmps93
              go_wp2_with (refine wpList_load_mid rfl 157 _ rfl 0 0 rfl permL _ ?_ Tryd.underlying157 rfl permInfo ?_; exact rangeB (w := w) (by go_grown) hr)
              refine wp_loop_rounds 7 ?_
              rw [rounds_succ]
              go_wp2
              rw [rounds_succ]
              go_wp2
              rw [rounds_succ]
              go_wp2
              rw [rounds_succ]
              go_wp2
              rw [rounds_succ]
              go_wp2
              rw [rounds_succ]
              go_wp2
              go_returns
              exact ⟨rfl, by go_grown⟩
            | false =>
              obtain rfl : R = 3 := by have := HR.out; simp at this; exact this.symm
              have ix0 := perm_ix0
              have ix1 := perm_ix1
              have ix2 := perm_ix2
              have ix3 := perm_ix3
              have ix4 := perm_ix4
              have ix5 := perm_ix5
              go_enter Tryd.func93, Tryd.ntmps93
              go_wp2_with (refine wpList_load_mid rfl 157 _ rfl 0 0 rfl permL _ ?_ Tryd.underlying157 rfl permInfo ?_; exact rangeB (w := w) (by go_grown) hr)
              refine wp_loop_rounds 7 ?_
              rw [rounds_succ]
              go_wp2
              rw [rounds_succ]
              go_wp2
              rw [rounds_succ]
              go_wp2
              rw [rounds_succ]
              go_wp2
              rw [rounds_succ]
              go_wp2
              rw [rounds_succ]
              go_wp2
              rw [rounds_succ]
              go_wp2
              go_returns
              exact ⟨rfl, by go_grown⟩
end Go.Proofs.YtngdhmliohjigaaDoor
