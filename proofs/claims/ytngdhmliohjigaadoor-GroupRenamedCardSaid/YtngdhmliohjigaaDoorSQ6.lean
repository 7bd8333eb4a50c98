/- Permutations of three terminals: the check of the program, and the reference's. -/
import Derived.Test.YtngdhmliohjigaaDoorSQ5
namespace Go.Proofs.YtngdhmliohjigaaDoor
open Go.RowKit
def permB (p0 p1 p2 : Int) : Bool := (p0 == 0 && p1 == 1 && p2 == 2) || (p0 == 0 && p1 == 2 && p2 == 1) || (p0 == 1 && p1 == 0 && p2 == 2) || (p0 == 1 && p1 == 2 && p2 == 0) || (p0 == 2 && p1 == 0 && p2 == 1) || (p0 == 2 && p1 == 1 && p2 == 0)
theorem permB_iff (p0 p1 p2 : Int) : permB p0 p1 p2 = true ↔ (0 ≤ p0 ∧ p0 ≤ 2 ∧ 0 ≤ p1 ∧ p1 ≤ 2 ∧ 0 ≤ p2 ∧ p2 ≤ 2 ∧ p0 ≠ p1 ∧ p1 ≠ p2 ∧ p2 ≠ p0) := by
  simp only [permB, Bool.or_eq_true, Bool.and_eq_true, beq_iff_eq]
  omega
theorem permB_no {p0 p1 p2 : Int} (h : ¬ (0 ≤ p0 ∧ p0 ≤ 2 ∧ 0 ≤ p1 ∧ p1 ≤ 2 ∧ 0 ≤ p2 ∧ p2 ≤ 2 ∧ p0 ≠ p1 ∧ p1 ≠ p2 ∧ p2 ≠ p0)) : permB p0 p1 p2 = false := Bool.eq_false_iff.2 fun e => h ((permB_iff p0 p1 p2).1 e)
set_option maxRecDepth 100000 in
set_option maxHeartbeats 8000000 in
theorem isPermutation_any (p0 p1 p2 : Int) (w : World) :
    Calls Tryd.prog 33 #[.agg #[.int .i64 p0, .int .i64 p1, .int .i64 p2]] w fun e w' => e = .returned (.bool (permB p0 p1 p2)) ∧ Below w.heap.size w w' := by
  by_cases h00 : p0 < 0
  · rw [permB_no (by omega)]
    have d00 : decide (p0 < 0) = true := by simpa using h00
    clear h00
    go_enter Tryd.func33, Tryd.ntmps33
    go_wp2
    refine wp_loop_rounds 4 ?_
    rw [rounds_succ]
    go_wp2_with fail
    go_quiet (fail)
    go_wp2
    go_returns
    exact ⟨rfl, by (repeat (refine belowQ ?_)); go_grown⟩
  · have d00 : decide (p0 < 0) = false := by simpa using h00
    by_cases h01 : 2 < p0
    · rw [permB_no (by omega)]
      have d01 : decide (2 < p0) = true := by simpa using h01
      clear h01
      go_enter Tryd.func33, Tryd.ntmps33
      go_wp2
      refine wp_loop_rounds 4 ?_
      rw [rounds_succ]
      go_wp2_with fail
      go_quiet (fail)
      go_wp2
      go_returns
      exact ⟨rfl, by (repeat (refine belowQ ?_)); go_grown⟩
    · have d01 : decide (2 < p0) = false := by simpa using h01
      by_cases h02 : p0 = p1
      · rw [permB_no (by omega)]
        have d02 : (p0 == p1) = true := by simpa using h02
        clear h02
        go_enter Tryd.func33, Tryd.ntmps33
        go_wp2
        refine wp_loop_rounds 4 ?_
        rw [rounds_succ]
        go_wp2_with fail
        go_quiet (fail)
        go_wp2
        go_returns
        exact ⟨rfl, by (repeat (refine belowQ ?_)); go_grown⟩
      · have d02 : (p0 == p1) = false := by simpa using h02
        by_cases h10 : p1 < 0
        · rw [permB_no (by omega)]
          have d10 : decide (p1 < 0) = true := by simpa using h10
          clear h10
          go_enter Tryd.func33, Tryd.ntmps33
          go_wp2
          refine wp_loop_rounds 4 ?_
          rw [rounds_succ]
          go_wp2_with fail
          go_quiet (fail)
          go_wp2
          rw [rounds_succ]
          go_wp2_with fail
          go_quiet (fail)
          go_wp2
          go_returns
          exact ⟨rfl, by (repeat (refine belowQ ?_)); go_grown⟩
        · have d10 : decide (p1 < 0) = false := by simpa using h10
          by_cases h11 : 2 < p1
          · rw [permB_no (by omega)]
            have d11 : decide (2 < p1) = true := by simpa using h11
            clear h11
            go_enter Tryd.func33, Tryd.ntmps33
            go_wp2
            refine wp_loop_rounds 4 ?_
            rw [rounds_succ]
            go_wp2_with fail
            go_quiet (fail)
            go_wp2
            rw [rounds_succ]
            go_wp2_with fail
            go_quiet (fail)
            go_wp2
            go_returns
            exact ⟨rfl, by (repeat (refine belowQ ?_)); go_grown⟩
          · have d11 : decide (2 < p1) = false := by simpa using h11
            by_cases h12 : p1 = p2
            · rw [permB_no (by omega)]
              have d12 : (p1 == p2) = true := by simpa using h12
              clear h12
              go_enter Tryd.func33, Tryd.ntmps33
              go_wp2
              refine wp_loop_rounds 4 ?_
              rw [rounds_succ]
              go_wp2_with fail
              go_quiet (fail)
              go_wp2
              rw [rounds_succ]
              go_wp2_with fail
              go_quiet (fail)
              go_wp2
              go_returns
              exact ⟨rfl, by (repeat (refine belowQ ?_)); go_grown⟩
            · have d12 : (p1 == p2) = false := by simpa using h12
              by_cases h20 : p2 < 0
              · rw [permB_no (by omega)]
                have d20 : decide (p2 < 0) = true := by simpa using h20
                clear h20
                go_enter Tryd.func33, Tryd.ntmps33
                go_wp2
                refine wp_loop_rounds 4 ?_
                rw [rounds_succ]
                go_wp2_with fail
                go_quiet (fail)
                go_wp2
                rw [rounds_succ]
                go_wp2_with fail
                go_quiet (fail)
                go_wp2
                rw [rounds_succ]
                go_wp2_with fail
                go_quiet (fail)
                go_wp2
                go_returns
                exact ⟨rfl, by (repeat (refine belowQ ?_)); go_grown⟩
              · have d20 : decide (p2 < 0) = false := by simpa using h20
                by_cases h21 : 2 < p2
                · rw [permB_no (by omega)]
                  have d21 : decide (2 < p2) = true := by simpa using h21
                  clear h21
                  go_enter Tryd.func33, Tryd.ntmps33
                  go_wp2
                  refine wp_loop_rounds 4 ?_
                  rw [rounds_succ]
                  go_wp2_with fail
                  go_quiet (fail)
                  go_wp2
                  rw [rounds_succ]
                  go_wp2_with fail
                  go_quiet (fail)
                  go_wp2
                  rw [rounds_succ]
                  go_wp2_with fail
                  go_quiet (fail)
                  go_wp2
                  go_returns
                  exact ⟨rfl, by (repeat (refine belowQ ?_)); go_grown⟩
                · have d21 : decide (2 < p2) = false := by simpa using h21
                  by_cases h22 : p2 = p0
                  · rw [permB_no (by omega)]
                    have d22 : (p2 == p0) = true := by simpa using h22
                    clear h22
                    go_enter Tryd.func33, Tryd.ntmps33
                    go_wp2
                    refine wp_loop_rounds 4 ?_
                    rw [rounds_succ]
                    go_wp2_with fail
                    go_quiet (fail)
                    go_wp2
                    rw [rounds_succ]
                    go_wp2_with fail
                    go_quiet (fail)
                    go_wp2
                    rw [rounds_succ]
                    go_wp2_with fail
                    go_quiet (fail)
                    go_wp2
                    go_returns
                    exact ⟨rfl, by (repeat (refine belowQ ?_)); go_grown⟩
                  · have d22 : (p2 == p0) = false := by simpa using h22
                    rw [(permB_iff p0 p1 p2).2 (by omega)]
                    go_enter Tryd.func33, Tryd.ntmps33
                    go_wp2
                    refine wp_loop_rounds 4 ?_
                    rw [rounds_succ]
                    go_wp2_with fail
                    go_quiet (fail)
                    go_wp2
                    rw [rounds_succ]
                    go_wp2_with fail
                    go_quiet (fail)
                    go_wp2
                    rw [rounds_succ]
                    go_wp2_with fail
                    go_quiet (fail)
                    go_wp2
                    rw [rounds_succ]
                    go_wp2
                    go_returns
                    exact ⟨rfl, by (repeat (refine belowQ ?_)); go_grown⟩
end Go.Proofs.YtngdhmliohjigaaDoor
