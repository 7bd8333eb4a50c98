/- Contracts for the law of windings: their errors, lines and zero voltages. -/
import Derived.Test.YtngdhmliohjigaaDoorB
import Derived.Test.YtngdhmliohjigaaDoorG
import Derived.Test.YtngdhmliohjigaaDoorK
import Derived.Test.YtngdhmliohjigaaDoorRL
namespace Go.Proofs.YtngdhmliohjigaaDoor
open Go.RowKit
/-- The error of a winding. -/
def wErr (k n s : Int) : Int := fst3 (kindErr k) (outErr 1 2000 n) (outErr 0 2 s)
theorem wErr_ok {k n s : Int} (k0 : 0 ≤ k) (k1 : k ≤ 2) (h1 : 1 ≤ n) (h2 : n ≤ 2000) (s0 : 0 ≤ s) (s1 : s ≤ 2) : wErr k n s = 0 := by
  simp only [wErr, fst3, kindErr, outErr]
  repeat' split
  all_goals omega
theorem wErr_val {k n s : Int} (h : wErr k n s = 0) : 0 ≤ k ∧ k ≤ 2 ∧ 1 ≤ n ∧ n ≤ 2000 ∧ 0 ≤ s ∧ s ≤ 2 := by
  simp only [wErr, fst3, kindErr, outErr] at h
  repeat' split at h
  all_goals omega
theorem wErr_bd (k n s : Int) : wErr k n s = 0 ∨ wErr k n s = 2 ∨ wErr k n s = 15 := by
  simp only [wErr, fst3, kindErr, outErr]
  repeat' split
  all_goals omega
set_option maxHeartbeats 1000000 in
theorem rwindingErr_any (k n s : Int) (r : Bool) (w : World) :
    Calls Tryd.prog 19 #[.agg #[.int .i64 k, .int .i64 n, .int .i64 s, .bool r]] w fun e w' => e = .returned (.int .i64 (wErr k n s)) ∧ Below w.heap.size w w' := by
  by_cases hk : 0 ≤ k ∧ k ≤ 2
  · have b1 : withinB k 0 2 = true := by simp [withinB, hk]
    by_cases hn : 1 ≤ n ∧ n ≤ 2000
    · have b2 : withinB n 1 2000 = true := by simp [withinB, hn]
      by_cases hs : 0 ≤ s ∧ s ≤ 2
      · have b3 : withinB s 0 2 = true := by simp [withinB, hs]
        have e : wErr k n s = 0 := by simp only [wErr, fst3, kindErr, outErr]; repeat' split <;> omega
        have H := Lib.hid e
        clear e hk hn hs
        go_enter Tryd.func19, Tryd.ntmps19
        go_wp2_with (go_at_call 27; refine (rwithin_any _ _ _ _).mono ?_; rintro e w1 ⟨rfl, rfl⟩)
        go_returns
        exact ⟨by rw [H.out]; rfl, by go_grown⟩
      · have b3 : withinB s 0 2 = false := by simp [withinB]; omega
        have e : wErr k n s = 2 := by simp only [wErr, fst3, kindErr, outErr]; repeat' split <;> omega
        have H := Lib.hid e
        clear e hk hn hs
        go_enter Tryd.func19, Tryd.ntmps19
        go_wp2_with (go_at_call 27; refine (rwithin_any _ _ _ _).mono ?_; rintro e w1 ⟨rfl, rfl⟩)
        go_returns
        exact ⟨by rw [H.out]; rfl, by go_grown⟩
    · have b2 : withinB n 1 2000 = false := by simp [withinB]; omega
      have e : wErr k n s = 2 := by simp only [wErr, fst3, kindErr, outErr]; repeat' split <;> omega
      have H := Lib.hid e
      clear e hk hn
      go_enter Tryd.func19, Tryd.ntmps19
      go_wp2_with (go_at_call 27; refine (rwithin_any _ _ _ _).mono ?_; rintro e w1 ⟨rfl, rfl⟩)
      go_returns
      exact ⟨by rw [H.out]; rfl, by go_grown⟩
  · have b1 : withinB k 0 2 = false := by simp [withinB]; omega
    have e : wErr k n s = 15 := by simp only [wErr, fst3, kindErr, outErr]; repeat' split <;> omega
    have H := Lib.hid e
    clear e hk
    go_enter Tryd.func19, Tryd.ntmps19
    go_wp2_with (go_at_call 27; refine (rwithin_any _ _ _ _).mono ?_; rintro e w1 ⟨rfl, rfl⟩)
    go_returns
    exact ⟨by rw [H.out]; rfl, by go_grown⟩
end Go.Proofs.YtngdhmliohjigaaDoor
