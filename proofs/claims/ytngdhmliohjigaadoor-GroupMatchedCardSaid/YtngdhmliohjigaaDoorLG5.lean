/- Renamed terminals: lines, sequences, hours, clock numbers, of the program and of the reference. -/
import Derived.Test.YtngdhmliohjigaaDoorLG4
import Derived.Test.YtngdhmliohjigaaDoorLE5
import Derived.Test.YtngdhmliohjigaaDoorEK
set_option linter.unusedVariables false
set_option linter.unusedSimpArgs false
set_option linter.unusedSectionVars false
set_option linter.unnecessarySimpa false
namespace Go.Proofs.YtngdhmliohjigaaDoor
open Go.Ev Go.RowKit
set_option maxRecDepth 100000
def Hp (h : Int) : Int := if h = 0 then 1 else if h = 1 then 2 else if h = 2 then 1 else if h = 3 then 1 else if h = 4 then 0 else if h = 5 then -1 else if h = 6 then -1 else if h = 7 then -2 else if h = 8 then -1 else if h = 9 then -1 else if h = 10 then 0 else 1
def Hq (h : Int) : Int := if h = 0 then 0 else if h = 1 then 1 else if h = 2 then 1 else if h = 3 then 2 else if h = 4 then 1 else if h = 5 then 1 else if h = 6 then 0 else if h = 7 then -1 else if h = 8 then -1 else if h = 9 then -2 else if h = 10 then -1 else (-1)
theorem gcd_g {p q : Int} (g : Int) (hg : 1 ≤ g) (h2 : g ≤ 6000) (hp : -3 ≤ p ∧ p ≤ 3) (hq : -3 ≤ q ∧ q ≤ 3) (h1 : Int.gcd p q = 1) : Con 141 [.int .i64 (p * g), .int .i64 (q * g)] (.int .i64 (1 * g)) := by
  have b1 : -18000 ≤ p * g ∧ p * g ≤ 18000 := by rcases (show p = -3 ∨ p = -2 ∨ p = -1 ∨ p = 0 ∨ p = 1 ∨ p = 2 ∨ p = 3 by omega) with rfl | rfl | rfl | rfl | rfl | rfl | rfl <;> omega
  have b2 : -18000 ≤ q * g ∧ q * g ≤ 18000 := by rcases (show q = -3 ∨ q = -2 ∨ q = -1 ∨ q = 0 ∨ q = 1 ∨ q = 2 ∨ q = 3 by omega) with rfl | rfl | rfl | rfl | rfl | rfl | rfl <;> omega
  refine con_val (divisor_c (p * g) (q * g) (by omega) (by omega) (by omega) (by omega)) (vi ?_)
  rw [Int.gcd_mul_right, h1]
  omega
theorem hours_g (h g : Int) (h0 : 0 ≤ h ∧ h ≤ 11) (h1 : 1 ≤ g) (h2 : g ≤ 6000) : Con 92 [.agg #[.int .i64 (Hp h * g), .int .i64 (Hq h * g)]] (.tuple #[.int .i64 h, .int .i64 0]) := by
  rcases (show h = 0 ∨ h = 1 ∨ h = 2 ∨ h = 3 ∨ h = 4 ∨ h = 5 ∨ h = 6 ∨ h = 7 ∨ h = 8 ∨ h = 9 ∨ h = 10 ∨ h = 11 by omega) with rfl | rfl | rfl | rfl | rfl | rfl | rfl | rfl | rfl | rfl | rfl | rfl
  · exact con_arg (hr_100 g (by simp (disch := omega) only [allC, wrapI, tmodn, tdivn, Int.reduceTMod, Int.reduceTDiv, Int.reduceMul, Int.reduceNeg, bne_iff_ne, beq_iff_eq, bne_eq_false_iff_eq, beq_eq_false_iff_ne, decide_eq_true_eq, decide_eq_false_iff_not, Bool.and_eq_true, Bool.and_eq_false_iff, Bool.or_eq_true, Bool.or_eq_false_iff, Bool.not_eq_true', Bool.not_eq_false', Bool.true_eq_false, Bool.false_eq_true, Int.reduceBEq, Int.reduceBNe, and_true, true_and, or_false, or_true, true_or, false_or] <;> omega) ⟨gcd_g g h1 h2 (by decide) (by decide) (by decide), trivial⟩) (by simp [Hp, Hq])
  · exact con_arg (hr_000 g (by simp (disch := omega) only [allC, wrapI, tmodn, tdivn, Int.reduceTMod, Int.reduceTDiv, Int.reduceMul, Int.reduceNeg, bne_iff_ne, beq_iff_eq, bne_eq_false_iff_eq, beq_eq_false_iff_ne, decide_eq_true_eq, decide_eq_false_iff_not, Bool.and_eq_true, Bool.and_eq_false_iff, Bool.or_eq_true, Bool.or_eq_false_iff, Bool.not_eq_true', Bool.not_eq_false', Bool.true_eq_false, Bool.false_eq_true, Int.reduceBEq, Int.reduceBNe, and_true, true_and, or_false, or_true, true_or, false_or] <;> omega) ⟨gcd_g g h1 h2 (by decide) (by decide) (by decide), trivial⟩) (by simp [Hp, Hq])
  · exact con_arg (hr_111 g (by simp (disch := omega) only [allC, wrapI, tmodn, tdivn, Int.reduceTMod, Int.reduceTDiv, Int.reduceMul, Int.reduceNeg, bne_iff_ne, beq_iff_eq, bne_eq_false_iff_eq, beq_eq_false_iff_ne, decide_eq_true_eq, decide_eq_false_iff_not, Bool.and_eq_true, Bool.and_eq_false_iff, Bool.or_eq_true, Bool.or_eq_false_iff, Bool.not_eq_true', Bool.not_eq_false', Bool.true_eq_false, Bool.false_eq_true, Int.reduceBEq, Int.reduceBNe, and_true, true_and, or_false, or_true, true_or, false_or] <;> omega) ⟨gcd_g g h1 h2 (by decide) (by decide) (by decide), trivial⟩) (by simp [Hp, Hq])
  · exact con_arg (hr_011 g (by simp (disch := omega) only [allC, wrapI, tmodn, tdivn, Int.reduceTMod, Int.reduceTDiv, Int.reduceMul, Int.reduceNeg, bne_iff_ne, beq_iff_eq, bne_eq_false_iff_eq, beq_eq_false_iff_ne, decide_eq_true_eq, decide_eq_false_iff_not, Bool.and_eq_true, Bool.and_eq_false_iff, Bool.or_eq_true, Bool.or_eq_false_iff, Bool.not_eq_true', Bool.not_eq_false', Bool.true_eq_false, Bool.false_eq_true, Int.reduceBEq, Int.reduceBNe, and_true, true_and, or_false, or_true, true_or, false_or] <;> omega) ⟨gcd_g g h1 h2 (by decide) (by decide) (by decide), trivial⟩) (by simp [Hp, Hq])
  · exact con_arg (hr_120 g (by simp (disch := omega) only [allC, wrapI, tmodn, tdivn, Int.reduceTMod, Int.reduceTDiv, Int.reduceMul, Int.reduceNeg, bne_iff_ne, beq_iff_eq, bne_eq_false_iff_eq, beq_eq_false_iff_ne, decide_eq_true_eq, decide_eq_false_iff_not, Bool.and_eq_true, Bool.and_eq_false_iff, Bool.or_eq_true, Bool.or_eq_false_iff, Bool.not_eq_true', Bool.not_eq_false', Bool.true_eq_false, Bool.false_eq_true, Int.reduceBEq, Int.reduceBNe, and_true, true_and, or_false, or_true, true_or, false_or] <;> omega) ⟨gcd_g g h1 h2 (by decide) (by decide) (by decide), trivial⟩) (by simp [Hp, Hq])
  · exact con_arg (hr_020 g (by simp (disch := omega) only [allC, wrapI, tmodn, tdivn, Int.reduceTMod, Int.reduceTDiv, Int.reduceMul, Int.reduceNeg, bne_iff_ne, beq_iff_eq, bne_eq_false_iff_eq, beq_eq_false_iff_ne, decide_eq_true_eq, decide_eq_false_iff_not, Bool.and_eq_true, Bool.and_eq_false_iff, Bool.or_eq_true, Bool.or_eq_false_iff, Bool.not_eq_true', Bool.not_eq_false', Bool.true_eq_false, Bool.false_eq_true, Int.reduceBEq, Int.reduceBNe, and_true, true_and, or_false, or_true, true_or, false_or] <;> omega) ⟨gcd_g g h1 h2 (by decide) (by decide) (by decide), trivial⟩) (by simp [Hp, Hq])
  · exact con_arg (hr_101 g (by simp (disch := omega) only [allC, wrapI, tmodn, tdivn, Int.reduceTMod, Int.reduceTDiv, Int.reduceMul, Int.reduceNeg, bne_iff_ne, beq_iff_eq, bne_eq_false_iff_eq, beq_eq_false_iff_ne, decide_eq_true_eq, decide_eq_false_iff_not, Bool.and_eq_true, Bool.and_eq_false_iff, Bool.or_eq_true, Bool.or_eq_false_iff, Bool.not_eq_true', Bool.not_eq_false', Bool.true_eq_false, Bool.false_eq_true, Int.reduceBEq, Int.reduceBNe, and_true, true_and, or_false, or_true, true_or, false_or] <;> omega) ⟨gcd_g g h1 h2 (by decide) (by decide) (by decide), trivial⟩) (by simp [Hp, Hq])
  · exact con_arg (hr_001 g (by simp (disch := omega) only [allC, wrapI, tmodn, tdivn, Int.reduceTMod, Int.reduceTDiv, Int.reduceMul, Int.reduceNeg, bne_iff_ne, beq_iff_eq, bne_eq_false_iff_eq, beq_eq_false_iff_ne, decide_eq_true_eq, decide_eq_false_iff_not, Bool.and_eq_true, Bool.and_eq_false_iff, Bool.or_eq_true, Bool.or_eq_false_iff, Bool.not_eq_true', Bool.not_eq_false', Bool.true_eq_false, Bool.false_eq_true, Int.reduceBEq, Int.reduceBNe, and_true, true_and, or_false, or_true, true_or, false_or] <;> omega) ⟨gcd_g g h1 h2 (by decide) (by decide) (by decide), trivial⟩) (by simp [Hp, Hq])
  · exact con_arg (hr_110 g (by simp (disch := omega) only [allC, wrapI, tmodn, tdivn, Int.reduceTMod, Int.reduceTDiv, Int.reduceMul, Int.reduceNeg, bne_iff_ne, beq_iff_eq, bne_eq_false_iff_eq, beq_eq_false_iff_ne, decide_eq_true_eq, decide_eq_false_iff_not, Bool.and_eq_true, Bool.and_eq_false_iff, Bool.or_eq_true, Bool.or_eq_false_iff, Bool.not_eq_true', Bool.not_eq_false', Bool.true_eq_false, Bool.false_eq_true, Int.reduceBEq, Int.reduceBNe, and_true, true_and, or_false, or_true, true_or, false_or] <;> omega) ⟨gcd_g g h1 h2 (by decide) (by decide) (by decide), trivial⟩) (by simp [Hp, Hq])
  · exact con_arg (hr_010 g (by simp (disch := omega) only [allC, wrapI, tmodn, tdivn, Int.reduceTMod, Int.reduceTDiv, Int.reduceMul, Int.reduceNeg, bne_iff_ne, beq_iff_eq, bne_eq_false_iff_eq, beq_eq_false_iff_ne, decide_eq_true_eq, decide_eq_false_iff_not, Bool.and_eq_true, Bool.and_eq_false_iff, Bool.or_eq_true, Bool.or_eq_false_iff, Bool.not_eq_true', Bool.not_eq_false', Bool.true_eq_false, Bool.false_eq_true, Int.reduceBEq, Int.reduceBNe, and_true, true_and, or_false, or_true, true_or, false_or] <;> omega) ⟨gcd_g g h1 h2 (by decide) (by decide) (by decide), trivial⟩) (by simp [Hp, Hq])
  · exact con_arg (hr_121 g (by simp (disch := omega) only [allC, wrapI, tmodn, tdivn, Int.reduceTMod, Int.reduceTDiv, Int.reduceMul, Int.reduceNeg, bne_iff_ne, beq_iff_eq, bne_eq_false_iff_eq, beq_eq_false_iff_ne, decide_eq_true_eq, decide_eq_false_iff_not, Bool.and_eq_true, Bool.and_eq_false_iff, Bool.or_eq_true, Bool.or_eq_false_iff, Bool.not_eq_true', Bool.not_eq_false', Bool.true_eq_false, Bool.false_eq_true, Int.reduceBEq, Int.reduceBNe, and_true, true_and, or_false, or_true, true_or, false_or] <;> omega) ⟨gcd_g g h1 h2 (by decide) (by decide) (by decide), trivial⟩) (by simp [Hp, Hq])
  · exact con_arg (hr_021 g (by simp (disch := omega) only [allC, wrapI, tmodn, tdivn, Int.reduceTMod, Int.reduceTDiv, Int.reduceMul, Int.reduceNeg, bne_iff_ne, beq_iff_eq, bne_eq_false_iff_eq, beq_eq_false_iff_ne, decide_eq_true_eq, decide_eq_false_iff_not, Bool.and_eq_true, Bool.and_eq_false_iff, Bool.or_eq_true, Bool.or_eq_false_iff, Bool.not_eq_true', Bool.not_eq_false', Bool.true_eq_false, Bool.false_eq_true, Int.reduceBEq, Int.reduceBNe, and_true, true_and, or_false, or_true, true_or, false_or] <;> omega) ⟨gcd_g g h1 h2 (by decide) (by decide) (by decide), trivial⟩) (by simp [Hp, Hq])
theorem rhours_g (h g : Int) (h0 : 0 ≤ h ∧ h ≤ 11) (h1 : 1 ≤ g) (h2 : g ≤ 6000) : Con 40 [.agg #[.int .i64 (Hp h * g), .int .i64 (Hq h * g)]] (.tuple #[.int .i64 h, .int .i64 0]) := by
  rcases (show h = 0 ∨ h = 1 ∨ h = 2 ∨ h = 3 ∨ h = 4 ∨ h = 5 ∨ h = 6 ∨ h = 7 ∨ h = 8 ∨ h = 9 ∨ h = 10 ∨ h = 11 by omega) with rfl | rfl | rfl | rfl | rfl | rfl | rfl | rfl | rfl | rfl | rfl | rfl
  · exact con_arg (rh_100 g (by simp (disch := omega) only [allC, wrapI, tmodn, tdivn, Int.reduceTMod, Int.reduceTDiv, Int.reduceMul, Int.reduceNeg, bne_iff_ne, beq_iff_eq, bne_eq_false_iff_eq, beq_eq_false_iff_ne, decide_eq_true_eq, decide_eq_false_iff_not, Bool.and_eq_true, Bool.and_eq_false_iff, Bool.or_eq_true, Bool.or_eq_false_iff, Bool.not_eq_true', Bool.not_eq_false', Bool.true_eq_false, Bool.false_eq_true, Int.reduceBEq, Int.reduceBNe, and_true, true_and, or_false, or_true, true_or, false_or] <;> omega) trivial) (by simp [Hp, Hq])
  · exact con_arg (rh_000 g (by simp (disch := omega) only [allC, wrapI, tmodn, tdivn, Int.reduceTMod, Int.reduceTDiv, Int.reduceMul, Int.reduceNeg, bne_iff_ne, beq_iff_eq, bne_eq_false_iff_eq, beq_eq_false_iff_ne, decide_eq_true_eq, decide_eq_false_iff_not, Bool.and_eq_true, Bool.and_eq_false_iff, Bool.or_eq_true, Bool.or_eq_false_iff, Bool.not_eq_true', Bool.not_eq_false', Bool.true_eq_false, Bool.false_eq_true, Int.reduceBEq, Int.reduceBNe, and_true, true_and, or_false, or_true, true_or, false_or] <;> omega) trivial) (by simp [Hp, Hq])
  · exact con_arg (rh_111 g (by simp (disch := omega) only [allC, wrapI, tmodn, tdivn, Int.reduceTMod, Int.reduceTDiv, Int.reduceMul, Int.reduceNeg, bne_iff_ne, beq_iff_eq, bne_eq_false_iff_eq, beq_eq_false_iff_ne, decide_eq_true_eq, decide_eq_false_iff_not, Bool.and_eq_true, Bool.and_eq_false_iff, Bool.or_eq_true, Bool.or_eq_false_iff, Bool.not_eq_true', Bool.not_eq_false', Bool.true_eq_false, Bool.false_eq_true, Int.reduceBEq, Int.reduceBNe, and_true, true_and, or_false, or_true, true_or, false_or] <;> omega) trivial) (by simp [Hp, Hq])
  · exact con_arg (rh_011 g (by simp (disch := omega) only [allC, wrapI, tmodn, tdivn, Int.reduceTMod, Int.reduceTDiv, Int.reduceMul, Int.reduceNeg, bne_iff_ne, beq_iff_eq, bne_eq_false_iff_eq, beq_eq_false_iff_ne, decide_eq_true_eq, decide_eq_false_iff_not, Bool.and_eq_true, Bool.and_eq_false_iff, Bool.or_eq_true, Bool.or_eq_false_iff, Bool.not_eq_true', Bool.not_eq_false', Bool.true_eq_false, Bool.false_eq_true, Int.reduceBEq, Int.reduceBNe, and_true, true_and, or_false, or_true, true_or, false_or] <;> omega) trivial) (by simp [Hp, Hq])
  · exact con_arg (rh_120 g (by simp (disch := omega) only [allC, wrapI, tmodn, tdivn, Int.reduceTMod, Int.reduceTDiv, Int.reduceMul, Int.reduceNeg, bne_iff_ne, beq_iff_eq, bne_eq_false_iff_eq, beq_eq_false_iff_ne, decide_eq_true_eq, decide_eq_false_iff_not, Bool.and_eq_true, Bool.and_eq_false_iff, Bool.or_eq_true, Bool.or_eq_false_iff, Bool.not_eq_true', Bool.not_eq_false', Bool.true_eq_false, Bool.false_eq_true, Int.reduceBEq, Int.reduceBNe, and_true, true_and, or_false, or_true, true_or, false_or] <;> omega) trivial) (by simp [Hp, Hq])
  · exact con_arg (rh_020 g (by simp (disch := omega) only [allC, wrapI, tmodn, tdivn, Int.reduceTMod, Int.reduceTDiv, Int.reduceMul, Int.reduceNeg, bne_iff_ne, beq_iff_eq, bne_eq_false_iff_eq, beq_eq_false_iff_ne, decide_eq_true_eq, decide_eq_false_iff_not, Bool.and_eq_true, Bool.and_eq_false_iff, Bool.or_eq_true, Bool.or_eq_false_iff, Bool.not_eq_true', Bool.not_eq_false', Bool.true_eq_false, Bool.false_eq_true, Int.reduceBEq, Int.reduceBNe, and_true, true_and, or_false, or_true, true_or, false_or] <;> omega) trivial) (by simp [Hp, Hq])
  · exact con_arg (rh_101 g (by simp (disch := omega) only [allC, wrapI, tmodn, tdivn, Int.reduceTMod, Int.reduceTDiv, Int.reduceMul, Int.reduceNeg, bne_iff_ne, beq_iff_eq, bne_eq_false_iff_eq, beq_eq_false_iff_ne, decide_eq_true_eq, decide_eq_false_iff_not, Bool.and_eq_true, Bool.and_eq_false_iff, Bool.or_eq_true, Bool.or_eq_false_iff, Bool.not_eq_true', Bool.not_eq_false', Bool.true_eq_false, Bool.false_eq_true, Int.reduceBEq, Int.reduceBNe, and_true, true_and, or_false, or_true, true_or, false_or] <;> omega) trivial) (by simp [Hp, Hq])
  · exact con_arg (rh_001 g (by simp (disch := omega) only [allC, wrapI, tmodn, tdivn, Int.reduceTMod, Int.reduceTDiv, Int.reduceMul, Int.reduceNeg, bne_iff_ne, beq_iff_eq, bne_eq_false_iff_eq, beq_eq_false_iff_ne, decide_eq_true_eq, decide_eq_false_iff_not, Bool.and_eq_true, Bool.and_eq_false_iff, Bool.or_eq_true, Bool.or_eq_false_iff, Bool.not_eq_true', Bool.not_eq_false', Bool.true_eq_false, Bool.false_eq_true, Int.reduceBEq, Int.reduceBNe, and_true, true_and, or_false, or_true, true_or, false_or] <;> omega) trivial) (by simp [Hp, Hq])
  · exact con_arg (rh_110 g (by simp (disch := omega) only [allC, wrapI, tmodn, tdivn, Int.reduceTMod, Int.reduceTDiv, Int.reduceMul, Int.reduceNeg, bne_iff_ne, beq_iff_eq, bne_eq_false_iff_eq, beq_eq_false_iff_ne, decide_eq_true_eq, decide_eq_false_iff_not, Bool.and_eq_true, Bool.and_eq_false_iff, Bool.or_eq_true, Bool.or_eq_false_iff, Bool.not_eq_true', Bool.not_eq_false', Bool.true_eq_false, Bool.false_eq_true, Int.reduceBEq, Int.reduceBNe, and_true, true_and, or_false, or_true, true_or, false_or] <;> omega) trivial) (by simp [Hp, Hq])
  · exact con_arg (rh_010 g (by simp (disch := omega) only [allC, wrapI, tmodn, tdivn, Int.reduceTMod, Int.reduceTDiv, Int.reduceMul, Int.reduceNeg, bne_iff_ne, beq_iff_eq, bne_eq_false_iff_eq, beq_eq_false_iff_ne, decide_eq_true_eq, decide_eq_false_iff_not, Bool.and_eq_true, Bool.and_eq_false_iff, Bool.or_eq_true, Bool.or_eq_false_iff, Bool.not_eq_true', Bool.not_eq_false', Bool.true_eq_false, Bool.false_eq_true, Int.reduceBEq, Int.reduceBNe, and_true, true_and, or_false, or_true, true_or, false_or] <;> omega) trivial) (by simp [Hp, Hq])
  · exact con_arg (rh_121 g (by simp (disch := omega) only [allC, wrapI, tmodn, tdivn, Int.reduceTMod, Int.reduceTDiv, Int.reduceMul, Int.reduceNeg, bne_iff_ne, beq_iff_eq, bne_eq_false_iff_eq, beq_eq_false_iff_ne, decide_eq_true_eq, decide_eq_false_iff_not, Bool.and_eq_true, Bool.and_eq_false_iff, Bool.or_eq_true, Bool.or_eq_false_iff, Bool.not_eq_true', Bool.not_eq_false', Bool.true_eq_false, Bool.false_eq_true, Int.reduceBEq, Int.reduceBNe, and_true, true_and, or_false, or_true, true_or, false_or] <;> omega) trivial) (by simp [Hp, Hq])
  · exact con_arg (rh_021 g (by simp (disch := omega) only [allC, wrapI, tmodn, tdivn, Int.reduceTMod, Int.reduceTDiv, Int.reduceMul, Int.reduceNeg, bne_iff_ne, beq_iff_eq, bne_eq_false_iff_eq, beq_eq_false_iff_ne, decide_eq_true_eq, decide_eq_false_iff_not, Bool.and_eq_true, Bool.and_eq_false_iff, Bool.or_eq_true, Bool.or_eq_false_iff, Bool.not_eq_true', Bool.not_eq_false', Bool.true_eq_false, Bool.false_eq_true, Int.reduceBEq, Int.reduceBNe, and_true, true_and, or_false, or_true, true_or, false_or] <;> omega) trivial) (by simp [Hp, Hq])
def Small9 (l0 l1 l2 l3 l4 l5 l6 l7 l8 : Int) : Prop := -6000 ≤ l0 ∧ l0 ≤ 6000 ∧ -6000 ≤ l1 ∧ l1 ≤ 6000 ∧ -6000 ≤ l2 ∧ l2 ≤ 6000 ∧ -6000 ≤ l3 ∧ l3 ≤ 6000 ∧ -6000 ≤ l4 ∧ l4 ≤ 6000 ∧ -6000 ≤ l5 ∧ l5 ≤ 6000 ∧ -6000 ≤ l6 ∧ l6 ≤ 6000 ∧ -6000 ≤ l7 ∧ l7 ≤ 6000 ∧ -6000 ≤ l8 ∧ l8 ≤ 6000
/-- The rows' phasors follow each other by a third of a turn back. -/
def Rows (l0 l1 l2 l3 l4 l5 l6 l7 l8 P Q : Int) : Prop := l0 - l1 = P ∧ l2 - l1 = Q ∧ l3 - l4 = Q - P ∧ l5 - l4 = -P ∧ l6 - l7 = -Q ∧ l8 - l7 = P - Q
/-- And on. -/
def RowsM (l0 l1 l2 l3 l4 l5 l6 l7 l8 P Q : Int) : Prop := l0 - l1 = P ∧ l2 - l1 = Q ∧ l3 - l4 = -Q ∧ l5 - l4 = P - Q ∧ l6 - l7 = Q - P ∧ l8 - l7 = -P
theorem lines_w {k n s : Int} (m : Bool) (h : valid k n s) : ∃ (l0 l1 l2 l3 l4 l5 l6 l7 l8 g : Int), Con 82 [.agg #[.int .i64 k, .int .i64 n, .int .i64 s, .bool m]] (.agg #[.int .i64 l0, .int .i64 l1, .int .i64 l2, .int .i64 l3, .int .i64 l4, .int .i64 l5, .int .i64 l6, .int .i64 l7, .int .i64 l8]) ∧ Con 22 [.agg #[.int .i64 k, .int .i64 n, .int .i64 s, .bool m]] (.agg #[.int .i64 l0, .int .i64 l1, .int .i64 l2, .int .i64 l3, .int .i64 l4, .int .i64 l5, .int .i64 l6, .int .i64 l7, .int .i64 l8]) ∧
    Small9 l0 l1 l2 l3 l4 l5 l6 l7 l8 ∧ Rows l0 l1 l2 l3 l4 l5 l6 l7 l8 (Hp (hv k s m) * g) (Hq (hv k s m) * g) ∧ 1 ≤ g ∧ g ≤ 6000 := by
  obtain ⟨hk, h1, h2, hs⟩ := h
  rcases hk with rfl | rfl | rfl <;> rcases hs with rfl | rfl | rfl <;> cases m
  · exact ⟨_, _, _, _, _, _, _, _, _, n, lfc_000 n h1 h2, rlc_000 n h1 h2, by unfold Small9; omega, by rw [show hv 0 0 false = 1 from by decide, show Hp 1 = 2 from by decide, show Hq 1 = 1 from by decide]; unfold Rows; omega, by omega, by omega⟩
  · exact ⟨_, _, _, _, _, _, _, _, _, n, lfc_001 n h1 h2, rlc_001 n h1 h2, by unfold Small9; omega, by rw [show hv 0 0 true = 7 from by decide, show Hp 7 = -2 from by decide, show Hq 7 = -1 from by decide]; unfold Rows; omega, by omega, by omega⟩
  · exact ⟨_, _, _, _, _, _, _, _, _, n, lfc_010 n h1 h2, rlc_010 n h1 h2, by unfold Small9; omega, by rw [show hv 0 1 false = 9 from by decide, show Hp 9 = -1 from by decide, show Hq 9 = -2 from by decide]; unfold Rows; omega, by omega, by omega⟩
  · exact ⟨_, _, _, _, _, _, _, _, _, n, lfc_011 n h1 h2, rlc_011 n h1 h2, by unfold Small9; omega, by rw [show hv 0 1 true = 3 from by decide, show Hp 3 = 1 from by decide, show Hq 3 = 2 from by decide]; unfold Rows; omega, by omega, by omega⟩
  · exact ⟨_, _, _, _, _, _, _, _, _, n, lfc_020 n h1 h2, rlc_020 n h1 h2, by unfold Small9; omega, by rw [show hv 0 2 false = 5 from by decide, show Hp 5 = -1 from by decide, show Hq 5 = 1 from by decide]; unfold Rows; omega, by omega, by omega⟩
  · exact ⟨_, _, _, _, _, _, _, _, _, n, lfc_021 n h1 h2, rlc_021 n h1 h2, by unfold Small9; omega, by rw [show hv 0 2 true = 11 from by decide, show Hp 11 = 1 from by decide, show Hq 11 = -1 from by decide]; unfold Rows; omega, by omega, by omega⟩
  · exact ⟨_, _, _, _, _, _, _, _, _, n, lfc_100 n h1 h2, rlc_100 n h1 h2, by unfold Small9; omega, by rw [show hv 1 0 false = 0 from by decide, show Hp 0 = 1 from by decide, show Hq 0 = 0 from by decide]; unfold Rows; omega, by omega, by omega⟩
  · exact ⟨_, _, _, _, _, _, _, _, _, n, lfc_101 n h1 h2, rlc_101 n h1 h2, by unfold Small9; omega, by rw [show hv 1 0 true = 6 from by decide, show Hp 6 = -1 from by decide, show Hq 6 = 0 from by decide]; unfold Rows; omega, by omega, by omega⟩
  · exact ⟨_, _, _, _, _, _, _, _, _, n, lfc_110 n h1 h2, rlc_110 n h1 h2, by unfold Small9; omega, by rw [show hv 1 1 false = 8 from by decide, show Hp 8 = -1 from by decide, show Hq 8 = -1 from by decide]; unfold Rows; omega, by omega, by omega⟩
  · exact ⟨_, _, _, _, _, _, _, _, _, n, lfc_111 n h1 h2, rlc_111 n h1 h2, by unfold Small9; omega, by rw [show hv 1 1 true = 2 from by decide, show Hp 2 = 1 from by decide, show Hq 2 = 1 from by decide]; unfold Rows; omega, by omega, by omega⟩
  · exact ⟨_, _, _, _, _, _, _, _, _, n, lfc_120 n h1 h2, rlc_120 n h1 h2, by unfold Small9; omega, by rw [show hv 1 2 false = 4 from by decide, show Hp 4 = 0 from by decide, show Hq 4 = 1 from by decide]; unfold Rows; omega, by omega, by omega⟩
  · exact ⟨_, _, _, _, _, _, _, _, _, n, lfc_121 n h1 h2, rlc_121 n h1 h2, by unfold Small9; omega, by rw [show hv 1 2 true = 10 from by decide, show Hp 10 = 0 from by decide, show Hq 10 = -1 from by decide]; unfold Rows; omega, by omega, by omega⟩
  · exact ⟨_, _, _, _, _, _, _, _, _, 3 * n, lfc_200 n h1 h2, rlc_200 n h1 h2, by unfold Small9; omega, by rw [show hv 2 0 false = 2 from by decide, show Hp 2 = 1 from by decide, show Hq 2 = 1 from by decide]; unfold Rows; omega, by omega, by omega⟩
  · exact ⟨_, _, _, _, _, _, _, _, _, 3 * n, lfc_201 n h1 h2, rlc_201 n h1 h2, by unfold Small9; omega, by rw [show hv 2 0 true = 8 from by decide, show Hp 8 = -1 from by decide, show Hq 8 = -1 from by decide]; unfold Rows; omega, by omega, by omega⟩
  · exact ⟨_, _, _, _, _, _, _, _, _, 3 * n, lfc_210 n h1 h2, rlc_210 n h1 h2, by unfold Small9; omega, by rw [show hv 2 1 false = 10 from by decide, show Hp 10 = 0 from by decide, show Hq 10 = -1 from by decide]; unfold Rows; omega, by omega, by omega⟩
  · exact ⟨_, _, _, _, _, _, _, _, _, 3 * n, lfc_211 n h1 h2, rlc_211 n h1 h2, by unfold Small9; omega, by rw [show hv 2 1 true = 4 from by decide, show Hp 4 = 0 from by decide, show Hq 4 = 1 from by decide]; unfold Rows; omega, by omega, by omega⟩
  · exact ⟨_, _, _, _, _, _, _, _, _, 3 * n, lfc_220 n h1 h2, rlc_220 n h1 h2, by unfold Small9; omega, by rw [show hv 2 2 false = 6 from by decide, show Hp 6 = -1 from by decide, show Hq 6 = 0 from by decide]; unfold Rows; omega, by omega, by omega⟩
  · exact ⟨_, _, _, _, _, _, _, _, _, 3 * n, lfc_221 n h1 h2, rlc_221 n h1 h2, by unfold Small9; omega, by rw [show hv 2 2 true = 0 from by decide, show Hp 0 = 1 from by decide, show Hq 0 = 0 from by decide]; unfold Rows; omega, by omega, by omega⟩
section
variable {l0 l1 l2 l3 l4 l5 l6 l7 l8 : Int} (hs : Small9 l0 l1 l2 l3 l4 l5 l6 l7 l8)
include hs
theorem phas0 : Con 89 [.agg #[.int .i64 l0, .int .i64 l1, .int .i64 l2, .int .i64 l3, .int .i64 l4, .int .i64 l5, .int .i64 l6, .int .i64 l7, .int .i64 l8], .int .i64 0] (.agg #[.int .i64 (l0 - l1), .int .i64 (l2 - l1)]) := con_val (pg_0 l0 l1 l2 l3 l4 l5 l6 l7 l8 trivial trivial) (by unfold Small9 at hs; apply va2 <;> exact vi (by simp (disch := omega) only [wrapI]; omega))
theorem rphas0 : Con 32 [.agg #[.int .i64 l0, .int .i64 l1, .int .i64 l2]] (.agg #[.int .i64 (l0 - l1), .int .i64 (l2 - l1)]) := con_val (rp_any _ _ _ trivial trivial) (by unfold Small9 at hs; apply va2 <;> exact vi (by simp (disch := omega) only [wrapI]))
theorem phas1 : Con 89 [.agg #[.int .i64 l0, .int .i64 l1, .int .i64 l2, .int .i64 l3, .int .i64 l4, .int .i64 l5, .int .i64 l6, .int .i64 l7, .int .i64 l8], .int .i64 1] (.agg #[.int .i64 (l3 - l4), .int .i64 (l5 - l4)]) := con_val (pg_1 l0 l1 l2 l3 l4 l5 l6 l7 l8 trivial trivial) (by unfold Small9 at hs; apply va2 <;> exact vi (by simp (disch := omega) only [wrapI]; omega))
theorem rphas1 : Con 32 [.agg #[.int .i64 l3, .int .i64 l4, .int .i64 l5]] (.agg #[.int .i64 (l3 - l4), .int .i64 (l5 - l4)]) := con_val (rp_any _ _ _ trivial trivial) (by unfold Small9 at hs; apply va2 <;> exact vi (by simp (disch := omega) only [wrapI]))
theorem phas2 : Con 89 [.agg #[.int .i64 l0, .int .i64 l1, .int .i64 l2, .int .i64 l3, .int .i64 l4, .int .i64 l5, .int .i64 l6, .int .i64 l7, .int .i64 l8], .int .i64 2] (.agg #[.int .i64 (l6 - l7), .int .i64 (l8 - l7)]) := con_val (pg_2 l0 l1 l2 l3 l4 l5 l6 l7 l8 trivial trivial) (by unfold Small9 at hs; apply va2 <;> exact vi (by simp (disch := omega) only [wrapI]; omega))
theorem rphas2 : Con 32 [.agg #[.int .i64 l6, .int .i64 l7, .int .i64 l8]] (.agg #[.int .i64 (l6 - l7), .int .i64 (l8 - l7)]) := con_val (rp_any _ _ _ trivial trivial) (by unfold Small9 at hs; apply va2 <;> exact vi (by simp (disch := omega) only [wrapI]))
theorem sgc_p {P Q : Int} (hr : Rows l0 l1 l2 l3 l4 l5 l6 l7 l8 P Q) (hz : ¬ (P = 0 ∧ Q = 0)) : Con 88 [.agg #[.int .i64 l0, .int .i64 l1, .int .i64 l2, .int .i64 l3, .int .i64 l4, .int .i64 l5, .int .i64 l6, .int .i64 l7, .int .i64 l8]] (.tuple #[.int .i64 1, .int .i64 0]) := by
  have a := phas0 hs
  have b := phas1 hs
  have c := phas2 hs
  have bd : -24000 ≤ P ∧ P ≤ 24000 ∧ -24000 ≤ Q ∧ Q ≤ 24000 := by unfold Small9 at hs; unfold Rows at hr; omega
  obtain ⟨e0, e1, e2, e3, e4, e5⟩ := hr
  rw [e0, e1] at a
  rw [e2, e3] at b
  rw [e4, e5] at c
  exact sg_p l0 l1 l2 l3 l4 l5 l6 l7 l8 P Q _ _ _ _ (by simp (disch := omega) only [allC, wrapI, tmodn, tdivn, Int.reduceTMod, Int.reduceTDiv, Int.reduceMul, Int.reduceNeg, bne_iff_ne, beq_iff_eq, bne_eq_false_iff_eq, beq_eq_false_iff_ne, decide_eq_true_eq, decide_eq_false_iff_not, Bool.and_eq_true, Bool.and_eq_false_iff, Bool.or_eq_true, Bool.or_eq_false_iff, Bool.not_eq_true', Bool.not_eq_false', Bool.true_eq_false, Bool.false_eq_true, Int.reduceBEq, Int.reduceBNe, and_true, true_and, or_false, or_true, true_or, false_or] <;> omega) ⟨a, b, c, trivial⟩
theorem rgc_p {P Q : Int} (hr : Rows l0 l1 l2 l3 l4 l5 l6 l7 l8 P Q) (hz : ¬ (P = 0 ∧ Q = 0)) : Con 31 [.agg #[.int .i64 l0, .int .i64 l1, .int .i64 l2, .int .i64 l3, .int .i64 l4, .int .i64 l5, .int .i64 l6, .int .i64 l7, .int .i64 l8]] (.tuple #[.int .i64 1, .int .i64 0]) := by
  have a := rphas0 hs
  have b := rphas1 hs
  have c := rphas2 hs
  have bd : -24000 ≤ P ∧ P ≤ 24000 ∧ -24000 ≤ Q ∧ Q ≤ 24000 := by unfold Small9 at hs; unfold Rows at hr; omega
  obtain ⟨e0, e1, e2, e3, e4, e5⟩ := hr
  rw [e0, e1] at a
  rw [e2, e3] at b
  rw [e4, e5] at c
  exact rg_p l0 l1 l2 l3 l4 l5 l6 l7 l8 P Q _ _ _ _ (by simp (disch := omega) only [allC, wrapI, tmodn, tdivn, Int.reduceTMod, Int.reduceTDiv, Int.reduceMul, Int.reduceNeg, bne_iff_ne, beq_iff_eq, bne_eq_false_iff_eq, beq_eq_false_iff_ne, decide_eq_true_eq, decide_eq_false_iff_not, Bool.and_eq_true, Bool.and_eq_false_iff, Bool.or_eq_true, Bool.or_eq_false_iff, Bool.not_eq_true', Bool.not_eq_false', Bool.true_eq_false, Bool.false_eq_true, Int.reduceBEq, Int.reduceBNe, and_true, true_and, or_false, or_true, true_or, false_or] <;> omega) ⟨a, b, c, trivial⟩
theorem sgc_m {P Q : Int} (hr : RowsM l0 l1 l2 l3 l4 l5 l6 l7 l8 P Q) (hz : ¬ (P = 0 ∧ Q = 0)) : Con 88 [.agg #[.int .i64 l0, .int .i64 l1, .int .i64 l2, .int .i64 l3, .int .i64 l4, .int .i64 l5, .int .i64 l6, .int .i64 l7, .int .i64 l8]] (.tuple #[.int .i64 (-1), .int .i64 0]) := by
  have a := phas0 hs
  have b := phas1 hs
  have c := phas2 hs
  have bd : -24000 ≤ P ∧ P ≤ 24000 ∧ -24000 ≤ Q ∧ Q ≤ 24000 := by unfold Small9 at hs; unfold RowsM at hr; omega
  obtain ⟨e0, e1, e2, e3, e4, e5⟩ := hr
  rw [e0, e1] at a
  rw [e2, e3] at b
  rw [e4, e5] at c
  exact sg_m l0 l1 l2 l3 l4 l5 l6 l7 l8 P Q _ _ _ _ (by simp (disch := omega) only [allC, wrapI, tmodn, tdivn, Int.reduceTMod, Int.reduceTDiv, Int.reduceMul, Int.reduceNeg, bne_iff_ne, beq_iff_eq, bne_eq_false_iff_eq, beq_eq_false_iff_ne, decide_eq_true_eq, decide_eq_false_iff_not, Bool.and_eq_true, Bool.and_eq_false_iff, Bool.or_eq_true, Bool.or_eq_false_iff, Bool.not_eq_true', Bool.not_eq_false', Bool.true_eq_false, Bool.false_eq_true, Int.reduceBEq, Int.reduceBNe, and_true, true_and, or_false, or_true, true_or, false_or] <;> omega) ⟨a, b, c, trivial⟩
theorem rgc_m {P Q : Int} (hr : RowsM l0 l1 l2 l3 l4 l5 l6 l7 l8 P Q) (hz : ¬ (P = 0 ∧ Q = 0)) : Con 31 [.agg #[.int .i64 l0, .int .i64 l1, .int .i64 l2, .int .i64 l3, .int .i64 l4, .int .i64 l5, .int .i64 l6, .int .i64 l7, .int .i64 l8]] (.tuple #[.int .i64 (-1), .int .i64 0]) := by
  have a := rphas0 hs
  have b := rphas1 hs
  have c := rphas2 hs
  have bd : -24000 ≤ P ∧ P ≤ 24000 ∧ -24000 ≤ Q ∧ Q ≤ 24000 := by unfold Small9 at hs; unfold RowsM at hr; omega
  obtain ⟨e0, e1, e2, e3, e4, e5⟩ := hr
  rw [e0, e1] at a
  rw [e2, e3] at b
  rw [e4, e5] at c
  exact rg_m l0 l1 l2 l3 l4 l5 l6 l7 l8 P Q _ _ _ _ (by simp (disch := omega) only [allC, wrapI, tmodn, tdivn, Int.reduceTMod, Int.reduceTDiv, Int.reduceMul, Int.reduceNeg, bne_iff_ne, beq_iff_eq, bne_eq_false_iff_eq, beq_eq_false_iff_ne, decide_eq_true_eq, decide_eq_false_iff_not, Bool.and_eq_true, Bool.and_eq_false_iff, Bool.or_eq_true, Bool.or_eq_false_iff, Bool.not_eq_true', Bool.not_eq_false', Bool.true_eq_false, Bool.false_eq_true, Int.reduceBEq, Int.reduceBNe, and_true, true_and, or_false, or_true, true_or, false_or] <;> omega) ⟨a, b, c, trivial⟩
theorem ren_0 : Con 94 [.agg #[.int .i64 l0, .int .i64 l1, .int .i64 l2, .int .i64 l3, .int .i64 l4, .int .i64 l5, .int .i64 l6, .int .i64 l7, .int .i64 l8], .agg #[.int .i64 0, .int .i64 1, .int .i64 2]] (.agg #[.int .i64 l0, .int .i64 l1, .int .i64 l2, .int .i64 l3, .int .i64 l4, .int .i64 l5, .int .i64 l6, .int .i64 l7, .int .i64 l8]) := rna_0 l0 l1 l2 l3 l4 l5 l6 l7 l8 (by simp [allC]) trivial
theorem rren_0 : Con 34 [.agg #[.int .i64 l0, .int .i64 l1, .int .i64 l2, .int .i64 l3, .int .i64 l4, .int .i64 l5, .int .i64 l6, .int .i64 l7, .int .i64 l8], .agg #[.int .i64 0, .int .i64 1, .int .i64 2]] (.agg #[.int .i64 l0, .int .i64 l1, .int .i64 l2, .int .i64 l3, .int .i64 l4, .int .i64 l5, .int .i64 l6, .int .i64 l7, .int .i64 l8]) := rra_0 l0 l1 l2 l3 l4 l5 l6 l7 l8 (by simp [allC]) trivial
theorem small_0 : Small9 l0 l1 l2 l3 l4 l5 l6 l7 l8 := by unfold Small9 at *; omega
omit hs in
theorem rows_0 {P Q P' Q' : Int} (hr : Rows l0 l1 l2 l3 l4 l5 l6 l7 l8 P Q) (e1 : P = P') (e2 : Q = Q') : Rows l0 l1 l2 l3 l4 l5 l6 l7 l8 P' Q' := by unfold Rows at hr; unfold Rows; omega
theorem ren_1 : Con 94 [.agg #[.int .i64 l0, .int .i64 l1, .int .i64 l2, .int .i64 l3, .int .i64 l4, .int .i64 l5, .int .i64 l6, .int .i64 l7, .int .i64 l8], .agg #[.int .i64 0, .int .i64 2, .int .i64 1]] (.agg #[.int .i64 (-l6), .int .i64 (-l7), .int .i64 (-l8), .int .i64 (-l3), .int .i64 (-l4), .int .i64 (-l5), .int .i64 (-l0), .int .i64 (-l1), .int .i64 (-l2)]) := con_val (rna_1 l0 l1 l2 l3 l4 l5 l6 l7 l8 (by simp [allC]) trivial) (by unfold Small9 at hs; apply va9 <;> exact vi (by rw [wrapI _ (by omega) (by omega)]; omega))
theorem rren_1 : Con 34 [.agg #[.int .i64 l0, .int .i64 l1, .int .i64 l2, .int .i64 l3, .int .i64 l4, .int .i64 l5, .int .i64 l6, .int .i64 l7, .int .i64 l8], .agg #[.int .i64 0, .int .i64 2, .int .i64 1]] (.agg #[.int .i64 (-l6), .int .i64 (-l7), .int .i64 (-l8), .int .i64 (-l3), .int .i64 (-l4), .int .i64 (-l5), .int .i64 (-l0), .int .i64 (-l1), .int .i64 (-l2)]) := con_val (rra_1 l0 l1 l2 l3 l4 l5 l6 l7 l8 (by simp [allC]) trivial) (by unfold Small9 at hs; apply va9 <;> exact vi (by rw [wrapI _ (by omega) (by omega)]; omega))
theorem small_1 : Small9 (-l6) (-l7) (-l8) (-l3) (-l4) (-l5) (-l0) (-l1) (-l2) := by unfold Small9 at *; omega
omit hs in
theorem rows_1 {P Q P' Q' : Int} (hr : Rows l0 l1 l2 l3 l4 l5 l6 l7 l8 P Q) (e1 : Q = P') (e2 : (Q - P) = Q') : RowsM (-l6) (-l7) (-l8) (-l3) (-l4) (-l5) (-l0) (-l1) (-l2) P' Q' := by unfold Rows at hr; unfold RowsM; omega
theorem ren_2 : Con 94 [.agg #[.int .i64 l0, .int .i64 l1, .int .i64 l2, .int .i64 l3, .int .i64 l4, .int .i64 l5, .int .i64 l6, .int .i64 l7, .int .i64 l8], .agg #[.int .i64 1, .int .i64 0, .int .i64 2]] (.agg #[.int .i64 (-l0), .int .i64 (-l1), .int .i64 (-l2), .int .i64 (-l6), .int .i64 (-l7), .int .i64 (-l8), .int .i64 (-l3), .int .i64 (-l4), .int .i64 (-l5)]) := con_val (rna_2 l0 l1 l2 l3 l4 l5 l6 l7 l8 (by simp [allC]) trivial) (by unfold Small9 at hs; apply va9 <;> exact vi (by rw [wrapI _ (by omega) (by omega)]; omega))
theorem rren_2 : Con 34 [.agg #[.int .i64 l0, .int .i64 l1, .int .i64 l2, .int .i64 l3, .int .i64 l4, .int .i64 l5, .int .i64 l6, .int .i64 l7, .int .i64 l8], .agg #[.int .i64 1, .int .i64 0, .int .i64 2]] (.agg #[.int .i64 (-l0), .int .i64 (-l1), .int .i64 (-l2), .int .i64 (-l6), .int .i64 (-l7), .int .i64 (-l8), .int .i64 (-l3), .int .i64 (-l4), .int .i64 (-l5)]) := con_val (rra_2 l0 l1 l2 l3 l4 l5 l6 l7 l8 (by simp [allC]) trivial) (by unfold Small9 at hs; apply va9 <;> exact vi (by rw [wrapI _ (by omega) (by omega)]; omega))
theorem small_2 : Small9 (-l0) (-l1) (-l2) (-l6) (-l7) (-l8) (-l3) (-l4) (-l5) := by unfold Small9 at *; omega
omit hs in
theorem rows_2 {P Q P' Q' : Int} (hr : Rows l0 l1 l2 l3 l4 l5 l6 l7 l8 P Q) (e1 : (-P) = P') (e2 : (-Q) = Q') : RowsM (-l0) (-l1) (-l2) (-l6) (-l7) (-l8) (-l3) (-l4) (-l5) P' Q' := by unfold Rows at hr; unfold RowsM; omega
theorem ren_3 : Con 94 [.agg #[.int .i64 l0, .int .i64 l1, .int .i64 l2, .int .i64 l3, .int .i64 l4, .int .i64 l5, .int .i64 l6, .int .i64 l7, .int .i64 l8], .agg #[.int .i64 1, .int .i64 2, .int .i64 0]] (.agg #[.int .i64 l3, .int .i64 l4, .int .i64 l5, .int .i64 l6, .int .i64 l7, .int .i64 l8, .int .i64 l0, .int .i64 l1, .int .i64 l2]) := rna_3 l0 l1 l2 l3 l4 l5 l6 l7 l8 (by simp [allC]) trivial
theorem rren_3 : Con 34 [.agg #[.int .i64 l0, .int .i64 l1, .int .i64 l2, .int .i64 l3, .int .i64 l4, .int .i64 l5, .int .i64 l6, .int .i64 l7, .int .i64 l8], .agg #[.int .i64 1, .int .i64 2, .int .i64 0]] (.agg #[.int .i64 l3, .int .i64 l4, .int .i64 l5, .int .i64 l6, .int .i64 l7, .int .i64 l8, .int .i64 l0, .int .i64 l1, .int .i64 l2]) := rra_3 l0 l1 l2 l3 l4 l5 l6 l7 l8 (by simp [allC]) trivial
theorem small_3 : Small9 l3 l4 l5 l6 l7 l8 l0 l1 l2 := by unfold Small9 at *; omega
omit hs in
theorem rows_3 {P Q P' Q' : Int} (hr : Rows l0 l1 l2 l3 l4 l5 l6 l7 l8 P Q) (e1 : (Q - P) = P') (e2 : (-P) = Q') : Rows l3 l4 l5 l6 l7 l8 l0 l1 l2 P' Q' := by unfold Rows at hr; unfold Rows; omega
theorem ren_4 : Con 94 [.agg #[.int .i64 l0, .int .i64 l1, .int .i64 l2, .int .i64 l3, .int .i64 l4, .int .i64 l5, .int .i64 l6, .int .i64 l7, .int .i64 l8], .agg #[.int .i64 2, .int .i64 0, .int .i64 1]] (.agg #[.int .i64 l6, .int .i64 l7, .int .i64 l8, .int .i64 l0, .int .i64 l1, .int .i64 l2, .int .i64 l3, .int .i64 l4, .int .i64 l5]) := rna_4 l0 l1 l2 l3 l4 l5 l6 l7 l8 (by simp [allC]) trivial
theorem rren_4 : Con 34 [.agg #[.int .i64 l0, .int .i64 l1, .int .i64 l2, .int .i64 l3, .int .i64 l4, .int .i64 l5, .int .i64 l6, .int .i64 l7, .int .i64 l8], .agg #[.int .i64 2, .int .i64 0, .int .i64 1]] (.agg #[.int .i64 l6, .int .i64 l7, .int .i64 l8, .int .i64 l0, .int .i64 l1, .int .i64 l2, .int .i64 l3, .int .i64 l4, .int .i64 l5]) := rra_4 l0 l1 l2 l3 l4 l5 l6 l7 l8 (by simp [allC]) trivial
theorem small_4 : Small9 l6 l7 l8 l0 l1 l2 l3 l4 l5 := by unfold Small9 at *; omega
omit hs in
theorem rows_4 {P Q P' Q' : Int} (hr : Rows l0 l1 l2 l3 l4 l5 l6 l7 l8 P Q) (e1 : (-Q) = P') (e2 : (P - Q) = Q') : Rows l6 l7 l8 l0 l1 l2 l3 l4 l5 P' Q' := by unfold Rows at hr; unfold Rows; omega
theorem ren_5 : Con 94 [.agg #[.int .i64 l0, .int .i64 l1, .int .i64 l2, .int .i64 l3, .int .i64 l4, .int .i64 l5, .int .i64 l6, .int .i64 l7, .int .i64 l8], .agg #[.int .i64 2, .int .i64 1, .int .i64 0]] (.agg #[.int .i64 (-l3), .int .i64 (-l4), .int .i64 (-l5), .int .i64 (-l0), .int .i64 (-l1), .int .i64 (-l2), .int .i64 (-l6), .int .i64 (-l7), .int .i64 (-l8)]) := con_val (rna_5 l0 l1 l2 l3 l4 l5 l6 l7 l8 (by simp [allC]) trivial) (by unfold Small9 at hs; apply va9 <;> exact vi (by rw [wrapI _ (by omega) (by omega)]; omega))
theorem rren_5 : Con 34 [.agg #[.int .i64 l0, .int .i64 l1, .int .i64 l2, .int .i64 l3, .int .i64 l4, .int .i64 l5, .int .i64 l6, .int .i64 l7, .int .i64 l8], .agg #[.int .i64 2, .int .i64 1, .int .i64 0]] (.agg #[.int .i64 (-l3), .int .i64 (-l4), .int .i64 (-l5), .int .i64 (-l0), .int .i64 (-l1), .int .i64 (-l2), .int .i64 (-l6), .int .i64 (-l7), .int .i64 (-l8)]) := con_val (rra_5 l0 l1 l2 l3 l4 l5 l6 l7 l8 (by simp [allC]) trivial) (by unfold Small9 at hs; apply va9 <;> exact vi (by rw [wrapI _ (by omega) (by omega)]; omega))
theorem small_5 : Small9 (-l3) (-l4) (-l5) (-l0) (-l1) (-l2) (-l6) (-l7) (-l8) := by unfold Small9 at *; omega
omit hs in
theorem rows_5 {P Q P' Q' : Int} (hr : Rows l0 l1 l2 l3 l4 l5 l6 l7 l8 P Q) (e1 : (P - Q) = P') (e2 : P = Q') : RowsM (-l3) (-l4) (-l5) (-l0) (-l1) (-l2) (-l6) (-l7) (-l8) P' Q' := by unfold Rows at hr; unfold RowsM; omega
end
theorem rot_0 (h : Int) (h0 : 0 ≤ h ∧ h ≤ 11) : Hp h = Hp ((h + 0) % 12) ∧ Hq h = Hq ((h + 0) % 12) := by
  rcases (show h = 0 ∨ h = 1 ∨ h = 2 ∨ h = 3 ∨ h = 4 ∨ h = 5 ∨ h = 6 ∨ h = 7 ∨ h = 8 ∨ h = 9 ∨ h = 10 ∨ h = 11 by omega) with rfl | rfl | rfl | rfl | rfl | rfl | rfl | rfl | rfl | rfl | rfl | rfl <;> decide
theorem rotg_0 (h g : Int) (h0 : 0 ≤ h ∧ h ≤ 11) : (Hp h * g) = Hp ((h + 0) % 12) * g ∧ (Hq h * g) = Hq ((h + 0) % 12) * g := by
  have r := rot_0 h h0
  rw [← r.1, ← r.2]
  constructor <;> (first | rfl | rw [Int.sub_mul] | rw [Int.neg_mul])
theorem rot_1 (h : Int) (h0 : 0 ≤ h ∧ h ≤ 11) : Hq h = Hp ((h + 10) % 12) ∧ (Hq h - Hp h) = Hq ((h + 10) % 12) := by
  rcases (show h = 0 ∨ h = 1 ∨ h = 2 ∨ h = 3 ∨ h = 4 ∨ h = 5 ∨ h = 6 ∨ h = 7 ∨ h = 8 ∨ h = 9 ∨ h = 10 ∨ h = 11 by omega) with rfl | rfl | rfl | rfl | rfl | rfl | rfl | rfl | rfl | rfl | rfl | rfl <;> decide
theorem rotg_1 (h g : Int) (h0 : 0 ≤ h ∧ h ≤ 11) : (Hq h * g) = Hp ((h + 10) % 12) * g ∧ ((Hq h * g) - (Hp h * g)) = Hq ((h + 10) % 12) * g := by
  have r := rot_1 h h0
  rw [← r.1, ← r.2]
  constructor <;> (first | rfl | rw [Int.sub_mul] | rw [Int.neg_mul])
theorem rot_2 (h : Int) (h0 : 0 ≤ h ∧ h ≤ 11) : (-Hp h) = Hp ((h + 6) % 12) ∧ (-Hq h) = Hq ((h + 6) % 12) := by
  rcases (show h = 0 ∨ h = 1 ∨ h = 2 ∨ h = 3 ∨ h = 4 ∨ h = 5 ∨ h = 6 ∨ h = 7 ∨ h = 8 ∨ h = 9 ∨ h = 10 ∨ h = 11 by omega) with rfl | rfl | rfl | rfl | rfl | rfl | rfl | rfl | rfl | rfl | rfl | rfl <;> decide
theorem rotg_2 (h g : Int) (h0 : 0 ≤ h ∧ h ≤ 11) : (-(Hp h * g)) = Hp ((h + 6) % 12) * g ∧ (-(Hq h * g)) = Hq ((h + 6) % 12) * g := by
  have r := rot_2 h h0
  rw [← r.1, ← r.2]
  constructor <;> (first | rfl | rw [Int.sub_mul] | rw [Int.neg_mul])
theorem rot_3 (h : Int) (h0 : 0 ≤ h ∧ h ≤ 11) : (Hq h - Hp h) = Hp ((h + 8) % 12) ∧ (-Hp h) = Hq ((h + 8) % 12) := by
  rcases (show h = 0 ∨ h = 1 ∨ h = 2 ∨ h = 3 ∨ h = 4 ∨ h = 5 ∨ h = 6 ∨ h = 7 ∨ h = 8 ∨ h = 9 ∨ h = 10 ∨ h = 11 by omega) with rfl | rfl | rfl | rfl | rfl | rfl | rfl | rfl | rfl | rfl | rfl | rfl <;> decide
theorem rotg_3 (h g : Int) (h0 : 0 ≤ h ∧ h ≤ 11) : ((Hq h * g) - (Hp h * g)) = Hp ((h + 8) % 12) * g ∧ (-(Hp h * g)) = Hq ((h + 8) % 12) * g := by
  have r := rot_3 h h0
  rw [← r.1, ← r.2]
  constructor <;> (first | rfl | rw [Int.sub_mul] | rw [Int.neg_mul])
theorem rot_4 (h : Int) (h0 : 0 ≤ h ∧ h ≤ 11) : (-Hq h) = Hp ((h + 4) % 12) ∧ (Hp h - Hq h) = Hq ((h + 4) % 12) := by
  rcases (show h = 0 ∨ h = 1 ∨ h = 2 ∨ h = 3 ∨ h = 4 ∨ h = 5 ∨ h = 6 ∨ h = 7 ∨ h = 8 ∨ h = 9 ∨ h = 10 ∨ h = 11 by omega) with rfl | rfl | rfl | rfl | rfl | rfl | rfl | rfl | rfl | rfl | rfl | rfl <;> decide
theorem rotg_4 (h g : Int) (h0 : 0 ≤ h ∧ h ≤ 11) : (-(Hq h * g)) = Hp ((h + 4) % 12) * g ∧ ((Hp h * g) - (Hq h * g)) = Hq ((h + 4) % 12) * g := by
  have r := rot_4 h h0
  rw [← r.1, ← r.2]
  constructor <;> (first | rfl | rw [Int.sub_mul] | rw [Int.neg_mul])
theorem rot_5 (h : Int) (h0 : 0 ≤ h ∧ h ≤ 11) : (Hp h - Hq h) = Hp ((h + 2) % 12) ∧ Hp h = Hq ((h + 2) % 12) := by
  rcases (show h = 0 ∨ h = 1 ∨ h = 2 ∨ h = 3 ∨ h = 4 ∨ h = 5 ∨ h = 6 ∨ h = 7 ∨ h = 8 ∨ h = 9 ∨ h = 10 ∨ h = 11 by omega) with rfl | rfl | rfl | rfl | rfl | rfl | rfl | rfl | rfl | rfl | rfl | rfl <;> decide
theorem rotg_5 (h g : Int) (h0 : 0 ≤ h ∧ h ≤ 11) : ((Hp h * g) - (Hq h * g)) = Hp ((h + 2) % 12) * g ∧ (Hp h * g) = Hq ((h + 2) % 12) * g := by
  have r := rot_5 h h0
  rw [← r.1, ← r.2]
  constructor <;> (first | rfl | rw [Int.sub_mul] | rw [Int.neg_mul])
theorem hnz (h g : Int) (h0 : 0 ≤ h ∧ h ≤ 11) (hg : 1 ≤ g) : ¬ (Hp h * g = 0 ∧ Hq h * g = 0) := by
  rcases (show h = 0 ∨ h = 1 ∨ h = 2 ∨ h = 3 ∨ h = 4 ∨ h = 5 ∨ h = 6 ∨ h = 7 ∨ h = 8 ∨ h = 9 ∨ h = 10 ∨ h = 11 by omega) with rfl | rfl | rfl | rfl | rfl | rfl | rfl | rfl | rfl | rfl | rfl | rfl <;> simp [Hp, Hq] <;> omega
def pmL : Nat → List Value
  | 0 => [.int .i64 0, .int .i64 1, .int .i64 2]
  | 1 => [.int .i64 0, .int .i64 2, .int .i64 1]
  | 2 => [.int .i64 1, .int .i64 0, .int .i64 2]
  | 3 => [.int .i64 1, .int .i64 2, .int .i64 0]
  | 4 => [.int .i64 2, .int .i64 0, .int .i64 1]
  | _ => [.int .i64 2, .int .i64 1, .int .i64 0]
def oddP : Nat → Bool
  | 0 => false
  | 1 => true
  | 2 => true
  | 3 => false
  | 4 => false
  | _ => true
def sgP (i : Nat) : Int := match oddP i with | true => -1 | false => 1
def offP : Nat → Int
  | 0 => 0
  | 1 => 10
  | 2 => 6
  | 3 => 8
  | 4 => 4
  | _ => 2
/-- What is known of the lines of a winding, renamed. -/
def Ren (w : Value) (i : Nat) (hh : Int) (l0 l1 l2 l3 l4 l5 l6 l7 l8 o0 o1 o2 o3 o4 o5 o6 o7 o8 p q : Int) : Prop :=
  Con 82 [w] (.agg #[.int .i64 l0, .int .i64 l1, .int .i64 l2, .int .i64 l3, .int .i64 l4, .int .i64 l5, .int .i64 l6, .int .i64 l7, .int .i64 l8]) ∧ Con 22 [w] (.agg #[.int .i64 l0, .int .i64 l1, .int .i64 l2, .int .i64 l3, .int .i64 l4, .int .i64 l5, .int .i64 l6, .int .i64 l7, .int .i64 l8]) ∧ Con 94 [.agg #[.int .i64 l0, .int .i64 l1, .int .i64 l2, .int .i64 l3, .int .i64 l4, .int .i64 l5, .int .i64 l6, .int .i64 l7, .int .i64 l8], .agg (pmL i).toArray] (.agg #[.int .i64 o0, .int .i64 o1, .int .i64 o2, .int .i64 o3, .int .i64 o4, .int .i64 o5, .int .i64 o6, .int .i64 o7, .int .i64 o8]) ∧ Con 34 [.agg #[.int .i64 l0, .int .i64 l1, .int .i64 l2, .int .i64 l3, .int .i64 l4, .int .i64 l5, .int .i64 l6, .int .i64 l7, .int .i64 l8], .agg (pmL i).toArray] (.agg #[.int .i64 o0, .int .i64 o1, .int .i64 o2, .int .i64 o3, .int .i64 o4, .int .i64 o5, .int .i64 o6, .int .i64 o7, .int .i64 o8]) ∧
  Con 88 [.agg #[.int .i64 o0, .int .i64 o1, .int .i64 o2, .int .i64 o3, .int .i64 o4, .int .i64 o5, .int .i64 o6, .int .i64 o7, .int .i64 o8]] (.tuple #[.int .i64 (sgP i), .int .i64 0]) ∧ Con 31 [.agg #[.int .i64 o0, .int .i64 o1, .int .i64 o2, .int .i64 o3, .int .i64 o4, .int .i64 o5, .int .i64 o6, .int .i64 o7, .int .i64 o8]] (.tuple #[.int .i64 (sgP i), .int .i64 0]) ∧ Con 142 [.agg #[.int .i64 o0, .int .i64 o1, .int .i64 o2, .int .i64 o3, .int .i64 o4, .int .i64 o5, .int .i64 o6, .int .i64 o7, .int .i64 o8]] (.int .i64 hh) ∧ Con 32 [.agg #[.int .i64 o0, .int .i64 o1, .int .i64 o2]] (.agg #[.int .i64 p, .int .i64 q]) ∧ Con 40 [.agg #[.int .i64 p, .int .i64 q]] (.tuple #[.int .i64 hh, .int .i64 0]) ∧
  Small9 l0 l1 l2 l3 l4 l5 l6 l7 l8 ∧ Small9 o0 o1 o2 o3 o4 o5 o6 o7 o8 ∧ Con 89 [.agg #[.int .i64 o0, .int .i64 o1, .int .i64 o2, .int .i64 o3, .int .i64 o4, .int .i64 o5, .int .i64 o6, .int .i64 o7, .int .i64 o8], .int .i64 0] (.agg #[.int .i64 p, .int .i64 q]) ∧ Con 92 [.agg #[.int .i64 p, .int .i64 q]] (.tuple #[.int .i64 hh, .int .i64 0]) ∧ o0 - o1 = p ∧ o2 - o1 = q
theorem ren_w {k n s : Int} (m : Bool) (h : valid k n s) (i : Nat) (hi : i < 6) : ∃ (l0 l1 l2 l3 l4 l5 l6 l7 l8 o0 o1 o2 o3 o4 o5 o6 o7 o8 p q : Int), Ren (.agg #[.int .i64 k, .int .i64 n, .int .i64 s, .bool m]) i ((hv k s m + offP i) % 12) l0 l1 l2 l3 l4 l5 l6 l7 l8 o0 o1 o2 o3 o4 o5 o6 o7 o8 p q := by
  obtain ⟨l0, l1, l2, l3, l4, l5, l6, l7, l8, g, a, b, hs, hr, g1, g2⟩ := lines_w m h
  have r := hv_range k s m
  generalize hv k s m = hh at *
  have r' : 0 ≤ hh ∧ hh ≤ 11 := by omega
  rcases (show i = 0 ∨ i = 1 ∨ i = 2 ∨ i = 3 ∨ i = 4 ∨ i = 5 by omega) with rfl | rfl | rfl | rfl | rfl | rfl
  · have q := rotg_0 hh g r'
    have R := rows_0 hr q.1 q.2
    have S := small_0 hs
    have rr : 0 ≤ (hh + 0) % 12 ∧ (hh + 0) % 12 ≤ 11 := by omega
    have z := hnz ((hh + 0) % 12) g rr g1
    have A := phas0 S
    have A' := rphas0 S
    have s1 := sgc_p S R z
    have s2 := rgc_p S R z
    obtain ⟨e0, e1, -⟩ := R
    rw [e0, e1] at A A'
    exact ⟨_, _, _, _, _, _, _, _, _, _, _, _, _, _, _, _, _, _, _, _, a, b, ren_0 hs, rren_0 hs, s1, s2, hf_any _ _ _ _ _ _ _ _ _ _ _ _ trivial ⟨A, hours_g _ g rr g1 g2, trivial⟩, A', rhours_g _ g rr g1 g2, hs, S, A, hours_g _ g rr g1 g2, e0, e1⟩
  · have q := rotg_1 hh g r'
    have R := rows_1 hr q.1 q.2
    have S := small_1 hs
    have rr : 0 ≤ (hh + 10) % 12 ∧ (hh + 10) % 12 ≤ 11 := by omega
    have z := hnz ((hh + 10) % 12) g rr g1
    have A := phas0 S
    have A' := rphas0 S
    have s1 := sgc_m S R z
    have s2 := rgc_m S R z
    obtain ⟨e0, e1, -⟩ := R
    rw [e0, e1] at A A'
    exact ⟨_, _, _, _, _, _, _, _, _, _, _, _, _, _, _, _, _, _, _, _, a, b, ren_1 hs, rren_1 hs, s1, s2, hf_any _ _ _ _ _ _ _ _ _ _ _ _ trivial ⟨A, hours_g _ g rr g1 g2, trivial⟩, A', rhours_g _ g rr g1 g2, hs, S, A, hours_g _ g rr g1 g2, e0, e1⟩
  · have q := rotg_2 hh g r'
    have R := rows_2 hr q.1 q.2
    have S := small_2 hs
    have rr : 0 ≤ (hh + 6) % 12 ∧ (hh + 6) % 12 ≤ 11 := by omega
    have z := hnz ((hh + 6) % 12) g rr g1
    have A := phas0 S
    have A' := rphas0 S
    have s1 := sgc_m S R z
    have s2 := rgc_m S R z
    obtain ⟨e0, e1, -⟩ := R
    rw [e0, e1] at A A'
    exact ⟨_, _, _, _, _, _, _, _, _, _, _, _, _, _, _, _, _, _, _, _, a, b, ren_2 hs, rren_2 hs, s1, s2, hf_any _ _ _ _ _ _ _ _ _ _ _ _ trivial ⟨A, hours_g _ g rr g1 g2, trivial⟩, A', rhours_g _ g rr g1 g2, hs, S, A, hours_g _ g rr g1 g2, e0, e1⟩
  · have q := rotg_3 hh g r'
    have R := rows_3 hr q.1 q.2
    have S := small_3 hs
    have rr : 0 ≤ (hh + 8) % 12 ∧ (hh + 8) % 12 ≤ 11 := by omega
    have z := hnz ((hh + 8) % 12) g rr g1
    have A := phas0 S
    have A' := rphas0 S
    have s1 := sgc_p S R z
    have s2 := rgc_p S R z
    obtain ⟨e0, e1, -⟩ := R
    rw [e0, e1] at A A'
    exact ⟨_, _, _, _, _, _, _, _, _, _, _, _, _, _, _, _, _, _, _, _, a, b, ren_3 hs, rren_3 hs, s1, s2, hf_any _ _ _ _ _ _ _ _ _ _ _ _ trivial ⟨A, hours_g _ g rr g1 g2, trivial⟩, A', rhours_g _ g rr g1 g2, hs, S, A, hours_g _ g rr g1 g2, e0, e1⟩
  · have q := rotg_4 hh g r'
    have R := rows_4 hr q.1 q.2
    have S := small_4 hs
    have rr : 0 ≤ (hh + 4) % 12 ∧ (hh + 4) % 12 ≤ 11 := by omega
    have z := hnz ((hh + 4) % 12) g rr g1
    have A := phas0 S
    have A' := rphas0 S
    have s1 := sgc_p S R z
    have s2 := rgc_p S R z
    obtain ⟨e0, e1, -⟩ := R
    rw [e0, e1] at A A'
    exact ⟨_, _, _, _, _, _, _, _, _, _, _, _, _, _, _, _, _, _, _, _, a, b, ren_4 hs, rren_4 hs, s1, s2, hf_any _ _ _ _ _ _ _ _ _ _ _ _ trivial ⟨A, hours_g _ g rr g1 g2, trivial⟩, A', rhours_g _ g rr g1 g2, hs, S, A, hours_g _ g rr g1 g2, e0, e1⟩
  · have q := rotg_5 hh g r'
    have R := rows_5 hr q.1 q.2
    have S := small_5 hs
    have rr : 0 ≤ (hh + 2) % 12 ∧ (hh + 2) % 12 ≤ 11 := by omega
    have z := hnz ((hh + 2) % 12) g rr g1
    have A := phas0 S
    have A' := rphas0 S
    have s1 := sgc_m S R z
    have s2 := rgc_m S R z
    obtain ⟨e0, e1, -⟩ := R
    rw [e0, e1] at A A'
    exact ⟨_, _, _, _, _, _, _, _, _, _, _, _, _, _, _, _, _, _, _, _, a, b, ren_5 hs, rren_5 hs, s1, s2, hf_any _ _ _ _ _ _ _ _ _ _ _ _ trivial ⟨A, hours_g _ g rr g1 g2, trivial⟩, A', rhours_g _ g rr g1 g2, hs, S, A, hours_g _ g rr g1 g2, e0, e1⟩
end Go.Proofs.YtngdhmliohjigaaDoor
