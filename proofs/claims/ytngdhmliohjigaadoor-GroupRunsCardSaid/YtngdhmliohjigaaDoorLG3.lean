/- The least windings for clock numbers, of the program and of the reference; the law. -/
import Derived.Test.YtngdhmliohjigaaDoorLG2
import Derived.Test.YtngdhmliohjigaaDoorLE1
import Derived.Test.YtngdhmliohjigaaDoorLE3
import Derived.Test.YtngdhmliohjigaaDoorLEA
set_option linter.unusedVariables false
set_option linter.unusedSimpArgs false
set_option linter.unusedSectionVars false
set_option linter.unnecessarySimpa false
namespace Go.Proofs.YtngdhmliohjigaaDoor
open Go.Ev Go.RowKit
set_option maxRecDepth 100000
theorem awakes : Con 16 [] (.bool true) := aw_all (by simp [allC]) trivial
def eW (k n s : Int) : Int := if k < 0 ∨ 2 < k then 15 else if n < 1 ∨ 2000 < n ∨ s < 0 ∨ 2 < s then 2 else 0
theorem eW_valid {k n s : Int} (h : eW k n s = 0) : valid k n s := by
  unfold eW at h; unfold valid
  split at h
  · omega
  · split at h <;> omega
theorem eW_ok {k n s : Int} (h : valid k n s) : eW k n s = 0 := by
  unfold valid at h; unfold eW
  rw [if_neg (by omega), if_neg (by omega)]
theorem cw_any (k n s : Int) (m : Bool) : Con 20 [.agg #[.int .i64 k, .int .i64 n, .int .i64 s, .bool m]] (.int .i64 (eW k n s)) := by
  rcases (show k < 0 ∨ 2 < k ∨ (0 ≤ k ∧ k ≤ 2) by omega) with hk | hk | hk <;> rcases (show n < 1 ∨ 2000 < n ∨ (1 ≤ n ∧ n ≤ 2000) by omega) with hn | hn | hn <;> rcases (show s < 0 ∨ 2 < s ∨ (0 ≤ s ∧ s ≤ 2) by omega) with hs | hs | hs
  · exact con_val (cw_000 k n s m (by simp (disch := omega) only [allC, wrapI, tmodn, tdivn, Int.reduceTMod, Int.reduceTDiv, Int.reduceMul, Int.reduceNeg, bne_iff_ne, beq_iff_eq, bne_eq_false_iff_eq, beq_eq_false_iff_ne, decide_eq_true_eq, decide_eq_false_iff_not, Bool.and_eq_true, Bool.and_eq_false_iff, Bool.or_eq_true, Bool.or_eq_false_iff, Bool.not_eq_true', Bool.not_eq_false', Bool.true_eq_false, Bool.false_eq_true, Int.reduceBEq, Int.reduceBNe, and_true, true_and, or_false, or_true, true_or, false_or, eq_self, Int.reduceEq] <;> omega) trivial) (vi (by unfold eW; (repeat' split) <;> omega))
  · exact con_val (cw_001 k n s m (by simp (disch := omega) only [allC, wrapI, tmodn, tdivn, Int.reduceTMod, Int.reduceTDiv, Int.reduceMul, Int.reduceNeg, bne_iff_ne, beq_iff_eq, bne_eq_false_iff_eq, beq_eq_false_iff_ne, decide_eq_true_eq, decide_eq_false_iff_not, Bool.and_eq_true, Bool.and_eq_false_iff, Bool.or_eq_true, Bool.or_eq_false_iff, Bool.not_eq_true', Bool.not_eq_false', Bool.true_eq_false, Bool.false_eq_true, Int.reduceBEq, Int.reduceBNe, and_true, true_and, or_false, or_true, true_or, false_or, eq_self, Int.reduceEq] <;> omega) trivial) (vi (by unfold eW; (repeat' split) <;> omega))
  · exact con_val (cw_002 k n s m (by simp (disch := omega) only [allC, wrapI, tmodn, tdivn, Int.reduceTMod, Int.reduceTDiv, Int.reduceMul, Int.reduceNeg, bne_iff_ne, beq_iff_eq, bne_eq_false_iff_eq, beq_eq_false_iff_ne, decide_eq_true_eq, decide_eq_false_iff_not, Bool.and_eq_true, Bool.and_eq_false_iff, Bool.or_eq_true, Bool.or_eq_false_iff, Bool.not_eq_true', Bool.not_eq_false', Bool.true_eq_false, Bool.false_eq_true, Int.reduceBEq, Int.reduceBNe, and_true, true_and, or_false, or_true, true_or, false_or, eq_self, Int.reduceEq] <;> omega) trivial) (vi (by unfold eW; (repeat' split) <;> omega))
  · exact con_val (cw_010 k n s m (by simp (disch := omega) only [allC, wrapI, tmodn, tdivn, Int.reduceTMod, Int.reduceTDiv, Int.reduceMul, Int.reduceNeg, bne_iff_ne, beq_iff_eq, bne_eq_false_iff_eq, beq_eq_false_iff_ne, decide_eq_true_eq, decide_eq_false_iff_not, Bool.and_eq_true, Bool.and_eq_false_iff, Bool.or_eq_true, Bool.or_eq_false_iff, Bool.not_eq_true', Bool.not_eq_false', Bool.true_eq_false, Bool.false_eq_true, Int.reduceBEq, Int.reduceBNe, and_true, true_and, or_false, or_true, true_or, false_or, eq_self, Int.reduceEq] <;> omega) trivial) (vi (by unfold eW; (repeat' split) <;> omega))
  · exact con_val (cw_011 k n s m (by simp (disch := omega) only [allC, wrapI, tmodn, tdivn, Int.reduceTMod, Int.reduceTDiv, Int.reduceMul, Int.reduceNeg, bne_iff_ne, beq_iff_eq, bne_eq_false_iff_eq, beq_eq_false_iff_ne, decide_eq_true_eq, decide_eq_false_iff_not, Bool.and_eq_true, Bool.and_eq_false_iff, Bool.or_eq_true, Bool.or_eq_false_iff, Bool.not_eq_true', Bool.not_eq_false', Bool.true_eq_false, Bool.false_eq_true, Int.reduceBEq, Int.reduceBNe, and_true, true_and, or_false, or_true, true_or, false_or, eq_self, Int.reduceEq] <;> omega) trivial) (vi (by unfold eW; (repeat' split) <;> omega))
  · exact con_val (cw_012 k n s m (by simp (disch := omega) only [allC, wrapI, tmodn, tdivn, Int.reduceTMod, Int.reduceTDiv, Int.reduceMul, Int.reduceNeg, bne_iff_ne, beq_iff_eq, bne_eq_false_iff_eq, beq_eq_false_iff_ne, decide_eq_true_eq, decide_eq_false_iff_not, Bool.and_eq_true, Bool.and_eq_false_iff, Bool.or_eq_true, Bool.or_eq_false_iff, Bool.not_eq_true', Bool.not_eq_false', Bool.true_eq_false, Bool.false_eq_true, Int.reduceBEq, Int.reduceBNe, and_true, true_and, or_false, or_true, true_or, false_or, eq_self, Int.reduceEq] <;> omega) trivial) (vi (by unfold eW; (repeat' split) <;> omega))
  · exact con_val (cw_020 k n s m (by simp (disch := omega) only [allC, wrapI, tmodn, tdivn, Int.reduceTMod, Int.reduceTDiv, Int.reduceMul, Int.reduceNeg, bne_iff_ne, beq_iff_eq, bne_eq_false_iff_eq, beq_eq_false_iff_ne, decide_eq_true_eq, decide_eq_false_iff_not, Bool.and_eq_true, Bool.and_eq_false_iff, Bool.or_eq_true, Bool.or_eq_false_iff, Bool.not_eq_true', Bool.not_eq_false', Bool.true_eq_false, Bool.false_eq_true, Int.reduceBEq, Int.reduceBNe, and_true, true_and, or_false, or_true, true_or, false_or, eq_self, Int.reduceEq] <;> omega) trivial) (vi (by unfold eW; (repeat' split) <;> omega))
  · exact con_val (cw_021 k n s m (by simp (disch := omega) only [allC, wrapI, tmodn, tdivn, Int.reduceTMod, Int.reduceTDiv, Int.reduceMul, Int.reduceNeg, bne_iff_ne, beq_iff_eq, bne_eq_false_iff_eq, beq_eq_false_iff_ne, decide_eq_true_eq, decide_eq_false_iff_not, Bool.and_eq_true, Bool.and_eq_false_iff, Bool.or_eq_true, Bool.or_eq_false_iff, Bool.not_eq_true', Bool.not_eq_false', Bool.true_eq_false, Bool.false_eq_true, Int.reduceBEq, Int.reduceBNe, and_true, true_and, or_false, or_true, true_or, false_or, eq_self, Int.reduceEq] <;> omega) trivial) (vi (by unfold eW; (repeat' split) <;> omega))
  · exact con_val (cw_022 k n s m (by simp (disch := omega) only [allC, wrapI, tmodn, tdivn, Int.reduceTMod, Int.reduceTDiv, Int.reduceMul, Int.reduceNeg, bne_iff_ne, beq_iff_eq, bne_eq_false_iff_eq, beq_eq_false_iff_ne, decide_eq_true_eq, decide_eq_false_iff_not, Bool.and_eq_true, Bool.and_eq_false_iff, Bool.or_eq_true, Bool.or_eq_false_iff, Bool.not_eq_true', Bool.not_eq_false', Bool.true_eq_false, Bool.false_eq_true, Int.reduceBEq, Int.reduceBNe, and_true, true_and, or_false, or_true, true_or, false_or, eq_self, Int.reduceEq] <;> omega) trivial) (vi (by unfold eW; (repeat' split) <;> omega))
  · exact con_val (cw_100 k n s m (by simp (disch := omega) only [allC, wrapI, tmodn, tdivn, Int.reduceTMod, Int.reduceTDiv, Int.reduceMul, Int.reduceNeg, bne_iff_ne, beq_iff_eq, bne_eq_false_iff_eq, beq_eq_false_iff_ne, decide_eq_true_eq, decide_eq_false_iff_not, Bool.and_eq_true, Bool.and_eq_false_iff, Bool.or_eq_true, Bool.or_eq_false_iff, Bool.not_eq_true', Bool.not_eq_false', Bool.true_eq_false, Bool.false_eq_true, Int.reduceBEq, Int.reduceBNe, and_true, true_and, or_false, or_true, true_or, false_or, eq_self, Int.reduceEq] <;> omega) trivial) (vi (by unfold eW; (repeat' split) <;> omega))
  · exact con_val (cw_101 k n s m (by simp (disch := omega) only [allC, wrapI, tmodn, tdivn, Int.reduceTMod, Int.reduceTDiv, Int.reduceMul, Int.reduceNeg, bne_iff_ne, beq_iff_eq, bne_eq_false_iff_eq, beq_eq_false_iff_ne, decide_eq_true_eq, decide_eq_false_iff_not, Bool.and_eq_true, Bool.and_eq_false_iff, Bool.or_eq_true, Bool.or_eq_false_iff, Bool.not_eq_true', Bool.not_eq_false', Bool.true_eq_false, Bool.false_eq_true, Int.reduceBEq, Int.reduceBNe, and_true, true_and, or_false, or_true, true_or, false_or, eq_self, Int.reduceEq] <;> omega) trivial) (vi (by unfold eW; (repeat' split) <;> omega))
  · exact con_val (cw_102 k n s m (by simp (disch := omega) only [allC, wrapI, tmodn, tdivn, Int.reduceTMod, Int.reduceTDiv, Int.reduceMul, Int.reduceNeg, bne_iff_ne, beq_iff_eq, bne_eq_false_iff_eq, beq_eq_false_iff_ne, decide_eq_true_eq, decide_eq_false_iff_not, Bool.and_eq_true, Bool.and_eq_false_iff, Bool.or_eq_true, Bool.or_eq_false_iff, Bool.not_eq_true', Bool.not_eq_false', Bool.true_eq_false, Bool.false_eq_true, Int.reduceBEq, Int.reduceBNe, and_true, true_and, or_false, or_true, true_or, false_or, eq_self, Int.reduceEq] <;> omega) trivial) (vi (by unfold eW; (repeat' split) <;> omega))
  · exact con_val (cw_110 k n s m (by simp (disch := omega) only [allC, wrapI, tmodn, tdivn, Int.reduceTMod, Int.reduceTDiv, Int.reduceMul, Int.reduceNeg, bne_iff_ne, beq_iff_eq, bne_eq_false_iff_eq, beq_eq_false_iff_ne, decide_eq_true_eq, decide_eq_false_iff_not, Bool.and_eq_true, Bool.and_eq_false_iff, Bool.or_eq_true, Bool.or_eq_false_iff, Bool.not_eq_true', Bool.not_eq_false', Bool.true_eq_false, Bool.false_eq_true, Int.reduceBEq, Int.reduceBNe, and_true, true_and, or_false, or_true, true_or, false_or, eq_self, Int.reduceEq] <;> omega) trivial) (vi (by unfold eW; (repeat' split) <;> omega))
  · exact con_val (cw_111 k n s m (by simp (disch := omega) only [allC, wrapI, tmodn, tdivn, Int.reduceTMod, Int.reduceTDiv, Int.reduceMul, Int.reduceNeg, bne_iff_ne, beq_iff_eq, bne_eq_false_iff_eq, beq_eq_false_iff_ne, decide_eq_true_eq, decide_eq_false_iff_not, Bool.and_eq_true, Bool.and_eq_false_iff, Bool.or_eq_true, Bool.or_eq_false_iff, Bool.not_eq_true', Bool.not_eq_false', Bool.true_eq_false, Bool.false_eq_true, Int.reduceBEq, Int.reduceBNe, and_true, true_and, or_false, or_true, true_or, false_or, eq_self, Int.reduceEq] <;> omega) trivial) (vi (by unfold eW; (repeat' split) <;> omega))
  · exact con_val (cw_112 k n s m (by simp (disch := omega) only [allC, wrapI, tmodn, tdivn, Int.reduceTMod, Int.reduceTDiv, Int.reduceMul, Int.reduceNeg, bne_iff_ne, beq_iff_eq, bne_eq_false_iff_eq, beq_eq_false_iff_ne, decide_eq_true_eq, decide_eq_false_iff_not, Bool.and_eq_true, Bool.and_eq_false_iff, Bool.or_eq_true, Bool.or_eq_false_iff, Bool.not_eq_true', Bool.not_eq_false', Bool.true_eq_false, Bool.false_eq_true, Int.reduceBEq, Int.reduceBNe, and_true, true_and, or_false, or_true, true_or, false_or, eq_self, Int.reduceEq] <;> omega) trivial) (vi (by unfold eW; (repeat' split) <;> omega))
  · exact con_val (cw_120 k n s m (by simp (disch := omega) only [allC, wrapI, tmodn, tdivn, Int.reduceTMod, Int.reduceTDiv, Int.reduceMul, Int.reduceNeg, bne_iff_ne, beq_iff_eq, bne_eq_false_iff_eq, beq_eq_false_iff_ne, decide_eq_true_eq, decide_eq_false_iff_not, Bool.and_eq_true, Bool.and_eq_false_iff, Bool.or_eq_true, Bool.or_eq_false_iff, Bool.not_eq_true', Bool.not_eq_false', Bool.true_eq_false, Bool.false_eq_true, Int.reduceBEq, Int.reduceBNe, and_true, true_and, or_false, or_true, true_or, false_or, eq_self, Int.reduceEq] <;> omega) trivial) (vi (by unfold eW; (repeat' split) <;> omega))
  · exact con_val (cw_121 k n s m (by simp (disch := omega) only [allC, wrapI, tmodn, tdivn, Int.reduceTMod, Int.reduceTDiv, Int.reduceMul, Int.reduceNeg, bne_iff_ne, beq_iff_eq, bne_eq_false_iff_eq, beq_eq_false_iff_ne, decide_eq_true_eq, decide_eq_false_iff_not, Bool.and_eq_true, Bool.and_eq_false_iff, Bool.or_eq_true, Bool.or_eq_false_iff, Bool.not_eq_true', Bool.not_eq_false', Bool.true_eq_false, Bool.false_eq_true, Int.reduceBEq, Int.reduceBNe, and_true, true_and, or_false, or_true, true_or, false_or, eq_self, Int.reduceEq] <;> omega) trivial) (vi (by unfold eW; (repeat' split) <;> omega))
  · exact con_val (cw_122 k n s m (by simp (disch := omega) only [allC, wrapI, tmodn, tdivn, Int.reduceTMod, Int.reduceTDiv, Int.reduceMul, Int.reduceNeg, bne_iff_ne, beq_iff_eq, bne_eq_false_iff_eq, beq_eq_false_iff_ne, decide_eq_true_eq, decide_eq_false_iff_not, Bool.and_eq_true, Bool.and_eq_false_iff, Bool.or_eq_true, Bool.or_eq_false_iff, Bool.not_eq_true', Bool.not_eq_false', Bool.true_eq_false, Bool.false_eq_true, Int.reduceBEq, Int.reduceBNe, and_true, true_and, or_false, or_true, true_or, false_or, eq_self, Int.reduceEq] <;> omega) trivial) (vi (by unfold eW; (repeat' split) <;> omega))
  · exact con_val (cw_200 k n s m (by simp (disch := omega) only [allC, wrapI, tmodn, tdivn, Int.reduceTMod, Int.reduceTDiv, Int.reduceMul, Int.reduceNeg, bne_iff_ne, beq_iff_eq, bne_eq_false_iff_eq, beq_eq_false_iff_ne, decide_eq_true_eq, decide_eq_false_iff_not, Bool.and_eq_true, Bool.and_eq_false_iff, Bool.or_eq_true, Bool.or_eq_false_iff, Bool.not_eq_true', Bool.not_eq_false', Bool.true_eq_false, Bool.false_eq_true, Int.reduceBEq, Int.reduceBNe, and_true, true_and, or_false, or_true, true_or, false_or, eq_self, Int.reduceEq] <;> omega) trivial) (vi (by unfold eW; (repeat' split) <;> omega))
  · exact con_val (cw_201 k n s m (by simp (disch := omega) only [allC, wrapI, tmodn, tdivn, Int.reduceTMod, Int.reduceTDiv, Int.reduceMul, Int.reduceNeg, bne_iff_ne, beq_iff_eq, bne_eq_false_iff_eq, beq_eq_false_iff_ne, decide_eq_true_eq, decide_eq_false_iff_not, Bool.and_eq_true, Bool.and_eq_false_iff, Bool.or_eq_true, Bool.or_eq_false_iff, Bool.not_eq_true', Bool.not_eq_false', Bool.true_eq_false, Bool.false_eq_true, Int.reduceBEq, Int.reduceBNe, and_true, true_and, or_false, or_true, true_or, false_or, eq_self, Int.reduceEq] <;> omega) trivial) (vi (by unfold eW; (repeat' split) <;> omega))
  · exact con_val (cw_202 k n s m (by simp (disch := omega) only [allC, wrapI, tmodn, tdivn, Int.reduceTMod, Int.reduceTDiv, Int.reduceMul, Int.reduceNeg, bne_iff_ne, beq_iff_eq, bne_eq_false_iff_eq, beq_eq_false_iff_ne, decide_eq_true_eq, decide_eq_false_iff_not, Bool.and_eq_true, Bool.and_eq_false_iff, Bool.or_eq_true, Bool.or_eq_false_iff, Bool.not_eq_true', Bool.not_eq_false', Bool.true_eq_false, Bool.false_eq_true, Int.reduceBEq, Int.reduceBNe, and_true, true_and, or_false, or_true, true_or, false_or, eq_self, Int.reduceEq] <;> omega) trivial) (vi (by unfold eW; (repeat' split) <;> omega))
  · exact con_val (cw_210 k n s m (by simp (disch := omega) only [allC, wrapI, tmodn, tdivn, Int.reduceTMod, Int.reduceTDiv, Int.reduceMul, Int.reduceNeg, bne_iff_ne, beq_iff_eq, bne_eq_false_iff_eq, beq_eq_false_iff_ne, decide_eq_true_eq, decide_eq_false_iff_not, Bool.and_eq_true, Bool.and_eq_false_iff, Bool.or_eq_true, Bool.or_eq_false_iff, Bool.not_eq_true', Bool.not_eq_false', Bool.true_eq_false, Bool.false_eq_true, Int.reduceBEq, Int.reduceBNe, and_true, true_and, or_false, or_true, true_or, false_or, eq_self, Int.reduceEq] <;> omega) trivial) (vi (by unfold eW; (repeat' split) <;> omega))
  · exact con_val (cw_211 k n s m (by simp (disch := omega) only [allC, wrapI, tmodn, tdivn, Int.reduceTMod, Int.reduceTDiv, Int.reduceMul, Int.reduceNeg, bne_iff_ne, beq_iff_eq, bne_eq_false_iff_eq, beq_eq_false_iff_ne, decide_eq_true_eq, decide_eq_false_iff_not, Bool.and_eq_true, Bool.and_eq_false_iff, Bool.or_eq_true, Bool.or_eq_false_iff, Bool.not_eq_true', Bool.not_eq_false', Bool.true_eq_false, Bool.false_eq_true, Int.reduceBEq, Int.reduceBNe, and_true, true_and, or_false, or_true, true_or, false_or, eq_self, Int.reduceEq] <;> omega) trivial) (vi (by unfold eW; (repeat' split) <;> omega))
  · exact con_val (cw_212 k n s m (by simp (disch := omega) only [allC, wrapI, tmodn, tdivn, Int.reduceTMod, Int.reduceTDiv, Int.reduceMul, Int.reduceNeg, bne_iff_ne, beq_iff_eq, bne_eq_false_iff_eq, beq_eq_false_iff_ne, decide_eq_true_eq, decide_eq_false_iff_not, Bool.and_eq_true, Bool.and_eq_false_iff, Bool.or_eq_true, Bool.or_eq_false_iff, Bool.not_eq_true', Bool.not_eq_false', Bool.true_eq_false, Bool.false_eq_true, Int.reduceBEq, Int.reduceBNe, and_true, true_and, or_false, or_true, true_or, false_or, eq_self, Int.reduceEq] <;> omega) trivial) (vi (by unfold eW; (repeat' split) <;> omega))
  · exact con_val (cw_220 k n s m (by simp (disch := omega) only [allC, wrapI, tmodn, tdivn, Int.reduceTMod, Int.reduceTDiv, Int.reduceMul, Int.reduceNeg, bne_iff_ne, beq_iff_eq, bne_eq_false_iff_eq, beq_eq_false_iff_ne, decide_eq_true_eq, decide_eq_false_iff_not, Bool.and_eq_true, Bool.and_eq_false_iff, Bool.or_eq_true, Bool.or_eq_false_iff, Bool.not_eq_true', Bool.not_eq_false', Bool.true_eq_false, Bool.false_eq_true, Int.reduceBEq, Int.reduceBNe, and_true, true_and, or_false, or_true, true_or, false_or, eq_self, Int.reduceEq] <;> omega) trivial) (vi (by unfold eW; (repeat' split) <;> omega))
  · exact con_val (cw_221 k n s m (by simp (disch := omega) only [allC, wrapI, tmodn, tdivn, Int.reduceTMod, Int.reduceTDiv, Int.reduceMul, Int.reduceNeg, bne_iff_ne, beq_iff_eq, bne_eq_false_iff_eq, beq_eq_false_iff_ne, decide_eq_true_eq, decide_eq_false_iff_not, Bool.and_eq_true, Bool.and_eq_false_iff, Bool.or_eq_true, Bool.or_eq_false_iff, Bool.not_eq_true', Bool.not_eq_false', Bool.true_eq_false, Bool.false_eq_true, Int.reduceBEq, Int.reduceBNe, and_true, true_and, or_false, or_true, true_or, false_or, eq_self, Int.reduceEq] <;> omega) trivial) (vi (by unfold eW; (repeat' split) <;> omega))
  · exact con_val (cw_222 k n s m (by simp (disch := omega) only [allC, wrapI, tmodn, tdivn, Int.reduceTMod, Int.reduceTDiv, Int.reduceMul, Int.reduceNeg, bne_iff_ne, beq_iff_eq, bne_eq_false_iff_eq, beq_eq_false_iff_ne, decide_eq_true_eq, decide_eq_false_iff_not, Bool.and_eq_true, Bool.and_eq_false_iff, Bool.or_eq_true, Bool.or_eq_false_iff, Bool.not_eq_true', Bool.not_eq_false', Bool.true_eq_false, Bool.false_eq_true, Int.reduceBEq, Int.reduceBNe, and_true, true_and, or_false, or_true, true_or, false_or, eq_self, Int.reduceEq] <;> omega) trivial) (vi (by unfold eW; (repeat' split) <;> omega))
theorem we_any (k n s : Int) (m : Bool) : Con 19 [.agg #[.int .i64 k, .int .i64 n, .int .i64 s, .bool m]] (.int .i64 (eW k n s)) := by
  by_cases h0 : k < 0
  · exact con_val (we_0 k n s m (by simp (disch := omega) only [allC, wrapI, tmodn, tdivn, Int.reduceTMod, Int.reduceTDiv, Int.reduceMul, Int.reduceNeg, bne_iff_ne, beq_iff_eq, bne_eq_false_iff_eq, beq_eq_false_iff_ne, decide_eq_true_eq, decide_eq_false_iff_not, Bool.and_eq_true, Bool.and_eq_false_iff, Bool.or_eq_true, Bool.or_eq_false_iff, Bool.not_eq_true', Bool.not_eq_false', Bool.true_eq_false, Bool.false_eq_true, Int.reduceBEq, Int.reduceBNe, and_true, true_and, or_false, or_true, true_or, false_or, eq_self, Int.reduceEq] <;> omega) trivial) (vi (by unfold eW; (repeat' split) <;> omega))
  by_cases h1 : 2 < k
  · exact con_val (we_1 k n s m (by simp (disch := omega) only [allC, wrapI, tmodn, tdivn, Int.reduceTMod, Int.reduceTDiv, Int.reduceMul, Int.reduceNeg, bne_iff_ne, beq_iff_eq, bne_eq_false_iff_eq, beq_eq_false_iff_ne, decide_eq_true_eq, decide_eq_false_iff_not, Bool.and_eq_true, Bool.and_eq_false_iff, Bool.or_eq_true, Bool.or_eq_false_iff, Bool.not_eq_true', Bool.not_eq_false', Bool.true_eq_false, Bool.false_eq_true, Int.reduceBEq, Int.reduceBNe, and_true, true_and, or_false, or_true, true_or, false_or, eq_self, Int.reduceEq] <;> omega) trivial) (vi (by unfold eW; (repeat' split) <;> omega))
  by_cases h2 : n < 1
  · exact con_val (we_2 k n s m (by simp (disch := omega) only [allC, wrapI, tmodn, tdivn, Int.reduceTMod, Int.reduceTDiv, Int.reduceMul, Int.reduceNeg, bne_iff_ne, beq_iff_eq, bne_eq_false_iff_eq, beq_eq_false_iff_ne, decide_eq_true_eq, decide_eq_false_iff_not, Bool.and_eq_true, Bool.and_eq_false_iff, Bool.or_eq_true, Bool.or_eq_false_iff, Bool.not_eq_true', Bool.not_eq_false', Bool.true_eq_false, Bool.false_eq_true, Int.reduceBEq, Int.reduceBNe, and_true, true_and, or_false, or_true, true_or, false_or, eq_self, Int.reduceEq] <;> omega) trivial) (vi (by unfold eW; (repeat' split) <;> omega))
  by_cases h3 : 2000 < n
  · exact con_val (we_3 k n s m (by simp (disch := omega) only [allC, wrapI, tmodn, tdivn, Int.reduceTMod, Int.reduceTDiv, Int.reduceMul, Int.reduceNeg, bne_iff_ne, beq_iff_eq, bne_eq_false_iff_eq, beq_eq_false_iff_ne, decide_eq_true_eq, decide_eq_false_iff_not, Bool.and_eq_true, Bool.and_eq_false_iff, Bool.or_eq_true, Bool.or_eq_false_iff, Bool.not_eq_true', Bool.not_eq_false', Bool.true_eq_false, Bool.false_eq_true, Int.reduceBEq, Int.reduceBNe, and_true, true_and, or_false, or_true, true_or, false_or, eq_self, Int.reduceEq] <;> omega) trivial) (vi (by unfold eW; (repeat' split) <;> omega))
  by_cases h4 : s < 0
  · exact con_val (we_4 k n s m (by simp (disch := omega) only [allC, wrapI, tmodn, tdivn, Int.reduceTMod, Int.reduceTDiv, Int.reduceMul, Int.reduceNeg, bne_iff_ne, beq_iff_eq, bne_eq_false_iff_eq, beq_eq_false_iff_ne, decide_eq_true_eq, decide_eq_false_iff_not, Bool.and_eq_true, Bool.and_eq_false_iff, Bool.or_eq_true, Bool.or_eq_false_iff, Bool.not_eq_true', Bool.not_eq_false', Bool.true_eq_false, Bool.false_eq_true, Int.reduceBEq, Int.reduceBNe, and_true, true_and, or_false, or_true, true_or, false_or, eq_self, Int.reduceEq] <;> omega) trivial) (vi (by unfold eW; (repeat' split) <;> omega))
  by_cases h5 : 2 < s
  · exact con_val (we_5 k n s m (by simp (disch := omega) only [allC, wrapI, tmodn, tdivn, Int.reduceTMod, Int.reduceTDiv, Int.reduceMul, Int.reduceNeg, bne_iff_ne, beq_iff_eq, bne_eq_false_iff_eq, beq_eq_false_iff_ne, decide_eq_true_eq, decide_eq_false_iff_not, Bool.and_eq_true, Bool.and_eq_false_iff, Bool.or_eq_true, Bool.or_eq_false_iff, Bool.not_eq_true', Bool.not_eq_false', Bool.true_eq_false, Bool.false_eq_true, Int.reduceBEq, Int.reduceBNe, and_true, true_and, or_false, or_true, true_or, false_or, eq_self, Int.reduceEq] <;> omega) trivial) (vi (by unfold eW; (repeat' split) <;> omega))
  exact con_val (we_6 k n s m (by simp (disch := omega) only [allC, wrapI, tmodn, tdivn, Int.reduceTMod, Int.reduceTDiv, Int.reduceMul, Int.reduceNeg, bne_iff_ne, beq_iff_eq, bne_eq_false_iff_eq, beq_eq_false_iff_ne, decide_eq_true_eq, decide_eq_false_iff_not, Bool.and_eq_true, Bool.and_eq_false_iff, Bool.or_eq_true, Bool.or_eq_false_iff, Bool.not_eq_true', Bool.not_eq_false', Bool.true_eq_false, Bool.false_eq_true, Int.reduceBEq, Int.reduceBNe, and_true, true_and, or_false, or_true, true_or, false_or, eq_self, Int.reduceEq] <;> omega) trivial) (vi (by unfold eW; (repeat' split) <;> omega))
def eL (k n s kind clock : Int) : Int := if eW k n s ≠ 0 then eW k n s else if kind < 0 ∨ 2 < kind then 15 else if clock < 0 ∨ 11 < clock then 2 else 0
theorem low_err (k n s : Int) (m : Bool) (kind clock : Int) (h : eL k n s kind clock ≠ 0) : Con 52 [.agg #[.int .i64 k, .int .i64 n, .int .i64 s, .bool m], .int .i64 kind, .int .i64 clock] (.tuple #[(.agg #[.int .i64 0, .int .i64 0, .int .i64 0, .bool false]), .int .i64 (eL k n s kind clock)]) := by
  have c := cw_any k n s m
  by_cases he : eW k n s = 0
  · rw [he] at c
    have hl : eL k n s kind clock = if kind < 0 ∨ 2 < kind then 15 else if clock < 0 ∨ 11 < clock then 2 else 0 := by unfold eL; rw [if_neg (by omega)]
    rw [hl] at h ⊢
    rcases (show kind < 0 ∨ 2 < kind ∨ (0 ≤ kind ∧ kind ≤ 2) by omega) with hk | hk | hk <;> rcases (show clock < 0 ∨ 11 < clock ∨ (0 ≤ clock ∧ clock ≤ 11) by omega) with hc | hc | hc
    · exact con_val (lw_b00 k n s m kind clock (by simp (disch := omega) only [allC, wrapI, tmodn, tdivn, Int.reduceTMod, Int.reduceTDiv, Int.reduceMul, Int.reduceNeg, bne_iff_ne, beq_iff_eq, bne_eq_false_iff_eq, beq_eq_false_iff_ne, decide_eq_true_eq, decide_eq_false_iff_not, Bool.and_eq_true, Bool.and_eq_false_iff, Bool.or_eq_true, Bool.or_eq_false_iff, Bool.not_eq_true', Bool.not_eq_false', Bool.true_eq_false, Bool.false_eq_true, Int.reduceBEq, Int.reduceBNe, and_true, true_and, or_false, or_true, true_or, false_or, eq_self, Int.reduceEq] <;> omega) ⟨c, trivial⟩) (vt2 rfl (vi (by (repeat' split) <;> omega)))
    · exact con_val (lw_b01 k n s m kind clock (by simp (disch := omega) only [allC, wrapI, tmodn, tdivn, Int.reduceTMod, Int.reduceTDiv, Int.reduceMul, Int.reduceNeg, bne_iff_ne, beq_iff_eq, bne_eq_false_iff_eq, beq_eq_false_iff_ne, decide_eq_true_eq, decide_eq_false_iff_not, Bool.and_eq_true, Bool.and_eq_false_iff, Bool.or_eq_true, Bool.or_eq_false_iff, Bool.not_eq_true', Bool.not_eq_false', Bool.true_eq_false, Bool.false_eq_true, Int.reduceBEq, Int.reduceBNe, and_true, true_and, or_false, or_true, true_or, false_or, eq_self, Int.reduceEq] <;> omega) ⟨c, trivial⟩) (vt2 rfl (vi (by (repeat' split) <;> omega)))
    · exact con_val (lw_b02 k n s m kind clock (by simp (disch := omega) only [allC, wrapI, tmodn, tdivn, Int.reduceTMod, Int.reduceTDiv, Int.reduceMul, Int.reduceNeg, bne_iff_ne, beq_iff_eq, bne_eq_false_iff_eq, beq_eq_false_iff_ne, decide_eq_true_eq, decide_eq_false_iff_not, Bool.and_eq_true, Bool.and_eq_false_iff, Bool.or_eq_true, Bool.or_eq_false_iff, Bool.not_eq_true', Bool.not_eq_false', Bool.true_eq_false, Bool.false_eq_true, Int.reduceBEq, Int.reduceBNe, and_true, true_and, or_false, or_true, true_or, false_or, eq_self, Int.reduceEq] <;> omega) ⟨c, trivial⟩) (vt2 rfl (vi (by (repeat' split) <;> omega)))
    · exact con_val (lw_b10 k n s m kind clock (by simp (disch := omega) only [allC, wrapI, tmodn, tdivn, Int.reduceTMod, Int.reduceTDiv, Int.reduceMul, Int.reduceNeg, bne_iff_ne, beq_iff_eq, bne_eq_false_iff_eq, beq_eq_false_iff_ne, decide_eq_true_eq, decide_eq_false_iff_not, Bool.and_eq_true, Bool.and_eq_false_iff, Bool.or_eq_true, Bool.or_eq_false_iff, Bool.not_eq_true', Bool.not_eq_false', Bool.true_eq_false, Bool.false_eq_true, Int.reduceBEq, Int.reduceBNe, and_true, true_and, or_false, or_true, true_or, false_or, eq_self, Int.reduceEq] <;> omega) ⟨c, trivial⟩) (vt2 rfl (vi (by (repeat' split) <;> omega)))
    · exact con_val (lw_b11 k n s m kind clock (by simp (disch := omega) only [allC, wrapI, tmodn, tdivn, Int.reduceTMod, Int.reduceTDiv, Int.reduceMul, Int.reduceNeg, bne_iff_ne, beq_iff_eq, bne_eq_false_iff_eq, beq_eq_false_iff_ne, decide_eq_true_eq, decide_eq_false_iff_not, Bool.and_eq_true, Bool.and_eq_false_iff, Bool.or_eq_true, Bool.or_eq_false_iff, Bool.not_eq_true', Bool.not_eq_false', Bool.true_eq_false, Bool.false_eq_true, Int.reduceBEq, Int.reduceBNe, and_true, true_and, or_false, or_true, true_or, false_or, eq_self, Int.reduceEq] <;> omega) ⟨c, trivial⟩) (vt2 rfl (vi (by (repeat' split) <;> omega)))
    · exact con_val (lw_b12 k n s m kind clock (by simp (disch := omega) only [allC, wrapI, tmodn, tdivn, Int.reduceTMod, Int.reduceTDiv, Int.reduceMul, Int.reduceNeg, bne_iff_ne, beq_iff_eq, bne_eq_false_iff_eq, beq_eq_false_iff_ne, decide_eq_true_eq, decide_eq_false_iff_not, Bool.and_eq_true, Bool.and_eq_false_iff, Bool.or_eq_true, Bool.or_eq_false_iff, Bool.not_eq_true', Bool.not_eq_false', Bool.true_eq_false, Bool.false_eq_true, Int.reduceBEq, Int.reduceBNe, and_true, true_and, or_false, or_true, true_or, false_or, eq_self, Int.reduceEq] <;> omega) ⟨c, trivial⟩) (vt2 rfl (vi (by (repeat' split) <;> omega)))
    · exact con_val (lw_b20 k n s m kind clock (by simp (disch := omega) only [allC, wrapI, tmodn, tdivn, Int.reduceTMod, Int.reduceTDiv, Int.reduceMul, Int.reduceNeg, bne_iff_ne, beq_iff_eq, bne_eq_false_iff_eq, beq_eq_false_iff_ne, decide_eq_true_eq, decide_eq_false_iff_not, Bool.and_eq_true, Bool.and_eq_false_iff, Bool.or_eq_true, Bool.or_eq_false_iff, Bool.not_eq_true', Bool.not_eq_false', Bool.true_eq_false, Bool.false_eq_true, Int.reduceBEq, Int.reduceBNe, and_true, true_and, or_false, or_true, true_or, false_or, eq_self, Int.reduceEq] <;> omega) ⟨c, trivial⟩) (vt2 rfl (vi (by (repeat' split) <;> omega)))
    · exact con_val (lw_b21 k n s m kind clock (by simp (disch := omega) only [allC, wrapI, tmodn, tdivn, Int.reduceTMod, Int.reduceTDiv, Int.reduceMul, Int.reduceNeg, bne_iff_ne, beq_iff_eq, bne_eq_false_iff_eq, beq_eq_false_iff_ne, decide_eq_true_eq, decide_eq_false_iff_not, Bool.and_eq_true, Bool.and_eq_false_iff, Bool.or_eq_true, Bool.or_eq_false_iff, Bool.not_eq_true', Bool.not_eq_false', Bool.true_eq_false, Bool.false_eq_true, Int.reduceBEq, Int.reduceBNe, and_true, true_and, or_false, or_true, true_or, false_or, eq_self, Int.reduceEq] <;> omega) ⟨c, trivial⟩) (vt2 rfl (vi (by (repeat' split) <;> omega)))
    · exact absurd (by rw [if_neg (by omega), if_neg (by omega)]) h
  · have hl : eL k n s kind clock = eW k n s := by unfold eL; rw [if_pos he]
    rw [hl]
    generalize eW k n s = e0 at *
    rcases (show kind < 0 ∨ 2 < kind ∨ (0 ≤ kind ∧ kind ≤ 2) by omega) with hk | hk | hk <;> rcases (show clock < 0 ∨ 11 < clock ∨ (0 ≤ clock ∧ clock ≤ 11) by omega) with hc | hc | hc
    · exact lw_e00 k n s m kind clock e0 (by simp (disch := omega) only [allC, wrapI, tmodn, tdivn, Int.reduceTMod, Int.reduceTDiv, Int.reduceMul, Int.reduceNeg, bne_iff_ne, beq_iff_eq, bne_eq_false_iff_eq, beq_eq_false_iff_ne, decide_eq_true_eq, decide_eq_false_iff_not, Bool.and_eq_true, Bool.and_eq_false_iff, Bool.or_eq_true, Bool.or_eq_false_iff, Bool.not_eq_true', Bool.not_eq_false', Bool.true_eq_false, Bool.false_eq_true, Int.reduceBEq, Int.reduceBNe, and_true, true_and, or_false, or_true, true_or, false_or, eq_self, Int.reduceEq] <;> omega) ⟨c, trivial⟩
    · exact lw_e01 k n s m kind clock e0 (by simp (disch := omega) only [allC, wrapI, tmodn, tdivn, Int.reduceTMod, Int.reduceTDiv, Int.reduceMul, Int.reduceNeg, bne_iff_ne, beq_iff_eq, bne_eq_false_iff_eq, beq_eq_false_iff_ne, decide_eq_true_eq, decide_eq_false_iff_not, Bool.and_eq_true, Bool.and_eq_false_iff, Bool.or_eq_true, Bool.or_eq_false_iff, Bool.not_eq_true', Bool.not_eq_false', Bool.true_eq_false, Bool.false_eq_true, Int.reduceBEq, Int.reduceBNe, and_true, true_and, or_false, or_true, true_or, false_or, eq_self, Int.reduceEq] <;> omega) ⟨c, trivial⟩
    · exact lw_e02 k n s m kind clock e0 (by simp (disch := omega) only [allC, wrapI, tmodn, tdivn, Int.reduceTMod, Int.reduceTDiv, Int.reduceMul, Int.reduceNeg, bne_iff_ne, beq_iff_eq, bne_eq_false_iff_eq, beq_eq_false_iff_ne, decide_eq_true_eq, decide_eq_false_iff_not, Bool.and_eq_true, Bool.and_eq_false_iff, Bool.or_eq_true, Bool.or_eq_false_iff, Bool.not_eq_true', Bool.not_eq_false', Bool.true_eq_false, Bool.false_eq_true, Int.reduceBEq, Int.reduceBNe, and_true, true_and, or_false, or_true, true_or, false_or, eq_self, Int.reduceEq] <;> omega) ⟨c, trivial⟩
    · exact lw_e10 k n s m kind clock e0 (by simp (disch := omega) only [allC, wrapI, tmodn, tdivn, Int.reduceTMod, Int.reduceTDiv, Int.reduceMul, Int.reduceNeg, bne_iff_ne, beq_iff_eq, bne_eq_false_iff_eq, beq_eq_false_iff_ne, decide_eq_true_eq, decide_eq_false_iff_not, Bool.and_eq_true, Bool.and_eq_false_iff, Bool.or_eq_true, Bool.or_eq_false_iff, Bool.not_eq_true', Bool.not_eq_false', Bool.true_eq_false, Bool.false_eq_true, Int.reduceBEq, Int.reduceBNe, and_true, true_and, or_false, or_true, true_or, false_or, eq_self, Int.reduceEq] <;> omega) ⟨c, trivial⟩
    · exact lw_e11 k n s m kind clock e0 (by simp (disch := omega) only [allC, wrapI, tmodn, tdivn, Int.reduceTMod, Int.reduceTDiv, Int.reduceMul, Int.reduceNeg, bne_iff_ne, beq_iff_eq, bne_eq_false_iff_eq, beq_eq_false_iff_ne, decide_eq_true_eq, decide_eq_false_iff_not, Bool.and_eq_true, Bool.and_eq_false_iff, Bool.or_eq_true, Bool.or_eq_false_iff, Bool.not_eq_true', Bool.not_eq_false', Bool.true_eq_false, Bool.false_eq_true, Int.reduceBEq, Int.reduceBNe, and_true, true_and, or_false, or_true, true_or, false_or, eq_self, Int.reduceEq] <;> omega) ⟨c, trivial⟩
    · exact lw_e12 k n s m kind clock e0 (by simp (disch := omega) only [allC, wrapI, tmodn, tdivn, Int.reduceTMod, Int.reduceTDiv, Int.reduceMul, Int.reduceNeg, bne_iff_ne, beq_iff_eq, bne_eq_false_iff_eq, beq_eq_false_iff_ne, decide_eq_true_eq, decide_eq_false_iff_not, Bool.and_eq_true, Bool.and_eq_false_iff, Bool.or_eq_true, Bool.or_eq_false_iff, Bool.not_eq_true', Bool.not_eq_false', Bool.true_eq_false, Bool.false_eq_true, Int.reduceBEq, Int.reduceBNe, and_true, true_and, or_false, or_true, true_or, false_or, eq_self, Int.reduceEq] <;> omega) ⟨c, trivial⟩
    · exact lw_e20 k n s m kind clock e0 (by simp (disch := omega) only [allC, wrapI, tmodn, tdivn, Int.reduceTMod, Int.reduceTDiv, Int.reduceMul, Int.reduceNeg, bne_iff_ne, beq_iff_eq, bne_eq_false_iff_eq, beq_eq_false_iff_ne, decide_eq_true_eq, decide_eq_false_iff_not, Bool.and_eq_true, Bool.and_eq_false_iff, Bool.or_eq_true, Bool.or_eq_false_iff, Bool.not_eq_true', Bool.not_eq_false', Bool.true_eq_false, Bool.false_eq_true, Int.reduceBEq, Int.reduceBNe, and_true, true_and, or_false, or_true, true_or, false_or, eq_self, Int.reduceEq] <;> omega) ⟨c, trivial⟩
    · exact lw_e21 k n s m kind clock e0 (by simp (disch := omega) only [allC, wrapI, tmodn, tdivn, Int.reduceTMod, Int.reduceTDiv, Int.reduceMul, Int.reduceNeg, bne_iff_ne, beq_iff_eq, bne_eq_false_iff_eq, beq_eq_false_iff_ne, decide_eq_true_eq, decide_eq_false_iff_not, Bool.and_eq_true, Bool.and_eq_false_iff, Bool.or_eq_true, Bool.or_eq_false_iff, Bool.not_eq_true', Bool.not_eq_false', Bool.true_eq_false, Bool.false_eq_true, Int.reduceBEq, Int.reduceBNe, and_true, true_and, or_false, or_true, true_or, false_or, eq_self, Int.reduceEq] <;> omega) ⟨c, trivial⟩
    · exact lw_e22 k n s m kind clock e0 (by simp (disch := omega) only [allC, wrapI, tmodn, tdivn, Int.reduceTMod, Int.reduceTDiv, Int.reduceMul, Int.reduceNeg, bne_iff_ne, beq_iff_eq, bne_eq_false_iff_eq, beq_eq_false_iff_ne, decide_eq_true_eq, decide_eq_false_iff_not, Bool.and_eq_true, Bool.and_eq_false_iff, Bool.or_eq_true, Bool.or_eq_false_iff, Bool.not_eq_true', Bool.not_eq_false', Bool.true_eq_false, Bool.false_eq_true, Int.reduceBEq, Int.reduceBNe, and_true, true_and, or_false, or_true, true_or, false_or, eq_self, Int.reduceEq] <;> omega) ⟨c, trivial⟩
theorem rlow_err (k n s : Int) (m : Bool) (kind clock : Int) (h0 : eW k n s = 0) (h : eL k n s kind clock ≠ 0) : Con 53 [.agg #[.int .i64 k, .int .i64 n, .int .i64 s, .bool m], .int .i64 kind, .int .i64 clock] (.tuple #[(.agg #[.int .i64 0, .int .i64 0, .int .i64 0, .bool false]), .int .i64 (eL k n s kind clock)]) := by
  have hl : eL k n s kind clock = if kind < 0 ∨ 2 < kind then 15 else if clock < 0 ∨ 11 < clock then 2 else 0 := by unfold eL; rw [if_neg (by omega)]
  rw [hl] at h ⊢
  by_cases h1 : kind < 0
  · exact con_val (rw_k0 k n s m kind clock (by simp (disch := omega) only [allC, wrapI, tmodn, tdivn, Int.reduceTMod, Int.reduceTDiv, Int.reduceMul, Int.reduceNeg, bne_iff_ne, beq_iff_eq, bne_eq_false_iff_eq, beq_eq_false_iff_ne, decide_eq_true_eq, decide_eq_false_iff_not, Bool.and_eq_true, Bool.and_eq_false_iff, Bool.or_eq_true, Bool.or_eq_false_iff, Bool.not_eq_true', Bool.not_eq_false', Bool.true_eq_false, Bool.false_eq_true, Int.reduceBEq, Int.reduceBNe, and_true, true_and, or_false, or_true, true_or, false_or, eq_self, Int.reduceEq] <;> omega) trivial) (vt2 rfl (vi (by (repeat' split) <;> omega)))
  by_cases h2 : 2 < kind
  · exact con_val (rw_k1 k n s m kind clock (by simp (disch := omega) only [allC, wrapI, tmodn, tdivn, Int.reduceTMod, Int.reduceTDiv, Int.reduceMul, Int.reduceNeg, bne_iff_ne, beq_iff_eq, bne_eq_false_iff_eq, beq_eq_false_iff_ne, decide_eq_true_eq, decide_eq_false_iff_not, Bool.and_eq_true, Bool.and_eq_false_iff, Bool.or_eq_true, Bool.or_eq_false_iff, Bool.not_eq_true', Bool.not_eq_false', Bool.true_eq_false, Bool.false_eq_true, Int.reduceBEq, Int.reduceBNe, and_true, true_and, or_false, or_true, true_or, false_or, eq_self, Int.reduceEq] <;> omega) trivial) (vt2 rfl (vi (by (repeat' split) <;> omega)))
  by_cases h3 : clock < 0
  · exact con_val (rw_c0 k n s m kind clock (by simp (disch := omega) only [allC, wrapI, tmodn, tdivn, Int.reduceTMod, Int.reduceTDiv, Int.reduceMul, Int.reduceNeg, bne_iff_ne, beq_iff_eq, bne_eq_false_iff_eq, beq_eq_false_iff_ne, decide_eq_true_eq, decide_eq_false_iff_not, Bool.and_eq_true, Bool.and_eq_false_iff, Bool.or_eq_true, Bool.or_eq_false_iff, Bool.not_eq_true', Bool.not_eq_false', Bool.true_eq_false, Bool.false_eq_true, Int.reduceBEq, Int.reduceBNe, and_true, true_and, or_false, or_true, true_or, false_or, eq_self, Int.reduceEq] <;> omega) trivial) (vt2 rfl (vi (by (repeat' split) <;> omega)))
  by_cases h4 : 11 < clock
  · exact con_val (rw_c1 k n s m kind clock (by simp (disch := omega) only [allC, wrapI, tmodn, tdivn, Int.reduceTMod, Int.reduceTDiv, Int.reduceMul, Int.reduceNeg, bne_iff_ne, beq_iff_eq, bne_eq_false_iff_eq, beq_eq_false_iff_ne, decide_eq_true_eq, decide_eq_false_iff_not, Bool.and_eq_true, Bool.and_eq_false_iff, Bool.or_eq_true, Bool.or_eq_false_iff, Bool.not_eq_true', Bool.not_eq_false', Bool.true_eq_false, Bool.false_eq_true, Int.reduceBEq, Int.reduceBNe, and_true, true_and, or_false, or_true, true_or, false_or, eq_self, Int.reduceEq] <;> omega) trivial) (vt2 rfl (vi (by (repeat' split) <;> omega)))
  exact absurd (by rw [if_neg (by omega), if_neg (by omega)]) h
theorem low_m0 (k n s : Int) (m : Bool) (kind clock : Int) (h : valid k n s) (hk : kind = 0 ∨ kind = 1 ∨ kind = 2) (hc : 0 ≤ clock ∧ clock ≤ 11)  (y : cl k s m kind 0 false = clock) : Con 52 [.agg #[.int .i64 k, .int .i64 n, .int .i64 s, .bool m], .int .i64 kind, .int .i64 clock] (.tuple #[.agg #[.int .i64 kind, .int .i64 n, .int .i64 0, .bool false], .int .i64 0]) := by
  have c := cw_any k n s m
  rw [eW_ok h] at c
  have k0 := clock_c (n := n) (n1 := n) m false 0 h (show valid kind n 0 from ⟨hk, h.2.1, h.2.2.1, by omega⟩)
  generalize cl k s m kind 0 false = x0 at *
  exact lw_m0 k n s m kind clock _ (by simp (disch := omega) only [allC, wrapI, tmodn, tdivn, Int.reduceTMod, Int.reduceTDiv, Int.reduceMul, Int.reduceNeg, bne_iff_ne, beq_iff_eq, bne_eq_false_iff_eq, beq_eq_false_iff_ne, decide_eq_true_eq, decide_eq_false_iff_not, Bool.and_eq_true, Bool.and_eq_false_iff, Bool.or_eq_true, Bool.or_eq_false_iff, Bool.not_eq_true', Bool.not_eq_false', Bool.true_eq_false, Bool.false_eq_true, Int.reduceBEq, Int.reduceBNe, and_true, true_and, or_false, or_true, true_or, false_or, eq_self, Int.reduceEq] <;> omega) ⟨c, k0, trivial⟩
theorem rlow_m0 (k n s : Int) (m : Bool) (kind clock : Int) (h : valid k n s) (hk : kind = 0 ∨ kind = 1 ∨ kind = 2) (hc : 0 ≤ clock ∧ clock ≤ 11)  (y : cl k s m kind 0 false = clock) : Con 53 [.agg #[.int .i64 k, .int .i64 n, .int .i64 s, .bool m], .int .i64 kind, .int .i64 clock] (.tuple #[.agg #[.int .i64 kind, .int .i64 n, .int .i64 0, .bool false], .int .i64 0]) := by
  have k0 := rclock_c (n := n) (n1 := n) m false 0 h (show valid kind n 0 from ⟨hk, h.2.1, h.2.2.1, by omega⟩)
  generalize cl k s m kind 0 false = x0 at *
  exact rw_m0 k n s m kind clock _ (by simp (disch := omega) only [allC, wrapI, tmodn, tdivn, Int.reduceTMod, Int.reduceTDiv, Int.reduceMul, Int.reduceNeg, bne_iff_ne, beq_iff_eq, bne_eq_false_iff_eq, beq_eq_false_iff_ne, decide_eq_true_eq, decide_eq_false_iff_not, Bool.and_eq_true, Bool.and_eq_false_iff, Bool.or_eq_true, Bool.or_eq_false_iff, Bool.not_eq_true', Bool.not_eq_false', Bool.true_eq_false, Bool.false_eq_true, Int.reduceBEq, Int.reduceBNe, and_true, true_and, or_false, or_true, true_or, false_or, eq_self, Int.reduceEq] <;> omega) ⟨k0, trivial⟩
theorem low_m1 (k n s : Int) (m : Bool) (kind clock : Int) (h : valid k n s) (hk : kind = 0 ∨ kind = 1 ∨ kind = 2) (hc : 0 ≤ clock ∧ clock ≤ 11) (n0 : cl k s m kind 0 false ≠ clock) (y : cl k s m kind 1 false = clock) : Con 52 [.agg #[.int .i64 k, .int .i64 n, .int .i64 s, .bool m], .int .i64 kind, .int .i64 clock] (.tuple #[.agg #[.int .i64 kind, .int .i64 n, .int .i64 1, .bool false], .int .i64 0]) := by
  have c := cw_any k n s m
  rw [eW_ok h] at c
  have k0 := clock_c (n := n) (n1 := n) m false 0 h (show valid kind n 0 from ⟨hk, h.2.1, h.2.2.1, by omega⟩)
  have k1 := clock_c (n := n) (n1 := n) m false 0 h (show valid kind n 1 from ⟨hk, h.2.1, h.2.2.1, by omega⟩)
  generalize cl k s m kind 0 false = x0 at *
  generalize cl k s m kind 1 false = x1 at *
  exact lw_m1 k n s m kind clock _ _ (by simp (disch := omega) only [allC, wrapI, tmodn, tdivn, Int.reduceTMod, Int.reduceTDiv, Int.reduceMul, Int.reduceNeg, bne_iff_ne, beq_iff_eq, bne_eq_false_iff_eq, beq_eq_false_iff_ne, decide_eq_true_eq, decide_eq_false_iff_not, Bool.and_eq_true, Bool.and_eq_false_iff, Bool.or_eq_true, Bool.or_eq_false_iff, Bool.not_eq_true', Bool.not_eq_false', Bool.true_eq_false, Bool.false_eq_true, Int.reduceBEq, Int.reduceBNe, and_true, true_and, or_false, or_true, true_or, false_or, eq_self, Int.reduceEq] <;> omega) ⟨c, k0, k1, trivial⟩
theorem rlow_m1 (k n s : Int) (m : Bool) (kind clock : Int) (h : valid k n s) (hk : kind = 0 ∨ kind = 1 ∨ kind = 2) (hc : 0 ≤ clock ∧ clock ≤ 11) (n0 : cl k s m kind 0 false ≠ clock) (y : cl k s m kind 1 false = clock) : Con 53 [.agg #[.int .i64 k, .int .i64 n, .int .i64 s, .bool m], .int .i64 kind, .int .i64 clock] (.tuple #[.agg #[.int .i64 kind, .int .i64 n, .int .i64 1, .bool false], .int .i64 0]) := by
  have k0 := rclock_c (n := n) (n1 := n) m false 0 h (show valid kind n 0 from ⟨hk, h.2.1, h.2.2.1, by omega⟩)
  have k1 := rclock_c (n := n) (n1 := n) m false 0 h (show valid kind n 1 from ⟨hk, h.2.1, h.2.2.1, by omega⟩)
  generalize cl k s m kind 0 false = x0 at *
  generalize cl k s m kind 1 false = x1 at *
  exact rw_m1 k n s m kind clock _ _ (by simp (disch := omega) only [allC, wrapI, tmodn, tdivn, Int.reduceTMod, Int.reduceTDiv, Int.reduceMul, Int.reduceNeg, bne_iff_ne, beq_iff_eq, bne_eq_false_iff_eq, beq_eq_false_iff_ne, decide_eq_true_eq, decide_eq_false_iff_not, Bool.and_eq_true, Bool.and_eq_false_iff, Bool.or_eq_true, Bool.or_eq_false_iff, Bool.not_eq_true', Bool.not_eq_false', Bool.true_eq_false, Bool.false_eq_true, Int.reduceBEq, Int.reduceBNe, and_true, true_and, or_false, or_true, true_or, false_or, eq_self, Int.reduceEq] <;> omega) ⟨k0, k1, trivial⟩
theorem low_m2 (k n s : Int) (m : Bool) (kind clock : Int) (h : valid k n s) (hk : kind = 0 ∨ kind = 1 ∨ kind = 2) (hc : 0 ≤ clock ∧ clock ≤ 11) (n0 : cl k s m kind 0 false ≠ clock) (n1 : cl k s m kind 1 false ≠ clock) (y : cl k s m kind 2 false = clock) : Con 52 [.agg #[.int .i64 k, .int .i64 n, .int .i64 s, .bool m], .int .i64 kind, .int .i64 clock] (.tuple #[.agg #[.int .i64 kind, .int .i64 n, .int .i64 2, .bool false], .int .i64 0]) := by
  have c := cw_any k n s m
  rw [eW_ok h] at c
  have k0 := clock_c (n := n) (n1 := n) m false 0 h (show valid kind n 0 from ⟨hk, h.2.1, h.2.2.1, by omega⟩)
  have k1 := clock_c (n := n) (n1 := n) m false 0 h (show valid kind n 1 from ⟨hk, h.2.1, h.2.2.1, by omega⟩)
  have k2 := clock_c (n := n) (n1 := n) m false 0 h (show valid kind n 2 from ⟨hk, h.2.1, h.2.2.1, by omega⟩)
  generalize cl k s m kind 0 false = x0 at *
  generalize cl k s m kind 1 false = x1 at *
  generalize cl k s m kind 2 false = x2 at *
  exact lw_m2 k n s m kind clock _ _ _ (by simp (disch := omega) only [allC, wrapI, tmodn, tdivn, Int.reduceTMod, Int.reduceTDiv, Int.reduceMul, Int.reduceNeg, bne_iff_ne, beq_iff_eq, bne_eq_false_iff_eq, beq_eq_false_iff_ne, decide_eq_true_eq, decide_eq_false_iff_not, Bool.and_eq_true, Bool.and_eq_false_iff, Bool.or_eq_true, Bool.or_eq_false_iff, Bool.not_eq_true', Bool.not_eq_false', Bool.true_eq_false, Bool.false_eq_true, Int.reduceBEq, Int.reduceBNe, and_true, true_and, or_false, or_true, true_or, false_or, eq_self, Int.reduceEq] <;> omega) ⟨c, k0, k1, k2, trivial⟩
theorem rlow_m2 (k n s : Int) (m : Bool) (kind clock : Int) (h : valid k n s) (hk : kind = 0 ∨ kind = 1 ∨ kind = 2) (hc : 0 ≤ clock ∧ clock ≤ 11) (n0 : cl k s m kind 0 false ≠ clock) (n1 : cl k s m kind 1 false ≠ clock) (y : cl k s m kind 2 false = clock) : Con 53 [.agg #[.int .i64 k, .int .i64 n, .int .i64 s, .bool m], .int .i64 kind, .int .i64 clock] (.tuple #[.agg #[.int .i64 kind, .int .i64 n, .int .i64 2, .bool false], .int .i64 0]) := by
  have k0 := rclock_c (n := n) (n1 := n) m false 0 h (show valid kind n 0 from ⟨hk, h.2.1, h.2.2.1, by omega⟩)
  have k1 := rclock_c (n := n) (n1 := n) m false 0 h (show valid kind n 1 from ⟨hk, h.2.1, h.2.2.1, by omega⟩)
  have k2 := rclock_c (n := n) (n1 := n) m false 0 h (show valid kind n 2 from ⟨hk, h.2.1, h.2.2.1, by omega⟩)
  generalize cl k s m kind 0 false = x0 at *
  generalize cl k s m kind 1 false = x1 at *
  generalize cl k s m kind 2 false = x2 at *
  exact rw_m2 k n s m kind clock _ _ _ (by simp (disch := omega) only [allC, wrapI, tmodn, tdivn, Int.reduceTMod, Int.reduceTDiv, Int.reduceMul, Int.reduceNeg, bne_iff_ne, beq_iff_eq, bne_eq_false_iff_eq, beq_eq_false_iff_ne, decide_eq_true_eq, decide_eq_false_iff_not, Bool.and_eq_true, Bool.and_eq_false_iff, Bool.or_eq_true, Bool.or_eq_false_iff, Bool.not_eq_true', Bool.not_eq_false', Bool.true_eq_false, Bool.false_eq_true, Int.reduceBEq, Int.reduceBNe, and_true, true_and, or_false, or_true, true_or, false_or, eq_self, Int.reduceEq] <;> omega) ⟨k0, k1, k2, trivial⟩
theorem low_m3 (k n s : Int) (m : Bool) (kind clock : Int) (h : valid k n s) (hk : kind = 0 ∨ kind = 1 ∨ kind = 2) (hc : 0 ≤ clock ∧ clock ≤ 11) (n0 : cl k s m kind 0 false ≠ clock) (n1 : cl k s m kind 1 false ≠ clock) (n2 : cl k s m kind 2 false ≠ clock) (y : cl k s m kind 0 true = clock) : Con 52 [.agg #[.int .i64 k, .int .i64 n, .int .i64 s, .bool m], .int .i64 kind, .int .i64 clock] (.tuple #[.agg #[.int .i64 kind, .int .i64 n, .int .i64 0, .bool true], .int .i64 0]) := by
  have c := cw_any k n s m
  rw [eW_ok h] at c
  have k0 := clock_c (n := n) (n1 := n) m false 0 h (show valid kind n 0 from ⟨hk, h.2.1, h.2.2.1, by omega⟩)
  have k1 := clock_c (n := n) (n1 := n) m false 0 h (show valid kind n 1 from ⟨hk, h.2.1, h.2.2.1, by omega⟩)
  have k2 := clock_c (n := n) (n1 := n) m false 0 h (show valid kind n 2 from ⟨hk, h.2.1, h.2.2.1, by omega⟩)
  have k3 := clock_c (n := n) (n1 := n) m true 0 h (show valid kind n 0 from ⟨hk, h.2.1, h.2.2.1, by omega⟩)
  generalize cl k s m kind 0 false = x0 at *
  generalize cl k s m kind 1 false = x1 at *
  generalize cl k s m kind 2 false = x2 at *
  generalize cl k s m kind 0 true = x3 at *
  exact lw_m3 k n s m kind clock _ _ _ _ (by simp (disch := omega) only [allC, wrapI, tmodn, tdivn, Int.reduceTMod, Int.reduceTDiv, Int.reduceMul, Int.reduceNeg, bne_iff_ne, beq_iff_eq, bne_eq_false_iff_eq, beq_eq_false_iff_ne, decide_eq_true_eq, decide_eq_false_iff_not, Bool.and_eq_true, Bool.and_eq_false_iff, Bool.or_eq_true, Bool.or_eq_false_iff, Bool.not_eq_true', Bool.not_eq_false', Bool.true_eq_false, Bool.false_eq_true, Int.reduceBEq, Int.reduceBNe, and_true, true_and, or_false, or_true, true_or, false_or, eq_self, Int.reduceEq] <;> omega) ⟨c, k0, k1, k2, k3, trivial⟩
theorem rlow_m3 (k n s : Int) (m : Bool) (kind clock : Int) (h : valid k n s) (hk : kind = 0 ∨ kind = 1 ∨ kind = 2) (hc : 0 ≤ clock ∧ clock ≤ 11) (n0 : cl k s m kind 0 false ≠ clock) (n1 : cl k s m kind 1 false ≠ clock) (n2 : cl k s m kind 2 false ≠ clock) (y : cl k s m kind 0 true = clock) : Con 53 [.agg #[.int .i64 k, .int .i64 n, .int .i64 s, .bool m], .int .i64 kind, .int .i64 clock] (.tuple #[.agg #[.int .i64 kind, .int .i64 n, .int .i64 0, .bool true], .int .i64 0]) := by
  have k0 := rclock_c (n := n) (n1 := n) m false 0 h (show valid kind n 0 from ⟨hk, h.2.1, h.2.2.1, by omega⟩)
  have k1 := rclock_c (n := n) (n1 := n) m false 0 h (show valid kind n 1 from ⟨hk, h.2.1, h.2.2.1, by omega⟩)
  have k2 := rclock_c (n := n) (n1 := n) m false 0 h (show valid kind n 2 from ⟨hk, h.2.1, h.2.2.1, by omega⟩)
  have k3 := rclock_c (n := n) (n1 := n) m true 0 h (show valid kind n 0 from ⟨hk, h.2.1, h.2.2.1, by omega⟩)
  generalize cl k s m kind 0 false = x0 at *
  generalize cl k s m kind 1 false = x1 at *
  generalize cl k s m kind 2 false = x2 at *
  generalize cl k s m kind 0 true = x3 at *
  exact rw_m3 k n s m kind clock _ _ _ _ (by simp (disch := omega) only [allC, wrapI, tmodn, tdivn, Int.reduceTMod, Int.reduceTDiv, Int.reduceMul, Int.reduceNeg, bne_iff_ne, beq_iff_eq, bne_eq_false_iff_eq, beq_eq_false_iff_ne, decide_eq_true_eq, decide_eq_false_iff_not, Bool.and_eq_true, Bool.and_eq_false_iff, Bool.or_eq_true, Bool.or_eq_false_iff, Bool.not_eq_true', Bool.not_eq_false', Bool.true_eq_false, Bool.false_eq_true, Int.reduceBEq, Int.reduceBNe, and_true, true_and, or_false, or_true, true_or, false_or, eq_self, Int.reduceEq] <;> omega) ⟨k0, k1, k2, k3, trivial⟩
theorem low_m4 (k n s : Int) (m : Bool) (kind clock : Int) (h : valid k n s) (hk : kind = 0 ∨ kind = 1 ∨ kind = 2) (hc : 0 ≤ clock ∧ clock ≤ 11) (n0 : cl k s m kind 0 false ≠ clock) (n1 : cl k s m kind 1 false ≠ clock) (n2 : cl k s m kind 2 false ≠ clock) (n3 : cl k s m kind 0 true ≠ clock) (y : cl k s m kind 1 true = clock) : Con 52 [.agg #[.int .i64 k, .int .i64 n, .int .i64 s, .bool m], .int .i64 kind, .int .i64 clock] (.tuple #[.agg #[.int .i64 kind, .int .i64 n, .int .i64 1, .bool true], .int .i64 0]) := by
  have c := cw_any k n s m
  rw [eW_ok h] at c
  have k0 := clock_c (n := n) (n1 := n) m false 0 h (show valid kind n 0 from ⟨hk, h.2.1, h.2.2.1, by omega⟩)
  have k1 := clock_c (n := n) (n1 := n) m false 0 h (show valid kind n 1 from ⟨hk, h.2.1, h.2.2.1, by omega⟩)
  have k2 := clock_c (n := n) (n1 := n) m false 0 h (show valid kind n 2 from ⟨hk, h.2.1, h.2.2.1, by omega⟩)
  have k3 := clock_c (n := n) (n1 := n) m true 0 h (show valid kind n 0 from ⟨hk, h.2.1, h.2.2.1, by omega⟩)
  have k4 := clock_c (n := n) (n1 := n) m true 0 h (show valid kind n 1 from ⟨hk, h.2.1, h.2.2.1, by omega⟩)
  generalize cl k s m kind 0 false = x0 at *
  generalize cl k s m kind 1 false = x1 at *
  generalize cl k s m kind 2 false = x2 at *
  generalize cl k s m kind 0 true = x3 at *
  generalize cl k s m kind 1 true = x4 at *
  exact lw_m4 k n s m kind clock _ _ _ _ _ (by simp (disch := omega) only [allC, wrapI, tmodn, tdivn, Int.reduceTMod, Int.reduceTDiv, Int.reduceMul, Int.reduceNeg, bne_iff_ne, beq_iff_eq, bne_eq_false_iff_eq, beq_eq_false_iff_ne, decide_eq_true_eq, decide_eq_false_iff_not, Bool.and_eq_true, Bool.and_eq_false_iff, Bool.or_eq_true, Bool.or_eq_false_iff, Bool.not_eq_true', Bool.not_eq_false', Bool.true_eq_false, Bool.false_eq_true, Int.reduceBEq, Int.reduceBNe, and_true, true_and, or_false, or_true, true_or, false_or, eq_self, Int.reduceEq] <;> omega) ⟨c, k0, k1, k2, k3, k4, trivial⟩
theorem rlow_m4 (k n s : Int) (m : Bool) (kind clock : Int) (h : valid k n s) (hk : kind = 0 ∨ kind = 1 ∨ kind = 2) (hc : 0 ≤ clock ∧ clock ≤ 11) (n0 : cl k s m kind 0 false ≠ clock) (n1 : cl k s m kind 1 false ≠ clock) (n2 : cl k s m kind 2 false ≠ clock) (n3 : cl k s m kind 0 true ≠ clock) (y : cl k s m kind 1 true = clock) : Con 53 [.agg #[.int .i64 k, .int .i64 n, .int .i64 s, .bool m], .int .i64 kind, .int .i64 clock] (.tuple #[.agg #[.int .i64 kind, .int .i64 n, .int .i64 1, .bool true], .int .i64 0]) := by
  have k0 := rclock_c (n := n) (n1 := n) m false 0 h (show valid kind n 0 from ⟨hk, h.2.1, h.2.2.1, by omega⟩)
  have k1 := rclock_c (n := n) (n1 := n) m false 0 h (show valid kind n 1 from ⟨hk, h.2.1, h.2.2.1, by omega⟩)
  have k2 := rclock_c (n := n) (n1 := n) m false 0 h (show valid kind n 2 from ⟨hk, h.2.1, h.2.2.1, by omega⟩)
  have k3 := rclock_c (n := n) (n1 := n) m true 0 h (show valid kind n 0 from ⟨hk, h.2.1, h.2.2.1, by omega⟩)
  have k4 := rclock_c (n := n) (n1 := n) m true 0 h (show valid kind n 1 from ⟨hk, h.2.1, h.2.2.1, by omega⟩)
  generalize cl k s m kind 0 false = x0 at *
  generalize cl k s m kind 1 false = x1 at *
  generalize cl k s m kind 2 false = x2 at *
  generalize cl k s m kind 0 true = x3 at *
  generalize cl k s m kind 1 true = x4 at *
  exact rw_m4 k n s m kind clock _ _ _ _ _ (by simp (disch := omega) only [allC, wrapI, tmodn, tdivn, Int.reduceTMod, Int.reduceTDiv, Int.reduceMul, Int.reduceNeg, bne_iff_ne, beq_iff_eq, bne_eq_false_iff_eq, beq_eq_false_iff_ne, decide_eq_true_eq, decide_eq_false_iff_not, Bool.and_eq_true, Bool.and_eq_false_iff, Bool.or_eq_true, Bool.or_eq_false_iff, Bool.not_eq_true', Bool.not_eq_false', Bool.true_eq_false, Bool.false_eq_true, Int.reduceBEq, Int.reduceBNe, and_true, true_and, or_false, or_true, true_or, false_or, eq_self, Int.reduceEq] <;> omega) ⟨k0, k1, k2, k3, k4, trivial⟩
theorem low_m5 (k n s : Int) (m : Bool) (kind clock : Int) (h : valid k n s) (hk : kind = 0 ∨ kind = 1 ∨ kind = 2) (hc : 0 ≤ clock ∧ clock ≤ 11) (n0 : cl k s m kind 0 false ≠ clock) (n1 : cl k s m kind 1 false ≠ clock) (n2 : cl k s m kind 2 false ≠ clock) (n3 : cl k s m kind 0 true ≠ clock) (n4 : cl k s m kind 1 true ≠ clock) (y : cl k s m kind 2 true = clock) : Con 52 [.agg #[.int .i64 k, .int .i64 n, .int .i64 s, .bool m], .int .i64 kind, .int .i64 clock] (.tuple #[.agg #[.int .i64 kind, .int .i64 n, .int .i64 2, .bool true], .int .i64 0]) := by
  have c := cw_any k n s m
  rw [eW_ok h] at c
  have k0 := clock_c (n := n) (n1 := n) m false 0 h (show valid kind n 0 from ⟨hk, h.2.1, h.2.2.1, by omega⟩)
  have k1 := clock_c (n := n) (n1 := n) m false 0 h (show valid kind n 1 from ⟨hk, h.2.1, h.2.2.1, by omega⟩)
  have k2 := clock_c (n := n) (n1 := n) m false 0 h (show valid kind n 2 from ⟨hk, h.2.1, h.2.2.1, by omega⟩)
  have k3 := clock_c (n := n) (n1 := n) m true 0 h (show valid kind n 0 from ⟨hk, h.2.1, h.2.2.1, by omega⟩)
  have k4 := clock_c (n := n) (n1 := n) m true 0 h (show valid kind n 1 from ⟨hk, h.2.1, h.2.2.1, by omega⟩)
  have k5 := clock_c (n := n) (n1 := n) m true 0 h (show valid kind n 2 from ⟨hk, h.2.1, h.2.2.1, by omega⟩)
  generalize cl k s m kind 0 false = x0 at *
  generalize cl k s m kind 1 false = x1 at *
  generalize cl k s m kind 2 false = x2 at *
  generalize cl k s m kind 0 true = x3 at *
  generalize cl k s m kind 1 true = x4 at *
  generalize cl k s m kind 2 true = x5 at *
  exact lw_m5 k n s m kind clock _ _ _ _ _ _ (by simp (disch := omega) only [allC, wrapI, tmodn, tdivn, Int.reduceTMod, Int.reduceTDiv, Int.reduceMul, Int.reduceNeg, bne_iff_ne, beq_iff_eq, bne_eq_false_iff_eq, beq_eq_false_iff_ne, decide_eq_true_eq, decide_eq_false_iff_not, Bool.and_eq_true, Bool.and_eq_false_iff, Bool.or_eq_true, Bool.or_eq_false_iff, Bool.not_eq_true', Bool.not_eq_false', Bool.true_eq_false, Bool.false_eq_true, Int.reduceBEq, Int.reduceBNe, and_true, true_and, or_false, or_true, true_or, false_or, eq_self, Int.reduceEq] <;> omega) ⟨c, k0, k1, k2, k3, k4, k5, trivial⟩
theorem rlow_m5 (k n s : Int) (m : Bool) (kind clock : Int) (h : valid k n s) (hk : kind = 0 ∨ kind = 1 ∨ kind = 2) (hc : 0 ≤ clock ∧ clock ≤ 11) (n0 : cl k s m kind 0 false ≠ clock) (n1 : cl k s m kind 1 false ≠ clock) (n2 : cl k s m kind 2 false ≠ clock) (n3 : cl k s m kind 0 true ≠ clock) (n4 : cl k s m kind 1 true ≠ clock) (y : cl k s m kind 2 true = clock) : Con 53 [.agg #[.int .i64 k, .int .i64 n, .int .i64 s, .bool m], .int .i64 kind, .int .i64 clock] (.tuple #[.agg #[.int .i64 kind, .int .i64 n, .int .i64 2, .bool true], .int .i64 0]) := by
  have k0 := rclock_c (n := n) (n1 := n) m false 0 h (show valid kind n 0 from ⟨hk, h.2.1, h.2.2.1, by omega⟩)
  have k1 := rclock_c (n := n) (n1 := n) m false 0 h (show valid kind n 1 from ⟨hk, h.2.1, h.2.2.1, by omega⟩)
  have k2 := rclock_c (n := n) (n1 := n) m false 0 h (show valid kind n 2 from ⟨hk, h.2.1, h.2.2.1, by omega⟩)
  have k3 := rclock_c (n := n) (n1 := n) m true 0 h (show valid kind n 0 from ⟨hk, h.2.1, h.2.2.1, by omega⟩)
  have k4 := rclock_c (n := n) (n1 := n) m true 0 h (show valid kind n 1 from ⟨hk, h.2.1, h.2.2.1, by omega⟩)
  have k5 := rclock_c (n := n) (n1 := n) m true 0 h (show valid kind n 2 from ⟨hk, h.2.1, h.2.2.1, by omega⟩)
  generalize cl k s m kind 0 false = x0 at *
  generalize cl k s m kind 1 false = x1 at *
  generalize cl k s m kind 2 false = x2 at *
  generalize cl k s m kind 0 true = x3 at *
  generalize cl k s m kind 1 true = x4 at *
  generalize cl k s m kind 2 true = x5 at *
  exact rw_m5 k n s m kind clock _ _ _ _ _ _ (by simp (disch := omega) only [allC, wrapI, tmodn, tdivn, Int.reduceTMod, Int.reduceTDiv, Int.reduceMul, Int.reduceNeg, bne_iff_ne, beq_iff_eq, bne_eq_false_iff_eq, beq_eq_false_iff_ne, decide_eq_true_eq, decide_eq_false_iff_not, Bool.and_eq_true, Bool.and_eq_false_iff, Bool.or_eq_true, Bool.or_eq_false_iff, Bool.not_eq_true', Bool.not_eq_false', Bool.true_eq_false, Bool.false_eq_true, Int.reduceBEq, Int.reduceBNe, and_true, true_and, or_false, or_true, true_or, false_or, eq_self, Int.reduceEq] <;> omega) ⟨k0, k1, k2, k3, k4, k5, trivial⟩
theorem low_none (k n s : Int) (m : Bool) (kind clock : Int) (h : valid k n s) (hk : kind = 0 ∨ kind = 1 ∨ kind = 2) (hc : 0 ≤ clock ∧ clock ≤ 11) (n0 : cl k s m kind 0 false ≠ clock) (n1 : cl k s m kind 1 false ≠ clock) (n2 : cl k s m kind 2 false ≠ clock) (n3 : cl k s m kind 0 true ≠ clock) (n4 : cl k s m kind 1 true ≠ clock) (n5 : cl k s m kind 2 true ≠ clock) : Con 52 [.agg #[.int .i64 k, .int .i64 n, .int .i64 s, .bool m], .int .i64 kind, .int .i64 clock] (.tuple #[(.agg #[.int .i64 0, .int .i64 0, .int .i64 0, .bool false]), .int .i64 12]) := by
  have c := cw_any k n s m
  rw [eW_ok h] at c
  have k0 := clock_c (n := n) (n1 := n) m false 0 h (show valid kind n 0 from ⟨hk, h.2.1, h.2.2.1, by omega⟩)
  have k1 := clock_c (n := n) (n1 := n) m false 0 h (show valid kind n 1 from ⟨hk, h.2.1, h.2.2.1, by omega⟩)
  have k2 := clock_c (n := n) (n1 := n) m false 0 h (show valid kind n 2 from ⟨hk, h.2.1, h.2.2.1, by omega⟩)
  have k3 := clock_c (n := n) (n1 := n) m true 0 h (show valid kind n 0 from ⟨hk, h.2.1, h.2.2.1, by omega⟩)
  have k4 := clock_c (n := n) (n1 := n) m true 0 h (show valid kind n 1 from ⟨hk, h.2.1, h.2.2.1, by omega⟩)
  have k5 := clock_c (n := n) (n1 := n) m true 0 h (show valid kind n 2 from ⟨hk, h.2.1, h.2.2.1, by omega⟩)
  generalize cl k s m kind 0 false = x0 at *
  generalize cl k s m kind 1 false = x1 at *
  generalize cl k s m kind 2 false = x2 at *
  generalize cl k s m kind 0 true = x3 at *
  generalize cl k s m kind 1 true = x4 at *
  generalize cl k s m kind 2 true = x5 at *
  exact lw_none k n s m kind clock _ _ _ _ _ _ (by simp (disch := omega) only [allC, wrapI, tmodn, tdivn, Int.reduceTMod, Int.reduceTDiv, Int.reduceMul, Int.reduceNeg, bne_iff_ne, beq_iff_eq, bne_eq_false_iff_eq, beq_eq_false_iff_ne, decide_eq_true_eq, decide_eq_false_iff_not, Bool.and_eq_true, Bool.and_eq_false_iff, Bool.or_eq_true, Bool.or_eq_false_iff, Bool.not_eq_true', Bool.not_eq_false', Bool.true_eq_false, Bool.false_eq_true, Int.reduceBEq, Int.reduceBNe, and_true, true_and, or_false, or_true, true_or, false_or, eq_self, Int.reduceEq] <;> omega) ⟨c, k0, k1, k2, k3, k4, k5, trivial⟩
theorem rlow_none (k n s : Int) (m : Bool) (kind clock : Int) (h : valid k n s) (hk : kind = 0 ∨ kind = 1 ∨ kind = 2) (hc : 0 ≤ clock ∧ clock ≤ 11) (n0 : cl k s m kind 0 false ≠ clock) (n1 : cl k s m kind 1 false ≠ clock) (n2 : cl k s m kind 2 false ≠ clock) (n3 : cl k s m kind 0 true ≠ clock) (n4 : cl k s m kind 1 true ≠ clock) (n5 : cl k s m kind 2 true ≠ clock) : Con 53 [.agg #[.int .i64 k, .int .i64 n, .int .i64 s, .bool m], .int .i64 kind, .int .i64 clock] (.tuple #[(.agg #[.int .i64 0, .int .i64 0, .int .i64 0, .bool false]), .int .i64 12]) := by
  have k0 := rclock_c (n := n) (n1 := n) m false 0 h (show valid kind n 0 from ⟨hk, h.2.1, h.2.2.1, by omega⟩)
  have k1 := rclock_c (n := n) (n1 := n) m false 0 h (show valid kind n 1 from ⟨hk, h.2.1, h.2.2.1, by omega⟩)
  have k2 := rclock_c (n := n) (n1 := n) m false 0 h (show valid kind n 2 from ⟨hk, h.2.1, h.2.2.1, by omega⟩)
  have k3 := rclock_c (n := n) (n1 := n) m true 0 h (show valid kind n 0 from ⟨hk, h.2.1, h.2.2.1, by omega⟩)
  have k4 := rclock_c (n := n) (n1 := n) m true 0 h (show valid kind n 1 from ⟨hk, h.2.1, h.2.2.1, by omega⟩)
  have k5 := rclock_c (n := n) (n1 := n) m true 0 h (show valid kind n 2 from ⟨hk, h.2.1, h.2.2.1, by omega⟩)
  generalize cl k s m kind 0 false = x0 at *
  generalize cl k s m kind 1 false = x1 at *
  generalize cl k s m kind 2 false = x2 at *
  generalize cl k s m kind 0 true = x3 at *
  generalize cl k s m kind 1 true = x4 at *
  generalize cl k s m kind 2 true = x5 at *
  exact rw_none k n s m kind clock _ _ _ _ _ _ (by simp (disch := omega) only [allC, wrapI, tmodn, tdivn, Int.reduceTMod, Int.reduceTDiv, Int.reduceMul, Int.reduceNeg, bne_iff_ne, beq_iff_eq, bne_eq_false_iff_eq, beq_eq_false_iff_ne, decide_eq_true_eq, decide_eq_false_iff_not, Bool.and_eq_true, Bool.and_eq_false_iff, Bool.or_eq_true, Bool.or_eq_false_iff, Bool.not_eq_true', Bool.not_eq_false', Bool.true_eq_false, Bool.false_eq_true, Int.reduceBEq, Int.reduceBNe, and_true, true_and, or_false, or_true, true_or, false_or, eq_self, Int.reduceEq] <;> omega) ⟨k0, k1, k2, k3, k4, k5, trivial⟩
theorem clockOf_c {k n s k1 n1 s1 : Int} (m m1 : Bool) (h : valid k n s) (h' : valid k1 n1 s1) : Con 42 [.agg #[.int .i64 k, .int .i64 n, .int .i64 s, .bool m, .int .i64 k1, .int .i64 n1, .int .i64 s1, .bool m1, .int .i64 0]] (.tuple #[.int .i64 (cl k s m k1 s1 m1), .int .i64 0]) := by
  have a := cw_any k n s m
  have b := cw_any k1 n1 s1 m1
  rw [eW_ok h] at a
  rw [eW_ok h'] at b
  exact co_ok k n s m k1 n1 s1 m1 0 0 0 _ (by simp (disch := omega) only [allC, wrapI, tmodn, tdivn, Int.reduceTMod, Int.reduceTDiv, Int.reduceMul, Int.reduceNeg, bne_iff_ne, beq_iff_eq, bne_eq_false_iff_eq, beq_eq_false_iff_ne, decide_eq_true_eq, decide_eq_false_iff_not, Bool.and_eq_true, Bool.and_eq_false_iff, Bool.or_eq_true, Bool.or_eq_false_iff, Bool.not_eq_true', Bool.not_eq_false', Bool.true_eq_false, Bool.false_eq_true, Int.reduceBEq, Int.reduceBNe, and_true, true_and, or_false, or_true, true_or, false_or, eq_self, Int.reduceEq] <;> omega) ⟨cu_22 k n s m k1 n1 s1 m1 0 0 0 (by simp (disch := omega) only [allC, wrapI, tmodn, tdivn, Int.reduceTMod, Int.reduceTDiv, Int.reduceMul, Int.reduceNeg, bne_iff_ne, beq_iff_eq, bne_eq_false_iff_eq, beq_eq_false_iff_ne, decide_eq_true_eq, decide_eq_false_iff_not, Bool.and_eq_true, Bool.and_eq_false_iff, Bool.or_eq_true, Bool.or_eq_false_iff, Bool.not_eq_true', Bool.not_eq_false', Bool.true_eq_false, Bool.false_eq_true, Int.reduceBEq, Int.reduceBNe, and_true, true_and, or_false, or_true, true_or, false_or, eq_self, Int.reduceEq] <;> omega) ⟨a, b, trivial⟩, clock_c m m1 0 h h', trivial⟩
theorem cl_range (k s : Int) (m : Bool) (k1 s1 : Int) (m1 : Bool) : 0 ≤ cl k s m k1 s1 m1 ∧ cl k s m k1 s1 m1 ≤ 11 := by unfold cl; omega
theorem cl_par (k s : Int) (m : Bool) (k1 s1 : Int) (m1 : Bool) (hk : k = 0 ∨ k = 1 ∨ k = 2) (hk1 : k1 = 0 ∨ k1 = 1 ∨ k1 = 2) : cl k s m k1 s1 m1 % 2 = 0 ↔ (k = 0 ↔ k1 = 0) := by
  unfold cl hv
  rcases hk with rfl | rfl | rfl <;> rcases hk1 with rfl | rfl | rfl <;> cases m <;> cases m1 <;> simp <;> omega
theorem law_found0 (k n s : Int) (m : Bool) (kind clock : Int) (h : valid k n s) (hk : kind = 0 ∨ kind = 1 ∨ kind = 2) (hc : 0 ≤ clock ∧ clock ≤ 11)  (y : cl k s m kind 0 false = clock) : Con 9 [.agg #[.int .i64 k, .int .i64 n, .int .i64 s, .bool m], .int .i64 kind, .int .i64 clock] (.bool true) := by
  have par := cl_par k s m kind 0 false h.1 hk
  have e1 : cl k s m kind 1 false = (clock + 4) % 12 := by rw [← y]; unfold cl hv; omega
  have e2 : cl k s m kind 0 true = (clock + 6) % 12 := by rw [← y]; unfold cl hv; simp <;> omega
  have a0 := clockOf_c (n := n) (n1 := n) m false h (show valid kind n 0 from ⟨hk, h.2.1, h.2.2.1, by omega⟩)
  have a1 := clockOf_c (n := n) (n1 := n) m false h (show valid kind n 1 from ⟨hk, h.2.1, h.2.2.1, by omega⟩)
  have a2 := clockOf_c (n := n) (n1 := n) m true h (show valid kind n 0 from ⟨hk, h.2.1, h.2.2.1, by omega⟩)
  have w := we_any k n s m
  rw [eW_ok h] at w
  have l := low_m0 k n s m kind clock h hk hc  y
  have q := rlow_m0 k n s m kind clock h hk hc  y
  rw [y] at a0 par
  rw [e1] at a1
  rw [e2] at a2
  have t4 : (IntKind.i64.wrap (clock + 4)).tmod 12 = (clock + 4) % 12 := by rw [wrapI _ (by omega) (by omega), Int.tmod_eq_emod_of_nonneg (by omega)]
  have t6 : (IntKind.i64.wrap (clock + 6)).tmod 12 = (clock + 6) % 12 := by rw [wrapI _ (by omega) (by omega), Int.tmod_eq_emod_of_nonneg (by omega)]
  have t2 : clock.tmod 2 = clock % 2 := Int.tmod_eq_emod_of_nonneg (by omega)
  have hb : ((k == 0) == (kind == 0)) = (clock.tmod 2 == 0) := by
    rw [t2, Bool.eq_iff_iff, beq_iff_eq, Bool.eq_iff_iff, beq_iff_eq, beq_iff_eq, beq_iff_eq]
    exact par.symm
  exact con_val (law_m0 k n s m kind clock _ _ _ (by simp [allC, hb, t4]) ⟨awakes, l, w, q, a0, a1, a2, trivial⟩) (vb (by simp [t6]))
theorem law_found1 (k n s : Int) (m : Bool) (kind clock : Int) (h : valid k n s) (hk : kind = 0 ∨ kind = 1 ∨ kind = 2) (hc : 0 ≤ clock ∧ clock ≤ 11) (n0 : cl k s m kind 0 false ≠ clock) (y : cl k s m kind 1 false = clock) : Con 9 [.agg #[.int .i64 k, .int .i64 n, .int .i64 s, .bool m], .int .i64 kind, .int .i64 clock] (.bool true) := by
  have par := cl_par k s m kind 1 false h.1 hk
  have e1 : cl k s m kind 2 false = (clock + 4) % 12 := by rw [← y]; unfold cl hv; omega
  have e2 : cl k s m kind 1 true = (clock + 6) % 12 := by rw [← y]; unfold cl hv; simp <;> omega
  have a0 := clockOf_c (n := n) (n1 := n) m false h (show valid kind n 1 from ⟨hk, h.2.1, h.2.2.1, by omega⟩)
  have a1 := clockOf_c (n := n) (n1 := n) m false h (show valid kind n 2 from ⟨hk, h.2.1, h.2.2.1, by omega⟩)
  have a2 := clockOf_c (n := n) (n1 := n) m true h (show valid kind n 1 from ⟨hk, h.2.1, h.2.2.1, by omega⟩)
  have w := we_any k n s m
  rw [eW_ok h] at w
  have l := low_m1 k n s m kind clock h hk hc n0 y
  have q := rlow_m1 k n s m kind clock h hk hc n0 y
  rw [y] at a0 par
  rw [e1] at a1
  rw [e2] at a2
  have t4 : (IntKind.i64.wrap (clock + 4)).tmod 12 = (clock + 4) % 12 := by rw [wrapI _ (by omega) (by omega), Int.tmod_eq_emod_of_nonneg (by omega)]
  have t6 : (IntKind.i64.wrap (clock + 6)).tmod 12 = (clock + 6) % 12 := by rw [wrapI _ (by omega) (by omega), Int.tmod_eq_emod_of_nonneg (by omega)]
  have t2 : clock.tmod 2 = clock % 2 := Int.tmod_eq_emod_of_nonneg (by omega)
  have hb : ((k == 0) == (kind == 0)) = (clock.tmod 2 == 0) := by
    rw [t2, Bool.eq_iff_iff, beq_iff_eq, Bool.eq_iff_iff, beq_iff_eq, beq_iff_eq, beq_iff_eq]
    exact par.symm
  exact con_val (law_m1 k n s m kind clock _ _ _ (by simp [allC, hb, t4]) ⟨awakes, l, w, q, a0, a1, a2, trivial⟩) (vb (by simp [t6]))
theorem law_found2 (k n s : Int) (m : Bool) (kind clock : Int) (h : valid k n s) (hk : kind = 0 ∨ kind = 1 ∨ kind = 2) (hc : 0 ≤ clock ∧ clock ≤ 11) (n0 : cl k s m kind 0 false ≠ clock) (n1 : cl k s m kind 1 false ≠ clock) (y : cl k s m kind 2 false = clock) : Con 9 [.agg #[.int .i64 k, .int .i64 n, .int .i64 s, .bool m], .int .i64 kind, .int .i64 clock] (.bool true) := by
  have par := cl_par k s m kind 2 false h.1 hk
  have e1 : cl k s m kind 0 false = (clock + 4) % 12 := by rw [← y]; unfold cl hv; omega
  have e2 : cl k s m kind 2 true = (clock + 6) % 12 := by rw [← y]; unfold cl hv; simp <;> omega
  have a0 := clockOf_c (n := n) (n1 := n) m false h (show valid kind n 2 from ⟨hk, h.2.1, h.2.2.1, by omega⟩)
  have a1 := clockOf_c (n := n) (n1 := n) m false h (show valid kind n 0 from ⟨hk, h.2.1, h.2.2.1, by omega⟩)
  have a2 := clockOf_c (n := n) (n1 := n) m true h (show valid kind n 2 from ⟨hk, h.2.1, h.2.2.1, by omega⟩)
  have w := we_any k n s m
  rw [eW_ok h] at w
  have l := low_m2 k n s m kind clock h hk hc n0 n1 y
  have q := rlow_m2 k n s m kind clock h hk hc n0 n1 y
  rw [y] at a0 par
  rw [e1] at a1
  rw [e2] at a2
  have t4 : (IntKind.i64.wrap (clock + 4)).tmod 12 = (clock + 4) % 12 := by rw [wrapI _ (by omega) (by omega), Int.tmod_eq_emod_of_nonneg (by omega)]
  have t6 : (IntKind.i64.wrap (clock + 6)).tmod 12 = (clock + 6) % 12 := by rw [wrapI _ (by omega) (by omega), Int.tmod_eq_emod_of_nonneg (by omega)]
  have t2 : clock.tmod 2 = clock % 2 := Int.tmod_eq_emod_of_nonneg (by omega)
  have hb : ((k == 0) == (kind == 0)) = (clock.tmod 2 == 0) := by
    rw [t2, Bool.eq_iff_iff, beq_iff_eq, Bool.eq_iff_iff, beq_iff_eq, beq_iff_eq, beq_iff_eq]
    exact par.symm
  exact con_val (law_m2 k n s m kind clock _ _ _ (by simp [allC, hb, t4]) ⟨awakes, l, w, q, a0, a1, a2, trivial⟩) (vb (by simp [t6]))
theorem law_found3 (k n s : Int) (m : Bool) (kind clock : Int) (h : valid k n s) (hk : kind = 0 ∨ kind = 1 ∨ kind = 2) (hc : 0 ≤ clock ∧ clock ≤ 11) (n0 : cl k s m kind 0 false ≠ clock) (n1 : cl k s m kind 1 false ≠ clock) (n2 : cl k s m kind 2 false ≠ clock) (y : cl k s m kind 0 true = clock) : Con 9 [.agg #[.int .i64 k, .int .i64 n, .int .i64 s, .bool m], .int .i64 kind, .int .i64 clock] (.bool true) := by
  have par := cl_par k s m kind 0 true h.1 hk
  have e1 : cl k s m kind 1 true = (clock + 4) % 12 := by rw [← y]; unfold cl hv; omega
  have e2 : cl k s m kind 0 false = (clock + 6) % 12 := by rw [← y]; unfold cl hv; simp <;> omega
  have a0 := clockOf_c (n := n) (n1 := n) m true h (show valid kind n 0 from ⟨hk, h.2.1, h.2.2.1, by omega⟩)
  have a1 := clockOf_c (n := n) (n1 := n) m true h (show valid kind n 1 from ⟨hk, h.2.1, h.2.2.1, by omega⟩)
  have a2 := clockOf_c (n := n) (n1 := n) m false h (show valid kind n 0 from ⟨hk, h.2.1, h.2.2.1, by omega⟩)
  have w := we_any k n s m
  rw [eW_ok h] at w
  have l := low_m3 k n s m kind clock h hk hc n0 n1 n2 y
  have q := rlow_m3 k n s m kind clock h hk hc n0 n1 n2 y
  rw [y] at a0 par
  rw [e1] at a1
  rw [e2] at a2
  have t4 : (IntKind.i64.wrap (clock + 4)).tmod 12 = (clock + 4) % 12 := by rw [wrapI _ (by omega) (by omega), Int.tmod_eq_emod_of_nonneg (by omega)]
  have t6 : (IntKind.i64.wrap (clock + 6)).tmod 12 = (clock + 6) % 12 := by rw [wrapI _ (by omega) (by omega), Int.tmod_eq_emod_of_nonneg (by omega)]
  have t2 : clock.tmod 2 = clock % 2 := Int.tmod_eq_emod_of_nonneg (by omega)
  have hb : ((k == 0) == (kind == 0)) = (clock.tmod 2 == 0) := by
    rw [t2, Bool.eq_iff_iff, beq_iff_eq, Bool.eq_iff_iff, beq_iff_eq, beq_iff_eq, beq_iff_eq]
    exact par.symm
  exact con_val (law_m3 k n s m kind clock _ _ _ (by simp [allC, hb, t4]) ⟨awakes, l, w, q, a0, a1, a2, trivial⟩) (vb (by simp [t6]))
theorem law_found4 (k n s : Int) (m : Bool) (kind clock : Int) (h : valid k n s) (hk : kind = 0 ∨ kind = 1 ∨ kind = 2) (hc : 0 ≤ clock ∧ clock ≤ 11) (n0 : cl k s m kind 0 false ≠ clock) (n1 : cl k s m kind 1 false ≠ clock) (n2 : cl k s m kind 2 false ≠ clock) (n3 : cl k s m kind 0 true ≠ clock) (y : cl k s m kind 1 true = clock) : Con 9 [.agg #[.int .i64 k, .int .i64 n, .int .i64 s, .bool m], .int .i64 kind, .int .i64 clock] (.bool true) := by
  have par := cl_par k s m kind 1 true h.1 hk
  have e1 : cl k s m kind 2 true = (clock + 4) % 12 := by rw [← y]; unfold cl hv; omega
  have e2 : cl k s m kind 1 false = (clock + 6) % 12 := by rw [← y]; unfold cl hv; simp <;> omega
  have a0 := clockOf_c (n := n) (n1 := n) m true h (show valid kind n 1 from ⟨hk, h.2.1, h.2.2.1, by omega⟩)
  have a1 := clockOf_c (n := n) (n1 := n) m true h (show valid kind n 2 from ⟨hk, h.2.1, h.2.2.1, by omega⟩)
  have a2 := clockOf_c (n := n) (n1 := n) m false h (show valid kind n 1 from ⟨hk, h.2.1, h.2.2.1, by omega⟩)
  have w := we_any k n s m
  rw [eW_ok h] at w
  have l := low_m4 k n s m kind clock h hk hc n0 n1 n2 n3 y
  have q := rlow_m4 k n s m kind clock h hk hc n0 n1 n2 n3 y
  rw [y] at a0 par
  rw [e1] at a1
  rw [e2] at a2
  have t4 : (IntKind.i64.wrap (clock + 4)).tmod 12 = (clock + 4) % 12 := by rw [wrapI _ (by omega) (by omega), Int.tmod_eq_emod_of_nonneg (by omega)]
  have t6 : (IntKind.i64.wrap (clock + 6)).tmod 12 = (clock + 6) % 12 := by rw [wrapI _ (by omega) (by omega), Int.tmod_eq_emod_of_nonneg (by omega)]
  have t2 : clock.tmod 2 = clock % 2 := Int.tmod_eq_emod_of_nonneg (by omega)
  have hb : ((k == 0) == (kind == 0)) = (clock.tmod 2 == 0) := by
    rw [t2, Bool.eq_iff_iff, beq_iff_eq, Bool.eq_iff_iff, beq_iff_eq, beq_iff_eq, beq_iff_eq]
    exact par.symm
  exact con_val (law_m4 k n s m kind clock _ _ _ (by simp [allC, hb, t4]) ⟨awakes, l, w, q, a0, a1, a2, trivial⟩) (vb (by simp [t6]))
theorem law_found5 (k n s : Int) (m : Bool) (kind clock : Int) (h : valid k n s) (hk : kind = 0 ∨ kind = 1 ∨ kind = 2) (hc : 0 ≤ clock ∧ clock ≤ 11) (n0 : cl k s m kind 0 false ≠ clock) (n1 : cl k s m kind 1 false ≠ clock) (n2 : cl k s m kind 2 false ≠ clock) (n3 : cl k s m kind 0 true ≠ clock) (n4 : cl k s m kind 1 true ≠ clock) (y : cl k s m kind 2 true = clock) : Con 9 [.agg #[.int .i64 k, .int .i64 n, .int .i64 s, .bool m], .int .i64 kind, .int .i64 clock] (.bool true) := by
  have par := cl_par k s m kind 2 true h.1 hk
  have e1 : cl k s m kind 0 true = (clock + 4) % 12 := by rw [← y]; unfold cl hv; omega
  have e2 : cl k s m kind 2 false = (clock + 6) % 12 := by rw [← y]; unfold cl hv; simp <;> omega
  have a0 := clockOf_c (n := n) (n1 := n) m true h (show valid kind n 2 from ⟨hk, h.2.1, h.2.2.1, by omega⟩)
  have a1 := clockOf_c (n := n) (n1 := n) m true h (show valid kind n 0 from ⟨hk, h.2.1, h.2.2.1, by omega⟩)
  have a2 := clockOf_c (n := n) (n1 := n) m false h (show valid kind n 2 from ⟨hk, h.2.1, h.2.2.1, by omega⟩)
  have w := we_any k n s m
  rw [eW_ok h] at w
  have l := low_m5 k n s m kind clock h hk hc n0 n1 n2 n3 n4 y
  have q := rlow_m5 k n s m kind clock h hk hc n0 n1 n2 n3 n4 y
  rw [y] at a0 par
  rw [e1] at a1
  rw [e2] at a2
  have t4 : (IntKind.i64.wrap (clock + 4)).tmod 12 = (clock + 4) % 12 := by rw [wrapI _ (by omega) (by omega), Int.tmod_eq_emod_of_nonneg (by omega)]
  have t6 : (IntKind.i64.wrap (clock + 6)).tmod 12 = (clock + 6) % 12 := by rw [wrapI _ (by omega) (by omega), Int.tmod_eq_emod_of_nonneg (by omega)]
  have t2 : clock.tmod 2 = clock % 2 := Int.tmod_eq_emod_of_nonneg (by omega)
  have hb : ((k == 0) == (kind == 0)) = (clock.tmod 2 == 0) := by
    rw [t2, Bool.eq_iff_iff, beq_iff_eq, Bool.eq_iff_iff, beq_iff_eq, beq_iff_eq, beq_iff_eq]
    exact par.symm
  exact con_val (law_m5 k n s m kind clock _ _ _ (by simp [allC, hb, t4]) ⟨awakes, l, w, q, a0, a1, a2, trivial⟩) (vb (by simp [t6]))
theorem law_none' (k n s : Int) (m : Bool) (kind clock : Int) (h : valid k n s) (hk : kind = 0 ∨ kind = 1 ∨ kind = 2) (hc : 0 ≤ clock ∧ clock ≤ 11) (n0 : cl k s m kind 0 false ≠ clock) (n1 : cl k s m kind 1 false ≠ clock) (n2 : cl k s m kind 2 false ≠ clock) (n3 : cl k s m kind 0 true ≠ clock) (n4 : cl k s m kind 1 true ≠ clock) (n5 : cl k s m kind 2 true ≠ clock) : Con 9 [.agg #[.int .i64 k, .int .i64 n, .int .i64 s, .bool m], .int .i64 kind, .int .i64 clock] (.bool true) := by
  have w := we_any k n s m
  rw [eW_ok h] at w
  have l := low_none k n s m kind clock h hk hc n0 n1 n2 n3 n4 n5
  have q := rlow_none k n s m kind clock h hk hc n0 n1 n2 n3 n4 n5
  have t2 : clock.tmod 2 = clock % 2 := Int.tmod_eq_emod_of_nonneg (by omega)
  have par := cl_par k s m kind 0 false h.1 hk
  have rg := cl_range k s m kind 0 false
  have z1 : cl k s m kind 1 false = (cl k s m kind 0 false + 4) % 12 := by unfold cl hv; omega
  have z2 : cl k s m kind 2 false = (cl k s m kind 0 false + 8) % 12 := by unfold cl hv; omega
  have z3 : cl k s m kind 0 true = (cl k s m kind 0 false + 6) % 12 := by unfold cl hv; simp <;> omega
  have z4 : cl k s m kind 1 true = (cl k s m kind 0 false + 10) % 12 := by unfold cl hv; simp <;> omega
  have z5 : cl k s m kind 2 true = (cl k s m kind 0 false + 2) % 12 := by unfold cl hv; simp <;> omega
  rw [z1] at n1
  rw [z2] at n2
  rw [z3] at n3
  rw [z4] at n4
  rw [z5] at n5
  generalize cl k s m kind 0 false = x at *
  have hb : ((k == 0) == (kind == 0)) = (clock.tmod 2 == 1) := by
    rw [t2, Bool.eq_iff_iff, beq_iff_eq, Bool.eq_iff_iff, beq_iff_eq, beq_iff_eq, beq_iff_eq, ← par]
    clear par l q w h z1 z2 z3 z4 z5
    rcases (show (clock - x) % 12 = 0 ∨ (clock - x) % 12 = 2 ∨ (clock - x) % 12 = 4 ∨ (clock - x) % 12 = 6 ∨ (clock - x) % 12 = 8 ∨ (clock - x) % 12 = 10 ∨ (clock - x) % 2 = 1 by clear n0 n1 n2 n3 n4 n5; omega) with d | d | d | d | d | d | d
    · exact absurd (show x = clock by clear n0 n1 n2 n3 n4 n5; omega) n0
    · exact absurd (show (x + 2) % 12 = clock by clear n0 n1 n2 n3 n4 n5; omega) n5
    · exact absurd (show (x + 4) % 12 = clock by clear n0 n1 n2 n3 n4 n5; omega) n1
    · exact absurd (show (x + 6) % 12 = clock by clear n0 n1 n2 n3 n4 n5; omega) n3
    · exact absurd (show (x + 8) % 12 = clock by clear n0 n1 n2 n3 n4 n5; omega) n2
    · exact absurd (show (x + 10) % 12 = clock by clear n0 n1 n2 n3 n4 n5; omega) n4
    · clear n0 n1 n2 n3 n4 n5; omega
  exact con_val (law_none k n s m kind clock (by simp [allC]) ⟨awakes, l, w, q, trivial⟩) (vb (by simp [hb]))
theorem law_any (k n s : Int) (m : Bool) (kind clock : Int) : Con 9 [.agg #[.int .i64 k, .int .i64 n, .int .i64 s, .bool m], .int .i64 kind, .int .i64 clock] (.bool true) := by
  have w := we_any k n s m
  by_cases h0 : eW k n s = 0
  · by_cases h1 : eL k n s kind clock = 0
    · have h := eW_valid h0
      have hk : kind = 0 ∨ kind = 1 ∨ kind = 2 := by
        unfold eL at h1; rw [if_neg (by omega)] at h1; split at h1 <;> omega
      have hc : 0 ≤ clock ∧ clock ≤ 11 := by
        unfold eL at h1; rw [if_neg (by omega), if_neg (by omega)] at h1; split at h1 <;> omega
      by_cases y0 : cl k s m kind 0 false = clock
      · exact law_found0 k n s m kind clock h hk hc  y0
      by_cases y1 : cl k s m kind 1 false = clock
      · exact law_found1 k n s m kind clock h hk hc y0 y1
      by_cases y2 : cl k s m kind 2 false = clock
      · exact law_found2 k n s m kind clock h hk hc y0 y1 y2
      by_cases y3 : cl k s m kind 0 true = clock
      · exact law_found3 k n s m kind clock h hk hc y0 y1 y2 y3
      by_cases y4 : cl k s m kind 1 true = clock
      · exact law_found4 k n s m kind clock h hk hc y0 y1 y2 y3 y4
      by_cases y5 : cl k s m kind 2 true = clock
      · exact law_found5 k n s m kind clock h hk hc y0 y1 y2 y3 y4 y5
      exact law_none' k n s m kind clock h hk hc y0 y1 y2 y3 y4 y5
    · have l := low_err k n s m kind clock h1
      have q := rlow_err k n s m kind clock h0 h1
      have h12 : eL k n s kind clock ≠ 12 := by unfold eL; rw [if_neg (by omega)]; (repeat' split) <;> omega
      rw [h0] at w
      exact law_bad k n s m kind clock _ (by simp [allC, h1, h12]) ⟨awakes, l, w, q, trivial⟩
  · have he : eL k n s kind clock = eW k n s := by unfold eL; rw [if_pos h0]
    have l := low_err k n s m kind clock (by rw [he]; exact h0)
    rw [he] at l
    have h12 : eW k n s ≠ 12 := by unfold eW; (repeat' split) <;> omega
    exact law_inv k n s m kind clock _ (by simp [allC, h0, h12]) ⟨awakes, l, w, trivial⟩
end Go.Proofs.YtngdhmliohjigaaDoor
