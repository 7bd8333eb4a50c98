/- Windings: checks, lengths, the fewest discs, in whole. -/
import Derived.Test.YtngjoconcgakpaaDoorDW1
import Derived.Test.YtngjoconcgakpaaDoorDW1B
import Derived.Test.YtngjoconcgakpaaDoorDW4
set_option linter.unusedVariables false
set_option linter.unusedSimpArgs false
set_option linter.unusedSectionVars false
set_option linter.unnecessarySimpa false
namespace Go.Proofs.YtngjoconcgakpaaDoor
open Go.Ev Go.RowKit
set_option maxRecDepth 100000
def okW (T D C G : Int) : Prop := 1 ≤ T ∧ T ≤ 10000 ∧ 1 ≤ D ∧ D ≤ 500 ∧ 1 ≤ C ∧ C ≤ 1000 ∧ 0 ≤ G ∧ G ≤ 1000
instance (T D C G : Int) : Decidable (okW T D C G) := by unfold okW; infer_instance
def werr (T D C G : Int) : Int := if okW T D C G then (if T < D then 10 else 0) else 2
theorem vi {a b : Int} (h : a = b) : (Value.int .i64 a) = .int .i64 b := h ▸ rfl
theorem ck_c (T D C G : Int) : Con 53 [.agg #[.int .i64 T, .int .i64 D, .int .i64 C, .int .i64 G]] (.int .i64 (werr T D C G)) := by
  rcases (show T < 1 ∨ (1 ≤ T ∧ T ≤ 10000) ∨ 10000 < T by omega) with hT | hT | hT <;> rcases (show D < 1 ∨ (1 ≤ D ∧ D ≤ 500) ∨ 500 < D by omega) with hD | hD | hD <;> rcases (show C < 1 ∨ (1 ≤ C ∧ C ≤ 1000) ∨ 1000 < C by omega) with hC | hC | hC <;> rcases (show G < 0 ∨ (0 ≤ G ∧ G ≤ 1000) ∨ 1000 < G by omega) with hG | hG | hG
  · refine con_val (ck_llll T D C G (by simp (disch := omega) only [allC, wrapI, bne_iff_ne, beq_iff_eq, bne_eq_false_iff_eq, beq_eq_false_iff_ne, decide_eq_true_eq, decide_eq_false_iff_not, Bool.and_eq_true, Bool.and_eq_false_iff, Bool.or_eq_true, Bool.or_eq_false_iff, Bool.not_eq_true', Bool.not_eq_false', Bool.true_eq_false, Bool.false_eq_true, and_true, true_and, or_false, or_true, true_or, false_or] <;> omega) trivial) (vi ?_)
    unfold werr
    rw [if_neg (by unfold okW; omega)]
  · refine con_val (ck_lllo T D C G (by simp (disch := omega) only [allC, wrapI, bne_iff_ne, beq_iff_eq, bne_eq_false_iff_eq, beq_eq_false_iff_ne, decide_eq_true_eq, decide_eq_false_iff_not, Bool.and_eq_true, Bool.and_eq_false_iff, Bool.or_eq_true, Bool.or_eq_false_iff, Bool.not_eq_true', Bool.not_eq_false', Bool.true_eq_false, Bool.false_eq_true, and_true, true_and, or_false, or_true, true_or, false_or] <;> omega) trivial) (vi ?_)
    unfold werr
    rw [if_neg (by unfold okW; omega)]
  · refine con_val (ck_lllh T D C G (by simp (disch := omega) only [allC, wrapI, bne_iff_ne, beq_iff_eq, bne_eq_false_iff_eq, beq_eq_false_iff_ne, decide_eq_true_eq, decide_eq_false_iff_not, Bool.and_eq_true, Bool.and_eq_false_iff, Bool.or_eq_true, Bool.or_eq_false_iff, Bool.not_eq_true', Bool.not_eq_false', Bool.true_eq_false, Bool.false_eq_true, and_true, true_and, or_false, or_true, true_or, false_or] <;> omega) trivial) (vi ?_)
    unfold werr
    rw [if_neg (by unfold okW; omega)]
  · refine con_val (ck_llol T D C G (by simp (disch := omega) only [allC, wrapI, bne_iff_ne, beq_iff_eq, bne_eq_false_iff_eq, beq_eq_false_iff_ne, decide_eq_true_eq, decide_eq_false_iff_not, Bool.and_eq_true, Bool.and_eq_false_iff, Bool.or_eq_true, Bool.or_eq_false_iff, Bool.not_eq_true', Bool.not_eq_false', Bool.true_eq_false, Bool.false_eq_true, and_true, true_and, or_false, or_true, true_or, false_or] <;> omega) trivial) (vi ?_)
    unfold werr
    rw [if_neg (by unfold okW; omega)]
  · refine con_val (ck_lloo T D C G (by simp (disch := omega) only [allC, wrapI, bne_iff_ne, beq_iff_eq, bne_eq_false_iff_eq, beq_eq_false_iff_ne, decide_eq_true_eq, decide_eq_false_iff_not, Bool.and_eq_true, Bool.and_eq_false_iff, Bool.or_eq_true, Bool.or_eq_false_iff, Bool.not_eq_true', Bool.not_eq_false', Bool.true_eq_false, Bool.false_eq_true, and_true, true_and, or_false, or_true, true_or, false_or] <;> omega) trivial) (vi ?_)
    unfold werr
    rw [if_neg (by unfold okW; omega)]
  · refine con_val (ck_lloh T D C G (by simp (disch := omega) only [allC, wrapI, bne_iff_ne, beq_iff_eq, bne_eq_false_iff_eq, beq_eq_false_iff_ne, decide_eq_true_eq, decide_eq_false_iff_not, Bool.and_eq_true, Bool.and_eq_false_iff, Bool.or_eq_true, Bool.or_eq_false_iff, Bool.not_eq_true', Bool.not_eq_false', Bool.true_eq_false, Bool.false_eq_true, and_true, true_and, or_false, or_true, true_or, false_or] <;> omega) trivial) (vi ?_)
    unfold werr
    rw [if_neg (by unfold okW; omega)]
  · refine con_val (ck_llhl T D C G (by simp (disch := omega) only [allC, wrapI, bne_iff_ne, beq_iff_eq, bne_eq_false_iff_eq, beq_eq_false_iff_ne, decide_eq_true_eq, decide_eq_false_iff_not, Bool.and_eq_true, Bool.and_eq_false_iff, Bool.or_eq_true, Bool.or_eq_false_iff, Bool.not_eq_true', Bool.not_eq_false', Bool.true_eq_false, Bool.false_eq_true, and_true, true_and, or_false, or_true, true_or, false_or] <;> omega) trivial) (vi ?_)
    unfold werr
    rw [if_neg (by unfold okW; omega)]
  · refine con_val (ck_llho T D C G (by simp (disch := omega) only [allC, wrapI, bne_iff_ne, beq_iff_eq, bne_eq_false_iff_eq, beq_eq_false_iff_ne, decide_eq_true_eq, decide_eq_false_iff_not, Bool.and_eq_true, Bool.and_eq_false_iff, Bool.or_eq_true, Bool.or_eq_false_iff, Bool.not_eq_true', Bool.not_eq_false', Bool.true_eq_false, Bool.false_eq_true, and_true, true_and, or_false, or_true, true_or, false_or] <;> omega) trivial) (vi ?_)
    unfold werr
    rw [if_neg (by unfold okW; omega)]
  · refine con_val (ck_llhh T D C G (by simp (disch := omega) only [allC, wrapI, bne_iff_ne, beq_iff_eq, bne_eq_false_iff_eq, beq_eq_false_iff_ne, decide_eq_true_eq, decide_eq_false_iff_not, Bool.and_eq_true, Bool.and_eq_false_iff, Bool.or_eq_true, Bool.or_eq_false_iff, Bool.not_eq_true', Bool.not_eq_false', Bool.true_eq_false, Bool.false_eq_true, and_true, true_and, or_false, or_true, true_or, false_or] <;> omega) trivial) (vi ?_)
    unfold werr
    rw [if_neg (by unfold okW; omega)]
  · refine con_val (ck_loll T D C G (by simp (disch := omega) only [allC, wrapI, bne_iff_ne, beq_iff_eq, bne_eq_false_iff_eq, beq_eq_false_iff_ne, decide_eq_true_eq, decide_eq_false_iff_not, Bool.and_eq_true, Bool.and_eq_false_iff, Bool.or_eq_true, Bool.or_eq_false_iff, Bool.not_eq_true', Bool.not_eq_false', Bool.true_eq_false, Bool.false_eq_true, and_true, true_and, or_false, or_true, true_or, false_or] <;> omega) trivial) (vi ?_)
    unfold werr
    rw [if_neg (by unfold okW; omega)]
  · refine con_val (ck_lolo T D C G (by simp (disch := omega) only [allC, wrapI, bne_iff_ne, beq_iff_eq, bne_eq_false_iff_eq, beq_eq_false_iff_ne, decide_eq_true_eq, decide_eq_false_iff_not, Bool.and_eq_true, Bool.and_eq_false_iff, Bool.or_eq_true, Bool.or_eq_false_iff, Bool.not_eq_true', Bool.not_eq_false', Bool.true_eq_false, Bool.false_eq_true, and_true, true_and, or_false, or_true, true_or, false_or] <;> omega) trivial) (vi ?_)
    unfold werr
    rw [if_neg (by unfold okW; omega)]
  · refine con_val (ck_lolh T D C G (by simp (disch := omega) only [allC, wrapI, bne_iff_ne, beq_iff_eq, bne_eq_false_iff_eq, beq_eq_false_iff_ne, decide_eq_true_eq, decide_eq_false_iff_not, Bool.and_eq_true, Bool.and_eq_false_iff, Bool.or_eq_true, Bool.or_eq_false_iff, Bool.not_eq_true', Bool.not_eq_false', Bool.true_eq_false, Bool.false_eq_true, and_true, true_and, or_false, or_true, true_or, false_or] <;> omega) trivial) (vi ?_)
    unfold werr
    rw [if_neg (by unfold okW; omega)]
  · refine con_val (ck_lool T D C G (by simp (disch := omega) only [allC, wrapI, bne_iff_ne, beq_iff_eq, bne_eq_false_iff_eq, beq_eq_false_iff_ne, decide_eq_true_eq, decide_eq_false_iff_not, Bool.and_eq_true, Bool.and_eq_false_iff, Bool.or_eq_true, Bool.or_eq_false_iff, Bool.not_eq_true', Bool.not_eq_false', Bool.true_eq_false, Bool.false_eq_true, and_true, true_and, or_false, or_true, true_or, false_or] <;> omega) trivial) (vi ?_)
    unfold werr
    rw [if_neg (by unfold okW; omega)]
  · refine con_val (ck_looo T D C G (by simp (disch := omega) only [allC, wrapI, bne_iff_ne, beq_iff_eq, bne_eq_false_iff_eq, beq_eq_false_iff_ne, decide_eq_true_eq, decide_eq_false_iff_not, Bool.and_eq_true, Bool.and_eq_false_iff, Bool.or_eq_true, Bool.or_eq_false_iff, Bool.not_eq_true', Bool.not_eq_false', Bool.true_eq_false, Bool.false_eq_true, and_true, true_and, or_false, or_true, true_or, false_or] <;> omega) trivial) (vi ?_)
    unfold werr
    rw [if_neg (by unfold okW; omega)]
  · refine con_val (ck_looh T D C G (by simp (disch := omega) only [allC, wrapI, bne_iff_ne, beq_iff_eq, bne_eq_false_iff_eq, beq_eq_false_iff_ne, decide_eq_true_eq, decide_eq_false_iff_not, Bool.and_eq_true, Bool.and_eq_false_iff, Bool.or_eq_true, Bool.or_eq_false_iff, Bool.not_eq_true', Bool.not_eq_false', Bool.true_eq_false, Bool.false_eq_true, and_true, true_and, or_false, or_true, true_or, false_or] <;> omega) trivial) (vi ?_)
    unfold werr
    rw [if_neg (by unfold okW; omega)]
  · refine con_val (ck_lohl T D C G (by simp (disch := omega) only [allC, wrapI, bne_iff_ne, beq_iff_eq, bne_eq_false_iff_eq, beq_eq_false_iff_ne, decide_eq_true_eq, decide_eq_false_iff_not, Bool.and_eq_true, Bool.and_eq_false_iff, Bool.or_eq_true, Bool.or_eq_false_iff, Bool.not_eq_true', Bool.not_eq_false', Bool.true_eq_false, Bool.false_eq_true, and_true, true_and, or_false, or_true, true_or, false_or] <;> omega) trivial) (vi ?_)
    unfold werr
    rw [if_neg (by unfold okW; omega)]
  · refine con_val (ck_loho T D C G (by simp (disch := omega) only [allC, wrapI, bne_iff_ne, beq_iff_eq, bne_eq_false_iff_eq, beq_eq_false_iff_ne, decide_eq_true_eq, decide_eq_false_iff_not, Bool.and_eq_true, Bool.and_eq_false_iff, Bool.or_eq_true, Bool.or_eq_false_iff, Bool.not_eq_true', Bool.not_eq_false', Bool.true_eq_false, Bool.false_eq_true, and_true, true_and, or_false, or_true, true_or, false_or] <;> omega) trivial) (vi ?_)
    unfold werr
    rw [if_neg (by unfold okW; omega)]
  · refine con_val (ck_lohh T D C G (by simp (disch := omega) only [allC, wrapI, bne_iff_ne, beq_iff_eq, bne_eq_false_iff_eq, beq_eq_false_iff_ne, decide_eq_true_eq, decide_eq_false_iff_not, Bool.and_eq_true, Bool.and_eq_false_iff, Bool.or_eq_true, Bool.or_eq_false_iff, Bool.not_eq_true', Bool.not_eq_false', Bool.true_eq_false, Bool.false_eq_true, and_true, true_and, or_false, or_true, true_or, false_or] <;> omega) trivial) (vi ?_)
    unfold werr
    rw [if_neg (by unfold okW; omega)]
  · refine con_val (ck_lhll T D C G (by simp (disch := omega) only [allC, wrapI, bne_iff_ne, beq_iff_eq, bne_eq_false_iff_eq, beq_eq_false_iff_ne, decide_eq_true_eq, decide_eq_false_iff_not, Bool.and_eq_true, Bool.and_eq_false_iff, Bool.or_eq_true, Bool.or_eq_false_iff, Bool.not_eq_true', Bool.not_eq_false', Bool.true_eq_false, Bool.false_eq_true, and_true, true_and, or_false, or_true, true_or, false_or] <;> omega) trivial) (vi ?_)
    unfold werr
    rw [if_neg (by unfold okW; omega)]
  · refine con_val (ck_lhlo T D C G (by simp (disch := omega) only [allC, wrapI, bne_iff_ne, beq_iff_eq, bne_eq_false_iff_eq, beq_eq_false_iff_ne, decide_eq_true_eq, decide_eq_false_iff_not, Bool.and_eq_true, Bool.and_eq_false_iff, Bool.or_eq_true, Bool.or_eq_false_iff, Bool.not_eq_true', Bool.not_eq_false', Bool.true_eq_false, Bool.false_eq_true, and_true, true_and, or_false, or_true, true_or, false_or] <;> omega) trivial) (vi ?_)
    unfold werr
    rw [if_neg (by unfold okW; omega)]
  · refine con_val (ck_lhlh T D C G (by simp (disch := omega) only [allC, wrapI, bne_iff_ne, beq_iff_eq, bne_eq_false_iff_eq, beq_eq_false_iff_ne, decide_eq_true_eq, decide_eq_false_iff_not, Bool.and_eq_true, Bool.and_eq_false_iff, Bool.or_eq_true, Bool.or_eq_false_iff, Bool.not_eq_true', Bool.not_eq_false', Bool.true_eq_false, Bool.false_eq_true, and_true, true_and, or_false, or_true, true_or, false_or] <;> omega) trivial) (vi ?_)
    unfold werr
    rw [if_neg (by unfold okW; omega)]
  · refine con_val (ck_lhol T D C G (by simp (disch := omega) only [allC, wrapI, bne_iff_ne, beq_iff_eq, bne_eq_false_iff_eq, beq_eq_false_iff_ne, decide_eq_true_eq, decide_eq_false_iff_not, Bool.and_eq_true, Bool.and_eq_false_iff, Bool.or_eq_true, Bool.or_eq_false_iff, Bool.not_eq_true', Bool.not_eq_false', Bool.true_eq_false, Bool.false_eq_true, and_true, true_and, or_false, or_true, true_or, false_or] <;> omega) trivial) (vi ?_)
    unfold werr
    rw [if_neg (by unfold okW; omega)]
  · refine con_val (ck_lhoo T D C G (by simp (disch := omega) only [allC, wrapI, bne_iff_ne, beq_iff_eq, bne_eq_false_iff_eq, beq_eq_false_iff_ne, decide_eq_true_eq, decide_eq_false_iff_not, Bool.and_eq_true, Bool.and_eq_false_iff, Bool.or_eq_true, Bool.or_eq_false_iff, Bool.not_eq_true', Bool.not_eq_false', Bool.true_eq_false, Bool.false_eq_true, and_true, true_and, or_false, or_true, true_or, false_or] <;> omega) trivial) (vi ?_)
    unfold werr
    rw [if_neg (by unfold okW; omega)]
  · refine con_val (ck_lhoh T D C G (by simp (disch := omega) only [allC, wrapI, bne_iff_ne, beq_iff_eq, bne_eq_false_iff_eq, beq_eq_false_iff_ne, decide_eq_true_eq, decide_eq_false_iff_not, Bool.and_eq_true, Bool.and_eq_false_iff, Bool.or_eq_true, Bool.or_eq_false_iff, Bool.not_eq_true', Bool.not_eq_false', Bool.true_eq_false, Bool.false_eq_true, and_true, true_and, or_false, or_true, true_or, false_or] <;> omega) trivial) (vi ?_)
    unfold werr
    rw [if_neg (by unfold okW; omega)]
  · refine con_val (ck_lhhl T D C G (by simp (disch := omega) only [allC, wrapI, bne_iff_ne, beq_iff_eq, bne_eq_false_iff_eq, beq_eq_false_iff_ne, decide_eq_true_eq, decide_eq_false_iff_not, Bool.and_eq_true, Bool.and_eq_false_iff, Bool.or_eq_true, Bool.or_eq_false_iff, Bool.not_eq_true', Bool.not_eq_false', Bool.true_eq_false, Bool.false_eq_true, and_true, true_and, or_false, or_true, true_or, false_or] <;> omega) trivial) (vi ?_)
    unfold werr
    rw [if_neg (by unfold okW; omega)]
  · refine con_val (ck_lhho T D C G (by simp (disch := omega) only [allC, wrapI, bne_iff_ne, beq_iff_eq, bne_eq_false_iff_eq, beq_eq_false_iff_ne, decide_eq_true_eq, decide_eq_false_iff_not, Bool.and_eq_true, Bool.and_eq_false_iff, Bool.or_eq_true, Bool.or_eq_false_iff, Bool.not_eq_true', Bool.not_eq_false', Bool.true_eq_false, Bool.false_eq_true, and_true, true_and, or_false, or_true, true_or, false_or] <;> omega) trivial) (vi ?_)
    unfold werr
    rw [if_neg (by unfold okW; omega)]
  · refine con_val (ck_lhhh T D C G (by simp (disch := omega) only [allC, wrapI, bne_iff_ne, beq_iff_eq, bne_eq_false_iff_eq, beq_eq_false_iff_ne, decide_eq_true_eq, decide_eq_false_iff_not, Bool.and_eq_true, Bool.and_eq_false_iff, Bool.or_eq_true, Bool.or_eq_false_iff, Bool.not_eq_true', Bool.not_eq_false', Bool.true_eq_false, Bool.false_eq_true, and_true, true_and, or_false, or_true, true_or, false_or] <;> omega) trivial) (vi ?_)
    unfold werr
    rw [if_neg (by unfold okW; omega)]
  · refine con_val (ck_olll T D C G (by simp (disch := omega) only [allC, wrapI, bne_iff_ne, beq_iff_eq, bne_eq_false_iff_eq, beq_eq_false_iff_ne, decide_eq_true_eq, decide_eq_false_iff_not, Bool.and_eq_true, Bool.and_eq_false_iff, Bool.or_eq_true, Bool.or_eq_false_iff, Bool.not_eq_true', Bool.not_eq_false', Bool.true_eq_false, Bool.false_eq_true, and_true, true_and, or_false, or_true, true_or, false_or] <;> omega) trivial) (vi ?_)
    unfold werr
    rw [if_neg (by unfold okW; omega)]
  · refine con_val (ck_ollo T D C G (by simp (disch := omega) only [allC, wrapI, bne_iff_ne, beq_iff_eq, bne_eq_false_iff_eq, beq_eq_false_iff_ne, decide_eq_true_eq, decide_eq_false_iff_not, Bool.and_eq_true, Bool.and_eq_false_iff, Bool.or_eq_true, Bool.or_eq_false_iff, Bool.not_eq_true', Bool.not_eq_false', Bool.true_eq_false, Bool.false_eq_true, and_true, true_and, or_false, or_true, true_or, false_or] <;> omega) trivial) (vi ?_)
    unfold werr
    rw [if_neg (by unfold okW; omega)]
  · refine con_val (ck_ollh T D C G (by simp (disch := omega) only [allC, wrapI, bne_iff_ne, beq_iff_eq, bne_eq_false_iff_eq, beq_eq_false_iff_ne, decide_eq_true_eq, decide_eq_false_iff_not, Bool.and_eq_true, Bool.and_eq_false_iff, Bool.or_eq_true, Bool.or_eq_false_iff, Bool.not_eq_true', Bool.not_eq_false', Bool.true_eq_false, Bool.false_eq_true, and_true, true_and, or_false, or_true, true_or, false_or] <;> omega) trivial) (vi ?_)
    unfold werr
    rw [if_neg (by unfold okW; omega)]
  · refine con_val (ck_olol T D C G (by simp (disch := omega) only [allC, wrapI, bne_iff_ne, beq_iff_eq, bne_eq_false_iff_eq, beq_eq_false_iff_ne, decide_eq_true_eq, decide_eq_false_iff_not, Bool.and_eq_true, Bool.and_eq_false_iff, Bool.or_eq_true, Bool.or_eq_false_iff, Bool.not_eq_true', Bool.not_eq_false', Bool.true_eq_false, Bool.false_eq_true, and_true, true_and, or_false, or_true, true_or, false_or] <;> omega) trivial) (vi ?_)
    unfold werr
    rw [if_neg (by unfold okW; omega)]
  · refine con_val (ck_oloo T D C G (by simp (disch := omega) only [allC, wrapI, bne_iff_ne, beq_iff_eq, bne_eq_false_iff_eq, beq_eq_false_iff_ne, decide_eq_true_eq, decide_eq_false_iff_not, Bool.and_eq_true, Bool.and_eq_false_iff, Bool.or_eq_true, Bool.or_eq_false_iff, Bool.not_eq_true', Bool.not_eq_false', Bool.true_eq_false, Bool.false_eq_true, and_true, true_and, or_false, or_true, true_or, false_or] <;> omega) trivial) (vi ?_)
    unfold werr
    rw [if_neg (by unfold okW; omega)]
  · refine con_val (ck_oloh T D C G (by simp (disch := omega) only [allC, wrapI, bne_iff_ne, beq_iff_eq, bne_eq_false_iff_eq, beq_eq_false_iff_ne, decide_eq_true_eq, decide_eq_false_iff_not, Bool.and_eq_true, Bool.and_eq_false_iff, Bool.or_eq_true, Bool.or_eq_false_iff, Bool.not_eq_true', Bool.not_eq_false', Bool.true_eq_false, Bool.false_eq_true, and_true, true_and, or_false, or_true, true_or, false_or] <;> omega) trivial) (vi ?_)
    unfold werr
    rw [if_neg (by unfold okW; omega)]
  · refine con_val (ck_olhl T D C G (by simp (disch := omega) only [allC, wrapI, bne_iff_ne, beq_iff_eq, bne_eq_false_iff_eq, beq_eq_false_iff_ne, decide_eq_true_eq, decide_eq_false_iff_not, Bool.and_eq_true, Bool.and_eq_false_iff, Bool.or_eq_true, Bool.or_eq_false_iff, Bool.not_eq_true', Bool.not_eq_false', Bool.true_eq_false, Bool.false_eq_true, and_true, true_and, or_false, or_true, true_or, false_or] <;> omega) trivial) (vi ?_)
    unfold werr
    rw [if_neg (by unfold okW; omega)]
  · refine con_val (ck_olho T D C G (by simp (disch := omega) only [allC, wrapI, bne_iff_ne, beq_iff_eq, bne_eq_false_iff_eq, beq_eq_false_iff_ne, decide_eq_true_eq, decide_eq_false_iff_not, Bool.and_eq_true, Bool.and_eq_false_iff, Bool.or_eq_true, Bool.or_eq_false_iff, Bool.not_eq_true', Bool.not_eq_false', Bool.true_eq_false, Bool.false_eq_true, and_true, true_and, or_false, or_true, true_or, false_or] <;> omega) trivial) (vi ?_)
    unfold werr
    rw [if_neg (by unfold okW; omega)]
  · refine con_val (ck_olhh T D C G (by simp (disch := omega) only [allC, wrapI, bne_iff_ne, beq_iff_eq, bne_eq_false_iff_eq, beq_eq_false_iff_ne, decide_eq_true_eq, decide_eq_false_iff_not, Bool.and_eq_true, Bool.and_eq_false_iff, Bool.or_eq_true, Bool.or_eq_false_iff, Bool.not_eq_true', Bool.not_eq_false', Bool.true_eq_false, Bool.false_eq_true, and_true, true_and, or_false, or_true, true_or, false_or] <;> omega) trivial) (vi ?_)
    unfold werr
    rw [if_neg (by unfold okW; omega)]
  · refine con_val (ck_ooll T D C G (by simp (disch := omega) only [allC, wrapI, bne_iff_ne, beq_iff_eq, bne_eq_false_iff_eq, beq_eq_false_iff_ne, decide_eq_true_eq, decide_eq_false_iff_not, Bool.and_eq_true, Bool.and_eq_false_iff, Bool.or_eq_true, Bool.or_eq_false_iff, Bool.not_eq_true', Bool.not_eq_false', Bool.true_eq_false, Bool.false_eq_true, and_true, true_and, or_false, or_true, true_or, false_or] <;> omega) trivial) (vi ?_)
    unfold werr
    rw [if_neg (by unfold okW; omega)]
  · refine con_val (ck_oolo T D C G (by simp (disch := omega) only [allC, wrapI, bne_iff_ne, beq_iff_eq, bne_eq_false_iff_eq, beq_eq_false_iff_ne, decide_eq_true_eq, decide_eq_false_iff_not, Bool.and_eq_true, Bool.and_eq_false_iff, Bool.or_eq_true, Bool.or_eq_false_iff, Bool.not_eq_true', Bool.not_eq_false', Bool.true_eq_false, Bool.false_eq_true, and_true, true_and, or_false, or_true, true_or, false_or] <;> omega) trivial) (vi ?_)
    unfold werr
    rw [if_neg (by unfold okW; omega)]
  · refine con_val (ck_oolh T D C G (by simp (disch := omega) only [allC, wrapI, bne_iff_ne, beq_iff_eq, bne_eq_false_iff_eq, beq_eq_false_iff_ne, decide_eq_true_eq, decide_eq_false_iff_not, Bool.and_eq_true, Bool.and_eq_false_iff, Bool.or_eq_true, Bool.or_eq_false_iff, Bool.not_eq_true', Bool.not_eq_false', Bool.true_eq_false, Bool.false_eq_true, and_true, true_and, or_false, or_true, true_or, false_or] <;> omega) trivial) (vi ?_)
    unfold werr
    rw [if_neg (by unfold okW; omega)]
  · refine con_val (ck_oool T D C G (by simp (disch := omega) only [allC, wrapI, bne_iff_ne, beq_iff_eq, bne_eq_false_iff_eq, beq_eq_false_iff_ne, decide_eq_true_eq, decide_eq_false_iff_not, Bool.and_eq_true, Bool.and_eq_false_iff, Bool.or_eq_true, Bool.or_eq_false_iff, Bool.not_eq_true', Bool.not_eq_false', Bool.true_eq_false, Bool.false_eq_true, and_true, true_and, or_false, or_true, true_or, false_or] <;> omega) trivial) (vi ?_)
    unfold werr
    rw [if_neg (by unfold okW; omega)]
  · by_cases h : T < D
    · refine con_val (ck_shape T D C G (by simp (disch := omega) only [allC, wrapI, bne_iff_ne, beq_iff_eq, bne_eq_false_iff_eq, beq_eq_false_iff_ne, decide_eq_true_eq, decide_eq_false_iff_not, Bool.and_eq_true, Bool.and_eq_false_iff, Bool.or_eq_true, Bool.or_eq_false_iff, Bool.not_eq_true', Bool.not_eq_false', Bool.true_eq_false, Bool.false_eq_true, and_true, true_and, or_false, or_true, true_or, false_or] <;> omega) trivial) (vi ?_)
      unfold werr
      rw [if_pos (by unfold okW; omega), if_pos h]
    · refine con_val (ck_oooo T D C G (by simp (disch := omega) only [allC, wrapI, bne_iff_ne, beq_iff_eq, bne_eq_false_iff_eq, beq_eq_false_iff_ne, decide_eq_true_eq, decide_eq_false_iff_not, Bool.and_eq_true, Bool.and_eq_false_iff, Bool.or_eq_true, Bool.or_eq_false_iff, Bool.not_eq_true', Bool.not_eq_false', Bool.true_eq_false, Bool.false_eq_true, and_true, true_and, or_false, or_true, true_or, false_or] <;> omega) trivial) (vi ?_)
      unfold werr
      rw [if_pos (by unfold okW; omega), if_neg h]
  · refine con_val (ck_oooh T D C G (by simp (disch := omega) only [allC, wrapI, bne_iff_ne, beq_iff_eq, bne_eq_false_iff_eq, beq_eq_false_iff_ne, decide_eq_true_eq, decide_eq_false_iff_not, Bool.and_eq_true, Bool.and_eq_false_iff, Bool.or_eq_true, Bool.or_eq_false_iff, Bool.not_eq_true', Bool.not_eq_false', Bool.true_eq_false, Bool.false_eq_true, and_true, true_and, or_false, or_true, true_or, false_or] <;> omega) trivial) (vi ?_)
    unfold werr
    rw [if_neg (by unfold okW; omega)]
  · refine con_val (ck_oohl T D C G (by simp (disch := omega) only [allC, wrapI, bne_iff_ne, beq_iff_eq, bne_eq_false_iff_eq, beq_eq_false_iff_ne, decide_eq_true_eq, decide_eq_false_iff_not, Bool.and_eq_true, Bool.and_eq_false_iff, Bool.or_eq_true, Bool.or_eq_false_iff, Bool.not_eq_true', Bool.not_eq_false', Bool.true_eq_false, Bool.false_eq_true, and_true, true_and, or_false, or_true, true_or, false_or] <;> omega) trivial) (vi ?_)
    unfold werr
    rw [if_neg (by unfold okW; omega)]
  · refine con_val (ck_ooho T D C G (by simp (disch := omega) only [allC, wrapI, bne_iff_ne, beq_iff_eq, bne_eq_false_iff_eq, beq_eq_false_iff_ne, decide_eq_true_eq, decide_eq_false_iff_not, Bool.and_eq_true, Bool.and_eq_false_iff, Bool.or_eq_true, Bool.or_eq_false_iff, Bool.not_eq_true', Bool.not_eq_false', Bool.true_eq_false, Bool.false_eq_true, and_true, true_and, or_false, or_true, true_or, false_or] <;> omega) trivial) (vi ?_)
    unfold werr
    rw [if_neg (by unfold okW; omega)]
  · refine con_val (ck_oohh T D C G (by simp (disch := omega) only [allC, wrapI, bne_iff_ne, beq_iff_eq, bne_eq_false_iff_eq, beq_eq_false_iff_ne, decide_eq_true_eq, decide_eq_false_iff_not, Bool.and_eq_true, Bool.and_eq_false_iff, Bool.or_eq_true, Bool.or_eq_false_iff, Bool.not_eq_true', Bool.not_eq_false', Bool.true_eq_false, Bool.false_eq_true, and_true, true_and, or_false, or_true, true_or, false_or] <;> omega) trivial) (vi ?_)
    unfold werr
    rw [if_neg (by unfold okW; omega)]
  · refine con_val (ck_ohll T D C G (by simp (disch := omega) only [allC, wrapI, bne_iff_ne, beq_iff_eq, bne_eq_false_iff_eq, beq_eq_false_iff_ne, decide_eq_true_eq, decide_eq_false_iff_not, Bool.and_eq_true, Bool.and_eq_false_iff, Bool.or_eq_true, Bool.or_eq_false_iff, Bool.not_eq_true', Bool.not_eq_false', Bool.true_eq_false, Bool.false_eq_true, and_true, true_and, or_false, or_true, true_or, false_or] <;> omega) trivial) (vi ?_)
    unfold werr
    rw [if_neg (by unfold okW; omega)]
  · refine con_val (ck_ohlo T D C G (by simp (disch := omega) only [allC, wrapI, bne_iff_ne, beq_iff_eq, bne_eq_false_iff_eq, beq_eq_false_iff_ne, decide_eq_true_eq, decide_eq_false_iff_not, Bool.and_eq_true, Bool.and_eq_false_iff, Bool.or_eq_true, Bool.or_eq_false_iff, Bool.not_eq_true', Bool.not_eq_false', Bool.true_eq_false, Bool.false_eq_true, and_true, true_and, or_false, or_true, true_or, false_or] <;> omega) trivial) (vi ?_)
    unfold werr
    rw [if_neg (by unfold okW; omega)]
  · refine con_val (ck_ohlh T D C G (by simp (disch := omega) only [allC, wrapI, bne_iff_ne, beq_iff_eq, bne_eq_false_iff_eq, beq_eq_false_iff_ne, decide_eq_true_eq, decide_eq_false_iff_not, Bool.and_eq_true, Bool.and_eq_false_iff, Bool.or_eq_true, Bool.or_eq_false_iff, Bool.not_eq_true', Bool.not_eq_false', Bool.true_eq_false, Bool.false_eq_true, and_true, true_and, or_false, or_true, true_or, false_or] <;> omega) trivial) (vi ?_)
    unfold werr
    rw [if_neg (by unfold okW; omega)]
  · refine con_val (ck_ohol T D C G (by simp (disch := omega) only [allC, wrapI, bne_iff_ne, beq_iff_eq, bne_eq_false_iff_eq, beq_eq_false_iff_ne, decide_eq_true_eq, decide_eq_false_iff_not, Bool.and_eq_true, Bool.and_eq_false_iff, Bool.or_eq_true, Bool.or_eq_false_iff, Bool.not_eq_true', Bool.not_eq_false', Bool.true_eq_false, Bool.false_eq_true, and_true, true_and, or_false, or_true, true_or, false_or] <;> omega) trivial) (vi ?_)
    unfold werr
    rw [if_neg (by unfold okW; omega)]
  · refine con_val (ck_ohoo T D C G (by simp (disch := omega) only [allC, wrapI, bne_iff_ne, beq_iff_eq, bne_eq_false_iff_eq, beq_eq_false_iff_ne, decide_eq_true_eq, decide_eq_false_iff_not, Bool.and_eq_true, Bool.and_eq_false_iff, Bool.or_eq_true, Bool.or_eq_false_iff, Bool.not_eq_true', Bool.not_eq_false', Bool.true_eq_false, Bool.false_eq_true, and_true, true_and, or_false, or_true, true_or, false_or] <;> omega) trivial) (vi ?_)
    unfold werr
    rw [if_neg (by unfold okW; omega)]
  · refine con_val (ck_ohoh T D C G (by simp (disch := omega) only [allC, wrapI, bne_iff_ne, beq_iff_eq, bne_eq_false_iff_eq, beq_eq_false_iff_ne, decide_eq_true_eq, decide_eq_false_iff_not, Bool.and_eq_true, Bool.and_eq_false_iff, Bool.or_eq_true, Bool.or_eq_false_iff, Bool.not_eq_true', Bool.not_eq_false', Bool.true_eq_false, Bool.false_eq_true, and_true, true_and, or_false, or_true, true_or, false_or] <;> omega) trivial) (vi ?_)
    unfold werr
    rw [if_neg (by unfold okW; omega)]
  · refine con_val (ck_ohhl T D C G (by simp (disch := omega) only [allC, wrapI, bne_iff_ne, beq_iff_eq, bne_eq_false_iff_eq, beq_eq_false_iff_ne, decide_eq_true_eq, decide_eq_false_iff_not, Bool.and_eq_true, Bool.and_eq_false_iff, Bool.or_eq_true, Bool.or_eq_false_iff, Bool.not_eq_true', Bool.not_eq_false', Bool.true_eq_false, Bool.false_eq_true, and_true, true_and, or_false, or_true, true_or, false_or] <;> omega) trivial) (vi ?_)
    unfold werr
    rw [if_neg (by unfold okW; omega)]
  · refine con_val (ck_ohho T D C G (by simp (disch := omega) only [allC, wrapI, bne_iff_ne, beq_iff_eq, bne_eq_false_iff_eq, beq_eq_false_iff_ne, decide_eq_true_eq, decide_eq_false_iff_not, Bool.and_eq_true, Bool.and_eq_false_iff, Bool.or_eq_true, Bool.or_eq_false_iff, Bool.not_eq_true', Bool.not_eq_false', Bool.true_eq_false, Bool.false_eq_true, and_true, true_and, or_false, or_true, true_or, false_or] <;> omega) trivial) (vi ?_)
    unfold werr
    rw [if_neg (by unfold okW; omega)]
  · refine con_val (ck_ohhh T D C G (by simp (disch := omega) only [allC, wrapI, bne_iff_ne, beq_iff_eq, bne_eq_false_iff_eq, beq_eq_false_iff_ne, decide_eq_true_eq, decide_eq_false_iff_not, Bool.and_eq_true, Bool.and_eq_false_iff, Bool.or_eq_true, Bool.or_eq_false_iff, Bool.not_eq_true', Bool.not_eq_false', Bool.true_eq_false, Bool.false_eq_true, and_true, true_and, or_false, or_true, true_or, false_or] <;> omega) trivial) (vi ?_)
    unfold werr
    rw [if_neg (by unfold okW; omega)]
  · refine con_val (ck_hlll T D C G (by simp (disch := omega) only [allC, wrapI, bne_iff_ne, beq_iff_eq, bne_eq_false_iff_eq, beq_eq_false_iff_ne, decide_eq_true_eq, decide_eq_false_iff_not, Bool.and_eq_true, Bool.and_eq_false_iff, Bool.or_eq_true, Bool.or_eq_false_iff, Bool.not_eq_true', Bool.not_eq_false', Bool.true_eq_false, Bool.false_eq_true, and_true, true_and, or_false, or_true, true_or, false_or] <;> omega) trivial) (vi ?_)
    unfold werr
    rw [if_neg (by unfold okW; omega)]
  · refine con_val (ck_hllo T D C G (by simp (disch := omega) only [allC, wrapI, bne_iff_ne, beq_iff_eq, bne_eq_false_iff_eq, beq_eq_false_iff_ne, decide_eq_true_eq, decide_eq_false_iff_not, Bool.and_eq_true, Bool.and_eq_false_iff, Bool.or_eq_true, Bool.or_eq_false_iff, Bool.not_eq_true', Bool.not_eq_false', Bool.true_eq_false, Bool.false_eq_true, and_true, true_and, or_false, or_true, true_or, false_or] <;> omega) trivial) (vi ?_)
    unfold werr
    rw [if_neg (by unfold okW; omega)]
  · refine con_val (ck_hllh T D C G (by simp (disch := omega) only [allC, wrapI, bne_iff_ne, beq_iff_eq, bne_eq_false_iff_eq, beq_eq_false_iff_ne, decide_eq_true_eq, decide_eq_false_iff_not, Bool.and_eq_true, Bool.and_eq_false_iff, Bool.or_eq_true, Bool.or_eq_false_iff, Bool.not_eq_true', Bool.not_eq_false', Bool.true_eq_false, Bool.false_eq_true, and_true, true_and, or_false, or_true, true_or, false_or] <;> omega) trivial) (vi ?_)
    unfold werr
    rw [if_neg (by unfold okW; omega)]
  · refine con_val (ck_hlol T D C G (by simp (disch := omega) only [allC, wrapI, bne_iff_ne, beq_iff_eq, bne_eq_false_iff_eq, beq_eq_false_iff_ne, decide_eq_true_eq, decide_eq_false_iff_not, Bool.and_eq_true, Bool.and_eq_false_iff, Bool.or_eq_true, Bool.or_eq_false_iff, Bool.not_eq_true', Bool.not_eq_false', Bool.true_eq_false, Bool.false_eq_true, and_true, true_and, or_false, or_true, true_or, false_or] <;> omega) trivial) (vi ?_)
    unfold werr
    rw [if_neg (by unfold okW; omega)]
  · refine con_val (ck_hloo T D C G (by simp (disch := omega) only [allC, wrapI, bne_iff_ne, beq_iff_eq, bne_eq_false_iff_eq, beq_eq_false_iff_ne, decide_eq_true_eq, decide_eq_false_iff_not, Bool.and_eq_true, Bool.and_eq_false_iff, Bool.or_eq_true, Bool.or_eq_false_iff, Bool.not_eq_true', Bool.not_eq_false', Bool.true_eq_false, Bool.false_eq_true, and_true, true_and, or_false, or_true, true_or, false_or] <;> omega) trivial) (vi ?_)
    unfold werr
    rw [if_neg (by unfold okW; omega)]
  · refine con_val (ck_hloh T D C G (by simp (disch := omega) only [allC, wrapI, bne_iff_ne, beq_iff_eq, bne_eq_false_iff_eq, beq_eq_false_iff_ne, decide_eq_true_eq, decide_eq_false_iff_not, Bool.and_eq_true, Bool.and_eq_false_iff, Bool.or_eq_true, Bool.or_eq_false_iff, Bool.not_eq_true', Bool.not_eq_false', Bool.true_eq_false, Bool.false_eq_true, and_true, true_and, or_false, or_true, true_or, false_or] <;> omega) trivial) (vi ?_)
    unfold werr
    rw [if_neg (by unfold okW; omega)]
  · refine con_val (ck_hlhl T D C G (by simp (disch := omega) only [allC, wrapI, bne_iff_ne, beq_iff_eq, bne_eq_false_iff_eq, beq_eq_false_iff_ne, decide_eq_true_eq, decide_eq_false_iff_not, Bool.and_eq_true, Bool.and_eq_false_iff, Bool.or_eq_true, Bool.or_eq_false_iff, Bool.not_eq_true', Bool.not_eq_false', Bool.true_eq_false, Bool.false_eq_true, and_true, true_and, or_false, or_true, true_or, false_or] <;> omega) trivial) (vi ?_)
    unfold werr
    rw [if_neg (by unfold okW; omega)]
  · refine con_val (ck_hlho T D C G (by simp (disch := omega) only [allC, wrapI, bne_iff_ne, beq_iff_eq, bne_eq_false_iff_eq, beq_eq_false_iff_ne, decide_eq_true_eq, decide_eq_false_iff_not, Bool.and_eq_true, Bool.and_eq_false_iff, Bool.or_eq_true, Bool.or_eq_false_iff, Bool.not_eq_true', Bool.not_eq_false', Bool.true_eq_false, Bool.false_eq_true, and_true, true_and, or_false, or_true, true_or, false_or] <;> omega) trivial) (vi ?_)
    unfold werr
    rw [if_neg (by unfold okW; omega)]
  · refine con_val (ck_hlhh T D C G (by simp (disch := omega) only [allC, wrapI, bne_iff_ne, beq_iff_eq, bne_eq_false_iff_eq, beq_eq_false_iff_ne, decide_eq_true_eq, decide_eq_false_iff_not, Bool.and_eq_true, Bool.and_eq_false_iff, Bool.or_eq_true, Bool.or_eq_false_iff, Bool.not_eq_true', Bool.not_eq_false', Bool.true_eq_false, Bool.false_eq_true, and_true, true_and, or_false, or_true, true_or, false_or] <;> omega) trivial) (vi ?_)
    unfold werr
    rw [if_neg (by unfold okW; omega)]
  · refine con_val (ck_holl T D C G (by simp (disch := omega) only [allC, wrapI, bne_iff_ne, beq_iff_eq, bne_eq_false_iff_eq, beq_eq_false_iff_ne, decide_eq_true_eq, decide_eq_false_iff_not, Bool.and_eq_true, Bool.and_eq_false_iff, Bool.or_eq_true, Bool.or_eq_false_iff, Bool.not_eq_true', Bool.not_eq_false', Bool.true_eq_false, Bool.false_eq_true, and_true, true_and, or_false, or_true, true_or, false_or] <;> omega) trivial) (vi ?_)
    unfold werr
    rw [if_neg (by unfold okW; omega)]
  · refine con_val (ck_holo T D C G (by simp (disch := omega) only [allC, wrapI, bne_iff_ne, beq_iff_eq, bne_eq_false_iff_eq, beq_eq_false_iff_ne, decide_eq_true_eq, decide_eq_false_iff_not, Bool.and_eq_true, Bool.and_eq_false_iff, Bool.or_eq_true, Bool.or_eq_false_iff, Bool.not_eq_true', Bool.not_eq_false', Bool.true_eq_false, Bool.false_eq_true, and_true, true_and, or_false, or_true, true_or, false_or] <;> omega) trivial) (vi ?_)
    unfold werr
    rw [if_neg (by unfold okW; omega)]
  · refine con_val (ck_holh T D C G (by simp (disch := omega) only [allC, wrapI, bne_iff_ne, beq_iff_eq, bne_eq_false_iff_eq, beq_eq_false_iff_ne, decide_eq_true_eq, decide_eq_false_iff_not, Bool.and_eq_true, Bool.and_eq_false_iff, Bool.or_eq_true, Bool.or_eq_false_iff, Bool.not_eq_true', Bool.not_eq_false', Bool.true_eq_false, Bool.false_eq_true, and_true, true_and, or_false, or_true, true_or, false_or] <;> omega) trivial) (vi ?_)
    unfold werr
    rw [if_neg (by unfold okW; omega)]
  · refine con_val (ck_hool T D C G (by simp (disch := omega) only [allC, wrapI, bne_iff_ne, beq_iff_eq, bne_eq_false_iff_eq, beq_eq_false_iff_ne, decide_eq_true_eq, decide_eq_false_iff_not, Bool.and_eq_true, Bool.and_eq_false_iff, Bool.or_eq_true, Bool.or_eq_false_iff, Bool.not_eq_true', Bool.not_eq_false', Bool.true_eq_false, Bool.false_eq_true, and_true, true_and, or_false, or_true, true_or, false_or] <;> omega) trivial) (vi ?_)
    unfold werr
    rw [if_neg (by unfold okW; omega)]
  · refine con_val (ck_hooo T D C G (by simp (disch := omega) only [allC, wrapI, bne_iff_ne, beq_iff_eq, bne_eq_false_iff_eq, beq_eq_false_iff_ne, decide_eq_true_eq, decide_eq_false_iff_not, Bool.and_eq_true, Bool.and_eq_false_iff, Bool.or_eq_true, Bool.or_eq_false_iff, Bool.not_eq_true', Bool.not_eq_false', Bool.true_eq_false, Bool.false_eq_true, and_true, true_and, or_false, or_true, true_or, false_or] <;> omega) trivial) (vi ?_)
    unfold werr
    rw [if_neg (by unfold okW; omega)]
  · refine con_val (ck_hooh T D C G (by simp (disch := omega) only [allC, wrapI, bne_iff_ne, beq_iff_eq, bne_eq_false_iff_eq, beq_eq_false_iff_ne, decide_eq_true_eq, decide_eq_false_iff_not, Bool.and_eq_true, Bool.and_eq_false_iff, Bool.or_eq_true, Bool.or_eq_false_iff, Bool.not_eq_true', Bool.not_eq_false', Bool.true_eq_false, Bool.false_eq_true, and_true, true_and, or_false, or_true, true_or, false_or] <;> omega) trivial) (vi ?_)
    unfold werr
    rw [if_neg (by unfold okW; omega)]
  · refine con_val (ck_hohl T D C G (by simp (disch := omega) only [allC, wrapI, bne_iff_ne, beq_iff_eq, bne_eq_false_iff_eq, beq_eq_false_iff_ne, decide_eq_true_eq, decide_eq_false_iff_not, Bool.and_eq_true, Bool.and_eq_false_iff, Bool.or_eq_true, Bool.or_eq_false_iff, Bool.not_eq_true', Bool.not_eq_false', Bool.true_eq_false, Bool.false_eq_true, and_true, true_and, or_false, or_true, true_or, false_or] <;> omega) trivial) (vi ?_)
    unfold werr
    rw [if_neg (by unfold okW; omega)]
  · refine con_val (ck_hoho T D C G (by simp (disch := omega) only [allC, wrapI, bne_iff_ne, beq_iff_eq, bne_eq_false_iff_eq, beq_eq_false_iff_ne, decide_eq_true_eq, decide_eq_false_iff_not, Bool.and_eq_true, Bool.and_eq_false_iff, Bool.or_eq_true, Bool.or_eq_false_iff, Bool.not_eq_true', Bool.not_eq_false', Bool.true_eq_false, Bool.false_eq_true, and_true, true_and, or_false, or_true, true_or, false_or] <;> omega) trivial) (vi ?_)
    unfold werr
    rw [if_neg (by unfold okW; omega)]
  · refine con_val (ck_hohh T D C G (by simp (disch := omega) only [allC, wrapI, bne_iff_ne, beq_iff_eq, bne_eq_false_iff_eq, beq_eq_false_iff_ne, decide_eq_true_eq, decide_eq_false_iff_not, Bool.and_eq_true, Bool.and_eq_false_iff, Bool.or_eq_true, Bool.or_eq_false_iff, Bool.not_eq_true', Bool.not_eq_false', Bool.true_eq_false, Bool.false_eq_true, and_true, true_and, or_false, or_true, true_or, false_or] <;> omega) trivial) (vi ?_)
    unfold werr
    rw [if_neg (by unfold okW; omega)]
  · refine con_val (ck_hhll T D C G (by simp (disch := omega) only [allC, wrapI, bne_iff_ne, beq_iff_eq, bne_eq_false_iff_eq, beq_eq_false_iff_ne, decide_eq_true_eq, decide_eq_false_iff_not, Bool.and_eq_true, Bool.and_eq_false_iff, Bool.or_eq_true, Bool.or_eq_false_iff, Bool.not_eq_true', Bool.not_eq_false', Bool.true_eq_false, Bool.false_eq_true, and_true, true_and, or_false, or_true, true_or, false_or] <;> omega) trivial) (vi ?_)
    unfold werr
    rw [if_neg (by unfold okW; omega)]
  · refine con_val (ck_hhlo T D C G (by simp (disch := omega) only [allC, wrapI, bne_iff_ne, beq_iff_eq, bne_eq_false_iff_eq, beq_eq_false_iff_ne, decide_eq_true_eq, decide_eq_false_iff_not, Bool.and_eq_true, Bool.and_eq_false_iff, Bool.or_eq_true, Bool.or_eq_false_iff, Bool.not_eq_true', Bool.not_eq_false', Bool.true_eq_false, Bool.false_eq_true, and_true, true_and, or_false, or_true, true_or, false_or] <;> omega) trivial) (vi ?_)
    unfold werr
    rw [if_neg (by unfold okW; omega)]
  · refine con_val (ck_hhlh T D C G (by simp (disch := omega) only [allC, wrapI, bne_iff_ne, beq_iff_eq, bne_eq_false_iff_eq, beq_eq_false_iff_ne, decide_eq_true_eq, decide_eq_false_iff_not, Bool.and_eq_true, Bool.and_eq_false_iff, Bool.or_eq_true, Bool.or_eq_false_iff, Bool.not_eq_true', Bool.not_eq_false', Bool.true_eq_false, Bool.false_eq_true, and_true, true_and, or_false, or_true, true_or, false_or] <;> omega) trivial) (vi ?_)
    unfold werr
    rw [if_neg (by unfold okW; omega)]
  · refine con_val (ck_hhol T D C G (by simp (disch := omega) only [allC, wrapI, bne_iff_ne, beq_iff_eq, bne_eq_false_iff_eq, beq_eq_false_iff_ne, decide_eq_true_eq, decide_eq_false_iff_not, Bool.and_eq_true, Bool.and_eq_false_iff, Bool.or_eq_true, Bool.or_eq_false_iff, Bool.not_eq_true', Bool.not_eq_false', Bool.true_eq_false, Bool.false_eq_true, and_true, true_and, or_false, or_true, true_or, false_or] <;> omega) trivial) (vi ?_)
    unfold werr
    rw [if_neg (by unfold okW; omega)]
  · refine con_val (ck_hhoo T D C G (by simp (disch := omega) only [allC, wrapI, bne_iff_ne, beq_iff_eq, bne_eq_false_iff_eq, beq_eq_false_iff_ne, decide_eq_true_eq, decide_eq_false_iff_not, Bool.and_eq_true, Bool.and_eq_false_iff, Bool.or_eq_true, Bool.or_eq_false_iff, Bool.not_eq_true', Bool.not_eq_false', Bool.true_eq_false, Bool.false_eq_true, and_true, true_and, or_false, or_true, true_or, false_or] <;> omega) trivial) (vi ?_)
    unfold werr
    rw [if_neg (by unfold okW; omega)]
  · refine con_val (ck_hhoh T D C G (by simp (disch := omega) only [allC, wrapI, bne_iff_ne, beq_iff_eq, bne_eq_false_iff_eq, beq_eq_false_iff_ne, decide_eq_true_eq, decide_eq_false_iff_not, Bool.and_eq_true, Bool.and_eq_false_iff, Bool.or_eq_true, Bool.or_eq_false_iff, Bool.not_eq_true', Bool.not_eq_false', Bool.true_eq_false, Bool.false_eq_true, and_true, true_and, or_false, or_true, true_or, false_or] <;> omega) trivial) (vi ?_)
    unfold werr
    rw [if_neg (by unfold okW; omega)]
  · refine con_val (ck_hhhl T D C G (by simp (disch := omega) only [allC, wrapI, bne_iff_ne, beq_iff_eq, bne_eq_false_iff_eq, beq_eq_false_iff_ne, decide_eq_true_eq, decide_eq_false_iff_not, Bool.and_eq_true, Bool.and_eq_false_iff, Bool.or_eq_true, Bool.or_eq_false_iff, Bool.not_eq_true', Bool.not_eq_false', Bool.true_eq_false, Bool.false_eq_true, and_true, true_and, or_false, or_true, true_or, false_or] <;> omega) trivial) (vi ?_)
    unfold werr
    rw [if_neg (by unfold okW; omega)]
  · refine con_val (ck_hhho T D C G (by simp (disch := omega) only [allC, wrapI, bne_iff_ne, beq_iff_eq, bne_eq_false_iff_eq, beq_eq_false_iff_ne, decide_eq_true_eq, decide_eq_false_iff_not, Bool.and_eq_true, Bool.and_eq_false_iff, Bool.or_eq_true, Bool.or_eq_false_iff, Bool.not_eq_true', Bool.not_eq_false', Bool.true_eq_false, Bool.false_eq_true, and_true, true_and, or_false, or_true, true_or, false_or] <;> omega) trivial) (vi ?_)
    unfold werr
    rw [if_neg (by unfold okW; omega)]
  · refine con_val (ck_hhhh T D C G (by simp (disch := omega) only [allC, wrapI, bne_iff_ne, beq_iff_eq, bne_eq_false_iff_eq, beq_eq_false_iff_ne, decide_eq_true_eq, decide_eq_false_iff_not, Bool.and_eq_true, Bool.and_eq_false_iff, Bool.or_eq_true, Bool.or_eq_false_iff, Bool.not_eq_true', Bool.not_eq_false', Bool.true_eq_false, Bool.false_eq_true, and_true, true_and, or_false, or_true, true_or, false_or] <;> omega) trivial) (vi ?_)
    unfold werr
    rw [if_neg (by unfold okW; omega)]
theorem within_c (n lo hi : Int) : Con 13 [.int .i64 n, .int .i64 lo, .int .i64 hi] (.bool (decide (lo ≤ n) && decide (n ≤ hi))) := by
  by_cases h : lo ≤ n
  · exact con_val (wi_n n lo hi (by simp (disch := omega) only [allC, wrapI, bne_iff_ne, beq_iff_eq, bne_eq_false_iff_eq, beq_eq_false_iff_ne, decide_eq_true_eq, decide_eq_false_iff_not, Bool.and_eq_true, Bool.and_eq_false_iff, Bool.or_eq_true, Bool.or_eq_false_iff, Bool.not_eq_true', Bool.not_eq_false', Bool.true_eq_false, Bool.false_eq_true, and_true, true_and, or_false, or_true, true_or, false_or] <;> omega) trivial) (by simp [h])
  · exact con_val (wi_l n lo hi (by simp (disch := omega) only [allC, wrapI, bne_iff_ne, beq_iff_eq, bne_eq_false_iff_eq, beq_eq_false_iff_ne, decide_eq_true_eq, decide_eq_false_iff_not, Bool.and_eq_true, Bool.and_eq_false_iff, Bool.or_eq_true, Bool.or_eq_false_iff, Bool.not_eq_true', Bool.not_eq_false', Bool.true_eq_false, Bool.false_eq_true, and_true, true_and, or_false, or_true, true_or, false_or] <;> omega) trivial) (by simp [h])
theorem rw_c (T D C G : Int) : Con 29 [.agg #[.int .i64 T, .int .i64 D, .int .i64 C, .int .i64 G]] (.int .i64 (werr T D C G)) := by
  have k0 := within_c T 1 10000
  have k1 := within_c D 1 500
  have k2 := within_c C 1 1000
  have k3 := within_c G 0 1000
  by_cases hT : 1 ≤ T ∧ T ≤ 10000
  · rw [show (decide (1 ≤ T) && decide (T ≤ 10000)) = true from by simp [hT.1, hT.2]] at k0
    by_cases hD : 1 ≤ D ∧ D ≤ 500
    · rw [show (decide (1 ≤ D) && decide (D ≤ 500)) = true from by simp [hD.1, hD.2]] at k1
      by_cases hC : 1 ≤ C ∧ C ≤ 1000
      · rw [show (decide (1 ≤ C) && decide (C ≤ 1000)) = true from by simp [hC.1, hC.2]] at k2
        by_cases hG : 0 ≤ G ∧ G ≤ 1000
        · rw [show (decide (0 ≤ G) && decide (G ≤ 1000)) = true from by simp [hG.1, hG.2]] at k3
          by_cases h : T < D
          · refine con_val (rw_shape T D C G true true true true (by simp [allC]; omega) ⟨k0, k1, k2, k3, trivial⟩) (vi ?_)
            unfold werr
            rw [if_pos (by unfold okW; omega), if_pos h]
          · refine con_val (rw_4 T D C G true true true true (by simp [allC]; omega) ⟨k0, k1, k2, k3, trivial⟩) (vi ?_)
            unfold werr
            rw [if_pos (by unfold okW; omega), if_neg h]
        · rw [show (decide (0 ≤ G) && decide (G ≤ 1000)) = false from by simp; omega] at k3
          refine con_val (rw_3 T D C G true true true false (by simp [allC]) ⟨k0, k1, k2, k3, trivial⟩) (vi ?_)
          unfold werr
          rw [if_neg (by unfold okW; omega)]
      · rw [show (decide (1 ≤ C) && decide (C ≤ 1000)) = false from by simp; omega] at k2
        refine con_val (rw_2 T D C G true true false false (by simp [allC]) ⟨k0, k1, k2, trivial⟩) (vi ?_)
        unfold werr
        rw [if_neg (by unfold okW; omega)]
    · rw [show (decide (1 ≤ D) && decide (D ≤ 500)) = false from by simp; omega] at k1
      refine con_val (rw_1 T D C G true false false false (by simp [allC]) ⟨k0, k1, trivial⟩) (vi ?_)
      unfold werr
      rw [if_neg (by unfold okW; omega)]
  · rw [show (decide (1 ≤ T) && decide (T ≤ 10000)) = false from by simp; omega] at k0
    refine con_val (rw_0 T D C G false false false false (by simp [allC]) ⟨k0, trivial⟩) (vi ?_)
    unfold werr
    rw [if_neg (by unfold okW; omega)]
def lenW (D C G : Int) : Int := IntKind.i64.wrap (IntKind.i64.wrap (D * C) + IntKind.i64.wrap (IntKind.i64.wrap (D - 1) * G))
theorem ln_good (T D C G : Int) (h : werr T D C G = 0) : Con 27 [.agg #[.int .i64 T, .int .i64 D, .int .i64 C, .int .i64 G]] (.tuple #[.int .i64 (lenW D C G), .int .i64 0]) :=
  con_val (ln_ok T D C G 0 (by simp [allC]) ⟨h ▸ ck_c T D C G, trivial⟩) rfl
theorem ln_err (T D C G e : Int) (h : werr T D C G = e) (he : e ≠ 0) : Con 27 [.agg #[.int .i64 T, .int .i64 D, .int .i64 C, .int .i64 G]] (.tuple #[.int .i64 0, .int .i64 e]) :=
  con_val (ln_bad T D C G e (by simp [allC, he]) ⟨h ▸ ck_c T D C G, trivial⟩) rfl
theorem rl_c (T D C G : Int) : Con 31 [.agg #[.int .i64 T, .int .i64 D, .int .i64 C, .int .i64 G]] (.int .i64 (lenW D C G)) := con_val (rl_a T D C G trivial trivial) rfl
theorem fd_err (T D C G e r : Int) (h : werr T D C G = e) (he : e ≠ 0) : Con 28 [.agg #[.int .i64 T, .int .i64 D, .int .i64 C, .int .i64 G], .int .i64 r] (.tuple #[.int .i64 0, .int .i64 e]) := by
  rcases (show r < 1 ∨ (1 ≤ r ∧ r ≤ 1000000) ∨ 1000000 < r by omega) with hr | hr | hr
  · exact con_val (fd_badl T D C G e r (by simp [allC, he]; try omega) ⟨h ▸ ck_c T D C G, trivial⟩) rfl
  · exact con_val (fd_bado T D C G e r (by simp [allC, he]; try omega) ⟨h ▸ ck_c T D C G, trivial⟩) rfl
  · exact con_val (fd_badh T D C G e r (by simp [allC, he]; try omega) ⟨h ▸ ck_c T D C G, trivial⟩) rfl
theorem fd_room (T D C G r : Int) (h : werr T D C G = 0) (hr : ¬ (1 ≤ r ∧ r ≤ 1000000)) : Con 28 [.agg #[.int .i64 T, .int .i64 D, .int .i64 C, .int .i64 G], .int .i64 r] (.tuple #[.int .i64 0, .int .i64 2]) := by
  rcases (show r < 1 ∨ 1000000 < r by omega) with hr | hr
  · exact con_val (fd_l T D C G 0 r (by simp [allC]; try omega) ⟨h ▸ ck_c T D C G, trivial⟩) rfl
  · exact con_val (fd_h T D C G 0 r (by simp [allC]; try omega) ⟨h ▸ ck_c T D C G, trivial⟩) rfl
end Go.Proofs.YtngjoconcgakpaaDoor
