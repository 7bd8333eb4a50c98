/- Whole numbers of 64 bits; values that are the same. -/
import Derived.Test.YtngdhmliohjigaaDoorEVU
set_option linter.unusedVariables false
set_option linter.unusedSimpArgs false
set_option linter.unusedSectionVars false
set_option linter.unnecessarySimpa false
namespace Go.Ev
theorem wrapI (x : Int) (h1 : -9223372036854775808 ≤ x) (h2 : x < 9223372036854775808) : IntKind.i64.wrap x = x := by
  have hb : IntKind.i64.bits = 64 := rfl
  have hs : IntKind.i64.signed = true := rfl
  unfold IntKind.wrap
  simp only [hb, hs, Bool.true_and, decide_eq_true_eq]
  split <;> omega
theorem tdivn (a b n : Int) (hn : 0 < n) : (a * n).tdiv (b * n) = a.tdiv b := by
  rw [Int.mul_comm a n, Int.mul_comm b n]
  exact Int.mul_tdiv_mul_of_pos a b hn
theorem tmodn (a b n : Int) (hn : 0 < n) : (a * n).tmod (b * n) = a.tmod b * n := by
  have h1 := Int.tmod_add_mul_tdiv (a * n) (b * n)
  have h2 := Int.tmod_add_mul_tdiv a b
  rw [tdivn a b n hn] at h1
  have h3 : (a.tmod b + b * a.tdiv b) * n = a * n := by rw [h2]
  rw [Int.add_mul] at h3
  have h4 : b * n * a.tdiv b = b * a.tdiv b * n := by rw [Int.mul_assoc, Int.mul_comm n, ← Int.mul_assoc]
  omega
theorem vi {a b : Int} (h : a = b) : Value.int .i64 a = Value.int .i64 b := by rw [h]
theorem vb {a b : Bool} (h : a = b) : Value.bool a = Value.bool b := by rw [h]
theorem va2 {a b c d : Value} (h1 : a = c) (h2 : b = d) : Value.agg #[a, b] = Value.agg #[c, d] := by rw [h1, h2]
theorem vt2 {a b c d : Value} (h1 : a = c) (h2 : b = d) : Value.tuple #[a, b] = Value.tuple #[c, d] := by rw [h1, h2]
theorem va3 {a b c a1 b1 c1 : Value} (h1 : a = a1) (h2 : b = b1) (h3 : c = c1) : Value.agg #[a, b, c] = Value.agg #[a1, b1, c1] := by rw [h1, h2, h3]
theorem va4 {a b c d a1 b1 c1 d1 : Value} (h1 : a = a1) (h2 : b = b1) (h3 : c = c1) (h4 : d = d1) : Value.agg #[a, b, c, d] = Value.agg #[a1, b1, c1, d1] := by rw [h1, h2, h3, h4]
theorem va9 {a0 a1 a2 a3 a4 a5 a6 a7 a8 b0 b1 b2 b3 b4 b5 b6 b7 b8 : Value} (h0 : a0 = b0) (h1 : a1 = b1) (h2 : a2 = b2) (h3 : a3 = b3) (h4 : a4 = b4) (h5 : a5 = b5) (h6 : a6 = b6) (h7 : a7 = b7) (h8 : a8 = b8) :
    Value.agg #[a0, a1, a2, a3, a4, a5, a6, a7, a8] = Value.agg #[b0, b1, b2, b3, b4, b5, b6, b7, b8] := by rw [h0, h1, h2, h3, h4, h5, h6, h7, h8]
end Go.Ev
