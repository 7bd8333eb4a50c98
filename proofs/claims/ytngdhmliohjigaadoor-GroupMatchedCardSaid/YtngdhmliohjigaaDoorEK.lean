/- Fractions compared, by whole parts and what is left. -/
import Derived.Test.YtngdhmliohjigaaDoorEG
import Derived.Test.YtngdhmliohjigaaDoorEW
set_option linter.unusedVariables false
set_option linter.unusedSimpArgs false
set_option linter.unusedSectionVars false
set_option linter.unnecessarySimpa false
set_option maxRecDepth 100000
namespace Go.Proofs.YtngdhmliohjigaaDoor
open Go.RowKit Go.Ev

theorem less_of {n d m k : Int} (hd : 0 < d) (hk : 0 < k) (h : n / d < m / k) : n * k - m * d < 0 := by
  have h1 : n < (n / d + 1) * d := Int.lt_ediv_add_one_mul_self n hd
  have h2 : m / k * k ≤ m := Int.ediv_mul_le m (by omega)
  have h3 : (n / d + 1) * k ≤ m / k * k := Int.mul_le_mul_of_nonneg_right (by omega) (by omega)
  have h4 := Int.mul_lt_mul_of_pos_right h1 hk
  have h5 : (n / d + 1) * k * d ≤ m * d := Int.mul_le_mul_of_nonneg_right (by omega) (by omega)
  have h6 : (n / d + 1) * k * d = (n / d + 1) * d * k := Int.mul_right_comm _ _ _
  omega
theorem rest_eq (n d m k p : Int) : k * (n - p * d) - d * (m - p * k) = n * k - m * d := by
  rw [Int.mul_sub, Int.mul_sub, Int.mul_left_comm k p d, Int.mul_left_comm d p k, Int.mul_comm k n, Int.mul_comm d m, Int.mul_comm d k]
  omega
theorem rest_range {n d : Int} (hd : 0 < d) : 0 ≤ n - n / d * d ∧ n - n / d * d < d := by
  have h1 : n < (n / d + 1) * d := Int.lt_ediv_add_one_mul_self n hd
  have h2 : n / d * d ≤ n := Int.ediv_mul_le n (by omega)
  rw [Int.add_mul] at h1
  omega
def sgn (x : Int) : Int := if x < 0 then -1 else if 0 < x then 1 else 0

set_option maxHeartbeats 400000 in
theorem floor_any (n d : Int) (w : World) (n0 : 0 ≤ n) (n1 : n ≤ 1000000000000000000) (d0 : 0 < d) (d1 : d ≤ 1000000000000000000) :
    Calls Tryd.prog 145 #[.int .i64 n, .int .i64 d] w fun e w' => e = .returned (.int .i64 (n / d)) ∧ Below w.heap.size w w' := by
  have hd : (d == 0) = false := by simp; omega
  have hq : n.tdiv d = n / d := Int.tdiv_eq_ediv_of_nonneg n0
  have hm : n.tmod d = n % d := Int.tmod_eq_emod_of_nonneg n0
  have hr : 0 ≤ n / d ∧ n / d ≤ n := ⟨Int.ediv_nonneg n0 (by omega), Int.ediv_le_self _ n0⟩
  have hw : IntKind.i64.wrap (n.tdiv d) = n / d := by rw [hq, wrapI _ (by omega) (by omega)]
  have hl : decide (n.tmod d < 0) = false := by rw [hm, decide_eq_false_iff_not]; have := Int.emod_nonneg n (show d ≠ 0 by omega); omega
  have hm0 := Int.emod_nonneg n (show d ≠ 0 by omega)
  go_enter Tryd.func145, Tryd.ntmps145
  go_wp2
  all_goals go_returns
  all_goals first | exact ⟨rfl, by go_grown⟩ | (exfalso; omega)

theorem floor_c {n d : Int} (n0 : 0 ≤ n) (n1 : n ≤ 1000000000000000000) (d0 : 0 < d) (d1 : d ≤ 1000000000000000000) : Con 145 [.int .i64 n, .int .i64 d] (.int .i64 (n / d)) := fun w _ => floor_any n d w n0 n1 d0 d1
def CmpRel (D : Int) (a b c e : Value) : Prop := ∃ n d m k : Int, n * k - m * d = D ∧ 0 ≤ n ∧ n ≤ 1000000000000 ∧ 0 < d ∧ d ≤ 1000000000000 ∧ 0 ≤ m ∧ m ≤ 1000000000000 ∧ 0 < k ∧ k ≤ 1000000000000 ∧ a = .int .i64 n ∧ b = .int .i64 d ∧ c = .int .i64 m ∧ e = .int .i64 k
set_option maxHeartbeats 1000000 in
theorem compare_any (n d m k : Int) (w : World) (n0 : 0 ≤ n) (n1 : n ≤ 1000000000000) (d0 : 0 < d) (d1 : d ≤ 1000000000000) (m0 : 0 ≤ m) (m1 : m ≤ 1000000000000) (k0 : 0 < k) (k1 : k ≤ 1000000000000) :
    Calls Tryd.prog 114 #[.int .i64 n, .int .i64 d, .int .i64 m, .int .i64 k] w fun e w' => e = .returned (.int .i64 (sgn (n * k - m * d))) ∧ Below w.heap.size w w' := by
  go_enter Tryd.func114, Tryd.ntmps114
  go_wp2
  go_loopw [0, 1, 2, 3] (fun a b c e wr => CmpRel (n * k - m * d) a b c e ∧ Below w.heap.size w wr) (fun _ b _ e _ => (intOf b + intOf e).toNat)
  case atStart => exact ⟨⟨n, d, m, k, rfl, n0, n1, d0, d1, m0, m1, k0, k1, rfl, rfl, rfl, rfl⟩, Below.refl _ _⟩
  case round =>
    obtain ⟨⟨x, y, z, u, hD, x0, x1, y0, y1, z0, z1, u0, u1, rfl, rfl, rfl, rfl⟩, hB⟩ := hrel
    clear n0 n1 d0 d1 m0 m1 k0 k1
    have L1 : (x / y) < (z / u) → (n * k - m * d) < 0 := fun h => by have := less_of y0 u0 h; omega
    have L2 : (z / u) < (x / y) → 0 < (n * k - m * d) := fun h => by have := less_of u0 y0 h; omega
    have R1 := rest_range (n := x) y0
    have R2 := rest_range (n := z) u0
    have b1 : 0 ≤ x / y * y ∧ x / y * y ≤ x := ⟨Int.mul_nonneg (Int.ediv_nonneg x0 (by omega)) (by omega), by omega⟩
    have b2 : 0 ≤ z / u * u ∧ z / u * u ≤ z := ⟨Int.mul_nonneg (Int.ediv_nonneg z0 (by omega)) (by omega), by omega⟩
    have E : (x / y) = (z / u) → u * (x - x / y * y) - y * (z - z / u * u) = (n * k - m * d) := fun h => by rw [← h, rest_eq]; exact hD
    have w1 : IntKind.i64.wrap ((x / y) * y) = (x / y) * y := wrapI _ (by omega) (by omega)
    have w2 : IntKind.i64.wrap ((z / u) * u) = (z / u) * u := wrapI _ (by omega) (by omega)
    have w3 : IntKind.i64.wrap (x - x / y * y) = (x - x / y * y) := wrapI _ (by omega) (by omega)
    have w4 : IntKind.i64.wrap (z - z / u * u) = (z - z / u * u) := wrapI _ (by omega) (by omega)
    rcases Int.lt_trichotomy (x / y) (z / u) with h | h | h
    · have c1 : decide ((x / y) < (z / u)) = true := by simpa using h
      have hs : sgn (n * k - m * d) = -1 := by have := L1 h; unfold sgn; rw [if_pos this]
      go_wp2_with (go_at_call 145; refine Calls.mono (floor_any _ _ _ (by omega) (by omega) (by omega) (by omega)) ?_; rintro e wa ⟨rfl, hb⟩; have hB := hB.trans (hb.mono hB.size); clear hb)
      all_goals go_returns
      all_goals (rw [hs]; exact ⟨rfl, by first | assumption | go_grown⟩)
    · have c1 : decide ((x / y) < (z / u)) = false := by simp; omega
      have c2 : decide ((x / y) > (z / u)) = false := by simp; omega
      have e := E h
      clear h E L1 L2
      by_cases hr : (x - x / y * y) = 0
      · have c3 : ((x - x / y * y) == 0) = true := by simpa using hr
        by_cases ht : (z - z / u * u) = 0
        · have c4 : ((z - z / u * u) == 0) = true := by simpa using ht
          have hs : sgn (n * k - m * d) = 0 := by rw [← e, hr, ht]; simp [sgn]
          go_wp2_with (go_at_call 145; refine Calls.mono (floor_any _ _ _ (by omega) (by omega) (by omega) (by omega)) ?_; rintro e wa ⟨rfl, hb⟩; have hB := hB.trans (hb.mono hB.size); clear hb)
          all_goals go_returns
          all_goals (rw [hs]; exact ⟨rfl, by first | assumption | go_grown⟩)
        · have c4 : ((z - z / u * u) == 0) = false := by simpa using ht
          have hs : sgn (n * k - m * d) = -1 := by
            have : 0 < y * (z - z / u * u) := Int.mul_pos (by omega) (by omega)
            rw [hr] at e
            unfold sgn; rw [if_pos (by omega)]
          go_wp2_with (go_at_call 145; refine Calls.mono (floor_any _ _ _ (by omega) (by omega) (by omega) (by omega)) ?_; rintro e wa ⟨rfl, hb⟩; have hB := hB.trans (hb.mono hB.size); clear hb)
          all_goals go_returns
          all_goals (rw [hs]; exact ⟨rfl, by first | assumption | go_grown⟩)
      · have c3 : ((x - x / y * y) == 0) = false := by simpa using hr
        by_cases ht : (z - z / u * u) = 0
        · have c4 : ((z - z / u * u) == 0) = true := by simpa using ht
          have hs : sgn (n * k - m * d) = 1 := by
            have : 0 < u * (x - x / y * y) := Int.mul_pos (by omega) (by omega)
            rw [ht] at e
            unfold sgn; rw [if_neg (by omega), if_pos (by omega)]
          go_wp2_with (go_at_call 145; refine Calls.mono (floor_any _ _ _ (by omega) (by omega) (by omega) (by omega)) ?_; rintro e wa ⟨rfl, hb⟩; have hB := hB.trans (hb.mono hB.size); clear hb)
          all_goals go_returns
          all_goals (rw [hs]; exact ⟨rfl, by first | assumption | go_grown⟩)
        · have c4 : ((z - z / u * u) == 0) = false := by simpa using ht
          go_wp2_with (go_at_call 145; refine Calls.mono (floor_any _ _ _ (by omega) (by omega) (by omega) (by omega)) ?_; rintro e wa ⟨rfl, hb⟩; have hB := hB.trans (hb.mono hB.size); clear hb)
          go_roundw
          case rel => exact ⟨⟨u, (z - z / u * u), y, (x - x / y * y), e, by omega, by omega, by omega, by omega, by omega, by omega, by omega, by omega, rfl, rfl, rfl, rfl⟩, by first | assumption | go_grown⟩
          case measure => simp only [intOf]; omega
    · have c1 : decide ((x / y) < (z / u)) = false := by simp; omega
      have c2 : decide ((x / y) > (z / u)) = true := by simpa using h
      have hs : sgn (n * k - m * d) = 1 := by have := L2 h; unfold sgn; rw [if_neg (by omega), if_pos this]
      go_wp2_with (go_at_call 145; refine Calls.mono (floor_any _ _ _ (by omega) (by omega) (by omega) (by omega)) ?_; rintro e wa ⟨rfl, hb⟩; have hB := hB.trans (hb.mono hB.size); clear hb)
      all_goals go_returns
      all_goals (rw [hs]; exact ⟨rfl, by first | assumption | go_grown⟩)
theorem compare_c {n d m k : Int} (n0 : 0 ≤ n) (n1 : n ≤ 1000000000000) (d0 : 0 < d) (d1 : d ≤ 1000000000000) (m0 : 0 ≤ m) (m1 : m ≤ 1000000000000) (k0 : 0 < k) (k1 : k ≤ 1000000000000) :
    Con 114 [.int .i64 n, .int .i64 d, .int .i64 m, .int .i64 k] (.int .i64 (sgn (n * k - m * d))) := fun w _ => compare_any n d m k w n0 n1 d0 d1 m0 m1 k0 k1
end Go.Proofs.YtngdhmliohjigaaDoor
