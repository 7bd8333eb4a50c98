/- THE LAW OF PHASORS: for any two of them its answer is true. -/
import Derived.Test.YtngdhmliohjigaaDoorPH5
import Derived.Test.YtngdhmliohjigaaDoorPLA
import Derived.Test.YtngdhmliohjigaaDoorPLB
import Derived.Test.YtngdhmliohjigaaDoorPLC0
import Derived.Test.YtngdhmliohjigaaDoorPLC1
import Derived.Test.YtngdhmliohjigaaDoorPLC2
import Derived.Test.YtngdhmliohjigaaDoorPLC3
import Derived.Test.YtngdhmliohjigaaDoorPLS0
import Derived.Test.YtngdhmliohjigaaDoorPLS1
import Derived.Test.YtngdhmliohjigaaDoorPLS2
namespace Go.Proofs.YtngdhmliohjigaaDoor
open Go.RowKit
theorem absV_le {n m : Int} (h : ¬ m < absV n) : -m ≤ n ∧ n ≤ m := by
  unfold absV at h
  split at h <;> omega
theorem pErr_zero {p q : Int} (p0 : -1000000 ≤ p) (p1 : p ≤ 1000000) (q0 : -1000000 ≤ q) (q1 : q ≤ 1000000) : pErr p q = 0 := by
  simp only [pErr, fst2, outErr]
  repeat' split
  all_goals omega
theorem sqV_bd {p q m : Int} (p0 : -m ≤ p) (p1 : p ≤ m) (q0 : -m ≤ q) (q1 : q ≤ m) : -(3 * (m * m)) ≤ sqV p q ∧ sqV p q ≤ 3 * (m * m) := by
  have h1 := mul_bd p0 p1 p0 p1
  have h2 := mul_bd p0 p1 q0 q1
  have h3 := mul_bd q0 q1 q0 q1
  unfold sqV
  omega
theorem phasors_any (p q r s : Int) (w : World) (ht : Tabs w) :
    Calls Tryd.prog 7 #[.agg #[.int .i64 p, .int .i64 q], .agg #[.int .i64 r, .int .i64 s]] w fun e w' => e = .returned (.bool true) ∧ Below w.heap.size w w' := by
  by_cases hA : pErr p q = 0
  · obtain ⟨p0, p1, q0, q1⟩ := pErr_val hA
    have KS := fun w => squareOf_ok p q w hA
    have KH := fun w ht => hoursOf_ok p q w hA ht
    have KE := fun w => rphasorErr_any p q w
    rw [hA] at KE
    have KO := fun w => rhours_all p q w p0 p1 q0 q1
    have KQ := fun w => rsquare_any p q w p0 p1 q0 q1
    by_cases hB : pErr r s = 0
    · obtain ⟨r0, r1, s0, s1⟩ := pErr_val hB
      have KP := fun w => product_ok p q r s w hA hB
      have KF := fun w => rphasorErr_any r s w
      rw [hB] at KF
      have KR := fun w => rproduct_any p q r s w p0 p1 q0 q1 r0 r1 s0 s1
      have Z0 := fun w => size_any p w p0 p1
      have Z1 := fun w => size_any q w q0 q1
      have Z2 := fun w => size_any r w r0 r1
      have Z3 := fun w => size_any s w s0 s1
      by_cases m0 : 1000 < absV p
      · exact phasors_c0 p q r s _ _ _ _ _ _ w ht m0 (Lib.hid KP) (Lib.hid KS) (Lib.hid KH) (Lib.hid KE) (Lib.hid KF) (Lib.hid KR) (Lib.hid KO) (Lib.hid KQ) (Lib.hid Z0)
      by_cases m1 : 1000 < absV q
      · exact phasors_c1 p q r s _ _ _ _ _ _ _ w ht m0 m1 (Lib.hid KP) (Lib.hid KS) (Lib.hid KH) (Lib.hid KE) (Lib.hid KF) (Lib.hid KR) (Lib.hid KO) (Lib.hid KQ) (Lib.hid Z0) (Lib.hid Z1)
      by_cases m2 : 300 < absV r
      · exact phasors_c2 p q r s _ _ _ _ _ _ _ _ w ht m0 m1 m2 (Lib.hid KP) (Lib.hid KS) (Lib.hid KH) (Lib.hid KE) (Lib.hid KF) (Lib.hid KR) (Lib.hid KO) (Lib.hid KQ) (Lib.hid Z0) (Lib.hid Z1) (Lib.hid Z2)
      by_cases m3 : 300 < absV s
      · exact phasors_c3 p q r s _ _ _ _ _ _ _ _ _ w ht m0 m1 m2 m3 (Lib.hid KP) (Lib.hid KS) (Lib.hid KH) (Lib.hid KE) (Lib.hid KF) (Lib.hid KR) (Lib.hid KO) (Lib.hid KQ) (Lib.hid Z0) (Lib.hid Z1) (Lib.hid Z2) (Lib.hid Z3)
      obtain ⟨pa, pb⟩ := absV_le m0
      obtain ⟨qa, qb⟩ := absV_le m1
      obtain ⟨ra, rb⟩ := absV_le m2
      obtain ⟨sa, sb⟩ := absV_le m3
      have e1 := mul_bd pa pb ra rb
      have e2 := mul_bd qa qb sa sb
      have e3 := mul_bd pa pb sa sb
      have e4 := mul_bd qa qb ra rb
      have hX : pErr (p * r - q * s) (p * s + q * r - q * s) = 0 := pErr_zero (by omega) (by omega) (by omega) (by omega)
      have hS := sq_prod p q r s
      have b1 := sqV_bd (m := 1000000) (show -1000000 ≤ (p * r - q * s) by omega) (show (p * r - q * s) ≤ 1000000 by omega) (show -1000000 ≤ (p * s + q * r - q * s) by omega) (show (p * s + q * r - q * s) ≤ 1000000 by omega)
      have wo : IntKind.i64.wrap (sqV p q * sqV r s) = sqV (p * r - q * s) (p * s + q * r - q * s) := by
        rw [← hS]
        exact IntWalk.i64_in _ (by omega)
      have KT := fun w => squareOf_ok r s w hB
      have KU := fun w => squareOf_ok (p * r - q * s) (p * s + q * r - q * s) w hX
      have KV := fun w ht => hoursOf_ok r s w hB ht
      have KW := fun w ht => hoursOf_ok (p * r - q * s) (p * s + q * r - q * s) w hX ht
      by_cases g1 : hourE p q = 0
      · by_cases g2 : hourE r s = 0
        · have d1 := hourE_ok g1
          have d2 := hourE_ok g2
          have d3 := dir_prod d1 d2
          have v1 := hourV_dir d3
          have v2 := hourE_dir d3
          have b2 := hour_bd p q
          have b3 := hour_bd r s
          rw [g1] at KH KO
          rw [g2] at KV
          rw [v2] at KW
          have KM : ∀ w, Calls Tryd.prog 36 #[.int .i64 (hourV p q + hourV r s), .int .i64 12] w fun e w' => e = .returned (.int .i64 (hourV (p * r - q * s) (p * s + q * r - q * s))) ∧ Below w.heap.size w w' := fun w => by
            rw [v1]
            exact (rmod_any _ 12 w (by decide) (by decide)).mono fun e w' ⟨he, hw⟩ => ⟨he, hw ▸ Below.refl _ _⟩
          exact phasors_s2 p q r s _ _ _ _ _ _ _ _ _ _ _ _ w ht m0 m1 m2 m3 wo b2.1 b2.2 b3.1 b3.2 (Lib.hid KP) (Lib.hid KS) (Lib.hid KH) (Lib.hid KE) (Lib.hid KF) (Lib.hid KR) (Lib.hid KO) (Lib.hid KQ) (Lib.hid Z0) (Lib.hid Z1) (Lib.hid Z2) (Lib.hid Z3) (Lib.hid KT) (Lib.hid KU) (Lib.hid KV) (Lib.hid KW) (Lib.hid KM)
        · have nE : (hourE r s != 0) = true := by simpa using g2
          rw [g1] at KH KO
          exact phasors_s1 p q r s _ _ _ _ _ _ _ _ _ _ _ _ _ _ w ht m0 m1 m2 m3 wo nE (Lib.hid KP) (Lib.hid KS) (Lib.hid KH) (Lib.hid KE) (Lib.hid KF) (Lib.hid KR) (Lib.hid KO) (Lib.hid KQ) (Lib.hid Z0) (Lib.hid Z1) (Lib.hid Z2) (Lib.hid Z3) (Lib.hid KT) (Lib.hid KU) (Lib.hid KV) (Lib.hid KW)
      · have nE : (hourE p q != 0) = true := by simpa using g1
        exact phasors_s0 p q r s _ _ _ _ _ _ _ _ _ _ _ _ _ _ _ w ht m0 m1 m2 m3 wo nE (Lib.hid KP) (Lib.hid KS) (Lib.hid KH) (Lib.hid KE) (Lib.hid KF) (Lib.hid KR) (Lib.hid KO) (Lib.hid KQ) (Lib.hid Z0) (Lib.hid Z1) (Lib.hid Z2) (Lib.hid Z3) (Lib.hid KT) (Lib.hid KU) (Lib.hid KV) (Lib.hid KW)
    · have ef : fst2 (pErr p q) (pErr r s) = pErr r s := by simp [fst2, hA]
      have KP := fun w => product_err p q r s w (by rw [ef]; exact hB)
      rw [ef] at KP
      exact phasors_b p q r s _ _ _ _ w ht (by simpa using hB) (by simpa using hB) (Lib.hid KP) (Lib.hid KS) (Lib.hid KH) (Lib.hid KE) (Lib.hid (fun w => rphasorErr_any r s w)) (Lib.hid KO) (Lib.hid KQ)
  · have ef : fst2 (pErr p q) (pErr r s) = pErr p q := by simp [fst2, hA]
    have KP := fun w => product_err p q r s w (by rw [ef]; exact hA)
    rw [ef] at KP
    exact phasors_a p q r s _ w ht (by simpa using hA) (by simpa using hA) (Lib.hid KP) (Lib.hid (fun w => squareOf_err p q w hA)) (Lib.hid (fun w _ => hoursOf_err p q w hA)) (Lib.hid (fun w => rphasorErr_any p q w))
end Go.Proofs.YtngdhmliohjigaaDoor
