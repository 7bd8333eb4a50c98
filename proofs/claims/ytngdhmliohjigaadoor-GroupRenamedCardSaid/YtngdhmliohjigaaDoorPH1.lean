/- Contracts of phasors: squares, products, their errors. -/
import Derived.Test.YtngdhmliohjigaaDoorG
import Derived.Test.YtngdhmliohjigaaDoorHM
import Derived.IntWalk
namespace Go.Proofs.YtngdhmliohjigaaDoor
open Go.RowKit
set_option maxHeartbeats 1000000 in
theorem square_any (p q : Int) (w : World) (p0 : -1000000 ≤ p) (p1 : p ≤ 1000000) (q0 : -1000000 ≤ q) (q1 : q ≤ 1000000) :
    Calls Tryd.prog 91 #[.agg #[.int .i64 p, .int .i64 q]] w fun e w' => e = .returned (.int .i64 (sqV p q)) ∧ Below w.heap.size w w' := by
  have ea := mul_bd p0 p1 p0 p1
  have eb := mul_bd p0 p1 q0 q1
  have ec := mul_bd q0 q1 q0 q1
  have es : p * p - p * q + q * q = sqV p q := rfl
  generalize ha : p * p = a at ea es
  generalize hb : p * q = b at eb es
  generalize hc : q * q = c at ec es
  have wa : IntKind.i64.wrap (p * p) = a := by rw [ha]; exact IntWalk.i64_in _ (by omega)
  have wb : IntKind.i64.wrap (p * q) = b := by rw [hb]; exact IntWalk.i64_in _ (by omega)
  have wc : IntKind.i64.wrap (q * q) = c := by rw [hc]; exact IntWalk.i64_in _ (by omega)
  have wd : IntKind.i64.wrap (a - b) = a - b := IntWalk.i64_in _ (by omega)
  have we : IntKind.i64.wrap (a - b + c) = a - b + c := IntWalk.i64_in _ (by omega)
  have Hs := Lib.hid es
  clear ea eb ec es ha hb hc
  go_enter Tryd.func91, Tryd.ntmps91
  go_wp2
  go_returns
  exact ⟨by rw [← Hs.out]; rfl, by go_grown⟩
set_option maxHeartbeats 1000000 in
theorem rsquare_any (p q : Int) (w : World) (p0 : -1000000 ≤ p) (p1 : p ≤ 1000000) (q0 : -1000000 ≤ q) (q1 : q ≤ 1000000) :
    Calls Tryd.prog 35 #[.agg #[.int .i64 p, .int .i64 q]] w fun e w' => e = .returned (.int .i64 (sqV p q)) ∧ Below w.heap.size w w' := by
  have ea := mul_bd p0 p1 p0 p1
  have eb := mul_bd p0 p1 q0 q1
  have ec := mul_bd q0 q1 q0 q1
  have es : p * p - p * q + q * q = sqV p q := rfl
  generalize ha : p * p = a at ea es
  generalize hb : p * q = b at eb es
  generalize hc : q * q = c at ec es
  have wa : IntKind.i64.wrap (p * p) = a := by rw [ha]; exact IntWalk.i64_in _ (by omega)
  have wb : IntKind.i64.wrap (p * q) = b := by rw [hb]; exact IntWalk.i64_in _ (by omega)
  have wc : IntKind.i64.wrap (q * q) = c := by rw [hc]; exact IntWalk.i64_in _ (by omega)
  have wd : IntKind.i64.wrap (a - b) = a - b := IntWalk.i64_in _ (by omega)
  have we : IntKind.i64.wrap (a - b + c) = a - b + c := IntWalk.i64_in _ (by omega)
  have Hs := Lib.hid es
  clear ea eb ec es ha hb hc
  go_enter Tryd.func35, Tryd.ntmps35
  go_wp2
  go_returns
  exact ⟨by rw [← Hs.out]; rfl, by go_grown⟩
set_option maxHeartbeats 2000000 in
theorem times_any (p q r s : Int) (w : World) (p0 : -1000000 ≤ p) (p1 : p ≤ 1000000) (q0 : -1000000 ≤ q) (q1 : q ≤ 1000000) (r0 : -1000000 ≤ r) (r1 : r ≤ 1000000) (s0 : -1000000 ≤ s) (s1 : s ≤ 1000000) :
    Calls Tryd.prog 97 #[.agg #[.int .i64 p, .int .i64 q], .agg #[.int .i64 r, .int .i64 s]] w fun e w' => e = .returned (.agg #[.int .i64 (p * r - q * s), .int .i64 (p * s + q * r - q * s)]) ∧ Below w.heap.size w w' := by
  have ea := mul_bd p0 p1 r0 r1
  have eb := mul_bd q0 q1 s0 s1
  have ec := mul_bd p0 p1 s0 s1
  have ed := mul_bd q0 q1 r0 r1
  generalize ha : p * r = a at ea
  generalize hb : q * s = b at eb
  generalize hc : p * s = c at ec
  generalize hd : q * r = d at ed
  have wa : IntKind.i64.wrap (p * r) = a := by rw [ha]; exact IntWalk.i64_in _ (by omega)
  have wb : IntKind.i64.wrap (q * s) = b := by rw [hb]; exact IntWalk.i64_in _ (by omega)
  have wc : IntKind.i64.wrap (p * s) = c := by rw [hc]; exact IntWalk.i64_in _ (by omega)
  have wd : IntKind.i64.wrap (q * r) = d := by rw [hd]; exact IntWalk.i64_in _ (by omega)
  have we : IntKind.i64.wrap (a - b) = a - b := IntWalk.i64_in _ (by omega)
  have wf : IntKind.i64.wrap (c + d) = c + d := IntWalk.i64_in _ (by omega)
  have wg : IntKind.i64.wrap (c + d - b) = c + d - b := IntWalk.i64_in _ (by omega)
  clear ea eb ec ed ha hb hc hd
  go_enter Tryd.func97, Tryd.ntmps97
  go_wp2
  go_returns
  exact ⟨by rfl, by go_grown⟩
set_option maxHeartbeats 2000000 in
theorem rproduct_any (p q r s : Int) (w : World) (p0 : -1000000 ≤ p) (p1 : p ≤ 1000000) (q0 : -1000000 ≤ q) (q1 : q ≤ 1000000) (r0 : -1000000 ≤ r) (r1 : r ≤ 1000000) (s0 : -1000000 ≤ s) (s1 : s ≤ 1000000) :
    Calls Tryd.prog 39 #[.agg #[.int .i64 p, .int .i64 q], .agg #[.int .i64 r, .int .i64 s]] w fun e w' => e = .returned (.agg #[.int .i64 (p * r - q * s), .int .i64 (p * s + q * r - q * s)]) ∧ Below w.heap.size w w' := by
  have ea := mul_bd p0 p1 r0 r1
  have eb := mul_bd q0 q1 s0 s1
  have ec := mul_bd p0 p1 s0 s1
  have ed := mul_bd q0 q1 r0 r1
  generalize ha : p * r = a at ea
  generalize hb : q * s = b at eb
  generalize hc : p * s = c at ec
  generalize hd : q * r = d at ed
  have wa : IntKind.i64.wrap (p * r) = a := by rw [ha]; exact IntWalk.i64_in _ (by omega)
  have wb : IntKind.i64.wrap (q * s) = b := by rw [hb]; exact IntWalk.i64_in _ (by omega)
  have wc : IntKind.i64.wrap (p * s) = c := by rw [hc]; exact IntWalk.i64_in _ (by omega)
  have wd : IntKind.i64.wrap (q * r) = d := by rw [hd]; exact IntWalk.i64_in _ (by omega)
  have we : IntKind.i64.wrap (a - b) = a - b := IntWalk.i64_in _ (by omega)
  have wf : IntKind.i64.wrap (c + d) = c + d := IntWalk.i64_in _ (by omega)
  have wg : IntKind.i64.wrap (c + d - b) = c + d - b := IntWalk.i64_in _ (by omega)
  clear ea eb ec ed ha hb hc hd
  go_enter Tryd.func39, Tryd.ntmps39
  go_wp2
  go_returns
  exact ⟨by rfl, by go_grown⟩
/-- The error of a phasor. -/
def pErr (p q : Int) : Int := fst2 (outErr (-1000000) 1000000 p) (outErr (-1000000) 1000000 q)
theorem pErr_val {p q : Int} (h : pErr p q = 0) : -1000000 ≤ p ∧ p ≤ 1000000 ∧ -1000000 ≤ q ∧ q ≤ 1000000 := by
  simp only [pErr, fst2, outErr] at h
  repeat' split at h
  all_goals omega
theorem pErr_bd (p q : Int) : pErr p q = 0 ∨ pErr p q = 2 := by
  simp only [pErr, fst2, outErr]
  repeat' split
  all_goals omega
set_option maxHeartbeats 1000000 in
theorem rphasorErr_any (p q : Int) (w : World) :
    Calls Tryd.prog 38 #[.agg #[.int .i64 p, .int .i64 q]] w fun e w' => e = .returned (.int .i64 (pErr p q)) ∧ Below w.heap.size w w' := by
  by_cases hp : -1000000 ≤ p ∧ p ≤ 1000000
  · have b1 : withinB p (-1000000) 1000000 = true := by simp [withinB, hp]
    by_cases hq : -1000000 ≤ q ∧ q ≤ 1000000
    · have b2 : withinB q (-1000000) 1000000 = true := by simp [withinB, hq]
      have H := Lib.hid (show pErr p q = 0 by simp only [pErr, fst2, outErr]; repeat' split <;> omega)
      clear hp hq
      go_enter Tryd.func38, Tryd.ntmps38
      go_wp2_with (go_at_call 27; refine (rwithin_any _ _ _ _).mono ?_; rintro e w1 ⟨rfl, rfl⟩)
      go_returns
      exact ⟨by rw [H.out]; rfl, by go_grown⟩
    · have b2 : withinB q (-1000000) 1000000 = false := by simp [withinB]; omega
      have H := Lib.hid (show pErr p q = 2 by simp only [pErr, fst2, outErr]; repeat' split <;> omega)
      clear hp hq
      go_enter Tryd.func38, Tryd.ntmps38
      go_wp2_with (go_at_call 27; refine (rwithin_any _ _ _ _).mono ?_; rintro e w1 ⟨rfl, rfl⟩)
      go_returns
      exact ⟨by rw [H.out]; rfl, by go_grown⟩
  · have b1 : withinB p (-1000000) 1000000 = false := by simp [withinB]; omega
    have H := Lib.hid (show pErr p q = 2 by simp only [pErr, fst2, outErr]; repeat' split <;> omega)
    clear hp
    go_enter Tryd.func38, Tryd.ntmps38
    go_wp2_with (go_at_call 27; refine (rwithin_any _ _ _ _).mono ?_; rintro e w1 ⟨rfl, rfl⟩)
    go_returns
    exact ⟨by rw [H.out]; rfl, by go_grown⟩
end Go.Proofs.YtngdhmliohjigaaDoor
