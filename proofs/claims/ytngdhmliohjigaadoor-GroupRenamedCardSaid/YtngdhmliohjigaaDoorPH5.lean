/- Products of phasors, checked; sizes of numbers. -/
import Derived.Test.YtngdhmliohjigaaDoorPH4
namespace Go.Proofs.YtngdhmliohjigaaDoor
open Go.RowKit
set_option maxHeartbeats 2000000 in
theorem product_ok (p q r s : Int) (w : World) (h1 : pErr p q = 0) (h2 : pErr r s = 0) :
    Calls Tryd.prog 37 #[.agg #[.int .i64 p, .int .i64 q], .agg #[.int .i64 r, .int .i64 s]] w fun e w' => e = .returned (.tuple #[.agg #[.int .i64 (p * r - q * s), .int .i64 (p * s + q * r - q * s)], .int .i64 0]) ∧ Below w.heap.size w w' := by
  have ht : (fst2 (pErr p q) (pErr r s) != 0) = false := by
    simp [fst2, h1, h2]
  obtain ⟨a0, a1, a2, a3⟩ := pErr_val h1
  obtain ⟨b0, b1, b2, b3⟩ := pErr_val h2
  have Hp := Lib.hid (fun (w : World) => times_any p q r s w a0 a1 a2 a3 b0 b1 b2 b3)
  clear h1 h2
  go_enter Tryd.func37, Tryd.ntmps37
  go_wp2_with fail
  go_region_held3 (fun W : World => Below w.heap.size w W ∧ w.heap.size + 1 + 1 < W.heap.size ∧ W.cell? ⟨w.heap.size, 0, none⟩ = some (.int .i64 p) ∧ W.cell? ⟨w.heap.size, 1, none⟩ = some (.int .i64 q) ∧ W.cell? ⟨w.heap.size + 1, 0, none⟩ = some (.int .i64 r) ∧ W.cell? ⟨w.heap.size + 1, 1, none⟩ = some (.int .i64 s) ∧ W.cell? ⟨w.heap.size + 1 + 1, 0, none⟩ = some (.int .i64 0) ∧ W.cell? ⟨w.heap.size + 1 + 1, 1, none⟩ = some (.int .i64 0) ∧ W.frozen? ⟨w.heap.size + 1 + 1, 0, none⟩ = false ∧ W.frozen? ⟨w.heap.size + 1 + 1, 1, none⟩ = false) ((repeat' apply And.intro) <;> (first | (with_reducible assumption) | (refine belowT ?_ ‹_›; first | (go_grown; done) | exact And.left (by assumption)) | (refine belowT (And.left (by assumption)) ?_; go_grown; done) | (go_simp; done) | exact keep1 ‹_› (by first | (go_simp; done) | (go_keep; done)) | (go_keep; done) | omega | (go_grown; done) | (refine Nat.lt_of_lt_of_le ?_ (Below.size ‹_›); first | omega | (simp; done)) | exact keepF ‹_› (by first | omega | (simp; done)) (by first | (go_simp; done) | (go_keep; done)) | (simp; omega) | (simp only [World.size_alloc, World.size_drew, World.size_setCell] at *; omega))) (first | (go_at_call 90; refine (checkPhasor_all _ _ _).mono ?_; rintro e w1 ⟨rfl, hb⟩) | (go_at_call 84; refine (firstOf2 _ _ _ (pErr p q) (pErr r s) _ ?_ ?_).mono ?_; go_simp; go_simp; rintro e w1 ⟨rfl, rfl⟩))
  go_wp2_with (go_at_call 97; refine (Hp.out _).mono ?_; rintro e w3 ⟨rfl, hb3⟩; have qb : Below w.heap.size w w3 := belowT (by first | (go_grown; done) | exact And.left (by assumption)) hb3; have qz : w.heap.size + 1 + 1 < w3.heap.size := Nat.lt_of_lt_of_le (by first | omega | (simp; done) | (simp; omega)) hb3.size; have q0 : w3.cell? ⟨w.heap.size + 1 + 1, 0, none⟩ = some (.int .i64 0) := keep1 hb3 (by first | (with_reducible assumption) | (go_simp; done) | ((repeat' (first | (with_reducible assumption) | refine allocC ?_ | refine drewC ?_)); done) | (go_keep; done)); have q1 : w3.cell? ⟨w.heap.size + 1 + 1, 1, none⟩ = some (.int .i64 0) := keep1 hb3 (by first | (with_reducible assumption) | (go_simp; done) | ((repeat' (first | (with_reducible assumption) | refine allocC ?_ | refine drewC ?_)); done) | (go_keep; done)); have qf2 : w3.frozen? ⟨w.heap.size + 1 + 1, 0, none⟩ = false := keepF hb3 (by first | omega | (simp; done) | (simp; omega)) (by first | (with_reducible assumption) | (go_simp; done) | ((repeat' (first | (with_reducible assumption) | refine allocF ?_ ?_ | omega | (simp only [World.size_alloc, World.size_drew]; omega))); done)); have qf3 : w3.frozen? ⟨w.heap.size + 1 + 1, 1, none⟩ = false := keepF hb3 (by first | omega | (simp; done) | (simp; omega)) (by first | (with_reducible assumption) | (go_simp; done) | ((repeat' (first | (with_reducible assumption) | refine allocF ?_ ?_ | omega | (simp only [World.size_alloc, World.size_drew]; omega))); done)); have ql0 : w.heap.size < w3.heap.size := (by omega); have ql1 : w.heap.size + 1 < w3.heap.size := (by omega))
  have r0 := seto (b' := w.heap.size + 1 + 1) (o' := 1) (.int .i64 (p * s + q * r - q * s)) (by omega) (setc (.int .i64 (p * r - q * s)) q0)
  have r1 := setc (.int .i64 (p * s + q * r - q * s)) (seto (b' := w.heap.size + 1 + 1) (o' := 0) (.int .i64 (p * r - q * s)) (by omega) q1)
  refine bodyPost_ret (by simp [results, Tryd.results37, go_sem, r0, r1]; try rfl) rfl ?_
  exact ⟨by rfl, by go_grown⟩
set_option maxHeartbeats 2000000 in
theorem product_err (p q r s : Int) (w : World) (he : fst2 (pErr p q) (pErr r s) ≠ 0) :
    Calls Tryd.prog 37 #[.agg #[.int .i64 p, .int .i64 q], .agg #[.int .i64 r, .int .i64 s]] w fun e w' => e = .returned (.tuple #[.agg #[.int .i64 0, .int .i64 0], .int .i64 (fst2 (pErr p q) (pErr r s))]) ∧ Below w.heap.size w w' := by
  have ht : (fst2 (pErr p q) (pErr r s) != 0) = true := by
    simpa using he
  clear he
  go_enter Tryd.func37, Tryd.ntmps37
  go_wp2_with fail
  go_region_held3 (fun W : World => Below w.heap.size w W ∧ w.heap.size + 1 + 1 < W.heap.size ∧ W.cell? ⟨w.heap.size, 0, none⟩ = some (.int .i64 p) ∧ W.cell? ⟨w.heap.size, 1, none⟩ = some (.int .i64 q) ∧ W.cell? ⟨w.heap.size + 1, 0, none⟩ = some (.int .i64 r) ∧ W.cell? ⟨w.heap.size + 1, 1, none⟩ = some (.int .i64 s) ∧ W.cell? ⟨w.heap.size + 1 + 1, 0, none⟩ = some (.int .i64 0) ∧ W.cell? ⟨w.heap.size + 1 + 1, 1, none⟩ = some (.int .i64 0) ∧ W.frozen? ⟨w.heap.size + 1 + 1, 0, none⟩ = false ∧ W.frozen? ⟨w.heap.size + 1 + 1, 1, none⟩ = false) ((repeat' apply And.intro) <;> (first | (with_reducible assumption) | (refine belowT ?_ ‹_›; first | (go_grown; done) | exact And.left (by assumption)) | (refine belowT (And.left (by assumption)) ?_; go_grown; done) | (go_simp; done) | exact keep1 ‹_› (by first | (go_simp; done) | (go_keep; done)) | (go_keep; done) | omega | (go_grown; done) | (refine Nat.lt_of_lt_of_le ?_ (Below.size ‹_›); first | omega | (simp; done)) | exact keepF ‹_› (by first | omega | (simp; done)) (by first | (go_simp; done) | (go_keep; done)) | (simp; omega) | (simp only [World.size_alloc, World.size_drew, World.size_setCell] at *; omega))) (first | (go_at_call 90; refine (checkPhasor_all _ _ _).mono ?_; rintro e w1 ⟨rfl, hb⟩) | (go_at_call 84; refine (firstOf2 _ _ _ (pErr p q) (pErr r s) _ ?_ ?_).mono ?_; go_simp; go_simp; rintro e w1 ⟨rfl, rfl⟩))
  obtain ⟨qb, qz, q0, q1, q2, q3, q4, q5, qf6, qf7⟩ := (by assumption : Below w.heap.size w _ ∧ _)
  go_wp2
  have r0 := seto (b' := w.heap.size + 1 + 1) (o' := 1) (.int .i64 0) (by omega) (setc (.int .i64 0) q4)
  have r1 := setc (.int .i64 0) (seto (b' := w.heap.size + 1 + 1) (o' := 0) (.int .i64 0) (by omega) q5)
  refine bodyPost_ret (by simp [results, Tryd.results37, go_sem, r0, r1]; try rfl) rfl ?_
  exact ⟨by rfl, by go_grown⟩
/-- A number without its sign. -/
def absV (n : Int) : Int := if n < 0 then -n else n
theorem size_any (n : Int) (w : World) (n0 : -1000000 ≤ n) (n1 : n ≤ 1000000) :
    Calls Tryd.prog 41 #[.int .i64 n] w fun e w' => e = .returned (.int .i64 (absV n)) ∧ Below w.heap.size w w' := by
  by_cases hn : n < 0
  · go_enter Tryd.func41, Tryd.ntmps41
    go_wp2
    all_goals go_returns
    all_goals exact ⟨by first | (simp [absV, hn]; done) | omega, by go_grown⟩
  · go_enter Tryd.func41, Tryd.ntmps41
    go_wp2
    all_goals go_returns
    all_goals exact ⟨by (simp [absV]; omega), by go_grown⟩
end Go.Proofs.YtngdhmliohjigaaDoor
