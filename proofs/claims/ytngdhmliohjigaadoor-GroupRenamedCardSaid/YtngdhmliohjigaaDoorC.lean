/- Contracts of turns: group's own and the reference's. -/
import Derived.Test.YtngdhmliohjigaaDoorA
import Derived.Lib.Hide
namespace Go.Proofs.YtngdhmliohjigaaDoor
open Go.RowKit

theorem mod_lemma (n m : Int) (h3 : 1 ≤ m) (h4 : m ≤ 1000000000000) :
    (wrap64 (n.tmod m + m)).tmod m = n % m := by
  have a1 := Int.tmod_lt_of_pos n (show 0 < m by omega)
  have a2 : -m < n.tmod m := by
    rcases Int.le_total 0 n with h | h
    · have := Int.tmod_nonneg m h; omega
    · have h5 := Int.tmod_lt_of_pos (-n) (show 0 < m by omega)
      rw [Int.neg_tmod] at h5; omega
  rw [IntWalk.wrap64_in _ ⟨by omega, by omega⟩]
  rw [Int.tmod_eq_emod_of_nonneg (by omega)]
  rw [Int.add_emod_right]
  have hm : (0 : Int) < m := by omega
  have e := Int.mul_tdiv_add_tmod n m
  have e2 : n.tmod m = n - m * (n.tdiv m) := by omega
  rw [e2, Int.sub_mul_emod_self_left]
set_option maxHeartbeats 400000 in
theorem modulo_any (n m : Int) (w : World) (h3 : 1 ≤ m) (h4 : m ≤ 1000000000000) :
    Calls Tryd.prog 107 #[.int .i64 n, .int .i64 m] w fun e w' => e = .returned (.int .i64 (n % m)) ∧ w = w' := by
  have hm := mod_lemma n m h3 h4
  have H := Lib.hid hm
  clear hm
  go_enter Tryd.func107, Tryd.ntmps107
  go_wp2
  go_ret
  exact ⟨by rw [H.out]; rfl, rfl⟩

/-- A turn, and then another one. -/
def thenH (h k : Int) (n : Bool) : Int := if n then (k - h) % 12 else (k + h) % 12
set_option maxHeartbeats 400000 in
theorem then_any (h k : Int) (m n : Bool) (w : World) (h0 : 0 ≤ h) (h1 : h ≤ 11) (k0 : 0 ≤ k) (k1 : k ≤ 11) :
    Calls Tryd.prog 106 #[.agg #[.int .i64 h, .bool m], .agg #[.int .i64 k, .bool n]] w fun e w' => e = .returned (.agg #[.int .i64 (thenH h k n), .bool (m ^^ n)]) ∧ Below w.heap.size w w' := by
  have e1 : IntKind.i64.wrap (k + h) = k + h := IntWalk.i64_in _ (by omega)
  have e2 : IntKind.i64.wrap (k - h) = k - h := IntWalk.i64_in _ (by omega)
  cases n
  · go_enter Tryd.func106, Tryd.ntmps106
    go_wp2_with fail
    go_region_held3 (fun W : World => W.cell? ⟨w.heap.size, 0, none⟩ = some (.int .i64 h) ∧ W.cell? ⟨w.heap.size, 1, none⟩ = some (.bool m) ∧ W.cell? ⟨w.heap.size + 1, 0, none⟩ = some (.int .i64 k)) (go_simp) (first | (go_at_call 107; refine (modulo_any _ _ _ (by omega) (by omega)).mono ?_; rintro e w' ⟨rfl, rfl⟩))
    go_wp2
    go_returns
    exact ⟨by simp [thenH], by go_grown⟩
  · go_enter Tryd.func106, Tryd.ntmps106
    go_wp2_with fail
    go_region_held3 (fun W : World => W.cell? ⟨w.heap.size, 0, none⟩ = some (.int .i64 h) ∧ W.cell? ⟨w.heap.size, 1, none⟩ = some (.bool m) ∧ W.cell? ⟨w.heap.size + 1, 0, none⟩ = some (.int .i64 k)) (go_simp) (first | (go_at_call 107; refine (modulo_any _ _ _ (by omega) (by omega)).mono ?_; rintro e w' ⟨rfl, rfl⟩))
    go_wp2
    go_returns
    exact ⟨by simp [thenH], by go_grown⟩

theorem thenH_bd (h k : Int) (n : Bool) : 0 ≤ thenH h k n ∧ thenH h k n ≤ 11 := by
  unfold thenH; split <;> omega

set_option maxHeartbeats 1000000 in
theorem composed_ok (h k : Int) (m n : Bool) (w : World) (h0 : 0 ≤ h) (h1 : h ≤ 11) (k0 : 0 ≤ k) (k1 : k ≤ 11) :
    Calls Tryd.prog 54 #[.agg #[.int .i64 h, .bool m], .agg #[.int .i64 k, .bool n]] w fun e w' => e = .returned (.tuple #[.agg #[.int .i64 (thenH h k n), .bool (m ^^ n)], .int .i64 0]) ∧ Below w.heap.size w w' := by
  have ht : (fst2 (outErr 0 11 h) (outErr 0 11 k) != 0) = false := by
    simp [fst2, outErr]; omega
  go_enter Tryd.func54, Tryd.ntmps54
  go_wp2_with fail
  go_region_held3 (fun W : World => Below w.heap.size w W ∧ w.heap.size + 1 + 1 < W.heap.size ∧ W.cell? ⟨w.heap.size, 0, none⟩ = some (.int .i64 h) ∧ W.cell? ⟨w.heap.size, 1, none⟩ = some (.bool m) ∧ W.cell? ⟨w.heap.size + 1, 0, none⟩ = some (.int .i64 k) ∧ W.cell? ⟨w.heap.size + 1, 1, none⟩ = some (.bool n) ∧ W.cell? ⟨w.heap.size + 1 + 1, 0, none⟩ = some (.int .i64 0) ∧ W.cell? ⟨w.heap.size + 1 + 1, 1, none⟩ = some (.bool false) ∧ W.frozen? ⟨w.heap.size + 1 + 1, 0, none⟩ = false ∧ W.frozen? ⟨w.heap.size + 1 + 1, 1, none⟩ = false) ((repeat' apply And.intro) <;> (first | (with_reducible assumption) | (refine belowT ?_ ‹_›; first | (go_grown; done) | exact And.left (by assumption)) | (refine belowT (And.left (by assumption)) ?_; go_grown; done) | (go_simp; done) | exact keep1 ‹_› (by first | (go_simp; done) | (go_keep; done)) | (go_keep; done) | omega | (go_grown; done) | (refine Nat.lt_of_lt_of_le ?_ (Below.size ‹_›); first | omega | (simp; done)) | exact keepF ‹_› (by first | omega | (simp; done)) (by first | (go_simp; done) | (go_keep; done)) | (simp; omega))) (first | (go_at_call 105; refine (checkTurn_any _ _ _).mono ?_; rintro e w1 ⟨rfl, hb⟩) | (go_at_call 84; refine (firstOf2 _ _ _ (outErr 0 11 h) (outErr 0 11 k) _ ?_ ?_).mono ?_; go_simp; go_simp; rintro e w1 ⟨rfl, rfl⟩))
  go_wp2_with (go_at_call 106; refine (then_any _ _ _ _ _ (by omega) (by omega) (by omega) (by omega)).mono ?_; rintro e w3 ⟨rfl, hb3⟩; have qb : Below w.heap.size w w3 := belowT (by first | (go_grown; done) | exact And.left (by assumption)) hb3; have qz : w.heap.size + 1 + 1 < w3.heap.size := Nat.lt_of_lt_of_le (by first | omega | (simp; done)) hb3.size; have q0 : w3.cell? ⟨w.heap.size + 1 + 1, 0, none⟩ = some (.int .i64 0) := keep1 hb3 (by first | (go_simp; done) | (go_keep; done)); have q1 : w3.cell? ⟨w.heap.size + 1 + 1, 1, none⟩ = some (.bool false) := keep1 hb3 (by first | (go_simp; done) | (go_keep; done)); have qf2 : w3.frozen? ⟨w.heap.size + 1 + 1, 0, none⟩ = false := keepF hb3 (by first | omega | (simp; done)) (by first | (go_simp; done) | (go_keep; done)); have qf3 : w3.frozen? ⟨w.heap.size + 1 + 1, 1, none⟩ = false := keepF hb3 (by first | omega | (simp; done)) (by first | (go_simp; done) | (go_keep; done)))
  have r0 := seto (b' := w.heap.size + 1 + 1) (o' := 1) (.bool (m ^^ n)) (by omega) (setc (.int .i64 (thenH h k n)) q0)
  have r1 := setc (.bool (m ^^ n)) (seto (b' := w.heap.size + 1 + 1) (o' := 0) (.int .i64 (thenH h k n)) (by omega) q1)
  refine bodyPost_ret (by simp [results, Tryd.results54, go_sem, r0, r1]; try rfl) rfl ?_
  exact ⟨by rfl, by go_grown⟩
set_option maxHeartbeats 1000000 in
theorem composed_err (h k : Int) (m n : Bool) (w : World) (he : fst2 (outErr 0 11 h) (outErr 0 11 k) ≠ 0) :
    Calls Tryd.prog 54 #[.agg #[.int .i64 h, .bool m], .agg #[.int .i64 k, .bool n]] w fun e w' => e = .returned (.tuple #[.agg #[.int .i64 0, .bool false], .int .i64 (fst2 (outErr 0 11 h) (outErr 0 11 k))]) ∧ Below w.heap.size w w' := by
  have ht : (fst2 (outErr 0 11 h) (outErr 0 11 k) != 0) = true := by
    simpa using he
  clear he
  go_enter Tryd.func54, Tryd.ntmps54
  go_wp2_with fail
  go_region_held3 (fun W : World => Below w.heap.size w W ∧ w.heap.size + 1 + 1 < W.heap.size ∧ W.cell? ⟨w.heap.size, 0, none⟩ = some (.int .i64 h) ∧ W.cell? ⟨w.heap.size, 1, none⟩ = some (.bool m) ∧ W.cell? ⟨w.heap.size + 1, 0, none⟩ = some (.int .i64 k) ∧ W.cell? ⟨w.heap.size + 1, 1, none⟩ = some (.bool n) ∧ W.cell? ⟨w.heap.size + 1 + 1, 0, none⟩ = some (.int .i64 0) ∧ W.cell? ⟨w.heap.size + 1 + 1, 1, none⟩ = some (.bool false) ∧ W.frozen? ⟨w.heap.size + 1 + 1, 0, none⟩ = false ∧ W.frozen? ⟨w.heap.size + 1 + 1, 1, none⟩ = false) ((repeat' apply And.intro) <;> (first | (with_reducible assumption) | (refine belowT ?_ ‹_›; first | (go_grown; done) | exact And.left (by assumption)) | (refine belowT (And.left (by assumption)) ?_; go_grown; done) | (go_simp; done) | exact keep1 ‹_› (by first | (go_simp; done) | (go_keep; done)) | (go_keep; done) | omega | (go_grown; done) | (refine Nat.lt_of_lt_of_le ?_ (Below.size ‹_›); first | omega | (simp; done)) | exact keepF ‹_› (by first | omega | (simp; done)) (by first | (go_simp; done) | (go_keep; done)) | (simp; omega))) (first | (go_at_call 105; refine (checkTurn_any _ _ _).mono ?_; rintro e w1 ⟨rfl, hb⟩) | (go_at_call 84; refine (firstOf2 _ _ _ (outErr 0 11 h) (outErr 0 11 k) _ ?_ ?_).mono ?_; go_simp; go_simp; rintro e w1 ⟨rfl, rfl⟩))
  obtain ⟨qb, qz, q0, q1, q2, q3, q4, q5, qf6, qf7⟩ := (by assumption : Below w.heap.size w _ ∧ _)
  go_wp2
  have r0 := seto (b' := w.heap.size + 1 + 1) (o' := 1) (.bool false) (by omega) (setc (.int .i64 0) q4)
  have r1 := setc (.bool false) (seto (b' := w.heap.size + 1 + 1) (o' := 0) (.int .i64 0) (by omega) q5)
  refine bodyPost_ret (by simp [results, Tryd.results54, go_sem, r0, r1]; try rfl) rfl ?_
  exact ⟨by rfl, by go_grown⟩
end Go.Proofs.YtngdhmliohjigaaDoor
