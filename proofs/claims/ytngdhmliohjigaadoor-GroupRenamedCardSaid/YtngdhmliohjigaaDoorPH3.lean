/- The reference's hours of every phasor. -/
import Derived.Test.YtngdhmliohjigaaDoorPH2
namespace Go.Proofs.YtngdhmliohjigaaDoor
open Go.RowKit
set_option maxRecDepth 100000 in
set_option maxHeartbeats 4000000 in
theorem rhours_none (p q : Int) (w : World) (h : 0 < q) (p0 : -1000000 ≤ p) (p1 : p ≤ 1000000) (q1 : q ≤ 1000000) (a1 : ¬ p = 2 * q) (a2 : ¬ p = q) (a3 : ¬ q = 2 * p) (a4 : ¬ p = 0) (a5 : ¬ p = -q) :
    Calls Tryd.prog 40 #[.agg #[.int .i64 p, .int .i64 q]] w fun e w' => e = .returned (.tuple #[.int .i64 0, .int .i64 12]) ∧ Below w.heap.size w w' := by
  have hz : ¬ q = 0 := by omega
  by_cases hp : 0 < p
  all_goals
    go_enter Tryd.func40, Tryd.ntmps40
    go_wp2
    go_region
    go_wp2
    go_returns
    exact ⟨rfl, by go_grown⟩
set_option maxRecDepth 100000 in
set_option maxHeartbeats 4000000 in
theorem rhours_low (p q n e : Int) (w : World) (h : q < 0 ∨ q = 0 ∧ p < 0) (p0 : -1000000 ≤ p) (p1 : p ≤ 1000000) (q0 : -1000000 ≤ q) (n0 : 0 ≤ n) (n1 : n ≤ 11) (K : Hid (∀ w, Calls Tryd.prog 40 #[.agg #[.int .i64 (-p), .int .i64 (-q)]] w fun e1 w' => e1 = .returned (.tuple #[.int .i64 n, .int .i64 e]) ∧ Below w.heap.size w w')) :
    Calls Tryd.prog 40 #[.agg #[.int .i64 p, .int .i64 q]] w fun e1 w' => e1 = .returned (.tuple #[.int .i64 (if e = 0 then n + 6 else 0), .int .i64 e]) ∧ Below w.heap.size w w' := by
  have wp : IntKind.i64.wrap (-p) = -p := IntWalk.i64_in _ (by omega)
  have wq : IntKind.i64.wrap (-q) = -q := IntWalk.i64_in _ (by omega)
  by_cases he : e = 0
  · rw [if_pos he]
    obtain rfl := he
    by_cases hq : q < 0
    · clear h
      have hz : ¬ q = 0 := by omega
      go_enter Tryd.func40, Tryd.ntmps40
      go_wp2
      go_region
      go_wp2_with (go_at_call 40; refine (K.out _).mono ?_; rintro e1 w1 ⟨rfl, hb⟩; have qb : Below w.heap.size w w1 := belowT (by first | (go_grown; done) | exact And.left (by assumption)) hb; have qs := qb.size)
      all_goals go_returns
      all_goals exact ⟨rfl, by go_grown⟩
    · obtain ⟨rfl, hp⟩ : q = 0 ∧ p < 0 := by omega
      clear h hq
      have hz : ¬ p = 0 := by omega
      go_enter Tryd.func40, Tryd.ntmps40
      go_wp2
      go_region
      go_wp2_with (go_at_call 40; refine (K.out _).mono ?_; rintro e1 w1 ⟨rfl, hb⟩; have qb : Below w.heap.size w w1 := belowT (by first | (go_grown; done) | exact And.left (by assumption)) hb; have qs := qb.size)
      all_goals go_returns
      all_goals exact ⟨rfl, by go_grown⟩
  · rw [if_neg he]
    have te : (e != 0) = true := by simpa using he
    clear he
    by_cases hq : q < 0
    · clear h
      have hz : ¬ q = 0 := by omega
      go_enter Tryd.func40, Tryd.ntmps40
      go_wp2
      go_region
      go_wp2_with (go_at_call 40; refine (K.out _).mono ?_; rintro e1 w1 ⟨rfl, hb⟩; have qb : Below w.heap.size w w1 := belowT (by first | (go_grown; done) | exact And.left (by assumption)) hb; have qs := qb.size)
      all_goals go_returns
      all_goals exact ⟨rfl, by go_grown⟩
    · obtain ⟨rfl, hp⟩ : q = 0 ∧ p < 0 := by omega
      clear h hq
      have hz : ¬ p = 0 := by omega
      go_enter Tryd.func40, Tryd.ntmps40
      go_wp2
      go_region
      go_wp2_with (go_at_call 40; refine (K.out _).mono ?_; rintro e1 w1 ⟨rfl, hb⟩; have qb : Below w.heap.size w w1 := belowT (by first | (go_grown; done) | exact And.left (by assumption)) hb; have qs := qb.size)
      all_goals go_returns
      all_goals exact ⟨rfl, by go_grown⟩
theorem rhours_up (p q : Int) (w : World) (h : 0 < q ∨ q = 0 ∧ 0 < p) (p0 : -1000000 ≤ p) (p1 : p ≤ 1000000) (q1 : q ≤ 1000000) :
    Calls Tryd.prog 40 #[.agg #[.int .i64 p, .int .i64 q]] w fun e w' => e = .returned (.tuple #[.int .i64 (hourV p q), .int .i64 (hourE p q)]) ∧ Below w.heap.size w w' := by
  rcases ix_dir p q with hn | hd
  · have e1 : hourV p q = 0 := by unfold hourV; rw [if_pos hn]
    have e2 : hourE p q = 12 := by unfold hourE; rw [if_neg (by omega), if_pos hn]
    have no : ∀ i, ¬ Dir p q i := fun i hd => by
      have := dir_ix hd
      have := dir_bd hd
      omega
    rw [e1, e2]
    have hq : 0 < q := by
      rcases h with h | h
      · exact h
      · exact absurd (Dir.d0 h.2 h.1) (no _)
    refine rhours_none p q w hq p0 p1 q1 (fun e => no _ (Dir.d1 hq e)) (fun e => no _ (Dir.d2 hq e)) (fun e => no _ (Dir.d3 (by omega) e)) (fun e => no _ (Dir.d4 hq e)) (fun e => no _ (Dir.d5 hq e))
  · rw [hourV_dir hd, hourE_dir hd]
    generalize hourIx p q = i at hd
    rcases hd with ⟨rfl, a, rfl⟩ | ⟨rfl, a, rfl⟩ | ⟨rfl, a, rfl⟩ | ⟨rfl, a, rfl⟩ | ⟨rfl, a, rfl⟩ | ⟨rfl, a, rfl⟩ | ⟨rfl, a, b⟩ | ⟨rfl, a, b⟩ | ⟨rfl, a, b⟩ | ⟨rfl, a, b⟩ | ⟨rfl, a, b⟩ | ⟨rfl, a, b⟩
    · exact rhours_d0 p w a p1
    · exact rhours_d1 q w a q1
    · exact rhours_d2 _ w a q1
    · exact rhours_d3 p w a p1
    · exact rhours_d4 q w a q1
    · exact rhours_d5 q w a q1
    all_goals exact absurd h (by omega)
theorem up_bd {p q : Int} (h : 0 < q ∨ q = 0 ∧ 0 < p) : hourV p q ≤ 5 := by
  rcases ix_dir p q with hn | hd
  · unfold hourV; rw [if_pos hn]; decide
  · rw [hourV_dir hd]
    generalize hourIx p q = i at hd
    rcases hd with ⟨rfl, a, rfl⟩ | ⟨rfl, a, rfl⟩ | ⟨rfl, a, rfl⟩ | ⟨rfl, a, rfl⟩ | ⟨rfl, a, rfl⟩ | ⟨rfl, a, rfl⟩ | ⟨rfl, a, b⟩ | ⟨rfl, a, b⟩ | ⟨rfl, a, b⟩ | ⟨rfl, a, b⟩ | ⟨rfl, a, b⟩ | ⟨rfl, a, b⟩
    all_goals omega
theorem low_vals {p q : Int} (h : q < 0 ∨ q = 0 ∧ p < 0) : hourV p q = (if hourE (-p) (-q) = 0 then hourV (-p) (-q) + 6 else 0) ∧ hourE p q = hourE (-p) (-q) := by
  have hu : 0 < -q ∨ -q = 0 ∧ 0 < -p := by omega
  have ub := up_bd hu
  rcases ix_dir (-p) (-q) with hn | hd
  · have hn2 : hourIx p q = -1 := by
      rcases ix_dir p q with h1 | h1
      · exact h1
      · have h2 := dir_ix (neg_dir h1)
        have h3 := dir_bd h1
        omega
    have e2 : hourE (-p) (-q) = 12 := by unfold hourE; rw [if_neg (by omega), if_pos hn]
    have e4 : hourE p q = 12 := by unfold hourE; rw [if_neg (by omega), if_pos hn2]
    rw [e2, e4]
    exact ⟨by unfold hourV; rw [if_pos hn2]; rfl, rfl⟩
  · have h2 := neg_dir hd
    rw [Int.neg_neg, Int.neg_neg] at h2
    rw [hourV_dir h2, hourE_dir h2, hourE_dir hd, if_pos rfl]
    have h3 := hourV_dir hd
    have h4 := dir_bd hd
    rw [h3] at ub ⊢
    exact ⟨by omega, rfl⟩
theorem rhours_all (p q : Int) (w : World) (p0 : -1000000 ≤ p) (p1 : p ≤ 1000000) (q0 : -1000000 ≤ q) (q1 : q ≤ 1000000) :
    Calls Tryd.prog 40 #[.agg #[.int .i64 p, .int .i64 q]] w fun e w' => e = .returned (.tuple #[.int .i64 (hourV p q), .int .i64 (hourE p q)]) ∧ Below w.heap.size w w' := by
  by_cases hz : p = 0 ∧ q = 0
  · obtain ⟨rfl, rfl⟩ := hz
    exact rhours_zero w
  · by_cases hu : 0 < q ∨ q = 0 ∧ 0 < p
    · exact rhours_up p q w hu p0 p1 q1
    · have hl : q < 0 ∨ q = 0 ∧ p < 0 := by omega
      obtain ⟨e1, e2⟩ := low_vals hl
      rw [e1, e2]
      have b := hour_bd (-p) (-q)
      exact rhours_low p q _ _ w hl p0 p1 q0 b.1 b.2 (Lib.hid (fun w => rhours_up (-p) (-q) w (by omega) (by omega) (by omega) (by omega)))
end Go.Proofs.YtngdhmliohjigaaDoor
