/- Contracts of currents' parts. -/
import Derived.Test.YtngdhmliohjigaaDoorO
import Derived.Test.YtngdhmliohjigaaDoorH
import Derived.Laws.EntriesVeiled
namespace Go.Proofs.YtngdhmliohjigaaDoor
open Go.RowKit

set_option maxHeartbeats 1000000 in
theorem checkPhasor_any (p q : Int) (w : World) :
    Calls Tryd.prog 90 #[.agg #[.int .i64 p, .int .i64 q]] w fun e w' => e = .returned (.int .i64 (fst2 (outErr (-1000000) 1000000 p) (outErr (-1000000) 1000000 q))) ∧ Below w.heap.size w w' := by
  go_enter Tryd.func90, Tryd.ntmps90
  go_wp2_with fail
  go_region_held3 (fun W : World => Below w.heap.size w W ∧ W.cell? ⟨w.heap.size, 0, none⟩ = some (.int .i64 p) ∧ W.cell? ⟨w.heap.size, 1, none⟩ = some (.int .i64 q)) ((repeat' apply And.intro) <;> (first | (with_reducible assumption) | (refine belowT ?_ ‹_›; first | (go_grown; done) | exact And.left (by assumption)) | (refine belowT (And.left (by assumption)) ?_; go_grown; done) | (go_simp; done) | exact keep1 ‹_› (by first | (go_simp; done) | (go_keep; done)) | (go_keep; done) | omega | (go_grown; done) | (refine Nat.lt_of_lt_of_le ?_ (Below.size ‹_›); first | omega | (simp; done)) | exact keepF ‹_› (by first | omega | (simp; done)) (by first | (go_simp; done) | (go_keep; done)) | (simp; omega) | (simp only [World.size_alloc, World.size_drew, World.size_setCell] at *; omega))) (first | (go_at_call 95; refine (sized_any _ _ (by omega) (by omega)).mono ?_; rintro e w1 ⟨rfl, rfl⟩) | (go_at_call 139; refine (within2_any _ _ _ _ _ p q (-1000000) 1000000 _ ?_ ?_ ?_ ?_).mono ?_; (focus ((repeat' (first | (go_simp; done) | (with_reducible assumption) | refine keep1 ‹_› ?_ | refine allocC ?_ | refine drewC ?_)); done)); (focus ((repeat' (first | (go_simp; done) | (with_reducible assumption) | refine keep1 ‹_› ?_ | refine allocC ?_ | refine drewC ?_)); done)); (focus ((repeat' (first | (go_simp; done) | (with_reducible assumption) | refine keep1 ‹_› ?_ | refine allocC ?_ | refine drewC ?_)); done)); (focus ((repeat' (first | (go_simp; done) | (with_reducible assumption) | refine keep1 ‹_› ?_ | refine allocC ?_ | refine drewC ?_)); done)); rintro e w1 ⟨rfl, rfl⟩))
  all_goals (go_wp2; go_returns; exact ⟨rfl, by first | (go_grown; done) | exact And.left (by assumption)⟩)
def formErr (n d : Int) : Int := if d ≤ 0 ∨ Int.gcd n d ≠ 1 then 3 else 0
set_option maxHeartbeats 1000000 in
theorem checkForm_any (n d : Int) (w : World) (n0 : -1000000000000000000 ≤ n) (n1 : n ≤ 1000000000000000000) (d1 : d ≤ 1000000000000000000) :
    Calls Tryd.prog 146 #[.agg #[.int .i64 n, .int .i64 d]] w fun e w' => e = .returned (.int .i64 (formErr n d)) ∧ Below w.heap.size w w' := by
  by_cases hd : d ≤ 0
  · go_enter Tryd.func146, Tryd.ntmps146
    go_wp2
    go_returns
    exact ⟨by simp [formErr, hd], by go_grown⟩
  · by_cases hg : Int.gcd n d = 1
    · have tg : (((Int.gcd n d : Nat) : Int) != 1) = false := by simp [hg]
      have Hg := Lib.hid hg
      clear hg
      go_enter Tryd.func146, Tryd.ntmps146
      go_wp2_with fail
      go_wp2_with (go_at_call 141; refine (divisor_any _ _ _ (by omega) (by omega) (by omega) (by omega)).mono ?_; rintro e w1 ⟨rfl, hb⟩; have qb := belowT (w := w) (by go_grown) hb)
      go_returns
      exact ⟨by simp [formErr, hd, Hg.out], qb⟩
    · have tg : (((Int.gcd n d : Nat) : Int) != 1) = true := by simp; omega
      have Hg := Lib.hid hg
      clear hg
      go_enter Tryd.func146, Tryd.ntmps146
      go_wp2_with fail
      go_wp2_with (go_at_call 141; refine (divisor_any _ _ _ (by omega) (by omega) (by omega) (by omega)).mono ?_; rintro e w1 ⟨rfl, hb⟩; have qb := belowT (w := w) (by go_grown) hb)
      go_returns
      exact ⟨by simp [formErr, Hg.out], qb⟩
set_option maxHeartbeats 1000000 in
theorem parts_any (w : World) :
    Calls Tryd.prog 116 #[] w fun e w' => e = .returned (.agg #[.func (.func 147) #[] #[], .func (.func 148) #[] #[], .func (.func 149) #[] #[], .func (.func 150) #[] #[]]) ∧ Below w.heap.size w w' := by
  go_enter Tryd.func116, Tryd.ntmps116
  go_wp2
  go_returns
  exact ⟨rfl, by go_grown⟩
set_option maxHeartbeats 1000000 in
theorem checkSize_any (n d : Int) (w : World) :
    Calls Tryd.prog 118 #[.agg #[.int .i64 n, .int .i64 d]] w fun e w' => e = .returned (.int .i64 (fst2 (outErr (-1000000000) 1000000000 n) (outErr (-1000000000) 1000000000 d))) ∧ Below w.heap.size w w' := by
  go_enter Tryd.func118, Tryd.ntmps118
  go_wp2_with fail
  go_region_held3 (fun W : World => Below w.heap.size w W ∧ W.cell? ⟨w.heap.size, 0, none⟩ = some (.int .i64 n) ∧ W.cell? ⟨w.heap.size, 1, none⟩ = some (.int .i64 d)) ((repeat' apply And.intro) <;> (first | (with_reducible assumption) | (refine belowT ?_ ‹_›; first | (go_grown; done) | exact And.left (by assumption)) | (refine belowT (And.left (by assumption)) ?_; go_grown; done) | (go_simp; done) | exact keep1 ‹_› (by first | (go_simp; done) | (go_keep; done)) | (go_keep; done) | omega | (go_grown; done) | (refine Nat.lt_of_lt_of_le ?_ (Below.size ‹_›); first | omega | (simp; done)) | exact keepF ‹_› (by first | omega | (simp; done)) (by first | (go_simp; done) | (go_keep; done)) | (simp; omega) | (simp only [World.size_alloc, World.size_drew, World.size_setCell] at *; omega))) (first | (go_at_call 95; refine (sized_any _ _ (by omega) (by omega)).mono ?_; rintro e w1 ⟨rfl, rfl⟩) | (go_at_call 139; refine (within2_any _ _ _ _ _ n d (-1000000000) 1000000000 _ ?_ ?_ ?_ ?_).mono ?_; (focus ((repeat' (first | (go_simp; done) | (with_reducible assumption) | refine keep1 ‹_› ?_ | refine allocC ?_ | refine drewC ?_)); done)); (focus ((repeat' (first | (go_simp; done) | (with_reducible assumption) | refine keep1 ‹_› ?_ | refine allocC ?_ | refine drewC ?_)); done)); (focus ((repeat' (first | (go_simp; done) | (with_reducible assumption) | refine keep1 ‹_› ?_ | refine allocC ?_ | refine drewC ?_)); done)); (focus ((repeat' (first | (go_simp; done) | (with_reducible assumption) | refine keep1 ‹_› ?_ | refine allocC ?_ | refine drewC ?_)); done)); rintro e w1 ⟨rfl, rfl⟩))
  all_goals (go_wp2; go_returns; exact ⟨rfl, by first | (go_grown; done) | exact And.left (by assumption)⟩)
set_option maxHeartbeats 1000000 in
theorem reduced_any (n d : Int) (w : World) (n0 : -1000000000000000000 ≤ n) (n1 : n ≤ 1000000000000000000) (d0 : 1 ≤ d) (d1 : d ≤ 1000000000000000000) :
    Calls Tryd.prog 144 #[.int .i64 n, .int .i64 d] w fun e w' => e = .returned (.agg #[.int .i64 (n.tdiv (Int.gcd n d)), .int .i64 (d / (Int.gcd n d))]) ∧ Below w.heap.size w w' := by
  go_enter Tryd.func144, Tryd.ntmps144
  go_wp2_with (go_at_call 141; refine (divisor_any _ _ _ (by omega) (by omega) (by omega) (by omega)).mono ?_; rintro e w1 ⟨rfl, hb⟩; have qb : Below w.heap.size w w1 := belowT (by first | (go_grown; done) | exact And.left (by assumption)) hb; have qz : w.heap.size < w1.heap.size := Nat.lt_of_lt_of_le (by first | omega | (simp; done) | (simp; omega)) hb.size; have q0 : w1.cell? ⟨w.heap.size, 0, none⟩ = some (.int .i64 0) := keep1 hb (by first | (go_simp; done) | (go_keep; done)); have q1 : w1.cell? ⟨w.heap.size, 1, none⟩ = some (.int .i64 0) := keep1 hb (by first | (go_simp; done) | (go_keep; done)); have qf2 : w1.frozen? ⟨w.heap.size, 0, none⟩ = false := keepF hb (by first | omega | (simp; done) | (simp; omega)) (by first | (go_simp; done) | (go_keep; done)); have qf3 : w1.frozen? ⟨w.heap.size, 1, none⟩ = false := keepF hb (by first | omega | (simp; done) | (simp; omega)) (by first | (go_simp; done) | (go_keep; done)))
  have g0 : ¬ ((Int.gcd n d : Nat) : Int) = 0 := by
    have := Int.gcd_pos_of_ne_zero_right n (show d ≠ 0 by omega)
    omega
  go_region
  go_wp2
  have c0 := seto (b' := w.heap.size) (o' := 1) (.int .i64 (d / (Int.gcd n d))) (by omega) (setc (.int .i64 (n.tdiv (Int.gcd n d))) q0)
  have c1 := setc (.int .i64 (d / (Int.gcd n d))) (seto (b' := w.heap.size) (o' := 0) (.int .i64 (n.tdiv (Int.gcd n d))) (by omega) q1)
  refine bodyPost_ret (by simp [results, Tryd.results144, go_sem, c0, c1]; try rfl) rfl ?_
  exact ⟨rfl, by go_grown⟩
end Go.Proofs.YtngdhmliohjigaaDoor
