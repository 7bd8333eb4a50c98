/- Windings: the other loops. -/
import Derived.Test.YtngjoconcgakpaaDoorDW4
set_option linter.unusedVariables false
set_option linter.unusedSimpArgs false
set_option linter.unusedSectionVars false
set_option linter.unnecessarySimpa false
namespace Go.Proofs.YtngjoconcgakpaaDoor
open Go.Ev Go.RowKit
set_option maxRecDepth 100000
noncomputable section
theorem within_t {n lo hi : Int} (W : Con 13 [.int .i64 n, .int .i64 lo, .int .i64 hi] (.bool (decide (lo ≤ n) && decide (n ≤ hi)))) (h : lo ≤ n ∧ n ≤ hi) : Con 13 [.int .i64 n, .int .i64 lo, .int .i64 hi] (.bool true) := con_val W (by simp [h.1, h.2])
theorem swap_lt {nb new n : Nat} (h : n < nb) : swapTo nb new n = n := by
  unfold swapTo
  split
  · rename_i e
    have := Nat.eq_of_beq_eq_true e
    omega
  · rfl
theorem discs_take (t d n : Nat) : (discs t d n).take (n * 1) = discs t d n := List.take_of_length_le (by rw [discs_len]; omega)
def F30a (t d : Nat) (c g : Int) : Nat → List AV × AHeap
  | 0 => S30a0 t d c g
  | n + 1 => S30a t d c g (n + 1) ((n + 1 : Nat) : Int) (discs t d (n + 1))
def F30b (t d : Nat) (c g : Int) : Nat → List AV × AHeap
  | 0 => S30b0 t d c g
  | n + 1 => S30b t d c g (n + 1) ((n + 1 : Nat) : Int) (discs t d (n + 1))
section
variable {t d : Nat} {c g : Int} (h1 : 1 ≤ d) (h5 : d ≤ 500) (hdt : d ≤ t) (ht : t ≤ 10000)
include h1 h5 hdt ht
theorem step30a (i : Nat) (hi : i < d) : Step (ctx [(30, 9), (30, 23), (30, 1000029)] []) Tabs 30 (loopAt 30) 29 55 29 noFrame (F30a t d c g i) (F30a t d c g (i + 1)) .normal := by
  have hw : IntKind.i64.wrap ((i : Int) + 1) = ((i + 1 : Nat) : Int) := by rw [wrapI _ (by omega) (by omega)]; rfl
  have hq := quo_eq h1 h5 hdt ht
  have hql := quo_le h1 h5 hdt ht
  have hq0 : (0 : Int) ≤ ((t / d : Nat) : Int) := Int.natCast_nonneg _
  have hm : (t : Int).tmod (d : Int) = ((t % d : Nat) : Int) := rfl
  have hd0 : ((d : Int) == 0) = false := by rw [beq_eq_false_iff_ne]; omega
  by_cases hr : i < t % d
  · have hv : (.int .i64 (IntKind.i64.wrap (IntKind.i64.wrap ((t : Int).tdiv (d : Int)) + 1)) : Value) = .int .i64 (dsc t d i) := by
      rw [hq]
      unfold dsc
      rw [if_pos hr, wrapI _ (by omega) (by omega)]
    cases i with
    | zero =>
      refine mk_step (S2' := S30a t d c g 1 (IntKind.i64.wrap (0 + 1)) [.int .i64 (IntKind.i64.wrap (IntKind.i64.wrap ((t : Int).tdiv (d : Int)) + 1))])
        (J := J30) (q := swapTo 54 56) (fuel := 400) (ora := [true, true]) (vals := []) (calls := [])
        (conds := [(decide ((0 : Int) < (d : Int)), true), ((d : Int) == 0, false), ((d : Int) == 0, false), (decide ((0 : Int) < (t : Int).tmod (d : Int)), true), (fact (True ∧ 0 < 0 + 1 ∧ (0 + 1) * 8 ≤ 140737488355328 ∧ 0 + 1 ≤ 4611686018427387904), true)])
        _ rfl (by kernel_rfl) (by kernel_rfl) (by kernel_rfl) (by kernel_rfl) (fun n hn => swap_lt (by omega)) (by kernel_rfl) ?_ ?_ trivial
      · rw [hv]
        show _ = S30a t d c g (0 + 1) ((0 + 1 : Nat) : Int) (discs t d (0 + 1))
        rw [discs_succ]
        rfl
      · exact ⟨by simpa using hi, hd0, hd0, by rw [hm]; exact decide_eq_true (Int.ofNat_lt.2 hr), fact_mk ⟨trivial, by omega, by omega, by omega⟩, trivial⟩
    | succ n =>
      refine mk_step (S2' := S30a t d c g (n + 1 + 1) (IntKind.i64.wrap (((n + 1 : Nat) : Int) + 1)) ((discs t d (n + 1)).take ((n + 1) * 1) ++ [.int .i64 (IntKind.i64.wrap (IntKind.i64.wrap ((t : Int).tdiv (d : Int)) + 1))]))
        (J := J30) (q := swapTo 54 56) (fuel := 400) (ora := [true, true]) (vals := []) (calls := [])
        (conds := [(decide (((n + 1 : Nat) : Int) < (d : Int)), true), ((d : Int) == 0, false), ((d : Int) == 0, false), (decide (((n + 1 : Nat) : Int) < (t : Int).tmod (d : Int)), true),
          (fact (True ∧ (∀ u ∈ [(.int .i64 (IntKind.i64.wrap (IntKind.i64.wrap ((t : Int).tdiv (d : Int)) + 1)) : Value)], u.oneCell' = true) ∧ (n + 1) * 1 ≤ (discs t d (n + 1)).length ∧ (n + 1 + (0 + 1)) * 8 ≤ 140737488355328 ∧ n + 1 + (0 + 1) ≤ 4611686018427387904), true)])
        _ rfl (by kernel_rfl) (by kernel_rfl) (by kernel_rfl) (by kernel_rfl) (fun n hn => swap_lt (by omega)) (by kernel_rfl) ?_ ?_ trivial
      · rw [hv, hw, discs_take, ← discs_succ]
        rfl
      · refine ⟨decide_eq_true (Int.ofNat_lt.2 hi), hd0, hd0, by rw [hm]; exact decide_eq_true (Int.ofNat_lt.2 hr), fact_mk ⟨trivial, fun u hu => ?_, by rw [discs_len]; omega, by omega, by omega⟩, trivial⟩
        rw [List.mem_singleton.1 hu]
        rfl
  · have hv : (.int .i64 (IntKind.i64.wrap ((t : Int).tdiv (d : Int))) : Value) = .int .i64 (dsc t d i) := by
      rw [hq]
      unfold dsc
      rw [if_neg hr]
    cases i with
    | zero =>
      refine mk_step (S2' := S30a t d c g 1 (IntKind.i64.wrap (0 + 1)) [.int .i64 (IntKind.i64.wrap ((t : Int).tdiv (d : Int)))])
        (J := J30) (q := swapTo 54 56) (fuel := 400) (ora := [true, false]) (vals := []) (calls := [])
        (conds := [(decide ((0 : Int) < (d : Int)), true), ((d : Int) == 0, false), ((d : Int) == 0, false), (decide ((0 : Int) < (t : Int).tmod (d : Int)), false), (fact (True ∧ 0 < 0 + 1 ∧ (0 + 1) * 8 ≤ 140737488355328 ∧ 0 + 1 ≤ 4611686018427387904), true)])
        _ rfl (by kernel_rfl) (by kernel_rfl) (by kernel_rfl) (by kernel_rfl) (fun n hn => swap_lt (by omega)) (by kernel_rfl) ?_ ?_ trivial
      · rw [hv]
        show _ = S30a t d c g (0 + 1) ((0 + 1 : Nat) : Int) (discs t d (0 + 1))
        rw [discs_succ]
        rfl
      · exact ⟨by simpa using hi, hd0, hd0, by rw [hm]; exact decide_eq_false fun h => hr (Int.ofNat_lt.1 h), fact_mk ⟨trivial, by omega, by omega, by omega⟩, trivial⟩
    | succ n =>
      refine mk_step (S2' := S30a t d c g (n + 1 + 1) (IntKind.i64.wrap (((n + 1 : Nat) : Int) + 1)) ((discs t d (n + 1)).take ((n + 1) * 1) ++ [.int .i64 (IntKind.i64.wrap ((t : Int).tdiv (d : Int)))]))
        (J := J30) (q := swapTo 54 56) (fuel := 400) (ora := [true, false]) (vals := []) (calls := [])
        (conds := [(decide (((n + 1 : Nat) : Int) < (d : Int)), true), ((d : Int) == 0, false), ((d : Int) == 0, false), (decide (((n + 1 : Nat) : Int) < (t : Int).tmod (d : Int)), false),
          (fact (True ∧ (∀ u ∈ [(.int .i64 (IntKind.i64.wrap ((t : Int).tdiv (d : Int))) : Value)], u.oneCell' = true) ∧ (n + 1) * 1 ≤ (discs t d (n + 1)).length ∧ (n + 1 + (0 + 1)) * 8 ≤ 140737488355328 ∧ n + 1 + (0 + 1) ≤ 4611686018427387904), true)])
        _ rfl (by kernel_rfl) (by kernel_rfl) (by kernel_rfl) (by kernel_rfl) (fun n hn => swap_lt (by omega)) (by kernel_rfl) ?_ ?_ trivial
      · rw [hv, hw, discs_take, ← discs_succ]
        rfl
      · refine ⟨decide_eq_true (Int.ofNat_lt.2 hi), hd0, hd0, by rw [hm]; exact decide_eq_false fun h => hr (Int.ofNat_lt.1 h), fact_mk ⟨trivial, fun u hu => ?_, by rw [discs_len]; omega, by omega, by omega⟩, trivial⟩
        rw [List.mem_singleton.1 hu]
        rfl
theorem last30a : Step (ctx [(30, 9), (30, 23), (30, 1000029)] []) Tabs 30 (loopAt 30) 29 55 29 noFrame (F30a t d c g d) (S30a t d c g d (d : Int) (discs t d d)) (.exit 0) := by
  obtain ⟨n, rfl⟩ : ∃ n, d = n + 1 := ⟨d - 1, by omega⟩
  exact mk_step (S2' := S30a t (n + 1) c g (n + 1) ((n + 1 : Nat) : Int) (discs t (n + 1) (n + 1))) (J := J30) (q := fun n => n) (fuel := 400) (ora := [false]) (vals := []) (calls := [])
      (conds := [(decide (((n + 1 : Nat) : Int) < ((n + 1 : Nat) : Int)), false)])
      _ rfl (by kernel_rfl) (by kernel_rfl) (by kernel_rfl) (by kernel_rfl) (fun _ _ => rfl) (by kernel_rfl) rfl ⟨by simp, trivial⟩ trivial
theorem ends30a (ora ora' : List Bool) (vals vals' : List Value) : LoopEnds (ctx [] []) Tabs (loopAt 30) ⟨(E30a t d c g).1, (E30a t d c g).2, 29, ora, ⟨vals, noFrame⟩⟩ (.exit 0) ⟨(S30a t d c g d (d : Int) (discs t d d)).1, (S30a t d c g d (d : Int) (discs t d d)).2, 55, ora', ⟨vals', noFrame⟩⟩ 29 :=
  loop_nat (good _ [(30, 9), (30, 23), (30, 1000029)] [] rfl) (f := 30) 0 (F30a t d c g) (S30a t d c g d (d : Int) (discs t d d)) d (by omega) (by kernel_rfl) rfl ⟨rfl, fun h => by cases h⟩ (Nat.zero_le _)
    (fun i _ hi => step30a h1 h5 hdt ht i hi) (last30a h1 h5 hdt ht) (by kernel_rfl) (q := fun n => n) (a := junkAt 29 J30 (E30a t d c g).1) (by kernel_rfl) (sub_of (by kernel_rfl) (by kernel_rfl) (by kernel_rfl) (fun _ _ => rfl) (by kernel_rfl)) (keeps_of (by kernel_rfl)) _ _ _ _
theorem step30b (i : Nat) (hi : i < d) : Step (ctx [(30, 9), (30, 23), (30, 1000029)] []) Tabs 30 (loopAt 30) 94 120 94 noFrame (F30b t d c g i) (F30b t d c g (i + 1)) .normal := by
  have hw : IntKind.i64.wrap ((i : Int) + 1) = ((i + 1 : Nat) : Int) := by rw [wrapI _ (by omega) (by omega)]; rfl
  have hq := quo_eq h1 h5 hdt ht
  have hql := quo_le h1 h5 hdt ht
  have hq0 : (0 : Int) ≤ ((t / d : Nat) : Int) := Int.natCast_nonneg _
  have hm : (t : Int).tmod (d : Int) = ((t % d : Nat) : Int) := rfl
  have hd0 : ((d : Int) == 0) = false := by rw [beq_eq_false_iff_ne]; omega
  by_cases hr : i < t % d
  · have hv : (.int .i64 (IntKind.i64.wrap (IntKind.i64.wrap ((t : Int).tdiv (d : Int)) + 1)) : Value) = .int .i64 (dsc t d i) := by
      rw [hq]
      unfold dsc
      rw [if_pos hr, wrapI _ (by omega) (by omega)]
    cases i with
    | zero =>
      refine mk_step (S2' := S30b t d c g 1 (IntKind.i64.wrap (0 + 1)) [.int .i64 (IntKind.i64.wrap (IntKind.i64.wrap ((t : Int).tdiv (d : Int)) + 1))])
        (J := J30) (q := swapTo 119 121) (fuel := 400) (ora := [true, true]) (vals := []) (calls := [])
        (conds := [(decide ((0 : Int) < (d : Int)), true), ((d : Int) == 0, false), ((d : Int) == 0, false), (decide ((0 : Int) < (t : Int).tmod (d : Int)), true), (fact (True ∧ 0 < 0 + 1 ∧ (0 + 1) * 8 ≤ 140737488355328 ∧ 0 + 1 ≤ 4611686018427387904), true)])
        _ rfl (by kernel_rfl) (by kernel_rfl) (by kernel_rfl) (by kernel_rfl) (fun n hn => swap_lt (by omega)) (by kernel_rfl) ?_ ?_ trivial
      · rw [hv]
        show _ = S30b t d c g (0 + 1) ((0 + 1 : Nat) : Int) (discs t d (0 + 1))
        rw [discs_succ]
        rfl
      · exact ⟨by simpa using hi, hd0, hd0, by rw [hm]; exact decide_eq_true (Int.ofNat_lt.2 hr), fact_mk ⟨trivial, by omega, by omega, by omega⟩, trivial⟩
    | succ n =>
      refine mk_step (S2' := S30b t d c g (n + 1 + 1) (IntKind.i64.wrap (((n + 1 : Nat) : Int) + 1)) ((discs t d (n + 1)).take ((n + 1) * 1) ++ [.int .i64 (IntKind.i64.wrap (IntKind.i64.wrap ((t : Int).tdiv (d : Int)) + 1))]))
        (J := J30) (q := swapTo 119 121) (fuel := 400) (ora := [true, true]) (vals := []) (calls := [])
        (conds := [(decide (((n + 1 : Nat) : Int) < (d : Int)), true), ((d : Int) == 0, false), ((d : Int) == 0, false), (decide (((n + 1 : Nat) : Int) < (t : Int).tmod (d : Int)), true),
          (fact (True ∧ (∀ u ∈ [(.int .i64 (IntKind.i64.wrap (IntKind.i64.wrap ((t : Int).tdiv (d : Int)) + 1)) : Value)], u.oneCell' = true) ∧ (n + 1) * 1 ≤ (discs t d (n + 1)).length ∧ (n + 1 + (0 + 1)) * 8 ≤ 140737488355328 ∧ n + 1 + (0 + 1) ≤ 4611686018427387904), true)])
        _ rfl (by kernel_rfl) (by kernel_rfl) (by kernel_rfl) (by kernel_rfl) (fun n hn => swap_lt (by omega)) (by kernel_rfl) ?_ ?_ trivial
      · rw [hv, hw, discs_take, ← discs_succ]
        rfl
      · refine ⟨decide_eq_true (Int.ofNat_lt.2 hi), hd0, hd0, by rw [hm]; exact decide_eq_true (Int.ofNat_lt.2 hr), fact_mk ⟨trivial, fun u hu => ?_, by rw [discs_len]; omega, by omega, by omega⟩, trivial⟩
        rw [List.mem_singleton.1 hu]
        rfl
  · have hv : (.int .i64 (IntKind.i64.wrap ((t : Int).tdiv (d : Int))) : Value) = .int .i64 (dsc t d i) := by
      rw [hq]
      unfold dsc
      rw [if_neg hr]
    cases i with
    | zero =>
      refine mk_step (S2' := S30b t d c g 1 (IntKind.i64.wrap (0 + 1)) [.int .i64 (IntKind.i64.wrap ((t : Int).tdiv (d : Int)))])
        (J := J30) (q := swapTo 119 121) (fuel := 400) (ora := [true, false]) (vals := []) (calls := [])
        (conds := [(decide ((0 : Int) < (d : Int)), true), ((d : Int) == 0, false), ((d : Int) == 0, false), (decide ((0 : Int) < (t : Int).tmod (d : Int)), false), (fact (True ∧ 0 < 0 + 1 ∧ (0 + 1) * 8 ≤ 140737488355328 ∧ 0 + 1 ≤ 4611686018427387904), true)])
        _ rfl (by kernel_rfl) (by kernel_rfl) (by kernel_rfl) (by kernel_rfl) (fun n hn => swap_lt (by omega)) (by kernel_rfl) ?_ ?_ trivial
      · rw [hv]
        show _ = S30b t d c g (0 + 1) ((0 + 1 : Nat) : Int) (discs t d (0 + 1))
        rw [discs_succ]
        rfl
      · exact ⟨by simpa using hi, hd0, hd0, by rw [hm]; exact decide_eq_false fun h => hr (Int.ofNat_lt.1 h), fact_mk ⟨trivial, by omega, by omega, by omega⟩, trivial⟩
    | succ n =>
      refine mk_step (S2' := S30b t d c g (n + 1 + 1) (IntKind.i64.wrap (((n + 1 : Nat) : Int) + 1)) ((discs t d (n + 1)).take ((n + 1) * 1) ++ [.int .i64 (IntKind.i64.wrap ((t : Int).tdiv (d : Int)))]))
        (J := J30) (q := swapTo 119 121) (fuel := 400) (ora := [true, false]) (vals := []) (calls := [])
        (conds := [(decide (((n + 1 : Nat) : Int) < (d : Int)), true), ((d : Int) == 0, false), ((d : Int) == 0, false), (decide (((n + 1 : Nat) : Int) < (t : Int).tmod (d : Int)), false),
          (fact (True ∧ (∀ u ∈ [(.int .i64 (IntKind.i64.wrap ((t : Int).tdiv (d : Int))) : Value)], u.oneCell' = true) ∧ (n + 1) * 1 ≤ (discs t d (n + 1)).length ∧ (n + 1 + (0 + 1)) * 8 ≤ 140737488355328 ∧ n + 1 + (0 + 1) ≤ 4611686018427387904), true)])
        _ rfl (by kernel_rfl) (by kernel_rfl) (by kernel_rfl) (by kernel_rfl) (fun n hn => swap_lt (by omega)) (by kernel_rfl) ?_ ?_ trivial
      · rw [hv, hw, discs_take, ← discs_succ]
        rfl
      · refine ⟨decide_eq_true (Int.ofNat_lt.2 hi), hd0, hd0, by rw [hm]; exact decide_eq_false fun h => hr (Int.ofNat_lt.1 h), fact_mk ⟨trivial, fun u hu => ?_, by rw [discs_len]; omega, by omega, by omega⟩, trivial⟩
        rw [List.mem_singleton.1 hu]
        rfl
theorem last30b : Step (ctx [(30, 9), (30, 23), (30, 1000029)] []) Tabs 30 (loopAt 30) 94 120 94 noFrame (F30b t d c g d) (S30b t d c g d (d : Int) (discs t d d)) (.exit 0) := by
  obtain ⟨n, rfl⟩ : ∃ n, d = n + 1 := ⟨d - 1, by omega⟩
  exact mk_step (S2' := S30b t (n + 1) c g (n + 1) ((n + 1 : Nat) : Int) (discs t (n + 1) (n + 1))) (J := J30) (q := fun n => n) (fuel := 400) (ora := [false]) (vals := []) (calls := [])
      (conds := [(decide (((n + 1 : Nat) : Int) < ((n + 1 : Nat) : Int)), false)])
      _ rfl (by kernel_rfl) (by kernel_rfl) (by kernel_rfl) (by kernel_rfl) (fun _ _ => rfl) (by kernel_rfl) rfl ⟨by simp, trivial⟩ trivial
theorem ends30b (ora ora' : List Bool) (vals vals' : List Value) : LoopEnds (ctx [] []) Tabs (loopAt 30) ⟨(E30b t d c g).1, (E30b t d c g).2, 94, ora, ⟨vals, noFrame⟩⟩ (.exit 0) ⟨(S30b t d c g d (d : Int) (discs t d d)).1, (S30b t d c g d (d : Int) (discs t d d)).2, 120, ora', ⟨vals', noFrame⟩⟩ 94 :=
  loop_nat (good _ [(30, 9), (30, 23), (30, 1000029)] [] rfl) (f := 30) 0 (F30b t d c g) (S30b t d c g d (d : Int) (discs t d d)) d (by omega) (by kernel_rfl) rfl ⟨rfl, fun h => by cases h⟩ (Nat.zero_le _)
    (fun i _ hi => step30b h1 h5 hdt ht i hi) (last30b h1 h5 hdt ht) (by kernel_rfl) (q := fun n => n) (a := junkAt 94 J30 (E30b t d c g).1) (by kernel_rfl) (sub_of (by kernel_rfl) (by kernel_rfl) (by kernel_rfl) (fun _ _ => rfl) (by kernel_rfl)) (keeps_of (by kernel_rfl)) _ _ _ _
theorem step14 (i : Nat) (hi : i < d) : Step (ctx [(14, 14), (14, 25)] []) Tabs 14 (loopAt 14) 55 70 55 noFrame (S14 t d c g (i : Int)) (S14 t d c g ((i + 1 : Nat) : Int)) .normal := by
  have hw : IntKind.i64.wrap ((i : Int) + 1) = ((i + 1 : Nat) : Int) := by rw [wrapI _ (by omega) (by omega)]; rfl
  have hs : 0 + (i : Int).toNat * 1 = i := by simp
  refine mk_step (S2' := S14 t d c g (IntKind.i64.wrap ((i : Int) + 1))) (J := J14) (q := fun n => n) (fuel := 400) (ora := [true, false]) (vals := [.int .i64 (dsc t d i), .int .i64 (dsc t d i)]) (calls := [])
      (conds := [(decide ((i : Int) < (d : Int)), true), (fact (0 ≤ (i : Int) ∧ (i : Int).toNat < d), true), (fact ((discs t d d)[0 + (i : Int).toNat * 1]? = some (.int .i64 (dsc t d i))), true), (fact (0 ≤ (i : Int) ∧ (i : Int).toNat < d), true), (fact ((discs t d d)[0 + (i : Int).toNat * 1]? = some (.int .i64 (dsc t d i))), true), (dsc t d i != dsc t d i, false)])
      _ rfl (by kernel_rfl) (by kernel_rfl) (by kernel_rfl) (by kernel_rfl) (fun _ _ => rfl) (by kernel_rfl) (by rw [hw]) ?_ trivial
  exact ⟨by simpa using hi, fact_mk (by omega), fact_mk (by rw [hs]; exact discs_get hi), fact_mk (by omega), fact_mk (by rw [hs]; exact discs_get hi), by simp, trivial⟩
theorem last14 : Step (ctx [(14, 14), (14, 25)] []) Tabs 14 (loopAt 14) 55 70 55 noFrame (S14 t d c g (d : Int)) (S14 t d c g (d : Int)) (.exit 0) :=
  mk_step (S2' := S14 t d c g (d : Int)) (J := J14) (q := fun n => n) (fuel := 400) (ora := [false]) (vals := []) (calls := []) (conds := [(decide ((d : Int) < (d : Int)), false)])
      _ rfl (by kernel_rfl) (by kernel_rfl) (by kernel_rfl) (by kernel_rfl) (fun _ _ => rfl) (by kernel_rfl) rfl ⟨by simp, trivial⟩ trivial
theorem ends14 (ora ora' : List Bool) (vals vals' : List Value) : LoopEnds (ctx [] []) Tabs (loopAt 14) ⟨(E14 t d c g).1, (E14 t d c g).2, 55, ora, ⟨vals, noFrame⟩⟩ (.exit 0) ⟨(S14 t d c g (d : Int)).1, (S14 t d c g (d : Int)).2, 70, ora', ⟨vals', noFrame⟩⟩ 55 :=
  loop_nat (good _ [(14, 14), (14, 25)] [] rfl) (f := 14) 0 (fun i => S14 t d c g (i : Int)) (S14 t d c g (d : Int)) d (by omega) (by kernel_rfl) rfl ⟨rfl, fun h => by cases h⟩ (Nat.zero_le _)
    (fun i _ hi => step14 h1 h5 hdt ht i hi) (last14 h1 h5 hdt ht) (by kernel_rfl) (q := fun n => n) (a := junkAt 55 J14 (E14 t d c g).1) (by kernel_rfl) (sub_of (by kernel_rfl) (by kernel_rfl) (by kernel_rfl) (fun _ _ => rfl) (by kernel_rfl)) (keeps_of (by kernel_rfl)) _ _ _ _
end
end
end Go.Proofs.YtngjoconcgakpaaDoor
