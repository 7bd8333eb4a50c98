/- Windings: the loop that lays the discs. -/
import Derived.Test.YtngjoconcgakpaaDoorDW3
set_option linter.unusedVariables false
set_option linter.unusedSimpArgs false
set_option linter.unusedSectionVars false
set_option linter.unnecessarySimpa false
namespace Go.Proofs.YtngjoconcgakpaaDoor
open Go.Ev Go.RowKit
set_option maxRecDepth 100000
noncomputable section
theorem wrapI (x : Int) (h1 : -9223372036854775808 ≤ x) (h2 : x < 9223372036854775808) : IntKind.i64.wrap x = x := by
  have hb : IntKind.i64.bits = 64 := rfl
  have hs : IntKind.i64.signed = true := rfl
  unfold IntKind.wrap
  simp only [hb, hs, Bool.true_and, decide_eq_true_eq]
  split <;> omega
theorem fact_mk {P : Prop} (h : P) : fact P = true := @decide_eq_true P (Classical.propDecidable P) h
theorem discs_len (t d n : Nat) : (discs t d n).length = n := by simp [discs]
theorem discs_get {t d n j : Nat} (h : j < n) : (discs t d n)[j]? = some (.int .i64 (dsc t d j)) := by simp [discs, h]
theorem discs_succ (t d n : Nat) : discs t d (n + 1) = discs t d n ++ [.int .i64 (dsc t d n)] := by simp [discs, List.range_succ]
def L26 (t d i : Nat) : List Value := discs t d i ++ List.replicate (d - i) (.int .i64 0)
theorem L26_len {t d i : Nat} (h : i ≤ d) : (L26 t d i).length = d := by simp [L26, discs_len]; omega
theorem L26_put {t d i : Nat} (h : i < d) (v : Value) : splice (L26 t d i) (0 + (i : Int).toNat * 1) [v] = discs t d i ++ v :: List.replicate (d - i - 1) (.int .i64 0) := by
  have e : 0 + (i : Int).toNat * 1 = i := by simp
  rw [e]
  unfold splice L26
  have hl := discs_len t d i
  rw [List.take_append_of_le_length (by omega), List.drop_append, List.drop_eq_nil_of_le (by simp; omega), List.take_of_length_le (by omega), hl, List.drop_replicate]
  simp
theorem L26_put2 {t d i : Nat} (u v : Value) : splice (discs t d i ++ u :: List.replicate (d - i - 1) (.int .i64 0)) (0 + (i : Int).toNat * 1) [v] = discs t d i ++ v :: List.replicate (d - i - 1) (.int .i64 0) := by
  have e : 0 + (i : Int).toNat * 1 = i := by simp
  rw [e]
  unfold splice
  have hl := discs_len t d i
  rw [List.take_append_of_le_length (by omega), List.drop_append, List.drop_eq_nil_of_le (by simp; omega), List.take_of_length_le (by omega), hl]
  simp
theorem L26_next {t d i : Nat} (h : i < d) {x : Int} (e : x = dsc t d i) : discs t d i ++ .int .i64 x :: List.replicate (d - i - 1) (.int .i64 0) = L26 t d (i + 1) := by
  subst e
  rw [L26, discs_succ, show d - (i + 1) = d - i - 1 from by omega]
  simp
section
variable {t d : Nat} {c g : Int} (h1 : 1 ≤ d) (h5 : d ≤ 500) (hdt : d ≤ t) (ht : t ≤ 10000)
include h1 h5 hdt ht
theorem quo_eq : IntKind.i64.wrap ((t : Int).tdiv (d : Int)) = ((t / d : Nat) : Int) := by
  have hle : t / d ≤ t := Nat.div_le_self t d
  have h0 : (0 : Int) ≤ ((t / d : Nat) : Int) := Int.natCast_nonneg _
  rw [show (t : Int).tdiv (d : Int) = ((t / d : Nat) : Int) from rfl, wrapI _ (by omega) (by omega)]
theorem quo_le : t / d ≤ 10000 := Nat.le_trans (Nat.div_le_self t d) ht
theorem step26 (i : Nat) (hi : i < d) : Step (ctx [(26, 18), (26, 34)] []) Tabs 26 (loopAt 26) 3 28 2 noFrame (S26 t d c g (i : Int) (L26 t d i)) (S26 t d c g ((i + 1 : Nat) : Int) (L26 t d (i + 1))) .normal := by
  have hw : IntKind.i64.wrap ((i : Int) + 1) = ((i + 1 : Nat) : Int) := by rw [wrapI _ (by omega) (by omega)]; rfl
  have hq := quo_eq h1 h5 hdt ht
  have hql := quo_le h1 h5 hdt ht
  have hq0 : (0 : Int) ≤ ((t / d : Nat) : Int) := Int.natCast_nonneg _
  have hr0 : (0 : Int) ≤ ((t % d : Nat) : Int) := Int.natCast_nonneg _
  have hl := L26_len (t := t) (Nat.le_of_lt hi)
  have hm : (t : Int).tmod (d : Int) = ((t % d : Nat) : Int) := rfl
  have hd0 : ((d : Int) == 0) = false := by rw [beq_eq_false_iff_ne]; omega
  by_cases hr : i < t % d
  · refine mk_step (S2' := S26 t d c g (IntKind.i64.wrap ((i : Int) + 1)) (splice (splice (L26 t d i) (0 + (i : Int).toNat * 1) [.int .i64 (IntKind.i64.wrap ((t : Int).tdiv (d : Int)))]) (0 + (i : Int).toNat * 1) [.int .i64 (IntKind.i64.wrap (((t / d : Nat) : Int) + 1))]))
      (J := J26) (q := fun n => n) (fuel := 400) (ora := [true, true]) (vals := [.int .i64 ((t / d : Nat) : Int)]) (calls := [])
      (conds := [(decide ((i : Int) < (d : Int)), true), ((d : Int) == 0, false), (fact (0 ≤ (i : Int) ∧ (i : Int).toNat < d), true), (fact (0 + (i : Int).toNat * 1 + 1 ≤ (L26 t d i).length), true), ((d : Int) == 0, false), (decide ((i : Int) < (t : Int).tmod (d : Int)), true),
        (fact (0 ≤ (i : Int) ∧ (i : Int).toNat < d), true), (fact ((splice (L26 t d i) (0 + (i : Int).toNat * 1) [.int .i64 (IntKind.i64.wrap ((t : Int).tdiv (d : Int)))])[0 + (i : Int).toNat * 1]? = some (.int .i64 ((t / d : Nat) : Int))), true),
        (fact (0 ≤ (i : Int) ∧ (i : Int).toNat < d), true), (fact (0 + (i : Int).toNat * 1 + 1 ≤ (splice (L26 t d i) (0 + (i : Int).toNat * 1) [.int .i64 (IntKind.i64.wrap ((t : Int).tdiv (d : Int)))]).length), true)])
      _ rfl (by kernel_rfl) (by kernel_rfl) (by kernel_rfl) (by kernel_rfl) (fun _ _ => rfl) (by kernel_rfl) ?_ ?_ trivial
    · rw [hw, L26_put hi, L26_put2, L26_next hi]
      unfold dsc
      rw [if_pos hr, wrapI _ (by omega) (by omega)]
    · have hs : 0 + (i : Int).toNat * 1 = i := by simp
      refine ⟨by simpa using hi, hd0, fact_mk (by omega), fact_mk (by rw [hl]; omega), hd0, by rw [hm]; first | exact decide_eq_true (Int.ofNat_lt.2 hr) | exact decide_eq_false fun h => hr (Int.ofNat_lt.1 h), fact_mk (by omega), fact_mk ?_, fact_mk (by omega), fact_mk ?_, trivial⟩
      · rw [L26_put hi, hs, hq, List.getElem?_append_right (by rw [discs_len]; omega), discs_len, Nat.sub_self]
        rfl
      · rw [L26_put hi, hs]
        simp [discs_len]
        try omega
  · refine mk_step (S2' := S26 t d c g (IntKind.i64.wrap ((i : Int) + 1)) (splice (L26 t d i) (0 + (i : Int).toNat * 1) [.int .i64 (IntKind.i64.wrap ((t : Int).tdiv (d : Int)))]))
      (J := J26) (q := fun n => n) (fuel := 400) (ora := [true, false]) (vals := []) (calls := [])
      (conds := [(decide ((i : Int) < (d : Int)), true), ((d : Int) == 0, false), (fact (0 ≤ (i : Int) ∧ (i : Int).toNat < d), true), (fact (0 + (i : Int).toNat * 1 + 1 ≤ (L26 t d i).length), true), ((d : Int) == 0, false), (decide ((i : Int) < (t : Int).tmod (d : Int)), false)])
      _ rfl (by kernel_rfl) (by kernel_rfl) (by kernel_rfl) (by kernel_rfl) (fun _ _ => rfl) (by kernel_rfl) ?_ ?_ trivial
    · rw [hw, L26_put hi, L26_next hi]
      unfold dsc
      rw [if_neg hr, hq]
    · refine ⟨by simpa using hi, hd0, fact_mk (by omega), fact_mk (by rw [hl]; omega), hd0, by rw [hm]; first | exact decide_eq_true (Int.ofNat_lt.2 hr) | exact decide_eq_false fun h => hr (Int.ofNat_lt.1 h), trivial⟩
theorem last26 : Step (ctx [(26, 18), (26, 34)] []) Tabs 26 (loopAt 26) 3 28 2 noFrame (S26 t d c g (d : Int) (L26 t d d)) (S26 t d c g (d : Int) (discs t d d)) (.exit 0) := by
  refine mk_step (S2' := S26 t d c g (d : Int) (L26 t d d)) (J := J26) (q := fun n => n) (fuel := 400) (ora := [false]) (vals := []) (calls := [])
      (conds := [(decide ((d : Int) < (d : Int)), false)])
      _ rfl (by kernel_rfl) (by kernel_rfl) (by kernel_rfl) (by kernel_rfl) (fun _ _ => rfl) (by kernel_rfl) ?_ ⟨by simp, trivial⟩ trivial
  rw [show L26 t d d = discs t d d from by simp [L26]]
theorem ends26 (ora ora' : List Bool) (vals vals' : List Value) : LoopEnds (ctx [] []) Tabs (loopAt 26) ⟨(E26 t d c g).1, (E26 t d c g).2, 3, ora, ⟨vals, noFrame⟩⟩ (.exit 0) ⟨(S26 t d c g (d : Int) (discs t d d)).1, (S26 t d c g (d : Int) (discs t d d)).2, 28, ora', ⟨vals', noFrame⟩⟩ 2 := by
  have hm : manyZeros [.int .i64 0] d = L26 t d 0 := by simp [manyZeros, L26, discs]
  refine loop_nat (good _ [(26, 18), (26, 34)] [] rfl) (f := 26) 0 (fun i => S26 t d c g (i : Int) (L26 t d i)) (S26 t d c g (d : Int) (discs t d d)) d (by omega) (by kernel_rfl) rfl ⟨rfl, fun h => by cases h⟩ (Nat.zero_le _)
    (fun i _ hi => step26 h1 h5 hdt ht i hi) (last26 h1 h5 hdt ht) (by kernel_rfl) (q := fun n => n) (a := junkAt 3 J26 (E26 t d c g).1) (by kernel_rfl) (sub_of ?_ (by kernel_rfl) (by kernel_rfl) (fun _ _ => rfl) (by kernel_rfl)) (keeps_of ?_) _ _ _ _
  · rw [← hm]; kernel_rfl
  · rw [← hm]; kernel_rfl
end
end
end Go.Proofs.YtngjoconcgakpaaDoor
