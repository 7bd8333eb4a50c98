/- Windings: the law's loop, the loop of the fewest discs. -/
import Derived.Test.YtngjoconcgakpaaDoorDW5
set_option linter.unusedVariables false
set_option linter.unusedSimpArgs false
set_option linter.unusedSectionVars false
set_option linter.unnecessarySimpa false
namespace Go.Proofs.YtngjoconcgakpaaDoor
open Go.Ev Go.RowKit
set_option maxRecDepth 100000
noncomputable section
def sm (t d : Nat) : Nat → Int
  | 0 => 0
  | i + 1 => sm t d i + dsc t d i
theorem sm_eq (t d : Nat) : ∀ i, sm t d i = ((i * (t / d) + min i (t % d) : Nat) : Int)
  | 0 => by simp [sm]
  | i + 1 => by
    have h := sm_eq t d i
    unfold sm
    rw [h]
    unfold dsc
    rw [Nat.succ_mul]
    generalize i * (t / d) = a
    generalize t / d = q
    generalize t % d = r
    split <;> omega
def cl (t n : Nat) : Nat := (t + n - 1) / n
section
variable {t d : Nat} {c g r ln mv ev : Int} (h1 : 1 ≤ d) (h5 : d ≤ 500) (hdt : d ≤ t) (ht : t ≤ 10000)
include h1 h5 hdt ht
omit h5 hdt ht in
theorem sm_last : sm t d d = t := by
  rw [sm_eq]
  have h2 := Nat.div_add_mod t d
  have h3 := Nat.mod_lt t h1
  rw [Nat.min_eq_right (by omega), h2]
omit h5 hdt in
theorem sm_le {i : Nat} (h : i ≤ d) : 0 ≤ sm t d i ∧ sm t d i ≤ 10000 := by
  rw [sm_eq]
  have h2 := Nat.div_add_mod t d
  have h3 := Nat.mul_le_mul_right (t / d) h
  have h4 : min i (t % d) ≤ t % d := Nat.min_le_right _ _
  generalize i * (t / d) = a at *
  generalize d * (t / d) = b at *
  generalize min i (t % d) = e at *
  generalize t % d = f at *
  omega
theorem dsc_le (i : Nat) : 0 ≤ dsc t d i ∧ dsc t d i ≤ 10001 := by
  have hql := quo_le h1 h5 hdt ht
  unfold dsc
  generalize t / d = q at *
  split <;> omega
omit h1 h5 hdt ht in
theorem dsc_near (i : Nat) : 0 ≤ dsc t d 0 - dsc t d i ∧ dsc t d 0 - dsc t d i ≤ 1 := by
  unfold dsc
  generalize t / d = q at *
  generalize t % d = r at *
  split <;> split <;> omega
theorem step6 (hW : ∀ x : Int, 0 ≤ x → x ≤ 1 → Con 13 [.int .i64 x, .int .i64 0, .int .i64 1] (.bool true)) (i : Nat) (hi : i < d) : Step (ctx [(6, 86)] [13]) Tabs 6 (loopAt 6) 70 92 70 noFrame (S6 t d c g r ln mv ev (sm t d i) (i : Int)) (S6 t d c g r ln mv ev (sm t d (i + 1)) ((i + 1 : Nat) : Int)) .normal := by
  have hw : IntKind.i64.wrap ((i : Int) + 1) = ((i + 1 : Nat) : Int) := by rw [wrapI _ (by omega) (by omega)]; rfl
  have hs : 0 + (i : Int).toNat * 1 = i := by simp
  have hz : 0 + (0 : Int).toNat * 1 = 0 := by simp
  have k1 := sm_le (t := t) h1 ht (Nat.le_of_lt hi)
  have k2 := dsc_le h1 h5 hdt ht i
  have k3 := dsc_near (t := t) (d := d) i
  refine mk_step (S2' := S6 t d c g r ln mv ev (IntKind.i64.wrap (sm t d i + dsc t d i)) (IntKind.i64.wrap ((i : Int) + 1))) (J := J6) (q := fun n => n) (fuel := 400) (ora := [true]) (vals := [.int .i64 (dsc t d i), .int .i64 (dsc t d 0), .int .i64 (dsc t d i), .bool true])
      (calls := [.call 13 [.int .i64 (IntKind.i64.wrap (dsc t d 0 - dsc t d i)), .int .i64 0, .int .i64 1] (.bool true)])
      (conds := [(decide ((i : Int) < (d : Int)), true), (fact (0 ≤ (i : Int) ∧ (i : Int).toNat < d), true), (fact ((discs t d d)[0 + (i : Int).toNat * 1]? = some (.int .i64 (dsc t d i))), true), (fact (0 ≤ (0 : Int) ∧ (0 : Int).toNat < d), true), (fact ((discs t d d)[0 + (0 : Int).toNat * 1]? = some (.int .i64 (dsc t d 0))), true), (fact (0 ≤ (i : Int) ∧ (i : Int).toNat < d), true), (fact ((discs t d d)[0 + (i : Int).toNat * 1]? = some (.int .i64 (dsc t d i))), true)])
      _ rfl (by kernel_rfl) (by kernel_rfl) (by kernel_rfl) (by kernel_rfl) (fun _ _ => rfl) (by kernel_rfl) (by rw [hw, wrapI _ (by omega) (by omega)]; rfl) ?_ ⟨?_, trivial⟩
  · exact ⟨by simpa using hi, fact_mk (by omega), fact_mk (by rw [hs]; exact discs_get hi), fact_mk ⟨by omega, by show 0 < d; omega⟩, fact_mk (by rw [hz]; exact discs_get (by omega)), fact_mk (by omega), fact_mk (by rw [hs]; exact discs_get hi), trivial⟩
  · show Con 13 _ _
    rw [wrapI _ (by omega) (by omega)]
    exact hW _ k3.1 k3.2
theorem last6 : Step (ctx [(6, 86)] [13]) Tabs 6 (loopAt 6) 70 92 70 noFrame (S6 t d c g r ln mv ev (sm t d d) (d : Int)) (S6 t d c g r ln mv ev (t : Int) (d : Int)) (.exit 0) := by
  rw [sm_last h1]
  exact mk_step (S2' := S6 t d c g r ln mv ev (t : Int) (d : Int)) (J := J6) (q := fun n => n) (fuel := 400) (ora := [false]) (vals := []) (calls := []) (conds := [(decide ((d : Int) < (d : Int)), false)])
      _ rfl (by kernel_rfl) (by kernel_rfl) (by kernel_rfl) (by kernel_rfl) (fun _ _ => rfl) (by kernel_rfl) rfl ⟨by simp, trivial⟩ trivial
theorem ends6 (hW : ∀ x : Int, 0 ≤ x → x ≤ 1 → Con 13 [.int .i64 x, .int .i64 0, .int .i64 1] (.bool true)) (ora ora' : List Bool) (vals vals' : List Value) : LoopEnds (ctx [] []) Tabs (loopAt 6) ⟨(E6 t d c g r ln mv ev).1, (E6 t d c g r ln mv ev).2, 70, ora, ⟨vals, noFrame⟩⟩ (.exit 0) ⟨(S6 t d c g r ln mv ev (t : Int) (d : Int)).1, (S6 t d c g r ln mv ev (t : Int) (d : Int)).2, 92, ora', ⟨vals', noFrame⟩⟩ 70 :=
  loop_nat (good _ [(6, 86)] [13] rfl) (f := 6) 0 (fun i => S6 t d c g r ln mv ev (sm t d i) (i : Int)) (S6 t d c g r ln mv ev (t : Int) (d : Int)) d (by omega) (by kernel_rfl) rfl ⟨rfl, fun h => by cases h⟩ (Nat.zero_le _)
    (fun i _ hi => step6 h1 h5 hdt ht hW i hi) (last6 h1 h5 hdt ht) (by kernel_rfl) (q := fun n => n) (a := junkAt 70 J6 (E6 t d c g r ln mv ev).1) (by kernel_rfl) (sub_of (by kernel_rfl) (by kernel_rfl) (by kernel_rfl) (fun _ _ => rfl) (by kernel_rfl)) (keeps_of (by kernel_rfl)) _ _ _ _
end
def F32 (t d : Nat) (c g : Int) : Nat → List AV × AHeap
  | 0 => S32a t d c g 0
  | 1 => S32a t d c g 1
  | n + 2 => S32 t d c g ((n + 2 : Nat) : Int)
section
variable {t d m : Nat} {c g lw : Int} (hm : 1 ≤ m) (hm5 : m ≤ 500) (hc : ∀ n : Nat, 1 ≤ n → n ≤ 500 → Con 56 [.int .i64 (t : Int), .int .i64 (n : Int)] (.int .i64 (cl t n : Nat)))
  (hl : Con 31 [.agg #[.int .i64 (t : Int), .int .i64 (m : Int), .int .i64 c, .int .i64 g]] (.int .i64 lw)) (hlt : ∀ i, 1 ≤ i → i < m → ¬ ((cl t i : Nat) : Int) ≤ dsc t d 0) (hge : ((cl t m : Nat) : Int) ≤ dsc t d 0)
include hm hm5 hc hl hlt hge
theorem step32_1 (hi : 1 < m) : Step (ctx [(32, 21)] [31, 56]) Tabs 32 (loopAt 32) 120 133 120 noFrame (S32a t d c g 1) (S32 t d c g ((2 : Nat) : Int)) .normal := by
  have hw : IntKind.i64.wrap (1 + 1) = ((2 : Nat) : Int) := by rw [wrapI _ (by omega) (by omega)]; rfl
  refine mk_step (S2' := S32 t d c g (IntKind.i64.wrap (1 + 1))) (J := J32) (q := fun n => n) (fuel := 400) (ora := [false]) (vals := [.int .i64 (cl t 1 : Nat)])
      (calls := [.call 56 [.int .i64 (t : Int), .int .i64 1] (.int .i64 (cl t 1 : Nat))]) (conds := [(decide (((cl t 1 : Nat) : Int) ≤ dsc t d 0), false)])
      _ rfl (by kernel_rfl) (by kernel_rfl) (by kernel_rfl) (by kernel_rfl) (fun _ _ => rfl) (by kernel_rfl) (by rw [hw]) ⟨decide_eq_false (hlt 1 (Nat.le_refl _) hi), trivial⟩ ⟨hc 1 (Nat.le_refl _) (by omega), trivial⟩
theorem step32_n (n : Nat) (hi : n + 2 < m) : Step (ctx [(32, 21)] [31, 56]) Tabs 32 (loopAt 32) 120 133 120 noFrame (S32 t d c g ((n + 2 : Nat) : Int)) (S32 t d c g ((n + 3 : Nat) : Int)) .normal := by
  have hw : IntKind.i64.wrap (((n + 2 : Nat) : Int) + 1) = ((n + 3 : Nat) : Int) := by rw [wrapI _ (by omega) (by omega)]; rfl
  refine mk_step (S2' := S32 t d c g (IntKind.i64.wrap (((n + 2 : Nat) : Int) + 1))) (J := J32) (q := fun n => n) (fuel := 400) (ora := [false]) (vals := [.int .i64 (cl t (n + 2) : Nat)])
      (calls := [.call 56 [.int .i64 (t : Int), .int .i64 ((n + 2 : Nat) : Int)] (.int .i64 (cl t (n + 2) : Nat))]) (conds := [(decide (((cl t (n + 2) : Nat) : Int) ≤ dsc t d 0), false)])
      _ rfl (by kernel_rfl) (by kernel_rfl) (by kernel_rfl) (by kernel_rfl) (fun _ _ => rfl) (by kernel_rfl) (by rw [hw]) ⟨decide_eq_false (hlt _ (by omega) hi), trivial⟩ ⟨hc _ (by omega) (by omega), trivial⟩
theorem step32 (i : Nat) (h1 : 1 ≤ i) (hi : i < m) : Step (ctx [(32, 21)] [31, 56]) Tabs 32 (loopAt 32) 120 133 120 noFrame (F32 t d c g i) (F32 t d c g (i + 1)) .normal := by
  rcases i with _ | _ | n
  · omega
  · exact step32_1 hm hm5 hc hl hlt hge hi
  · exact step32_n hm hm5 hc hl hlt hge n hi
omit hm hm5 hc hl hlt hge in
theorem last32_1 (hc : Con 56 [.int .i64 (t : Int), .int .i64 1] (.int .i64 (cl t 1 : Nat))) (hl : Con 31 [.agg #[.int .i64 (t : Int), .int .i64 1, .int .i64 c, .int .i64 g]] (.int .i64 lw)) (hge : ((cl t 1 : Nat) : Int) ≤ dsc t d 0) : Step (ctx [(32, 21)] [31, 56]) Tabs 32 (loopAt 32) 120 133 120 noFrame (S32a t d c g 1) (T32 t d 1 c g lw) .ret := by
  refine mk_step (S2' := T32 t d 1 c g lw) (J := J32) (q := fun n => n) (fuel := 400) (ora := [true]) (vals := [.int .i64 (cl t 1 : Nat), .int .i64 lw])
      (calls := [.call 56 [.int .i64 (t : Int), .int .i64 1] (.int .i64 (cl t 1 : Nat)), .call 31 [.agg #[.int .i64 (t : Int), .int .i64 1, .int .i64 c, .int .i64 g]] (.int .i64 lw)]) (conds := [(decide (((cl t 1 : Nat) : Int) ≤ dsc t d 0), true)])
      _ rfl (by kernel_rfl) (by kernel_rfl) (by kernel_rfl) (by kernel_rfl) (fun _ _ => rfl) (by kernel_rfl) rfl ⟨decide_eq_true hge, trivial⟩ ⟨hc, hl, trivial⟩
omit hm hm5 hc hl hlt hge in
theorem last32_n (n : Nat) (hc : Con 56 [.int .i64 (t : Int), .int .i64 ((n + 2 : Nat) : Int)] (.int .i64 (cl t (n + 2) : Nat))) (hl : Con 31 [.agg #[.int .i64 (t : Int), .int .i64 ((n + 2 : Nat) : Int), .int .i64 c, .int .i64 g]] (.int .i64 lw)) (hge : ((cl t (n + 2) : Nat) : Int) ≤ dsc t d 0) : Step (ctx [(32, 21)] [31, 56]) Tabs 32 (loopAt 32) 120 133 120 noFrame (S32 t d c g ((n + 2 : Nat) : Int)) (T32 t d (n + 2) c g lw) .ret := by
  refine mk_step (S2' := T32 t d (n + 2) c g lw) (J := J32) (q := fun n => n) (fuel := 400) (ora := [true]) (vals := [.int .i64 (cl t (n + 2) : Nat), .int .i64 lw])
      (calls := [.call 56 [.int .i64 (t : Int), .int .i64 ((n + 2 : Nat) : Int)] (.int .i64 (cl t (n + 2) : Nat)), .call 31 [.agg #[.int .i64 (t : Int), .int .i64 ((n + 2 : Nat) : Int), .int .i64 c, .int .i64 g]] (.int .i64 lw)]) (conds := [(decide (((cl t (n + 2) : Nat) : Int) ≤ dsc t d 0), true)])
      _ rfl (by kernel_rfl) (by kernel_rfl) (by kernel_rfl) (by kernel_rfl) (fun _ _ => rfl) (by kernel_rfl) rfl ⟨decide_eq_true hge, trivial⟩ ⟨hc, hl, trivial⟩
theorem last32 : Step (ctx [(32, 21)] [31, 56]) Tabs 32 (loopAt 32) 120 133 120 noFrame (F32 t d c g m) (T32 t d m c g lw) .ret := by
  rcases m with _ | _ | n
  · omega
  · exact last32_1 (hc 1 (by omega) (by omega)) hl hge
  · exact last32_n n (hc _ (by omega) (by omega)) hl hge
theorem ends32 (ora ora' : List Bool) (vals vals' : List Value) : LoopEnds (ctx [] []) Tabs (loopAt 32) ⟨(E32 t d c g).1, (E32 t d c g).2, 120, ora, ⟨vals, noFrame⟩⟩ .ret ⟨(T32 t d m c g lw).1, (T32 t d m c g lw).2, 133, ora', ⟨vals', noFrame⟩⟩ 120 :=
  loop_nat (good _ [(32, 21)] [31, 56] rfl) (f := 32) 1 (F32 t d c g) (T32 t d m c g lw) m (by omega) (by kernel_rfl) rfl ⟨rfl, fun h => by cases h⟩ hm
    (fun i h hi => step32 hm hm5 hc hl hlt hge i h hi) (last32 hm hm5 hc hl hlt hge) (by kernel_rfl) (q := fun n => n) (a := junkAt 120 J32 (E32 t d c g).1) (by kernel_rfl) (sub_of (by kernel_rfl) (by kernel_rfl) (by kernel_rfl) (fun _ _ => rfl) (by kernel_rfl)) (keeps_of (by kernel_rfl)) _ _ _ _
end
end
end Go.Proofs.YtngjoconcgakpaaDoor
