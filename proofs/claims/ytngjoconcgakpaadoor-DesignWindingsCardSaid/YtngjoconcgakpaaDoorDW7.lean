/- Windings: the law. -/
import Derived.Test.YtngjoconcgakpaaDoorDW2
import Derived.Test.YtngjoconcgakpaaDoorDW6
import Derived.Test.YtngjoconcgakpaaDoorDAW
set_option linter.unusedVariables false
set_option linter.unusedSimpArgs false
set_option linter.unusedSectionVars false
set_option linter.unnecessarySimpa false
namespace Go.Proofs.YtngjoconcgakpaaDoor
open Go.Ev Go.RowKit
set_option maxRecDepth 100000
theorem cl_le {t n k : Nat} (h : 1 ≤ n) : cl t n ≤ k ↔ t ≤ k * n := by
  unfold cl
  rw [← Nat.lt_succ_iff, Nat.div_lt_iff_lt_mul h, Nat.succ_mul]
  generalize k * n = a
  omega
theorem cl_eq {t n : Nat} (h : 1 ≤ n) : cl t n = if 0 < t % n then t / n + 1 else t / n := by
  have h2 := Nat.div_add_mod t n
  have h3 := Nat.mod_lt t h
  unfold cl
  rw [Nat.mul_comm] at h2
  split
  · refine Nat.div_eq_of_lt_le ?_ ?_
    · rw [Nat.succ_mul]
      generalize t / n * n = a at *
      omega
    · rw [Nat.succ_mul, Nat.succ_mul]
      generalize t / n * n = a at *
      omega
  · refine Nat.div_eq_of_lt_le ?_ ?_
    · generalize t / n * n = a at *
      omega
    · rw [Nat.succ_mul]
      generalize t / n * n = a at *
      omega
theorem dsc_zero {t d : Nat} (h : 1 ≤ d) : dsc t d 0 = (cl t d : Nat) := by
  rw [cl_eq h]
  unfold dsc
  split <;> simp
theorem cl_bound {t n : Nat} (h : 1 ≤ n) : cl t n ≤ t := by
  rw [cl_le h]
  exact Nat.le_mul_of_pos_right t h
theorem ce_c {t n : Nat} (h : 1 ≤ n) (h5 : n ≤ 500) (ht : t ≤ 10000) : Con 56 [.int .i64 (t : Int), .int .i64 (n : Int)] (.int .i64 (cl t n : Nat)) := by
  have w1 : IntKind.i64.wrap (0 - (t : Int)) = -(t : Int) := by rw [wrapI _ (by omega) (by omega)]; omega
  have e1 : (-(t : Int)).tdiv (n : Int) = -((t / n : Nat) : Int) := by rw [Int.neg_tdiv]; rfl
  have e2 : (-(t : Int)).tmod (n : Int) = -((t % n : Nat) : Int) := by rw [Int.neg_tmod]; rfl
  have hq := Nat.le_trans (Nat.div_le_self t n) ht
  have c1 := cl_eq (t := t) h
  have hn : ((n : Int) == 0) = false := by rw [beq_eq_false_iff_ne]; omega
  by_cases hr : 0 < t % n
  · rw [if_pos hr] at c1
    refine con_val (ce_neg t n ?_ trivial) (vi ?_)
    · simp only [allC, w1, e2, hn, decide_eq_true_eq, and_true, true_and]
      generalize t % n = r at *
      omega
    · rw [w1, e1, c1]
      generalize t / n = q at *
      rw [wrapI (-(q : Int)) (by omega) (by omega), wrapI (-(q : Int) - 1) (by omega) (by omega), wrapI _ (by omega) (by omega)]
      omega
  · rw [if_neg hr] at c1
    refine con_val (ce_no t n ?_ trivial) (vi ?_)
    · simp only [allC, w1, e2, hn, decide_eq_false_iff_not, and_true, true_and]
      generalize t % n = r at *
      omega
    · rw [w1, e1, c1]
      generalize t / n = q at *
      rw [wrapI (-(q : Int)) (by omega) (by omega), wrapI _ (by omega) (by omega)]
      omega
theorem up_w {t n : Nat} (h : 1 ≤ n) (h5 : n ≤ 10000) (ht : t ≤ 10000) : IntKind.i64.wrap ((IntKind.i64.wrap (IntKind.i64.wrap ((t : Int) + (n : Int)) - 1)).tdiv (n : Int)) = (cl t n : Nat) := by
  have hb := Nat.le_trans (cl_bound (t := t) h) ht
  rw [wrapI ((t : Int) + (n : Int)) (by omega) (by omega), wrapI ((t : Int) + (n : Int) - 1) (by omega) (by omega), show (t : Int) + (n : Int) - 1 = ((t + n - 1 : Nat) : Int) from by omega, show (((t + n - 1 : Nat) : Int)).tdiv (n : Int) = ((cl t n : Nat) : Int) from rfl, wrapI _ (by omega) (by omega)]
section
variable {t d : Nat} {c g r : Int} (h1 : 1 ≤ d) (h5 : d ≤ 500) (hdt : d ≤ t) (ht : t ≤ 10000) (hw : werr (t : Int) (d : Int) c g = 0)
include h1 h5 hdt ht
theorem m_facts : 1 ≤ cl t (cl t d) ∧ cl t (cl t d) ≤ 500 ∧ 1 ≤ cl t d ∧ (∀ i, 1 ≤ i → i < cl t (cl t d) → ¬ ((cl t i : Nat) : Int) ≤ dsc t d 0) ∧ ((cl t (cl t (cl t d)) : Nat) : Int) ≤ dsc t d 0 := by
  have k0 : 1 ≤ cl t d := by
    rcases Nat.lt_or_ge (cl t d) 1 with h | h
    · have := (cl_le (t := t) (k := 0) h1).1 (by omega)
      omega
    · exact h
  have k1 : 1 ≤ cl t (cl t d) := by
    rcases Nat.lt_or_ge (cl t (cl t d)) 1 with h | h
    · have := (cl_le (t := t) (k := 0) k0).1 (by omega)
      omega
    · exact h
  refine ⟨k1, ?_, k0, ?_, ?_⟩
  · refine Nat.le_trans ((cl_le k0).2 ?_) h5
    rw [Nat.mul_comm]
    exact (cl_le h1).1 (Nat.le_refl _)
  · intro i hi hlt hle
    rw [dsc_zero h1] at hle
    have hle : cl t i ≤ cl t d := by omega
    have := (cl_le (t := t) (k := i) k0).2 (by rw [Nat.mul_comm]; exact (cl_le hi).1 hle)
    omega
  · rw [dsc_zero h1]
    have : cl t (cl t (cl t d)) ≤ cl t d := (cl_le k1).2 (by rw [Nat.mul_comm]; exact (cl_le k0).1 (Nat.le_refl _))
    omega
include hw
theorem fd_two (hr : 1 ≤ r ∧ r ≤ 1000000) : (r < lenW (cl t (cl t d) : Nat) c g → Con 28 [.agg #[.int .i64 (t : Int), .int .i64 (d : Int), .int .i64 c, .int .i64 g], .int .i64 r] (.tuple #[.int .i64 0, .int .i64 22])) ∧ (¬ r < lenW (cl t (cl t d) : Nat) c g → Con 28 [.agg #[.int .i64 (t : Int), .int .i64 (d : Int), .int .i64 c, .int .i64 g], .int .i64 r] (.tuple #[.int .i64 ((cl t (cl t d) : Nat) : Int), .int .i64 0])) := by
  obtain ⟨k1, k2, k0, _, _⟩ := m_facts h1 h5 hdt ht
  have b0 := Nat.le_trans (cl_bound (t := t) h1) ht
  have u1 := up_w h1 (by omega) ht
  have u2 := up_w k0 b0 ht
  have hn : ((d : Int) == 0) = false := by rw [beq_eq_false_iff_ne]; omega
  have hn2 : (((cl t d : Nat) : Int) == 0) = false := by rw [beq_eq_false_iff_ne]; omega
  constructor
  · intro hl
    refine con_val (fd_brk (t : Int) (d : Int) c g 0 r ?_ ⟨hw ▸ ck_c _ _ _ _, trivial⟩) rfl
    simp only [allC, u1, u2, hn, hn2]
    unfold lenW at hl
    simp
    omega
  · intro hl
    refine con_val (fd_ok (t : Int) (d : Int) c g 0 r ?_ ⟨hw ▸ ck_c _ _ _ _, trivial⟩) (by rw [u1, u2])
    simp only [allC, u1, u2, hn, hn2]
    unfold lenW at hl
    simp
    omega
omit h1 h5 hdt ht hw in
theorem near_c (x : Int) (a : 0 ≤ x) (b : x ≤ 1) : Con 13 [.int .i64 x, .int .i64 0, .int .i64 1] (.bool true) := within_t (within_c x 0 1) ⟨a, b⟩
theorem law_room {ln : Int} (hln : lenW (d : Int) c g = ln) (k28 : Con 28 [.agg #[.int .i64 (t : Int), .int .i64 (d : Int), .int .i64 c, .int .i64 g], .int .i64 r] (.tuple #[.int .i64 0, .int .i64 2])) (k13 : Con 13 [.int .i64 r, .int .i64 1, .int .i64 1000000] (.bool false)) : Con 6 [.agg #[.int .i64 (t : Int), .int .i64 (d : Int), .int .i64 c, .int .i64 g], .int .i64 r] (.bool true) := by
  subst hln
  exact con_ofL (L := LD t d c g 0 (lenW (0 : Nat) c g)) (S := [(26, 1000014), (30, 1000029), (14, 10), (6, 82), (6, 108), (6, 125)]) (K := [7, 13, 27, 28, 29, 31, 53]) (n := 4000) (ora := [false, false, false])
    (res := [.bool true, .int .i64 0, .tuple #[.int .i64 (lenW (d : Int) c g), .int .i64 0], .tuple #[.int .i64 0, .int .i64 2], .int .i64 0, .int .i64 (lenW (d : Int) c g), .bool false]) (v := .bool true)
    (conds := [(fact (0 ≤ (d : Int) ∧ (d : Int) ≤ (d : Int) ∧ 8 * (d : Int).toNat ≤ 140737488355328 ∧ (d : Int).toNat ≤ 140737488355328), true), (((d : Int).toNat : Int) != (d : Int), false), ((lenW (d : Int) c g) != (lenW (d : Int) c g), false), ((t : Int) != (t : Int), false)])
    (cls := [.call 7 [] (.bool true),
      .call 53 [.agg #[.int .i64 (t : Int), .int .i64 (d : Int), .int .i64 c, .int .i64 g]] (.int .i64 0),
      .loop (loopAt 26) ⟨(E26 t d c g).1, (E26 t d c g).2, 3, [false, false, false], ⟨[.tuple #[.int .i64 (lenW (d : Int) c g), .int .i64 0], .tuple #[.int .i64 0, .int .i64 2], .int .i64 0, .int .i64 (lenW (d : Int) c g), .bool false], noFrame⟩⟩ (.exit 0) ⟨(S26 t d c g (d : Int) (discs t d d)).1, (S26 t d c g (d : Int) (discs t d d)).2, 28, [false, false, false], ⟨[.tuple #[.int .i64 (lenW (d : Int) c g), .int .i64 0], .tuple #[.int .i64 0, .int .i64 2], .int .i64 0, .int .i64 (lenW (d : Int) c g), .bool false], noFrame⟩⟩ 2,
      .call 27 [.agg #[.int .i64 (t : Int), .int .i64 (d : Int), .int .i64 c, .int .i64 g]] (.tuple #[.int .i64 (lenW (d : Int) c g), .int .i64 0]),
      .call 28 [.agg #[.int .i64 (t : Int), .int .i64 (d : Int), .int .i64 c, .int .i64 g], .int .i64 r] (.tuple #[.int .i64 0, .int .i64 2]),
      .call 29 [.agg #[.int .i64 (t : Int), .int .i64 (d : Int), .int .i64 c, .int .i64 g]] (.int .i64 0),
      .loop (loopAt 30) ⟨(E30a t d c g).1, (E30a t d c g).2, 29, [false, false, false], ⟨[.int .i64 (lenW (d : Int) c g), .bool false], noFrame⟩⟩ (.exit 0) ⟨(S30a t d c g d (d : Int) (discs t d d)).1, (S30a t d c g d (d : Int) (discs t d d)).2, 55, [false, false, false], ⟨[.int .i64 (lenW (d : Int) c g), .bool false], noFrame⟩⟩ 29,
      .loop (loopAt 14) ⟨(E14 t d c g).1, (E14 t d c g).2, 55, [false, false], ⟨[.int .i64 (lenW (d : Int) c g), .bool false], noFrame⟩⟩ (.exit 0) ⟨(S14 t d c g (d : Int)).1, (S14 t d c g (d : Int)).2, 70, [false, false], ⟨[.int .i64 (lenW (d : Int) c g), .bool false], noFrame⟩⟩ 55,
      .call 31 [.agg #[.int .i64 (t : Int), .int .i64 (d : Int), .int .i64 c, .int .i64 g]] (.int .i64 (lenW (d : Int) c g)),
      .loop (loopAt 6) ⟨(E6 t d c g r (lenW (d : Int) c g) 0 2).1, (E6 t d c g r (lenW (d : Int) c g) 0 2).2, 70, [false], ⟨[.bool false], noFrame⟩⟩ (.exit 0) ⟨(S6 t d c g r (lenW (d : Int) c g) 0 2 (t : Int) (d : Int)).1, (S6 t d c g r (lenW (d : Int) c g) 0 2 (t : Int) (d : Int)).2, 92, [false], ⟨[.bool false], noFrame⟩⟩ 70,
      .call 13 [.int .i64 r, .int .i64 1, .int .i64 1000000] (.bool false)])
    (by kernel_rfl) (by kernel_rfl) ⟨fact_mk ⟨by omega, by omega, by omega, by omega⟩, by simp, by simp, by simp, trivial⟩ ⟨aw_all trivial trivial, hw ▸ ck_c _ _ _ _, ends26 h1 h5 hdt ht _ _ _ _, ln_good _ _ _ _ hw, k28, hw ▸ rw_c _ _ _ _, ends30a h1 h5 hdt ht _ _ _ _, ends14 h1 h5 hdt ht _ _ _ _, rl_c _ _ _ _, ends6 h1 h5 hdt ht near_c _ _ _ _, k13, trivial⟩
theorem law_brk {m : Nat} {ln : Int} (hm : 1 ≤ m) (hm5 : m ≤ 500) (hlt : ∀ i, 1 ≤ i → i < m → ¬ ((cl t i : Nat) : Int) ≤ dsc t d 0) (hge : ((cl t m : Nat) : Int) ≤ dsc t d 0) (hln : lenW (d : Int) c g = ln) (hl : lenW (m : Nat) c g > r) (k28 : Con 28 [.agg #[.int .i64 (t : Int), .int .i64 (d : Int), .int .i64 c, .int .i64 g], .int .i64 r] (.tuple #[.int .i64 0, .int .i64 22])) (k13 : Con 13 [.int .i64 r, .int .i64 1, .int .i64 1000000] (.bool true)) : Con 6 [.agg #[.int .i64 (t : Int), .int .i64 (d : Int), .int .i64 c, .int .i64 g], .int .i64 r] (.bool true) := by
  subst hln
  exact con_ofL (L := LD t d c g m (lenW (m : Nat) c g)) (S := [(26, 1000014), (30, 1000029), (14, 10), (6, 82), (6, 108), (6, 125)]) (K := [7, 13, 27, 28, 29, 31, 53]) (n := 4000) (ora := [false, false, false, true])
    (res := [.bool true, .int .i64 0, .tuple #[.int .i64 (lenW (d : Int) c g), .int .i64 0], .tuple #[.int .i64 0, .int .i64 22], .int .i64 0, .int .i64 (lenW (d : Int) c g), .bool true, .int .i64 (dsc t d 0)]) (v := .bool true)
    (conds := [(fact (0 ≤ (d : Int) ∧ (d : Int) ≤ (d : Int) ∧ 8 * (d : Int).toNat ≤ 140737488355328 ∧ (d : Int).toNat ≤ 140737488355328), true), (((d : Int).toNat : Int) != (d : Int), false), ((lenW (d : Int) c g) != (lenW (d : Int) c g), false), ((t : Int) != (t : Int), false), (fact (0 ≤ (0 : Int) ∧ (0 : Int).toNat < d), true), (fact ((discs t d d)[0 + (0 : Int).toNat * 1]? = some (.int .i64 (dsc t d 0))), true), (decide (lenW ((m : Nat) : Int) c g > r), true)])
    (cls := [.call 7 [] (.bool true),
      .call 53 [.agg #[.int .i64 (t : Int), .int .i64 (d : Int), .int .i64 c, .int .i64 g]] (.int .i64 0),
      .loop (loopAt 26) ⟨(E26 t d c g).1, (E26 t d c g).2, 3, [false, false, false, true], ⟨[.tuple #[.int .i64 (lenW (d : Int) c g), .int .i64 0], .tuple #[.int .i64 0, .int .i64 22], .int .i64 0, .int .i64 (lenW (d : Int) c g), .bool true, .int .i64 (dsc t d 0)], noFrame⟩⟩ (.exit 0) ⟨(S26 t d c g (d : Int) (discs t d d)).1, (S26 t d c g (d : Int) (discs t d d)).2, 28, [false, false, false, true], ⟨[.tuple #[.int .i64 (lenW (d : Int) c g), .int .i64 0], .tuple #[.int .i64 0, .int .i64 22], .int .i64 0, .int .i64 (lenW (d : Int) c g), .bool true, .int .i64 (dsc t d 0)], noFrame⟩⟩ 2,
      .call 27 [.agg #[.int .i64 (t : Int), .int .i64 (d : Int), .int .i64 c, .int .i64 g]] (.tuple #[.int .i64 (lenW (d : Int) c g), .int .i64 0]),
      .call 28 [.agg #[.int .i64 (t : Int), .int .i64 (d : Int), .int .i64 c, .int .i64 g], .int .i64 r] (.tuple #[.int .i64 0, .int .i64 22]),
      .call 29 [.agg #[.int .i64 (t : Int), .int .i64 (d : Int), .int .i64 c, .int .i64 g]] (.int .i64 0),
      .loop (loopAt 30) ⟨(E30a t d c g).1, (E30a t d c g).2, 29, [false, false, false, true], ⟨[.int .i64 (lenW (d : Int) c g), .bool true, .int .i64 (dsc t d 0)], noFrame⟩⟩ (.exit 0) ⟨(S30a t d c g d (d : Int) (discs t d d)).1, (S30a t d c g d (d : Int) (discs t d d)).2, 55, [false, false, false, true], ⟨[.int .i64 (lenW (d : Int) c g), .bool true, .int .i64 (dsc t d 0)], noFrame⟩⟩ 29,
      .loop (loopAt 14) ⟨(E14 t d c g).1, (E14 t d c g).2, 55, [false, false, true], ⟨[.int .i64 (lenW (d : Int) c g), .bool true, .int .i64 (dsc t d 0)], noFrame⟩⟩ (.exit 0) ⟨(S14 t d c g (d : Int)).1, (S14 t d c g (d : Int)).2, 70, [false, false, true], ⟨[.int .i64 (lenW (d : Int) c g), .bool true, .int .i64 (dsc t d 0)], noFrame⟩⟩ 55,
      .call 31 [.agg #[.int .i64 (t : Int), .int .i64 (d : Int), .int .i64 c, .int .i64 g]] (.int .i64 (lenW (d : Int) c g)),
      .loop (loopAt 6) ⟨(E6 t d c g r (lenW (d : Int) c g) 0 22).1, (E6 t d c g r (lenW (d : Int) c g) 0 22).2, 70, [false, true], ⟨[.bool true, .int .i64 (dsc t d 0)], noFrame⟩⟩ (.exit 0) ⟨(S6 t d c g r (lenW (d : Int) c g) 0 22 (t : Int) (d : Int)).1, (S6 t d c g r (lenW (d : Int) c g) 0 22 (t : Int) (d : Int)).2, 92, [false, true], ⟨[.bool true, .int .i64 (dsc t d 0)], noFrame⟩⟩ 70,
      .call 13 [.int .i64 r, .int .i64 1, .int .i64 1000000] (.bool true),
      .loop (loopAt 30) ⟨(E30b t d c g).1, (E30b t d c g).2, 94, [true], ⟨[.int .i64 (dsc t d 0)], noFrame⟩⟩ (.exit 0) ⟨(S30b t d c g d (d : Int) (discs t d d)).1, (S30b t d c g d (d : Int) (discs t d d)).2, 120, [true], ⟨[.int .i64 (dsc t d 0)], noFrame⟩⟩ 94,
      .loop (loopAt 32) ⟨(E32 t d c g).1, (E32 t d c g).2, 120, [true], ⟨[], noFrame⟩⟩ .ret ⟨(T32 t d m c g (lenW (m : Nat) c g)).1, (T32 t d m c g (lenW (m : Nat) c g)).2, 133, [true], ⟨[], noFrame⟩⟩ 120])
    (by kernel_rfl) (by kernel_rfl) ⟨fact_mk ⟨by omega, by omega, by omega, by omega⟩, by simp, by simp, by simp, fact_mk ⟨by omega, by show 0 < d; omega⟩, fact_mk (discs_get (by omega)), decide_eq_true hl, trivial⟩ ⟨aw_all trivial trivial, hw ▸ ck_c _ _ _ _, ends26 h1 h5 hdt ht _ _ _ _, ln_good _ _ _ _ hw, k28, hw ▸ rw_c _ _ _ _, ends30a h1 h5 hdt ht _ _ _ _, ends14 h1 h5 hdt ht _ _ _ _, rl_c _ _ _ _, ends6 h1 h5 hdt ht near_c _ _ _ _, k13, ends30b h1 h5 hdt ht _ _ _ _, ends32 hm hm5 (fun n a b => ce_c a b ht) (rl_c _ _ _ _) hlt hge _ _ _ _, trivial⟩
theorem law_ok {m : Nat} {ln : Int} (hm : 1 ≤ m) (hm5 : m ≤ 500) (hlt : ∀ i, 1 ≤ i → i < m → ¬ ((cl t i : Nat) : Int) ≤ dsc t d 0) (hge : ((cl t m : Nat) : Int) ≤ dsc t d 0) (hln : lenW (d : Int) c g = ln) (hl : ¬ lenW (m : Nat) c g > r) (k28 : Con 28 [.agg #[.int .i64 (t : Int), .int .i64 (d : Int), .int .i64 c, .int .i64 g], .int .i64 r] (.tuple #[.int .i64 (m : Int), .int .i64 0])) (k13 : Con 13 [.int .i64 r, .int .i64 1, .int .i64 1000000] (.bool true)) : Con 6 [.agg #[.int .i64 (t : Int), .int .i64 (d : Int), .int .i64 c, .int .i64 g], .int .i64 r] (.bool ((m : Int) == (m : Int))) := by
  subst hln
  exact con_ofL (L := LD t d c g m (lenW (m : Nat) c g)) (S := [(26, 1000014), (30, 1000029), (14, 10), (6, 82), (6, 108), (6, 125)]) (K := [7, 13, 27, 28, 29, 31, 53]) (n := 4000) (ora := [false, false, false, false])
    (res := [.bool true, .int .i64 0, .tuple #[.int .i64 (lenW (d : Int) c g), .int .i64 0], .tuple #[.int .i64 (m : Int), .int .i64 0], .int .i64 0, .int .i64 (lenW (d : Int) c g), .bool true, .int .i64 (dsc t d 0)]) (v := .bool ((m : Int) == (m : Int)))
    (conds := [(fact (0 ≤ (d : Int) ∧ (d : Int) ≤ (d : Int) ∧ 8 * (d : Int).toNat ≤ 140737488355328 ∧ (d : Int).toNat ≤ 140737488355328), true), (((d : Int).toNat : Int) != (d : Int), false), ((lenW (d : Int) c g) != (lenW (d : Int) c g), false), ((t : Int) != (t : Int), false), (fact (0 ≤ (0 : Int) ∧ (0 : Int).toNat < d), true), (fact ((discs t d d)[0 + (0 : Int).toNat * 1]? = some (.int .i64 (dsc t d 0))), true), (decide (lenW ((m : Nat) : Int) c g > r), false)])
    (cls := [.call 7 [] (.bool true),
      .call 53 [.agg #[.int .i64 (t : Int), .int .i64 (d : Int), .int .i64 c, .int .i64 g]] (.int .i64 0),
      .loop (loopAt 26) ⟨(E26 t d c g).1, (E26 t d c g).2, 3, [false, false, false, false], ⟨[.tuple #[.int .i64 (lenW (d : Int) c g), .int .i64 0], .tuple #[.int .i64 (m : Int), .int .i64 0], .int .i64 0, .int .i64 (lenW (d : Int) c g), .bool true, .int .i64 (dsc t d 0)], noFrame⟩⟩ (.exit 0) ⟨(S26 t d c g (d : Int) (discs t d d)).1, (S26 t d c g (d : Int) (discs t d d)).2, 28, [false, false, false, false], ⟨[.tuple #[.int .i64 (lenW (d : Int) c g), .int .i64 0], .tuple #[.int .i64 (m : Int), .int .i64 0], .int .i64 0, .int .i64 (lenW (d : Int) c g), .bool true, .int .i64 (dsc t d 0)], noFrame⟩⟩ 2,
      .call 27 [.agg #[.int .i64 (t : Int), .int .i64 (d : Int), .int .i64 c, .int .i64 g]] (.tuple #[.int .i64 (lenW (d : Int) c g), .int .i64 0]),
      .call 28 [.agg #[.int .i64 (t : Int), .int .i64 (d : Int), .int .i64 c, .int .i64 g], .int .i64 r] (.tuple #[.int .i64 (m : Int), .int .i64 0]),
      .call 29 [.agg #[.int .i64 (t : Int), .int .i64 (d : Int), .int .i64 c, .int .i64 g]] (.int .i64 0),
      .loop (loopAt 30) ⟨(E30a t d c g).1, (E30a t d c g).2, 29, [false, false, false, false], ⟨[.int .i64 (lenW (d : Int) c g), .bool true, .int .i64 (dsc t d 0)], noFrame⟩⟩ (.exit 0) ⟨(S30a t d c g d (d : Int) (discs t d d)).1, (S30a t d c g d (d : Int) (discs t d d)).2, 55, [false, false, false, false], ⟨[.int .i64 (lenW (d : Int) c g), .bool true, .int .i64 (dsc t d 0)], noFrame⟩⟩ 29,
      .loop (loopAt 14) ⟨(E14 t d c g).1, (E14 t d c g).2, 55, [false, false, false], ⟨[.int .i64 (lenW (d : Int) c g), .bool true, .int .i64 (dsc t d 0)], noFrame⟩⟩ (.exit 0) ⟨(S14 t d c g (d : Int)).1, (S14 t d c g (d : Int)).2, 70, [false, false, false], ⟨[.int .i64 (lenW (d : Int) c g), .bool true, .int .i64 (dsc t d 0)], noFrame⟩⟩ 55,
      .call 31 [.agg #[.int .i64 (t : Int), .int .i64 (d : Int), .int .i64 c, .int .i64 g]] (.int .i64 (lenW (d : Int) c g)),
      .loop (loopAt 6) ⟨(E6 t d c g r (lenW (d : Int) c g) (m : Int) 0).1, (E6 t d c g r (lenW (d : Int) c g) (m : Int) 0).2, 70, [false, false], ⟨[.bool true, .int .i64 (dsc t d 0)], noFrame⟩⟩ (.exit 0) ⟨(S6 t d c g r (lenW (d : Int) c g) (m : Int) 0 (t : Int) (d : Int)).1, (S6 t d c g r (lenW (d : Int) c g) (m : Int) 0 (t : Int) (d : Int)).2, 92, [false, false], ⟨[.bool true, .int .i64 (dsc t d 0)], noFrame⟩⟩ 70,
      .call 13 [.int .i64 r, .int .i64 1, .int .i64 1000000] (.bool true),
      .loop (loopAt 30) ⟨(E30b t d c g).1, (E30b t d c g).2, 94, [false], ⟨[.int .i64 (dsc t d 0)], noFrame⟩⟩ (.exit 0) ⟨(S30b t d c g d (d : Int) (discs t d d)).1, (S30b t d c g d (d : Int) (discs t d d)).2, 120, [false], ⟨[.int .i64 (dsc t d 0)], noFrame⟩⟩ 94,
      .loop (loopAt 32) ⟨(E32 t d c g).1, (E32 t d c g).2, 120, [false], ⟨[], noFrame⟩⟩ .ret ⟨(T32 t d m c g (lenW (m : Nat) c g)).1, (T32 t d m c g (lenW (m : Nat) c g)).2, 133, [false], ⟨[], noFrame⟩⟩ 120])
    (by kernel_rfl) (by kernel_rfl) ⟨fact_mk ⟨by omega, by omega, by omega, by omega⟩, by simp, by simp, by simp, fact_mk ⟨by omega, by show 0 < d; omega⟩, fact_mk (discs_get (by omega)), decide_eq_false hl, trivial⟩ ⟨aw_all trivial trivial, hw ▸ ck_c _ _ _ _, ends26 h1 h5 hdt ht _ _ _ _, ln_good _ _ _ _ hw, k28, hw ▸ rw_c _ _ _ _, ends30a h1 h5 hdt ht _ _ _ _, ends14 h1 h5 hdt ht _ _ _ _, rl_c _ _ _ _, ends6 h1 h5 hdt ht near_c _ _ _ _, k13, ends30b h1 h5 hdt ht _ _ _ _, ends32 hm hm5 (fun n a b => ce_c a b ht) (rl_c _ _ _ _) hlt hge _ _ _ _, trivial⟩
end
theorem law_w (T D C G r : Int) : Con 6 [.agg #[.int .i64 T, .int .i64 D, .int .i64 C, .int .i64 G], .int .i64 r] (.bool true) := by
  by_cases he : werr T D C G = 0
  · have hk : okW T D C G ∧ ¬ T < D := by
      unfold werr at he
      split at he
      · rename_i h
        split at he
        · cases he
        · rename_i h2
          exact ⟨h, h2⟩
      · cases he
    obtain ⟨hk, hk2⟩ := hk
    unfold okW at hk
    obtain ⟨t, rfl⟩ := Int.eq_ofNat_of_zero_le (show 0 ≤ T by omega)
    obtain ⟨d, rfl⟩ := Int.eq_ofNat_of_zero_le (show 0 ≤ D by omega)
    have h1 : 1 ≤ d := by omega
    have h5 : d ≤ 500 := by omega
    have hdt : d ≤ t := by omega
    have ht : t ≤ 10000 := by omega
    have W := within_c r 1 1000000
    by_cases hr : 1 ≤ r ∧ r ≤ 1000000
    · rw [show (decide (1 ≤ r) && decide (r ≤ 1000000)) = true from by simp [hr.1, hr.2]] at W
      obtain ⟨k1, k2, k0, k3, k4⟩ := m_facts h1 h5 hdt ht
      obtain ⟨f1, f2⟩ := fd_two h1 h5 hdt ht he hr
      by_cases hl : r < lenW (cl t (cl t d) : Nat) C G
      · exact law_brk h1 h5 hdt ht he k1 k2 k3 k4 rfl hl (f1 hl) W
      · exact con_val (law_ok h1 h5 hdt ht he k1 k2 k3 k4 rfl hl (f2 hl) W) (by simp)
    · rw [show (decide (1 ≤ r) && decide (r ≤ 1000000)) = false from by simp; omega] at W
      exact law_room h1 h5 hdt ht he rfl (fd_room _ _ _ _ _ he hr) W
  · exact lw_bad T D C G r (werr T D C G) (by simp [allC, he]) ⟨aw_all trivial trivial, ck_c _ _ _ _, ln_err _ _ _ _ _ rfl he, fd_err _ _ _ _ _ _ rfl he, rw_c _ _ _ _, trivial⟩
end Go.Proofs.YtngjoconcgakpaaDoor
