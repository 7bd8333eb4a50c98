/- For any rules and record, valid or not, the law WaveChains of the program answers true, and its arguments read as they did. CONDITIONS: none. -/
import Derived.Test.YtjjbacbjdilhmaaTG
import Derived.Test.YtjjbacbjdilhmaaTA
import Derived.Test.YtjjbacbjdilhmaaTE
set_option linter.unusedVariables false
set_option linter.unusedSimpArgs false
set_option linter.unusedSectionVars false
set_option linter.unnecessarySimpa false
/- Fractions: of numbers, compared, multiplied, divided. -/
namespace Go.Proofs.Ytjjbacbjdilhmaa
open Go.Ev Go.RowKit
set_option maxRecDepth 100000
theorem nd_len {z : Int} {k : Nat} (h : z.natAbs < 1000000000 ^ k) : nd z ≤ k := dg_len_le h
theorem nd_lt (z : Int) : z.natAbs < 1000000000 ^ nd z := lt_of_dg_len _
theorem nd_mul (a b : Int) : nd (a * b) ≤ nd a + nd b := nd_len (by
  rw [Int.natAbs_mul, Nat.pow_add]
  have h1 := nd_lt a
  have h2 := nd_lt b
  rcases Nat.eq_zero_or_pos b.natAbs with h | h
  · rw [h, Nat.mul_zero]; exact Nat.mul_pos (Nat.pow_pos (by decide)) (Nat.pow_pos (by decide))
  · exact Nat.lt_of_lt_of_le (Nat.mul_lt_mul_of_pos_right h1 h) (Nat.mul_le_mul_left _ (Nat.le_of_lt h2)))
theorem nd_i64 {n : Int} (h1 : -9223372036854775808 < n) (h2 : n < 9223372036854775808) : nd n ≤ 3 := nd_len (by omega)
/-- The parts of a fraction have so many digits at most. -/
structure SQ (k : Nat) (q : Rat) : Prop where
  num : nd q.num ≤ k
  den : nd (q.den : Int) ≤ k
theorem SQ.mono {k l : Nat} {q : Rat} (h : SQ k q) (hl : k ≤ l) : SQ l q := ⟨Nat.le_trans h.num hl, Nat.le_trans h.den hl⟩
theorem natAbs_ediv_le (a b : Int) (hb : 0 < b) : (a / b).natAbs ≤ a.natAbs := by
  rcases Int.lt_or_le a 0 with h | h
  · have h2 : a ≤ a / b := by
      have := Int.ediv_mul_le a (show b ≠ 0 by omega)
      have h3 : a / b < 0 := Int.ediv_neg_of_neg_of_pos h hb
      have : a / b * b ≤ a / b * 1 := Int.mul_le_mul_of_nonpos_left (by omega) (by omega)
      have h4 := Int.lt_ediv_add_one_mul_self a hb
      have h5 : (a / b + 1) * b ≤ (a / b + 1) * 1 := Int.mul_le_mul_of_nonpos_left (by omega) (by omega)
      omega
    have h3 : a / b < 0 := Int.ediv_neg_of_neg_of_pos h hb
    omega
  · have h2 : 0 ≤ a / b := Int.ediv_nonneg h (by omega)
    have h3 : a / b ≤ a := Int.ediv_le_self b h
    omega
theorem SQ.divInt {n d : Int} (hd : d ≠ 0) {k : Nat} (hn : nd n ≤ k) (hdd : nd d ≤ k) : SQ k (Rat.divInt n d) := by
  have core : ∀ n d : Int, 0 < d → nd n ≤ k → nd d ≤ k → SQ k (Rat.divInt n d) := fun n d hd hn hdd => by
    obtain ⟨p1, p2⟩ := low_parts n d hd
    have hg0 : 0 < Int.gcd n d := Int.gcd_pos_of_ne_zero_right _ (by omega)
    refine ⟨?_, ?_⟩
    · rw [p1]; exact Nat.le_trans (nd_mono (natAbs_ediv_le _ _ (by omega))) hn
    · rw [p2]; exact Nat.le_trans (nd_mono (natAbs_ediv_le _ _ (by omega))) hdd
  rcases Int.lt_or_gt_of_ne hd with h | h
  · rw [← Rat.neg_divInt_neg]
    exact core (-n) (-d) (by omega) (by rw [nd_neg]; exact hn) (by rw [nd_neg]; exact hdd)
  · exact core n d h hn hdd
theorem SQ.int {n : Int} {k : Nat} (hn : nd n ≤ k) (hk : 1 ≤ k) : SQ k (n : Rat) := ⟨by rw [Rat.num_intCast]; exact hn, by
  rw [Rat.den_intCast]; exact Nat.le_trans nd_one hk⟩
theorem mul_parts (p q : Rat) : Rat.divInt (p.num * q.num) ((p.den : Int) * (q.den : Int)) = p * q := by
  rw [← Rat.divInt_mul_divInt, Rat.num_divInt_den, Rat.num_divInt_den]
theorem den_pos' (q : Rat) : (0 : Int) < (q.den : Int) := by have := q.den_pos; omega
theorem SQ.mul {p q : Rat} {k l : Nat} (hp : SQ k p) (hq : SQ l q) : SQ (k + l) (p * q) := by
  rw [← mul_parts]
  exact SQ.divInt (Int.ne_of_gt (Int.mul_pos (den_pos' p) (den_pos' q))) (Nat.le_trans (nd_mul _ _) (Nat.add_le_add hp.num hq.num)) (Nat.le_trans (nd_mul _ _) (Nat.add_le_add hp.den hq.den))
/-! ### The functions -/
theorem rOf_eq (n d : Int) (hd : d ≠ 0) (n1 : -9223372036854775808 < n) (n2 : n < 9223372036854775808) (d1 : -9223372036854775808 < d) (d2 : d < 9223372036854775808) : m_95 [iD n, iD d] = some (rD (Rat.divInt n d)) := by
  rw [m_95_eq]
  unfold w_rOf_M
  have h1 := nd_i64 n1 n2
  have h2 := nd_i64 d1 d2
  have e1 := of_eq n n1 n2
  have e2 := of_eq d d1 d2
  rw [e1, pullD_some (n.sign, (dg n.natAbs).length, (dg n.natAbs).map iD) (by rfl) (by rfl)]
  dsimp only
  rw [e2, pullD_some (d.sign, (dg d.natAbs).length, (dg d.natAbs).map iD) (by rfl) (by rfl)]
  dsimp only
  rw [← wD_cells n, ← wD_cells d, make_eq n d hd (by omega) (by omega)]
  generalize Rat.divInt n d = q
  rw [pullD_some (q.num.sign, (dg q.num.natAbs).length, (dg q.num.natAbs).map iD, (q.den : Int).sign, (dg (q.den : Int).natAbs).length, (dg (q.den : Int).natAbs).map iD) (by rfl) (by rfl)]
  rfl
theorem rInt_eq (n : Int) (n1 : -9223372036854775808 < n) (n2 : n < 9223372036854775808) : m_57 [iD n] = some (rD (n : Rat)) := by
  rw [m_57_eq]
  unfold w_rInt_M
  have e1 := of_eq n n1 n2
  rw [e1, pullD_some (n.sign, (dg n.natAbs).length, (dg n.natAbs).map iD) (by rfl) (by rfl)]
  dsimp only
  rw [one_w, pullD_some ((1 : Int).sign, (dg (1 : Int).natAbs).length, (dg (1 : Int).natAbs).map iD) (by rfl) (by rfl)]
  rw [rD_cells, Rat.num_intCast, Rat.den_intCast]
  rfl
theorem rFrom_eq (n d : Int) (hd : d ≠ 0) (n1 : -9223372036854775808 < n) (n2 : n < 9223372036854775808) (d1 : -9223372036854775808 < d) (d2 : d < 9223372036854775808) : m_59 [.agg [iD n, iD d]] = some (rD (Rat.divInt n d)) := by
  rw [m_59_eq]
  unfold w_rFrom_M
  have e := rOf_eq n d hd n1 n2 d1 d2
  rw [e]
  generalize Rat.divInt n d = q
  rw [pullD_some (q.num.sign, (dg q.num.natAbs).length, (dg q.num.natAbs).map iD, (q.den : Int).sign, (dg (q.den : Int).natAbs).length, (dg (q.den : Int).natAbs).map iD) (by rfl) (by rfl)]
  rfl
theorem rMul_eq (p q : Rat) (k l : Nat) (hp : SQ k p) (hq : SQ l q) (hk : k + l ≤ 10000000) : m_58 [rD p, rD q] = some (rD (p * q)) := by
  rw [rD_cells p, rD_cells q, m_58_eq]
  unfold w_rMul_M
  have := hp.num
  have := hp.den
  have := hq.num
  have := hq.den
  have m1 := mul_eq p.num q.num (by omega)
  have m2 := mul_eq (p.den : Int) (q.den : Int) (by omega)
  have l1 := nd_mul p.num q.num
  have l2 := nd_mul (p.den : Int) (q.den : Int)
  have hd : (p.den : Int) * (q.den : Int) ≠ 0 := Int.ne_of_gt (Int.mul_pos (den_pos' p) (den_pos' q))
  rw [← wD_cells p.num, ← wD_cells (q.den : Int), ← wD_cells q.num, ← wD_cells (p.den : Int), m1, pullD_some ((p.num * q.num).sign, (dg (p.num * q.num).natAbs).length, (dg (p.num * q.num).natAbs).map iD) (by rfl) (by rfl)]
  dsimp only
  rw [m2, pullD_some (((p.den : Int) * (q.den : Int)).sign, (dg ((p.den : Int) * (q.den : Int)).natAbs).length, (dg ((p.den : Int) * (q.den : Int)).natAbs).map iD) (by rfl) (by rfl)]
  dsimp only
  rw [← wD_cells (p.num * q.num), ← wD_cells ((p.den : Int) * (q.den : Int)), make_eq _ _ hd (by omega) (by omega), mul_parts]
  generalize p * q = r
  rw [pullD_some (r.num.sign, (dg r.num.natAbs).length, (dg r.num.natAbs).map iD, (r.den : Int).sign, (dg (r.den : Int).natAbs).length, (dg (r.den : Int).natAbs).map iD) (by rfl) (by rfl)]
  rfl
end Go.Proofs.Ytjjbacbjdilhmaa
/- Fractions that are small enough. -/
namespace Go.Proofs.Ytjjbacbjdilhmaa
open Go.Ev Go.RowKit
set_option maxRecDepth 100000
theorem dg_of {n : Nat} (h : n < 1000000000000000000) : dg n = if n = 0 then [] else if n < 1000000000 then [(n : Int)] else [((n % 1000000000 : Nat) : Int), ((n / 1000000000 : Nat) : Int)] := by
  by_cases h0 : n = 0
  · rw [if_pos h0, h0, dg_zero]
  rw [if_neg h0, dg_pos (by omega)]
  by_cases h1 : n < 1000000000
  · rw [if_pos h1, Nat.mod_eq_of_lt h1, Nat.div_eq_of_lt h1, dg_zero]
  · rw [if_neg h1, dg_pos (n := n / 1000000000) (by omega), Nat.div_eq_of_lt (a := n / 1000000000) (by omega), dg_zero, Nat.mod_eq_of_lt (a := n / 1000000000) (by omega)]
theorem int_eq (z : Int) (h : z.natAbs < 1000000000000000000) : m_96 [wD z] = some (.tup [iD z, .one (.bool true)]) := by
  rw [wD_cells z, m_96_eq]
  unfold w_int_M
  generalize hn : z.natAbs = n at *
  have hz : z.sign * (n : Int) = z := by rw [← hn]; exact Int.sign_mul_natAbs z
  have e := dg_of h
  by_cases h0 : n = 0
  · rw [if_pos h0] at e
    rw [e, if_neg (by decide)]
    have hr : runR (w_int_L5_S z.sign ([] : List Int).length (([] : List Int).map iD)) (.next 0 [iD 0, iD (IntKind.i64.wrap (((([] : List Int).length : Nat) : Int) - 1))]) = some (.out 0 [iD 0]) := by
      refine runR_exit ?_
      rw [w_int_L5_S_0]
      unfold w_int_L5_S0
      rw [wrapI _ (by decide) (by decide), pullD_some ((0 : Int), (-1 : Int)) (by rfl) (by rfl)]
      dsimp only
      rw [if_neg (by decide)]
    rw [bindL_some hr, if_pos rfl, pullD_some (0 : Int) (by rfl) (by rfl), Int.mul_zero, wrapI _ (by decide) (by decide)]
    rw [show z = 0 by omega]
  rw [if_neg h0] at e
  have sx : ∀ (l : List Int) (x y : Int) (i : Nat), l[i]? = some y → i < l.length → w_int_L5_S z.sign l.length (l.map iD) (.next 0 [iD x, iD (i : Int)]) = some (.next 0 [iD (IntKind.i64.wrap (IntKind.i64.wrap (x * 1000000000) + y)), iD (IntKind.i64.wrap ((i : Int) - 1))]) := fun l x y i hy hi => by
    rw [w_int_L5_S_0]
    unfold w_int_L5_S0
    rw [pullD_some (x, (i : Int)) (by rfl) (by rfl)]
    dsimp only
    rw [if_pos (by omega), guardP_pos (by omega), readW hy, pullI]
  have sy : ∀ (l : List Int) (x : Int), runR (w_int_L5_S z.sign l.length (l.map iD)) (.next 0 [iD x, iD (-1)]) = some (.out 0 [iD x]) := fun l x => by
    refine runR_exit ?_
    rw [w_int_L5_S_0]
    unfold w_int_L5_S0
    rw [pullD_some (x, (-1 : Int)) (by rfl) (by rfl)]
    dsimp only
    rw [if_neg (by decide)]
  have fin : z.sign * (n : Int) = z → IntKind.i64.wrap (z.sign * (n : Int)) = z := fun hz => by rw [hz, wrapI _ (by omega) (by omega)]
  by_cases h1 : n < 1000000000
  · rw [if_pos h1] at e
    rw [e, if_neg (by simp)]
    have s0 := sx [(n : Int)] 0 n 0 rfl (by simp)
    have hr : runR (w_int_L5_S z.sign [(n : Int)].length ([(n : Int)].map iD)) (.next 0 [iD 0, iD (IntKind.i64.wrap ((([(n : Int)].length : Nat) : Int) - 1))]) = some (.out 0 [iD (n : Int)]) := by
      rw [show IntKind.i64.wrap ((([(n : Int)].length : Nat) : Int) - 1) = ((0 : Nat) : Int) from wrapI _ (by simp) (by simp), runR_next s0, Int.zero_mul, wrapI 0 (by decide) (by decide), wrapI (0 + (n : Int)) (by omega) (by omega), show IntKind.i64.wrap (((0 : Nat) : Int) - 1) = -1 from wrapI _ (by decide) (by decide), Int.zero_add]
      exact sy _ _
    rw [bindL_some hr, if_pos rfl, pullD_some (n : Int) (by rfl) (by rfl), fin hz]
  · rw [if_neg h1] at e
    rw [e, if_neg (by simp)]
    generalize hq : n / 1000000000 = q at *
    generalize hm : n % 1000000000 = m at *
    have hnm : (n : Int) = (q : Int) * 1000000000 + m := by omega
    have s0 := sx [(m : Int), (q : Int)] 0 q 1 rfl (by simp)
    have s1 := sx [(m : Int), (q : Int)] q m 0 rfl (by simp)
    have hr : runR (w_int_L5_S z.sign [(m : Int), (q : Int)].length ([(m : Int), (q : Int)].map iD)) (.next 0 [iD 0, iD (IntKind.i64.wrap ((([(m : Int), (q : Int)].length : Nat) : Int) - 1))]) = some (.out 0 [iD (n : Int)]) := by
      rw [show IntKind.i64.wrap ((([(m : Int), (q : Int)].length : Nat) : Int) - 1) = ((1 : Nat) : Int) from wrapI _ (by simp) (by simp), runR_next s0, Int.zero_mul, wrapI 0 (by decide) (by decide), wrapI (0 + (q : Int)) (by omega) (by omega), show IntKind.i64.wrap (((1 : Nat) : Int) - 1) = ((0 : Nat) : Int) from wrapI _ (by decide) (by decide), Int.zero_add, runR_next s1, wrapI ((q : Int) * 1000000000) (by omega) (by omega), wrapI ((q : Int) * 1000000000 + m) (by omega) (by omega), show IntKind.i64.wrap (((0 : Nat) : Int) - 1) = -1 from wrapI _ (by decide) (by decide), ← hnm]
      exact sy _ _
    rw [bindL_some hr, if_pos rfl, pullD_some (n : Int) (by rfl) (by rfl), fin hz]
end Go.Proofs.Ytjjbacbjdilhmaa
/- Scales. -/
namespace Go.Proofs.Ytjjbacbjdilhmaa
open Go.Ev Go.RowKit
set_option maxRecDepth 100000
theorem rd_rat {n d : Int} (hn : 0 ≤ n) (h1 : n < 9223372036854775808) (hd : 0 < d) (h2 : d < 9223372036854775808) : rdN n d = (Rat.divInt n d).num ∧ rdD n d = ((Rat.divInt n d).den : Int) := by
  obtain ⟨p1, p2⟩ := low_parts n d hd
  obtain ⟨q1, q2, -, -⟩ := rd_ok hn h1 hd h2
  rw [q1, q2, p1, p2, Int.tdiv_eq_ediv_of_nonneg hn, Int.tdiv_eq_ediv_of_nonneg (by omega)]
  exact ⟨rfl, rfl⟩
theorem low_rat {n d : Int} (h : lowB n d = true) (h2 : d < 9223372036854775808) : (Rat.divInt n d).num = n ∧ ((Rat.divInt n d).den : Int) = d := by
  have hd := lowB_pos h
  unfold lowB at h
  simp only [decide_eq_true_eq] at h
  have h1 := h.2
  rw [absW_gcd hd h2] at h1
  obtain ⟨p1, p2⟩ := low_parts n d hd
  rw [p1, p2, h1, Int.ediv_one, Int.ediv_one]
  exact ⟨rfl, rfl⟩
/-- A fraction from 0 on with parts that are not too large. -/
structure FB (B : Int) (q : Rat) : Prop where
  n0 : 0 ≤ q.num
  n1 : q.num ≤ B
  d1 : (q.den : Int) ≤ B
theorem FB.mono {B C : Int} {q : Rat} (h : FB B q) (hc : B ≤ C) : FB C q := ⟨h.n0, Int.le_trans h.n1 hc, Int.le_trans h.d1 hc⟩
theorem product_eq {q : Rat} {n d B : Int} (hq : FB B q) (hB : B ≤ 1000000000) (hl : lowB n d = true) (n1 : 1 ≤ n) (n2 : n ≤ 1000) (d2 : d ≤ 1000) :
    m_47 [.agg [iD q.num, iD (q.den : Int)], .agg [iD n, iD d]] = some (.agg [iD (q * Rat.divInt n d).num, iD ((q * Rat.divInt n d).den : Int)]) ∧ FB (B * 1000) (q * Rat.divInt n d) := by
  have hd := lowB_pos hl
  obtain ⟨l1, l2⟩ := low_rat hl (by omega)
  obtain ⟨a0, a1, a2⟩ := hq
  have a3 := den_pos' q
  have b1 : 0 ≤ q.num * n ∧ q.num * n ≤ B * 1000 := ⟨Int.mul_nonneg a0 (by omega), Int.mul_le_mul a1 n2 (by omega) (by omega)⟩
  have b2 : 0 < (q.den : Int) * d ∧ (q.den : Int) * d ≤ B * 1000 := ⟨Int.mul_pos a3 hd, Int.mul_le_mul a2 d2 (by omega) (by omega)⟩
  have e := mul_parts q (Rat.divInt n d)
  rw [l1, l2] at e
  obtain ⟨r1, r2⟩ := rd_rat b1.1 (by omega) b2.1 (by omega)
  obtain ⟨s1, s2, s3, s4⟩ := rd_ok b1.1 (by omega) b2.1 (by omega)
  obtain ⟨t1, t2⟩ := tdiv_nat (g := Int.gcd (q.num * n) ((q.den : Int) * d)) b1.1
  obtain ⟨t3, t4⟩ := tdiv_nat (g := Int.gcd (q.num * n) ((q.den : Int) * d)) (show 0 ≤ (q.den : Int) * d by omega)
  rw [e] at r1 r2
  constructor
  · rw [m_47_eq]
    unfold product_M
    rw [wrapJ (q.num * n) (by omega) (by omega), wrapJ ((q.den : Int) * d) (by omega) (by omega), reduced_eq _ b2.1 (by omega), r1, r2, pullD_some ((q * Rat.divInt n d).num, ((q * Rat.divInt n d).den : Int)) (by rfl) (by rfl)]
  · refine ⟨?_, ?_, ?_⟩
    · rw [← r1]; exact s3
    · rw [← r1, s1]; omega
    · rw [← r2, s2]; omega
abbrev loF (x : Q4) : Rat := Rat.divInt x.a x.b
abbrev hiF (x : Q4) : Rat := Rat.divInt x.c x.d
def loT (l : List Q4) (i : Nat) : Rat := (l.take i).foldl (fun q x => q * loF x) 1
def hiT (l : List Q4) (i : Nat) : Rat := (l.take i).foldl (fun q x => q * hiF x) 1
theorem loT_succ {l : List Q4} {i : Nat} (h : i < l.length) : loT l (i + 1) = loT l i * loF (qAt l i) := by
  unfold loT
  rw [q_take h, List.foldl_append]; rfl
theorem hiT_succ {l : List Q4} {i : Nat} (h : i < l.length) : hiT l (i + 1) = hiT l i * hiF (qAt l i) := by
  unfold hiT
  rw [q_take h, List.foldl_append]; rfl
theorem facE_ok {x : Q4} (h : facE x = 0) : lowB x.a x.b = true ∧ lowB x.c x.d = true ∧ 1 ≤ x.a ∧ x.a ≤ 1000 ∧ 1 ≤ x.b ∧ x.b ≤ 1000 ∧ 1 ≤ x.c ∧ x.c ≤ 1000 ∧ 1 ≤ x.d ∧ x.d ≤ 1000 ∧ x.a * x.d ≤ x.c * x.b := by
  unfold facE at h
  split at h
  · rename_i g
    split at h
    · rename_i g2
      split at h
      · rename_i g3
        unfold facR at g2
        exact ⟨g.1, g.2, by omega, by omega, by omega, by omega, by omega, by omega, by omega, by omega, g3⟩
      · cases h
    · cases h
  · cases h
def bnd : Nat → Int
  | 0 => 1
  | 1 => 1000
  | 2 => 1000000
  | 3 => 1000000000
  | _ => 1000000000000
theorem bnd_le {i : Nat} (h : i < 4) : bnd i ≤ 1000000000 ∧ bnd i * 1000 = bnd (i + 1) := by
  have : i = 0 ∨ i = 1 ∨ i = 2 ∨ i = 3 := by omega
  rcases this with rfl | rfl | rfl | rfl <;> decide
theorem bnd_top {i : Nat} (h : i ≤ 4) : bnd i ≤ 1000000000000 := by
  have : i = 0 ∨ i = 1 ∨ i = 2 ∨ i = 3 ∨ i = 4 := by omega
  rcases this with rfl | rfl | rfl | rfl | rfl <;> decide
/-- Chains that are valid. -/
structure ChOK (l : List Q4) : Prop where
  len : l.length ≤ 4
  fac : ∀ i, i < l.length → facE (qAt l i) = 0
theorem one_FB : FB 1 (1 : Rat) := ⟨by decide, by decide, by decide⟩
theorem fb_both {l : List Q4} (h : ChOK l) : ∀ i, i ≤ l.length → FB (bnd i) (loT l i) ∧ FB (bnd i) (hiT l i)
  | 0, _ => by
    have e1 : loT l 0 = 1 := rfl
    have e2 : hiT l 0 = 1 := rfl
    rw [e1, e2]
    exact ⟨one_FB, one_FB⟩
  | i + 1, hi => by
    obtain ⟨f1, f2⟩ := fb_both h i (by omega)
    have hl := h.len
    obtain ⟨b1, b2⟩ := bnd_le (i := i) (by omega)
    obtain ⟨k1, k2, k3⟩ := facE_ok (h.fac i (by omega))
    rw [loT_succ (by omega), hiT_succ (by omega), ← b2]
    exact ⟨(product_eq f1 b1 k1 (by omega) (by omega) (by omega)).2, (product_eq f2 b1 k2 (by omega) (by omega) (by omega)).2⟩
theorem sc_go (re p q u v : Int) (l : List Q4) (x0 : Int) (h : ChOK l) : ∀ m i, i + m = l.length →
    runR (scaleOf_L7_S re p q u v l.length (cQ l) x0) (.next 0 [iD (i : Int), iD (loT l i).num, iD ((loT l i).den : Int), iD (hiT l i).num, iD ((hiT l i).den : Int)]) = some (.out 0 [iD (loT l l.length).num, iD ((loT l l.length).den : Int), iD (hiT l l.length).num, iD ((hiT l l.length).den : Int)]) := by
  have hl := h.len
  intro m
  induction m with
  | zero =>
    intro i hi
    have : i = l.length := by omega
    subst this
    refine runR_exit ?_
    rw [scaleOf_L7_S_0]
    unfold scaleOf_L7_S0
    rw [pullD_some ((l.length : Int), (loT l l.length).num, ((loT l l.length).den : Int), (hiT l l.length).num, ((hiT l l.length).den : Int)) (by rfl) (by rfl)]
    dsimp only
    rw [if_neg (by omega)]
  | succ m ih =>
    intro i hi
    have hi' : i < l.length := by omega
    obtain ⟨f1, f2⟩ := fb_both h i (by omega)
    obtain ⟨b1, b2⟩ := bnd_le (i := i) (by omega)
    obtain ⟨k1, k2, k3⟩ := facE_ok (h.fac i hi')
    have p1 := (product_eq f1 b1 k1 (by omega) (by omega) (by omega)).1
    have p2 := (product_eq f2 b1 k2 (by omega) (by omega) (by omega)).1
    have st : scaleOf_L7_S re p q u v l.length (cQ l) x0 (.next 0 [iD (i : Int), iD (loT l i).num, iD ((loT l i).den : Int), iD (hiT l i).num, iD ((hiT l i).den : Int)]) = some (.next 0 [iD ((i + 1 : Nat) : Int), iD (loT l (i + 1)).num, iD ((loT l (i + 1)).den : Int), iD (hiT l (i + 1)).num, iD ((hiT l (i + 1)).den : Int)]) := by
      rw [scaleOf_L7_S_0]
      unfold scaleOf_L7_S0
      rw [pullD_some ((i : Int), (loT l i).num, ((loT l i).den : Int), (hiT l i).num, ((hiT l i).den : Int)) (by rfl) (by rfl)]
      dsimp only
      rw [if_pos (by omega), guardP_pos (by omega), show ((i : Int).toNat) = i from rfl, readQ hi', pullD_some ((qAt l i).a, (qAt l i).b, (qAt l i).c, (qAt l i).d) (by rfl) (by rfl)]
      dsimp only
      rw [p1, pullD_some ((loT l i * loF (qAt l i)).num, ((loT l i * loF (qAt l i)).den : Int)) (by rfl) (by rfl)]
      dsimp only
      rw [p2, pullD_some ((hiT l i * hiF (qAt l i)).num, ((hiT l i * hiF (qAt l i)).den : Int)) (by rfl) (by rfl), natI (by omega), loT_succ hi', hiT_succ hi']
    rw [runR_next st, ih (i + 1) (by omega)]
/-- The ends of a scale. -/
abbrev loS (l : List Q4) : Rat := loT l l.length
abbrev hiS (l : List Q4) : Rat := hiT l l.length
def smQ (q : Rat) : Prop := q.num ≤ 1000000000 ∧ (q.den : Int) ≤ 1000000000
instance (q : Rat) : Decidable (smQ q) := by unfold smQ; infer_instance
def scE (re : Int) (f : Q4) (l : List Q4) : Int := if rulE re f l = 0 then (if smQ (loS l) ∧ smQ (hiS l) then 0 else 8) else rulE re f l
abbrev spD (l : List Q4) : D := .agg [iD (loS l).num, iD ((loS l).den : Int), iD (hiS l).num, iD ((hiS l).den : Int)]
abbrev z4D : D := .agg [iD 0, iD 0, iD 0, iD 0]
theorem rulE_ok {re : Int} {f : Q4} {l : List Q4} (h : rulE re f l = 0) : 0 ≤ re ∧ re ≤ 100 ∧ facE f = 0 ∧ ChOK l := by
  unfold rulE at h
  split at h
  · rename_i g
    split at h
    · rename_i g2
      split at h
      · cases h
      · exact ⟨g.1, g.2, g2, by omega, fun i hi => fstE_zero h i (by omega) (by omega)⟩
    · contradiction
  · cases h
theorem scaleOf_eq (re : Int) (f : Q4) (l : List Q4) (hl : l.length ≤ 1000) : m_12 [ruD re f l] = some (if scE re f l = 0 then .tup [spD l, iD 0] else .tup [z4D, iD (scE re f l)]) := by
  rw [m_12_eq]
  unfold scaleOf_M scE
  have h0 : m_15 [.agg [iD re, iD f.a, iD f.b, iD f.c, iD f.d, .list l.length (cQ l)]] = _ := chkRules_eq re f l hl
  rw [h0, pullI]
  by_cases g : rulE re f l = 0
  · obtain ⟨-, -, -, hc⟩ := rulE_ok g
    rw [if_neg (fun h => h g), if_pos g]
    have hr := sc_go re f.a f.b f.c f.d l (rulE re f l) hc l.length 0 (by omega)
    have hr : runR (scaleOf_L7_S re f.a f.b f.c f.d l.length (cQ l) (rulE re f l)) (.next 0 [iD 0, iD 1, iD 1, iD 1, iD 1]) = _ := hr
    rw [bindL_some hr, if_pos rfl, pullD_some ((loS l).num, ((loS l).den : Int), (hiS l).num, ((hiS l).den : Int)) (by rfl) (by rfl)]
    dsimp only
    rw [tooLarge_eq, pullB, tooLarge_eq, pullB]
    by_cases s1 : smQ (loS l)
    · rw [if_neg (by simp only [decide_eq_true_eq]; exact fun h => h s1)]
      by_cases s2 : smQ (hiS l)
      · rw [if_neg (by simp only [decide_eq_true_eq]; exact fun h => h s2), show (if smQ (loS l) ∧ smQ (hiS l) then (0 : Int) else 8) = 0 from if_pos ⟨s1, s2⟩, if_pos rfl]
      · rw [if_pos (by simp only [decide_eq_true_eq]; exact s2), show (if smQ (loS l) ∧ smQ (hiS l) then (0 : Int) else 8) = 8 from if_neg (fun h => s2 h.2), if_neg (show ¬ (8 : Int) = 0 by decide)]
    · rw [if_pos (by simp only [decide_eq_true_eq]; exact s1), show (if smQ (loS l) ∧ smQ (hiS l) then (0 : Int) else 8) = 8 from if_neg (fun h => s1 h.1), if_neg (show ¬ (8 : Int) = 0 by decide)]
  · rw [if_pos g, if_neg g, if_neg g]
/-! ### The reference's -/
abbrev q6 (q : Rat) : Int × Nat × List D × Int × Nat × List D := (q.num.sign, (dg q.num.natAbs).length, (dg q.num.natAbs).map iD, (q.den : Int).sign, (dg (q.den : Int).natAbs).length, (dg (q.den : Int).natAbs).map iD)
abbrev rL (q : Rat) : List D := [iD q.num.sign, .list (dg q.num.natAbs).length ((dg q.num.natAbs).map iD), iD (q.den : Int).sign, .list (dg (q.den : Int).natAbs).length ((dg (q.den : Int).natAbs).map iD)]
theorem SQ.of_fb {B : Int} {q : Rat} (h : FB B q) (hB : B ≤ 1000000000000) : SQ 3 q := by
  obtain ⟨a, b, c⟩ := h
  have := den_pos' q
  exact ⟨nd_i64 (by omega) (by omega), nd_i64 (by omega) (by omega)⟩
theorem rFrac_eq {q : Rat} (h : FB 1000000000000 q) : m_60 [rD q] = some (if smQ q then .tup [.agg [iD q.num, iD (q.den : Int)], .one (.bool true)] else .tup [.agg [iD 0, iD 0], .one (.bool false)]) := by
  obtain ⟨a, b, c⟩ := h
  have hd := den_pos' q
  have i1 := int_eq q.num (by omega)
  have i2 := int_eq (q.den : Int) (by omega)
  rw [wD_cells] at i1 i2
  rw [rD_cells q, m_60_eq]
  unfold w_rFrac_M
  rw [i1, pullD_some (q.num, true) (by rfl) (by rfl)]
  dsimp only
  rw [i2, pullD_some ((q.den : Int), true) (by rfl) (by rfl)]
  dsimp only
  rw [if_neg (by decide), if_neg (by decide), isSmall_eq, pullB]
  by_cases s : smQ q
  · have s' := s
    unfold smQ at s'
    rw [if_pos s, if_neg (by simp only [decide_eq_false_iff_not]; omega)]
  · have s' := s
    unfold smQ at s'
    rw [if_neg s, if_pos (by simp only [decide_eq_false_iff_not]; omega)]
theorem scR_go (re p q u v : Int) (l : List Q4) (x0 : Int) (x1 : Nat) (x2 : List D) (x3 : Int) (x4 : Nat) (x5 : List D) (x6 : Int) (x7 : Nat) (x8 : List D) (x9 : Int) (x10 : Nat) (x11 : List D) (h : ChOK l) : ∀ m i, i + m = l.length →
    runR (scaleR_L3_S re p q u v l.length (cQ l) x0 x1 x2 x3 x4 x5 x6 x7 x8 x9 x10 x11) (.next 0 (iD (i : Int) :: (rL (loT l i) ++ rL (hiT l i)))) = some (.out 0 (rL (loS l) ++ rL (hiS l))) := by
  have hl := h.len
  intro m
  induction m with
  | zero =>
    intro i hi
    have : i = l.length := by omega
    subst this
    refine runR_exit ?_
    rw [scaleR_L3_S_0]
    unfold scaleR_L3_S0
    rw [pullD_some ((l.length : Int), (loS l).num.sign, (dg (loS l).num.natAbs).length, (dg (loS l).num.natAbs).map iD, ((loS l).den : Int).sign, (dg ((loS l).den : Int).natAbs).length, (dg ((loS l).den : Int).natAbs).map iD, q6 (hiS l)) (by rfl) (by rfl)]
    dsimp only
    rw [if_neg (by omega)]
    rfl
  | succ m ih =>
    intro i hi
    have hi' : i < l.length := by omega
    obtain ⟨f1, f2⟩ := fb_both h i (by omega)
    obtain ⟨b1, b2⟩ := bnd_le (i := i) (by omega)
    obtain ⟨k1, k2, k3, k4, k5, k6, k7, k8, k9, k10, -⟩ := facE_ok (h.fac i hi')
    have s1 := SQ.of_fb f1 (by omega)
    have s2 := SQ.of_fb f2 (by omega)
    obtain ⟨l1, l2⟩ := low_rat k1 (by omega)
    obtain ⟨l3, l4⟩ := low_rat k2 (by omega)
    have s3 : SQ 3 (loF (qAt l i)) := ⟨by rw [l1]; exact nd_i64 (by omega) (by omega), by rw [l2]; exact nd_i64 (by omega) (by omega)⟩
    have s4 : SQ 3 (hiF (qAt l i)) := ⟨by rw [l3]; exact nd_i64 (by omega) (by omega), by rw [l4]; exact nd_i64 (by omega) (by omega)⟩
    have r1 : m_59 [.agg [iD (qAt l i).a, iD (qAt l i).b]] = some (rD (loF (qAt l i))) := rFrom_eq (qAt l i).a (qAt l i).b (by omega) (by omega) (by omega) (by omega) (by omega)
    have r2 : m_59 [.agg [iD (qAt l i).c, iD (qAt l i).d]] = some (rD (hiF (qAt l i))) := rFrom_eq (qAt l i).c (qAt l i).d (by omega) (by omega) (by omega) (by omega) (by omega)
    have m1 := rMul_eq (loT l i) (loF (qAt l i)) 3 3 s1 s3 (by decide)
    have m2 := rMul_eq (hiT l i) (hiF (qAt l i)) 3 3 s2 s4 (by decide)
    have st : scaleR_L3_S re p q u v l.length (cQ l) x0 x1 x2 x3 x4 x5 x6 x7 x8 x9 x10 x11 (.next 0 (iD (i : Int) :: (rL (loT l i) ++ rL (hiT l i)))) = some (.next 0 (iD ((i + 1 : Nat) : Int) :: (rL (loT l (i + 1)) ++ rL (hiT l (i + 1))))) := by
      rw [loT_succ hi', hiT_succ hi']
      generalize loT l i = q1 at *
      generalize hiT l i = q2 at *
      rw [scaleR_L3_S_0]
      unfold scaleR_L3_S0
      rw [pullD_some ((i : Int), q1.num.sign, (dg q1.num.natAbs).length, (dg q1.num.natAbs).map iD, (q1.den : Int).sign, (dg (q1.den : Int).natAbs).length, (dg (q1.den : Int).natAbs).map iD, q6 q2) (by rfl) (by rfl)]
      dsimp only
      rw [if_pos (by omega), guardP_pos (by omega), guardP_pos (by omega), show ((i : Int).toNat) = i from rfl, readQlo hi', pullD_some ((qAt l i).a, (qAt l i).b) (by rfl) (by rfl)]
      dsimp only
      rw [r1]
      generalize loF (qAt l i) = g1 at *
      rw [pullD_some (q6 g1) (by rfl) (by rfl)]
      dsimp only
      rw [← rD_cells q1, ← rD_cells g1, m1]
      generalize q1 * g1 = t1 at *
      rw [pullD_some (q6 t1) (by rfl) (by rfl)]
      dsimp only
      rw [readQhi hi', pullD_some ((qAt l i).c, (qAt l i).d) (by rfl) (by rfl)]
      dsimp only
      rw [r2]
      generalize hiF (qAt l i) = g2 at *
      rw [pullD_some (q6 g2) (by rfl) (by rfl)]
      dsimp only
      rw [← rD_cells q2, ← rD_cells g2, m2]
      generalize q2 * g2 = t2 at *
      rw [pullD_some (q6 t2) (by rfl) (by rfl)]
      dsimp only
      rw [natI (by omega)]
      rfl
    rw [runR_next st, ih (i + 1) (by omega)]
theorem scaleR_eq {re : Int} {f : Q4} {l : List Q4} (hc : ChOK l) : m_19 [ruD re f l] = some (if smQ (loS l) ∧ smQ (hiS l) then .tup [spD l, .one (.bool true)] else .tup [z4D, .one (.bool false)]) := by
  rw [m_19_eq]
  unfold scaleR_M
  have r1 := rInt_eq 1 (by decide) (by decide)
  have e1 : ((1 : Int) : Rat) = 1 := rfl
  rw [e1] at r1
  rw [r1, pullD_some (q6 1) (by rfl) (by rfl)]
  dsimp only
  rw [pullD_some (q6 1) (by rfl) (by rfl)]
  dsimp only
  have hr := fun x0 x1 x2 x3 x4 x5 x6 x7 x8 x9 x10 x11 => scR_go re f.a f.b f.c f.d l x0 x1 x2 x3 x4 x5 x6 x7 x8 x9 x10 x11 hc l.length 0 (by omega)
  have e2 : loT l 0 = 1 := rfl
  have e3 : hiT l 0 = 1 := rfl
  rw [e2, e3] at hr
  obtain ⟨f1, f2⟩ := fb_both hc l.length (Nat.le_refl _)
  have f1 := f1.mono (bnd_top hc.len)
  have f2 := f2.mono (bnd_top hc.len)
  have i1 := rFrac_eq f1
  have i2 := rFrac_eq f2
  rw [rD_cells] at i1 i2
  refine Eq.trans (bindL_some (hr _ _ _ _ _ _ _ _ _ _ _ _)) ?_
  rw [if_pos rfl, pullD_some ((loS l).num.sign, (dg (loS l).num.natAbs).length, (dg (loS l).num.natAbs).map iD, ((loS l).den : Int).sign, (dg ((loS l).den : Int).natAbs).length, (dg ((loS l).den : Int).natAbs).map iD, q6 (hiS l)) (by rfl) (by rfl)]
  dsimp only
  by_cases s1 : smQ (loS l)
  · rw [if_pos s1] at i1
    rw [i1, pullD_some ((loS l).num, ((loS l).den : Int), true) (by rfl) (by rfl)]
    dsimp only
    by_cases s2 : smQ (hiS l)
    · rw [if_pos s2] at i2
      rw [i2, pullD_some ((hiS l).num, ((hiS l).den : Int), true) (by rfl) (by rfl)]
      dsimp only
      rw [if_neg (by decide), if_neg (by decide), if_pos ⟨s1, s2⟩]
    · rw [if_neg s2] at i2
      rw [i2, pullD_some ((0 : Int), (0 : Int), false) (by rfl) (by rfl)]
      dsimp only
      rw [if_neg (by decide), if_pos rfl, if_neg (fun h => s2 h.2)]
  · rw [if_neg s1] at i1
    rw [i1, pullD_some ((0 : Int), (0 : Int), false) (by rfl) (by rfl)]
    dsimp only
    have : ∃ x y : Int, ∃ b : Bool, m_60 [.agg (rL (hiS l))] = some (.tup [.agg [iD x, iD y], .one (.bool b)]) := by
      rw [show (D.agg (rL (hiS l))) = .agg [iD (hiS l).num.sign, .list (dg (hiS l).num.natAbs).length ((dg (hiS l).num.natAbs).map iD), iD ((hiS l).den : Int).sign, .list (dg ((hiS l).den : Int).natAbs).length ((dg ((hiS l).den : Int).natAbs).map iD)] from rfl, i2]
      split
      · exact ⟨_, _, _, rfl⟩
      · exact ⟨_, _, _, rfl⟩
    obtain ⟨x, y, b, hxy⟩ := this
    rw [hxy, pullD_some (x, y, b) (by rfl) (by rfl)]
    dsimp only
    rw [if_pos rfl, if_neg (fun h => s1 h.1)]
end Go.Proofs.Ytjjbacbjdilhmaa
/- The law of chains. -/
namespace Go.Proofs.Ytjjbacbjdilhmaa
open Go.Ev Go.RowKit
set_option maxRecDepth 100000
theorem scE_rul {re : Int} {f : Q4} {l : List Q4} (h : rulE re f l ≠ 0) : scE re f l = rulE re f l := by
  unfold scE; rw [if_neg h]
theorem law3_eq (re : Int) (f : Q4) (l : List Q4) (st : Int) (y : List Int) : m_3 [ruD re f l, reD st y] = some (.one (.bool true)) := by
  rw [m_3_eq]
  unfold law3_M
  have a1 : m_10 [.agg [iD st, .list y.length (y.map iD)]] = _ := few_eq st y
  have a2 : m_11 [.agg [iD re, iD f.a, iD f.b, iD f.c, iD f.d, .list l.length (cQ l)]] = _ := fewF_eq re f l
  rw [m_9_eq, pullB, if_neg (by decide), a1, pullB]
  by_cases g1 : ¬ (y.length : Int) ≤ 70
  · rw [if_pos (by simpa using g1)]
  have g1 := Classical.not_not.1 g1
  rw [if_neg (by simpa using g1), a2, pullB]
  by_cases g2 : ¬ (l.length : Int) ≤ 6
  · rw [if_pos (by simpa using g2)]
  have g2 := Classical.not_not.1 g2
  have hl : l.length ≤ 1000 := by omega
  have hy : y.length ≤ 1000 := by omega
  have a3 : m_13 [.agg [iD re, iD f.a, iD f.b, iD f.c, iD f.d, .list l.length (cQ l)]] = _ := copyRules_eq re f l hl
  have a4 : m_14 [.agg [iD re, iD f.a, iD f.b, iD f.c, iD f.d, .list l.length (cQ l)]] = _ := rulesErr_eq re f l hl
  have a5 : m_15 [.agg [iD re, iD f.a, iD f.b, iD f.c, iD f.d, .list l.length (cQ l)]] = _ := chkRules_eq re f l hl
  have a6 : m_17 [.agg [iD st, .list y.length (y.map iD)]] = _ := copyRecord_eq st y hy
  have a7 : m_16 [.agg [iD st, .list y.length (y.map iD)]] = _ := chkRecord_eq st y hy
  have a8 : m_18 [.agg [iD st, .list y.length (y.map iD)]] = _ := recErr_eq st y hy
  have a9 : m_12 [.agg [iD re, iD f.a, iD f.b, iD f.c, iD f.d, .list l.length (cQ l)]] = _ := scaleOf_eq re f l hl
  rw [if_neg (by simpa using g2), a3, pullD_some (re, f.a, f.b, f.c, f.d, l.length, cQ l) (by rfl) (by rfl)]
  dsimp only
  rw [a9]
  have fin : ∀ (p q u v e : Int) (k : Int × Int × Int × Int × Int → Option D), True := fun _ _ _ _ _ _ => trivial
  by_cases h : scE re f l = 0
  · have hr : rulE re f l = 0 := by
      refine Classical.byContradiction fun hr => ?_
      rw [scE_rul hr] at h
      exact hr h
    have hs : smQ (loS l) ∧ smQ (hiS l) := by
      unfold scE at h
      rw [if_pos hr] at h
      split at h
      · assumption
      · cases h
    have b1 : m_19 [.agg [iD re, iD f.a, iD f.b, iD f.c, iD f.d, .list l.length (cQ l)]] = _ := scaleR_eq (re := re) (f := f) (rulE_ok hr).2.2.2
    rw [if_pos hs] at b1
    rw [if_pos h, pullD_some ((loS l).num, ((loS l).den : Int), (hiS l).num, ((hiS l).den : Int), (0 : Int)) (by rfl) (by rfl)]
    dsimp only
    rw [a4, pullI]
    rw [pullD_some (re, f.a, f.b, f.c, f.d, l.length, cQ l) (by rfl) (by rfl)]
    dsimp only
    rw [a5, pullI, if_neg (by simp), a6, pullD_some (st, y.length, y.map iD) (by rfl) (by rfl)]
    dsimp only
    rw [a7, pullI, a8, pullI, if_neg (by simp), hr, if_neg (by simp), b1, pullD_some ((loS l).num, ((loS l).den : Int), (hiS l).num, ((hiS l).den : Int), true) (by rfl) (by rfl)]
    dsimp only
    rw [if_neg (by decide), if_pos rfl]
    simp
  · rw [if_neg h, pullD_some ((0 : Int), (0 : Int), (0 : Int), (0 : Int), scE re f l) (by rfl) (by rfl)]
    dsimp only
    rw [a4, pullI]
    rw [pullD_some (re, f.a, f.b, f.c, f.d, l.length, cQ l) (by rfl) (by rfl)]
    dsimp only
    rw [a5, pullI, if_neg (by simp), a6, pullD_some (st, y.length, y.map iD) (by rfl) (by rfl)]
    dsimp only
    rw [a7, pullI, a8, pullI, if_neg (by simp)]
    by_cases hr : rulE re f l = 0
    · have hs : ¬ (smQ (loS l) ∧ smQ (hiS l)) := fun hs => h (by unfold scE; rw [if_pos hr, if_pos hs])
      have e8 : scE re f l = 8 := by unfold scE; rw [if_pos hr, if_neg hs]
      have b1 : m_19 [.agg [iD re, iD f.a, iD f.b, iD f.c, iD f.d, .list l.length (cQ l)]] = _ := scaleR_eq (re := re) (f := f) (rulE_ok hr).2.2.2
      rw [if_neg hs] at b1
      rw [hr, if_neg (by simp), b1, pullD_some ((0 : Int), (0 : Int), (0 : Int), (0 : Int), false) (by rfl) (by rfl)]
      dsimp only
      rw [if_pos rfl, e8, if_pos rfl]
      simp
    · rw [if_pos hr, scE_rul hr, if_pos rfl]
      simp
theorem law3_con (re : Int) (f : Q4) (l : List Q4) (st : Int) (y : List Int) : Con 3 [ruD re f l, reD st y] (.one (.bool true)) := m_3_ok (law3_eq re f l st y)
end Go.Proofs.Ytjjbacbjdilhmaa
/- WaveChains: what the runs give, for every argument. -/
namespace Go.Proofs.Ytjjbacbjdilhmaa.waveChains
open Go.ChangeShapes Go.WideShapes Go.ChangeAt Go.RowKit Go.Joins Go.Ev
set_option maxRecDepth 100000 in
/-- WHAT THE RUNS GIVE, FOR EVERY ARGUMENT AND EVERY WORLD THAT HOLDS THE TABLES. -/
theorem contract (H : Type) (enc : TypeId × Value → H) (W : World) (base : Nat) (args : Array Value) (ds gs : List (DataW H)) (before : List MemPlace)
    (hval : ∀ (j : Nat) t v, Try.f3.params[j]? = some t → args[j]? = some v → Value.okWide Try.prog W .any base t v)
    (hW : DataW.Whole enc Try.prog Try.f3.params.toList Rows.waveChainsSpec.vars false W args.toList ds gs before) (hL : laidMetH Try.prog Rows.waveChainsRow.laid W) :
    Calls Try.prog 3 args W fun e W' => ∃ v, e = .returned v ∧ Rows.waveChainsSpec.post enc Try.prog Try.f3 false true false false W args v W' := by
  have hW' := hW
  have hlt := hW.lt
  obtain ⟨p, q, hA0, hV, rfl, hfz, hnd⟩ := hW
  have hA : DataW.TrodAll enc Try.prog W 0 (fun _ => true) true Try.f3.params.toList args.toList ds p := hA0
  rw [Try.params3] at hA hval
  obtain ⟨v0, vs0, d0, ds0, p0, q0, hargs, rfl, rfl, h0, r0⟩ := trodAll_cons hA
  obtain ⟨v1, vs1, d1, ds1, p1, q1, rfl, rfl, rfl, h1, r1⟩ := trodAll_cons r0
  obtain ⟨rfl, rfl, rfl⟩ := trodAll_nil r1
  obtain rfl : args = #[v0, v1] := by cases args; simp_all
  obtain ⟨rfl, rfl⟩ := trodVars_none hV
  obtain ⟨e0, o0, k0⟩ := open_agg (ls := [.int .i64, .int .i64, .int .i64, .int .i64, .int .i64, .sl [.int .i64, .int .i64, .int .i64, .int .i64]]) 8 (by kernel_rfl) (by kernel_rfl) (by kernel_rfl) (hval 0 28 v0 rfl rfl) h0
  obtain ⟨re, f, l, rfl⟩ := rul_of o0
  obtain ⟨e1, o1, k1⟩ := open_agg (ls := [.int .i64, .sl [.int .i64]]) 8 (by kernel_rfl) (by kernel_rfl) (by kernel_rfl) (hval 1 31 v1 rfl rfl) h1
  obtain ⟨st, y, rfl⟩ := rec_of o1
  have hr : RpL (fun _ => True) W [.agg [.one (.int .i64 re), .one (.int .i64 f.a), .one (.int .i64 f.b), .one (.int .i64 f.c), .one (.int .i64 f.d), .list l.length (cQ l)], .agg [.one (.int .i64 st), lD y]] [v0, v1] := by
    simp only [RpL]
    exact ⟨v0, _, rfl, k0, ⟨v1, _, rfl, k1, rfl⟩⟩
  refine (law3_con re f l st y W (fun _ => True) _ tabs0 hr).mono fun e W' ⟨v, he, hv, hg⟩ => ?_
  simp only [Rp] at hv
  subst he
  subst hv
  have hlaid : laidOutB Try.prog = true := by kernel_rfl
  exact ⟨_, rfl, post_below (pa := (p0 ++ (p1 ++ []))) (pv := []) hW' (fun _ _ _ => trodAll_cons_mk (shut_bool Try.underlying4 _) trodAll_mk0) (fun sp hsp => by
    rw [Try.params3]
    exact trodAll_cons_mk (stays hlaid (by kernel_rfl) (of_decide_eq_true (by kernel_rfl)) h0 hg (fun x hx => hlt x (by simp only [List.mem_append]; left; left; exact hx)) (fun x hx => hsp x (by simp only [List.mem_append]; left; left; exact hx))) (trodAll_cons_mk (stays hlaid (by kernel_rfl) (of_decide_eq_true (by kernel_rfl)) h1 hg (fun x hx => hlt x (by simp only [List.mem_append]; left; right; left; exact hx)) (fun x hx => hsp x (by simp only [List.mem_append]; left; right; left; exact hx))) (trodAll_mk0))) (fun _ _ => rfl) rfl
    hg (ok_one (by kernel_rfl) rfl (okWide_bool_mk Try.underlying4 _))⟩
end Go.Proofs.Ytjjbacbjdilhmaa.waveChains
/- WaveChains: closed facts of the witness. -/
namespace Go.Proofs.Ytjjbacbjdilhmaa.waveChains
open Go.ChangeShapes Go.WideShapes Go.ChangeAt Go.RowKit Go.Joins
/-- THE WITNESS's ARGUMENTS. -/
noncomputable def args0 : Array Value := #[.agg #[.int .i64 0, .int .i64 0, .int .i64 0, .int .i64 0, .int .i64 0, .slice none 0 0], .agg #[.int .i64 0, .slice none 0 0]]
/-- A WORLD FOR THE WITNESS: the heap that the program's own initialisers leave. -/
noncomputable def start (os : Os) : World := World.doorLaid Try.prog 400 os
theorem laid_met (os : Os) : laidMet Try.prog Rows.waveChainsRow.laid ((start os).forCall (fun _ _ => 0) ⟨#[], args0, []⟩).memory := ⟨[], rfl, List.nodup_nil, fun _ _ h => by cases h⟩
theorem reads (os : Os) {H : Type} (enc : TypeId × Value → H) : ∃ places, DataW.whole enc Try.prog ((start os).forCall (fun _ _ => 0) ⟨#[], args0, []⟩).memory Try.f3.params.toList Rows.waveChainsSpec.vars false args0.toList 8 = some ([.agg [.lit (.int .i64 0), .agg [.agg [.lit (.int .i64 0), .lit (.int .i64 0)], .agg [.lit (.int .i64 0), .lit (.int .i64 0)]], .nil], .agg [.lit (.int .i64 0), .nil]], [], places) :=
  ⟨[], by kernel_rfl⟩
theorem vB (os : Os) : ((start os).forCall (fun _ _ => 0) ⟨#[], args0, []⟩).variablesB Try.prog = true := by kernel_rfl
theorem rB (os : Os) : (((start os).forCall (fun _ _ => 0) ⟨#[], args0, []⟩).heap.toList.drop Try.prog.globals.size).take ((begin Try.prog (fun _ _ => 0) default).world.heap.size - Try.prog.globals.size) = (begin Try.prog (fun _ _ => 0) default).world.heap.toList.drop Try.prog.globals.size := by kernel_rfl
theorem oB (os : Os) : Input.okWideB Try.prog ((start os).forCall (fun _ _ => 0) ⟨#[], args0, []⟩) 3 ⟨#[], args0, []⟩ = true := by kernel_rfl
theorem hB (os : Os) : (start os).os = os := by kernel_rfl
end Go.Proofs.Ytjjbacbjdilhmaa.waveChains
/- For any rules and record, valid or not, the law WaveChains of the program answers true, and its arguments read as they did. CONDITIONS: none. -/
namespace Go.Proofs.Ytjjbacbjdilhmaa.waveChains
open Go.ChangeShapes Go.WideShapes Go.ChangeAt Go.RowKit Go.Joins
set_option maxRecDepth 100000 in
theorem lifted (os : Os) (started : os.Started) (H : Type) (enc : TypeId × Value → H) (F : Stop.Interp) :
    ReturnsInHanded {} Try.checked os 3 .any ((OpenSpec.ofChange Rows.waveChainsSpec).preRow enc Try.prog Try.f3 Rows.waveChainsRow.domain false Rows.waveChainsRow.laid) (((OpenSpec.ofChange Rows.waveChainsSpec).at F).post enc Try.prog Try.f3 false true false false) := by
  obtain ⟨places, hx⟩ := reads os enc
  refine returnsInHanded_of_row (C := Try.checked) (s := OpenSpec.ofChange Rows.waveChainsSpec) own started (by kernel_rfl) Try.func3
    (witness_row_at (enc := enc) (C := Try.checked) false (start os) args0 (hB os) (vB os) (rB os) (oB os)
      (OpenSpec.preRow_of_cond 8 hx (by kernel_rfl) (fun k hk => by cases hk) (by kernel_rfl) (laid_met os))) ?_
  intro W base args ds gs before hval hW _ _ _ hL _ _
  exact contract H enc W base args ds gs before hval hW hL
theorem said : Rows.WaveChainsSaid :=
  OpenClaim.holds_of_cond 3 Try.f3 rfl rfl rfl rfl rfl rfl rfl ⟨rfl, rfl, rfl, rfl, rfl⟩ rfl rfl rfl rfl rfl (by kernel_rfl) Try.func3 (by kernel_rfl)
    (of_decide_eq_true (by kernel_rfl)) (by unfold Func.isWrapper; first | (rw [if_pos (by decide +kernel)]; kernel_rfl) | (rw [if_neg (by decide +kernel)]; exact ⟨rfl, rfl⟩))
    (fun os started H enc _ F => by rw [OpenClaim.pre_eq_preRow]; exact lifted os started H enc F)
end Go.Proofs.Ytjjbacbjdilhmaa.waveChains
