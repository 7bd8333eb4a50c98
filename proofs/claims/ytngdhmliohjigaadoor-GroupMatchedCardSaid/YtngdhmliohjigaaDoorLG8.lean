/- Units that can be matched: the exported functions on renamed lines; the law. -/
import Derived.Test.YtngdhmliohjigaaDoorLG7
import Derived.Test.YtngdhmliohjigaaDoorLE6
import Derived.Test.YtngdhmliohjigaaDoorLE6P
set_option linter.unusedVariables false
set_option linter.unusedSimpArgs false
set_option linter.unusedSectionVars false
set_option linter.unnecessarySimpa false
namespace Go.Proofs.YtngdhmliohjigaaDoor
open Go.Ev Go.RowKit
set_option maxRecDepth 100000
section
variable {l0 l1 l2 l3 l4 l5 l6 l7 l8 : Int} (hs : Small9 l0 l1 l2 l3 l4 l5 l6 l7 l8)
include hs
theorem ck_c : Con 30 [.agg #[.int .i64 l0, .int .i64 l1, .int .i64 l2, .int .i64 l3, .int .i64 l4, .int .i64 l5, .int .i64 l6, .int .i64 l7, .int .i64 l8]] (.int .i64 0) := by
  unfold Small9 at hs
  exact ck_ok l0 l1 l2 l3 l4 l5 l6 l7 l8 (by simp (disch := omega) only [allC, wrapI, tmodn, tdivn, Int.reduceTMod, Int.reduceTDiv, Int.reduceMul, Int.reduceNeg, bne_iff_ne, beq_iff_eq, bne_eq_false_iff_eq, beq_eq_false_iff_ne, decide_eq_true_eq, decide_eq_false_iff_not, Bool.and_eq_true, Bool.and_eq_false_iff, Bool.or_eq_true, Bool.or_eq_false_iff, Bool.not_eq_true', Bool.not_eq_false', Bool.true_eq_false, Bool.false_eq_true, Int.reduceBEq, Int.reduceBNe, and_true, true_and, or_false, or_true, true_or, false_or] <;> omega) trivial
theorem sqo_c {s e : Int} (h : Con 88 [.agg #[.int .i64 l0, .int .i64 l1, .int .i64 l2, .int .i64 l3, .int .i64 l4, .int .i64 l5, .int .i64 l6, .int .i64 l7, .int .i64 l8]] (.tuple #[.int .i64 s, .int .i64 e])) : Con 23 [.agg #[.int .i64 l0, .int .i64 l1, .int .i64 l2, .int .i64 l3, .int .i64 l4, .int .i64 l5, .int .i64 l6, .int .i64 l7, .int .i64 l8]] (.tuple #[.int .i64 s, .int .i64 e]) := sqo_ok l0 l1 l2 l3 l4 l5 l6 l7 l8 s e (by simp (disch := omega) only [allC, wrapI, tmodn, tdivn, Int.reduceTMod, Int.reduceTDiv, Int.reduceMul, Int.reduceNeg, bne_iff_ne, beq_iff_eq, bne_eq_false_iff_eq, beq_eq_false_iff_ne, decide_eq_true_eq, decide_eq_false_iff_not, Bool.and_eq_true, Bool.and_eq_false_iff, Bool.or_eq_true, Bool.or_eq_false_iff, Bool.not_eq_true', Bool.not_eq_false', Bool.true_eq_false, Bool.false_eq_true, Int.reduceBEq, Int.reduceBNe, and_true, true_and, or_false, or_true, true_or, false_or] <;> omega) ⟨ck_c hs, h, trivial⟩
theorem pho_c {y0 y1 : Int} (h : Con 89 [.agg #[.int .i64 l0, .int .i64 l1, .int .i64 l2, .int .i64 l3, .int .i64 l4, .int .i64 l5, .int .i64 l6, .int .i64 l7, .int .i64 l8], .int .i64 0] (.agg #[.int .i64 y0, .int .i64 y1])) : Con 24 [.agg #[.int .i64 l0, .int .i64 l1, .int .i64 l2, .int .i64 l3, .int .i64 l4, .int .i64 l5, .int .i64 l6, .int .i64 l7, .int .i64 l8]] (.tuple #[.agg #[.int .i64 y0, .int .i64 y1], .int .i64 0]) := pho_ok l0 l1 l2 l3 l4 l5 l6 l7 l8 y0 y1 (by simp (disch := omega) only [allC, wrapI, tmodn, tdivn, Int.reduceTMod, Int.reduceTDiv, Int.reduceMul, Int.reduceNeg, bne_iff_ne, beq_iff_eq, bne_eq_false_iff_eq, beq_eq_false_iff_ne, decide_eq_true_eq, decide_eq_false_iff_not, Bool.and_eq_true, Bool.and_eq_false_iff, Bool.or_eq_true, Bool.or_eq_false_iff, Bool.not_eq_true', Bool.not_eq_false', Bool.true_eq_false, Bool.false_eq_true, Int.reduceBEq, Int.reduceBNe, and_true, true_and, or_false, or_true, true_or, false_or] <;> omega) ⟨ck_c hs, h, trivial⟩
end
theorem hou_c {p q h e : Int} (h1 : -20000 ≤ p ∧ p ≤ 20000) (h2 : -20000 ≤ q ∧ q ≤ 20000) (h3 : Con 92 [.agg #[.int .i64 p, .int .i64 q]] (.tuple #[.int .i64 h, .int .i64 e])) : Con 26 [.agg #[.int .i64 p, .int .i64 q]] (.tuple #[.int .i64 h, .int .i64 e]) :=
  hou_ok p q h e (by simp (disch := omega) only [allC, wrapI, tmodn, tdivn, Int.reduceTMod, Int.reduceTDiv, Int.reduceMul, Int.reduceNeg, bne_iff_ne, beq_iff_eq, bne_eq_false_iff_eq, beq_eq_false_iff_ne, decide_eq_true_eq, decide_eq_false_iff_not, Bool.and_eq_true, Bool.and_eq_false_iff, Bool.or_eq_true, Bool.or_eq_false_iff, Bool.not_eq_true', Bool.not_eq_false', Bool.true_eq_false, Bool.false_eq_true, Int.reduceBEq, Int.reduceBNe, and_true, true_and, or_false, or_true, true_or, false_or] <;> omega) ⟨h3, trivial⟩
theorem ip_c (i : Nat) (hi : i < 6) : Con 33 [.agg (pmL i).toArray] (.bool true) := by
  rcases (show i = 0 ∨ i = 1 ∨ i = 2 ∨ i = 3 ∨ i = 4 ∨ i = 5 by omega) with rfl | rfl | rfl | rfl | rfl | rfl
  · exact ip_0 (by simp [allC]) trivial
  · exact ip_1 (by simp [allC]) trivial
  · exact ip_2 (by simp [allC]) trivial
  · exact ip_3 (by simp [allC]) trivial
  · exact ip_4 (by simp [allC]) trivial
  · exact ip_5 (by simp [allC]) trivial
theorem nk_mod (i j : Nat) (hi : i < 6) (hj : j < 6) (hs : sameP i j = true) (x y : Int) : ((sgP i * ((x + offP i) % 12 - (y + offP j) % 12)) % 12 - (x - y) % 12) % 4 = 0 ∨ ((sgP i * ((x + offP i) % 12 - (y + offP j) % 12)) % 12 + (x - y) % 12) % 4 = 0 := by
  rcases (show i = 0 ∨ i = 1 ∨ i = 2 ∨ i = 3 ∨ i = 4 ∨ i = 5 by omega) with rfl | rfl | rfl | rfl | rfl | rfl <;>
    rcases (show j = 0 ∨ j = 1 ∨ j = 2 ∨ j = 3 ∨ j = 4 ∨ j = 5 by omega) with rfl | rfl | rfl | rfl | rfl | rfl <;>
    first | (exfalso; revert hs; decide) | (left; simp only [sgP, oddP, offP]; omega) | (right; simp only [sgP, oddP, offP]; omega)
theorem e_mod (x y c d b : Int) (hb : b = (x - y) % 12) : (1 * ((x + c) % 12 - (y + d) % 12)) % 12 = (b + c - d) % 12 := by omega
theorem o_mod (x y c d b : Int) (hb : b = (x - y) % 12) : (-1 * ((x + c) % 12 - (y + d) % 12)) % 12 = (d - b - c) % 12 := by omega
theorem three (a b : Int) (ha : 0 ≤ a ∧ a ≤ 11) (hb : 0 ≤ b ∧ b ≤ 11) (h0 : b % 12 ≠ a) (h1 : (b + 4) % 12 ≠ a) (h2 : (b + 8) % 12 ≠ a) : ¬ (a - b) % 4 = 0 := by
  intro h
  rcases (show (a - b) % 12 = 0 ∨ (a - b) % 12 = 4 ∨ (a - b) % 12 = 8 by omega) with h' | h' | h'
  · exact h0 (by omega)
  · exact h1 (by omega)
  · exact h2 (by omega)
theorem none_mod (c : Nat → Nat → Int) (x y a : Int) (hc : c = fun i j => (sgP i * ((x + offP i) % 12 - (y + offP j) % 12)) % 12) (ha : 0 ≤ a ∧ a ≤ 11) (h : ∀ z ∈ Perm.prs, Perm.cnd c a z.1 z.2 = false) :
    ¬ (a - (x - y) % 12) % 4 = 0 ∧ ¬ (a + (x - y) % 12) % 4 = 0 := by
  have f : ∀ i j, sameP i j = true → Perm.cnd c a i j = false → c i j ≠ a := fun i j hs hc => by
    unfold Perm.cnd at hc
    rw [hs] at hc
    simpa using hc
  have z00 := f 0 0 rfl (h (0, 0) (by decide))
  have z03 := f 0 3 rfl (h (0, 3) (by decide))
  have z04 := f 0 4 rfl (h (0, 4) (by decide))
  have z11 := f 1 1 rfl (h (1, 1) (by decide))
  have z12 := f 1 2 rfl (h (1, 2) (by decide))
  have z15 := f 1 5 rfl (h (1, 5) (by decide))
  subst hc
  simp only [sgP, oddP, offP] at z00 z03 z04 z11 z12 z15
  clear h f
  have hb : 0 ≤ (x - y) % 12 ∧ (x - y) % 12 ≤ 11 := by omega
  rw [e_mod x y _ _ _ rfl] at z00 z03 z04
  rw [o_mod x y _ _ _ rfl] at z11 z12 z15
  generalize (x - y) % 12 = b at *
  refine ⟨three a b ha hb (fun e => z00 (by omega)) (fun e => ?_) (fun e => ?_), fun h => three a ((12 - b) % 12) ha (by omega) (fun e => z11 (by omega)) (fun e => ?_) (fun e => ?_) (by omega)⟩
  · first | exact z03 (by omega) | exact z04 (by omega)
  · first | exact z03 (by omega) | exact z04 (by omega)
  · first | exact z12 (by omega) | exact z15 (by omega)
  · first | exact z12 (by omega) | exact z15 (by omega)
theorem ren_small {w : Value} {i : Nat} {hh : Int} {l0 l1 l2 l3 l4 l5 l6 l7 l8 o0 o1 o2 o3 o4 o5 o6 o7 o8 p q : Int} (h : Ren w i hh l0 l1 l2 l3 l4 l5 l6 l7 l8 o0 o1 o2 o3 o4 o5 o6 o7 o8 p q) : (-20000 ≤ p ∧ p ≤ 20000) ∧ (-20000 ≤ q ∧ q ≤ 20000) := by
  obtain ⟨-, -, -, -, -, -, -, -, -, -, S, -, -, e0, e1⟩ := h
  unfold Small9 at S
  omega
end Go.Proofs.YtngdhmliohjigaaDoor
namespace Go.Proofs.YtngdhmliohjigaaDoor.Perm
open Go.Ev Go.RowKit
set_option maxRecDepth 100000
theorem cpm_c (i : Nat) (hi : i < 6) : Con 93 [.agg (pmL i).toArray] (.int .i64 0) := by
  rcases (show i = 0 ∨ i = 1 ∨ i = 2 ∨ i = 3 ∨ i = 4 ∨ i = 5 by omega) with rfl | rfl | rfl | rfl | rfl | rfl
  · exact cpm_0 (by simp [allC]) trivial
  · exact cpm_1 (by simp [allC]) trivial
  · exact cpm_2 (by simp [allC]) trivial
  · exact cpm_3 (by simp [allC]) trivial
  · exact cpm_4 (by simp [allC]) trivial
  · exact cpm_5 (by simp [allC]) trivial
theorem rno_c {l0 l1 l2 l3 l4 l5 l6 l7 l8 o0 o1 o2 o3 o4 o5 o6 o7 o8 h0 h1 h2 : Int} {i : Nat} (hi : i < 6) (e : pmL i = [.int .i64 h0, .int .i64 h1, .int .i64 h2]) (hs : Small9 l0 l1 l2 l3 l4 l5 l6 l7 l8) (h : YtngdhmliohjigaaDoor.Con 94 [.agg #[.int .i64 l0, .int .i64 l1, .int .i64 l2, .int .i64 l3, .int .i64 l4, .int .i64 l5, .int .i64 l6, .int .i64 l7, .int .i64 l8], .agg (pmL i).toArray] (.agg #[.int .i64 o0, .int .i64 o1, .int .i64 o2, .int .i64 o3, .int .i64 o4, .int .i64 o5, .int .i64 o6, .int .i64 o7, .int .i64 o8])) :
    Con 28 [.agg #[.int .i64 l0, .int .i64 l1, .int .i64 l2, .int .i64 l3, .int .i64 l4, .int .i64 l5, .int .i64 l6, .int .i64 l7, .int .i64 l8], .agg #[.int .i64 h0, .int .i64 h1, .int .i64 h2]] (.tuple #[.agg #[.int .i64 o0, .int .i64 o1, .int .i64 o2, .int .i64 o3, .int .i64 o4, .int .i64 o5, .int .i64 o6, .int .i64 o7, .int .i64 o8], .int .i64 0]) := by
  have c := cpm_c i hi
  rw [e] at c h
  exact rno_ok l0 l1 l2 l3 l4 l5 l6 l7 l8 h0 h1 h2 o0 o1 o2 o3 o4 o5 o6 o7 o8 (by simp (disch := omega) only [allC, wrapI, tmodn, tdivn, Int.reduceTMod, Int.reduceTDiv, Int.reduceMul, Int.reduceNeg, bne_iff_ne, beq_iff_eq, bne_eq_false_iff_eq, beq_eq_false_iff_ne, decide_eq_true_eq, decide_eq_false_iff_not, Bool.and_eq_true, Bool.and_eq_false_iff, Bool.or_eq_true, Bool.or_eq_false_iff, Bool.not_eq_true', Bool.not_eq_false', Bool.true_eq_false, Bool.false_eq_true, Int.reduceBEq, Int.reduceBNe, and_true, true_and, or_false, or_true, true_or, false_or] <;> omega) ⟨lift (ck_c hs), c, lift h, trivial⟩
theorem first_zero {i j : Nat} {c : Nat → Nat → Int} {a : Int} (hi : i < 6) (hj : j < 6) (h : ∀ y ∈ prs.take (6 * i + j), cnd c a y.1 y.2 = false) (h0 : c 0 0 = a) : i = 0 ∧ j = 0 := by
  by_cases hz : 6 * i + j = 0
  · omega
  · exfalso
    obtain ⟨z, hz⟩ : ∃ z, 6 * i + j = z + 1 := ⟨6 * i + j - 1, by omega⟩
    rw [hz] at h
    have := h (0, 0) (by simp [prs])
    unfold cnd at this
    simp [sameP, oddP, h0] at this
set_option maxHeartbeats 1600000 in
theorem matched_any (k n s : Int) (m : Bool) (k1 n1 s1 : Int) (m1 : Bool) (st : Int) (kb nb sb : Int) (mb : Bool) (kc nc sc : Int) (mc : Bool) (sd : Int) (pc : Int) : Con 12 [.agg #[.int .i64 k, .int .i64 n, .int .i64 s, .bool m, .int .i64 k1, .int .i64 n1, .int .i64 s1, .bool m1, .int .i64 st, .int .i64 kb, .int .i64 nb, .int .i64 sb, .bool mb, .int .i64 kc, .int .i64 nc, .int .i64 sc, .bool mc, .int .i64 sd], .int .i64 pc] (.bool true) := by
  have ua := cu_any k n s m k1 n1 s1 m1 st
  have ub := cu_any kb nb sb mb kc nc sc mc sd
  have ra := ue_any k n s m k1 n1 s1 m1 st
  have rb := ue_any kb nb sb mb kc nc sc mc sd
  have pe := pe_c pc
  by_cases zA : eU k n s k1 n1 s1 st = 0
  rotate_left
  · generalize eU k n s k1 n1 s1 st = e0 at *
    exact gm_ea k n s m k1 n1 s1 m1 st kb nb sb mb kc nc sc mc sd pc e0 0 0 0 0 0 0 0 0 #[] #[] 0 0 0 0 0 0 0 0 0 0 0 0 0 0 0 0 0 0 0 0 0 0 0 0 0 0 (by simp [allC, zA]) ⟨awakes', lift ra, trivial⟩
  by_cases zB : eU kb nb sb kc nc sc sd = 0
  rotate_left
  · rw [zA] at ra
    generalize eU kb nb sb kc nc sc sd = e0 at *
    exact gm_eb k n s m k1 n1 s1 m1 st kb nb sb mb kc nc sc mc sd pc e0 0 0 0 0 0 0 0 0 #[] #[] 0 0 0 0 0 0 0 0 0 0 0 0 0 0 0 0 0 0 0 0 0 0 0 0 0 0 (by simp [allC, zB]) ⟨awakes', lift ra, lift rb, trivial⟩
  by_cases zP : eP pc = 0
  rotate_left
  · rw [zA] at ra
    rw [zB] at rb
    generalize eP pc = e0 at *
    exact gm_ep k n s m k1 n1 s1 m1 st kb nb sb mb kc nc sc mc sd pc e0 0 0 0 0 0 0 0 0 #[] #[] 0 0 0 0 0 0 0 0 0 0 0 0 0 0 0 0 0 0 0 0 0 0 0 0 0 0 (by simp [allC, zP]) ⟨awakes', lift ra, lift rb, lift pe, trivial⟩
  obtain ⟨hA, hA1, -⟩ := eU_valid zA
  obtain ⟨hB, hB1, -⟩ := eU_valid zB
  have hp : 0 ≤ pc ∧ pc ≤ 100 := by
    unfold eP at zP; split at zP <;> omega
  rw [zA] at ra ua
  rw [zB] at rb ub
  rw [zP] at pe
  have cp := cp_c k n s m k1 n1 s1 m1 st kb nb sb mb kc nc sc mc sd pc _ _ ua ub
  rw [show eC 0 0 pc = 0 from by unfold eC; rw [if_neg (by omega), if_neg (by omega)]; exact zP] at cp
  have a110 := ra_c m m1 mb mc st sd pc hA hA1 hB hB1 hp
  have a66 := is_c m m1 mb mc st sd pc hA hA1 hB hB1 hp
  cases hn : near (rN k n k1 n1) (rD k n k1 n1) (rN kb nb kc nc) (rD kb nb kc nc) pc with
  | false =>
    rw [hn] at a66
    exact gm_far k n s m k1 n1 s1 m1 st kb nb sb mb kc nc sc mc sd pc 0 0 0 0 0 0 0 0 0 #[] #[] 0 0 0 0 0 0 0 0 0 0 0 0 0 0 0 0 0 0 0 0 0 0 0 0 0 0 (by simp [allC]) ⟨awakes', lift ra, lift rb, lift pe, lift a66, trivial⟩
  | true =>
    rw [hn] at a110 a66
    have kA := co_ok k n s m k1 n1 s1 m1 st 0 0 _ (by simp (disch := omega) only [allC, wrapI, tmodn, tdivn, Int.reduceTMod, Int.reduceTDiv, Int.reduceMul, Int.reduceNeg, bne_iff_ne, beq_iff_eq, bne_eq_false_iff_eq, beq_eq_false_iff_ne, decide_eq_true_eq, decide_eq_false_iff_not, Bool.and_eq_true, Bool.and_eq_false_iff, Bool.or_eq_true, Bool.or_eq_false_iff, Bool.not_eq_true', Bool.not_eq_false', Bool.true_eq_false, Bool.false_eq_true, Int.reduceBEq, Int.reduceBNe, and_true, true_and, or_false, or_true, true_or, false_or] <;> omega) ⟨ua, clock_c m m1 st hA hA1, trivial⟩
    have kB := co_ok kb nb sb mb kc nc sc mc sd 0 0 _ (by simp (disch := omega) only [allC, wrapI, tmodn, tdivn, Int.reduceTMod, Int.reduceTDiv, Int.reduceMul, Int.reduceNeg, bne_iff_ne, beq_iff_eq, bne_eq_false_iff_eq, beq_eq_false_iff_ne, decide_eq_true_eq, decide_eq_false_iff_not, Bool.and_eq_true, Bool.and_eq_false_iff, Bool.or_eq_true, Bool.or_eq_false_iff, Bool.not_eq_true', Bool.not_eq_false', Bool.true_eq_false, Bool.false_eq_true, Int.reduceBEq, Int.reduceBNe, and_true, true_and, or_false, or_true, true_or, false_or] <;> omega) ⟨ub, clock_c mb mc sd hB hB1, trivial⟩
    have rgA := cl_range k s m k1 s1 m1
    have rgB := cl_range kb sb mb kc sc mc
    have M := matches_c k n s m k1 n1 s1 m1 st kb nb sb mb kc nc sc mc sd pc (cl k s m k1 s1 m1) (nk kb sb mb kc sc mc) rgA.1 (lift cp) (lift a110) (lift (clock_c m m1 st hA hA1)) (fun p hp => lift (rc_c mb mc sd hB hB1 p.1 p.2 (prs_lt p hp).1 (prs_lt p hp).2)) (lift a66)
      (lift (rclock_c m m1 st hA hA1)) (fun p hp => lift (nc_c mb mc sd hB hB1 p.1 p.2 (prs_lt p hp).1 (prs_lt p hp).2))
    have hclB : cl kb sb mb kc sc mc = (hv kb sb mb - hv kc sc mc) % 12 := rfl
    have hnk : nk kb sb mb kc sc mc = fun i j => (sgP i * ((hv kb sb mb + offP i) % 12 - (hv kc sc mc + offP j) % 12)) % 12 := rfl
    have ta2 : (cl k s m k1 s1 m1).tmod 2 = cl k s m k1 s1 m1 % 2 := Int.tmod_eq_emod_of_nonneg rgA.1
    have ta4 : (cl k s m k1 s1 m1).tmod 4 = cl k s m k1 s1 m1 % 4 := Int.tmod_eq_emod_of_nonneg rgA.1
    have tb2 : (cl kb sb mb kc sc mc).tmod 2 = cl kb sb mb kc sc mc % 2 := Int.tmod_eq_emod_of_nonneg rgB.1
    have tb4 : (cl kb sb mb kc sc mc).tmod 4 = cl kb sb mb kc sc mc % 4 := Int.tmod_eq_emod_of_nonneg rgB.1
    rcases M with ⟨i, j, hi, hj, hs, hc, hfirst, x, -⟩ | ⟨hnone, x, -⟩
    · have R1 := ren_w mb hB i hi
      have R2 := ren_w mc hB1 j hj
      obtain ⟨l0, l1, l2, l3, l4, l5, l6, l7, l8, p0, p1, p2, p3, p4, p5, p6, p7, p8, y0, y1, R1⟩ := R1
      obtain ⟨x0, x1, x2, x3, x4, x5, x6, x7, x8, q0, q1, q2, q3, q4, q5, q6, q7, q8, z0, z1, R2⟩ := R2
      have S1 := ren_small R1
      have S2 := ren_small R2
      obtain ⟨-, a22, a94, -, a88, -, -, -, -, aS, aS', a89, a92, -⟩ := R1
      obtain ⟨-, b22, b94, -, b88, -, -, -, -, bS, bS', b89, b92, -⟩ := R2
      have md := nk_mod i j hi hj hs (hv kb sb mb) (hv kc sc mc)
      rw [← hclB] at md
      have hc' := hc
      rw [hnk] at hc'
      simp only at hc'
      rw [hc'] at md
      have sg := sg_cases i
      have ss := same_sg i j
      rw [hs] at ss
      have ss : sgP i = sgP j := by simpa using ss.symm
      have ru : 0 ≤ (hv kb sb mb + offP i) % 12 ∧ (hv kb sb mb + offP i) % 12 < 12 := by omega
      have rv : 0 ≤ (hv kc sc mc + offP j) % 12 ∧ (hv kc sc mc + offP j) % 12 < 12 := by omega
      have eq0 : cl k s m k1 s1 m1 = cl kb sb mb kc sc mc → i = 0 ∧ j = 0 := fun e => first_zero hi hj hfirst (by rw [hnk, e, hclB]; simp only [sgP, oddP, offP]; omega)
      obtain ⟨h0, h1, h2, e1⟩ := pm3 i
      obtain ⟨g0, g1, g2, e2⟩ := pm3 j
      have hcv : candV i j = .agg #[.int .i64 h0, .int .i64 h1, .int .i64 h2, .int .i64 g0, .int .i64 g1, .int .i64 g2] := by unfold candV; rw [e1, e2]; rfl
      have c33 := ip_c i hi
      have d33 := ip_c j hj
      have c28 := rno_c hi e1 aS a94
      have d28 := rno_c hj e2 bS b94
      rw [e1] at c33
      rw [e2] at d33
      have c23 := sqo_c aS' a88
      have d23 := sqo_c bS' b88
      rw [← ss] at d23
      have c24 := pho_c aS' a89
      have d24 := pho_c bS' b89
      have c26 := hou_c S1.1 S1.2 a92
      have d26 := hou_c S2.1 S2.2 b92
      rw [hcv] at x
      have mw := mul_w (sgP i) _ _ sg ru rv
      have mb' := mod_b _ ⟨mw.2.1, mw.2.2⟩
      rw [← mw.1] at mb'
      have eqz : cl k s m k1 s1 m1 = cl kb sb mb kc sc mc → h0 = 0 ∧ h1 = 1 ∧ h2 = 2 ∧ g0 = 0 ∧ g1 = 1 ∧ g2 = 2 := fun e => by
        obtain ⟨rfl, rfl⟩ := eq0 e
        simp only [pmL, List.cons.injEq, Value.int.injEq, true_and, and_true] at e1 e2
        omega
      have hfin1 : (IntKind.i64.wrap (sgP i * IntKind.i64.wrap ((hv kb sb mb + offP i) % 12 - (hv kc sc mc + offP j) % 12))).tmod 12 < 0 → IntKind.i64.wrap ((IntKind.i64.wrap (sgP i * IntKind.i64.wrap ((hv kb sb mb + offP i) % 12 - (hv kc sc mc + offP j) % 12))).tmod 12 + 12) = cl k s m k1 s1 m1 := fun h => by rw [mb'.1 h, mw.1, hc']
      have hfin2 : ¬ (IntKind.i64.wrap (sgP i * IntKind.i64.wrap ((hv kb sb mb + offP i) % 12 - (hv kc sc mc + offP j) % 12))).tmod 12 < 0 → (IntKind.i64.wrap (sgP i * IntKind.i64.wrap ((hv kb sb mb + offP i) % 12 - (hv kc sc mc + offP j) % 12))).tmod 12 = cl k s m k1 s1 m1 := fun h => by rw [mb'.2 h, mw.1, hc']
      clear mb' mw hnk hclB hfirst eq0 hc hc' cp a110 hn ss hcv e1 e2 a88 b88 a89 b89 a92 b92 a94 b94
      generalize (hv kb sb mb + offP i) % 12 = u at *
      generalize (hv kc sc mc + offP j) % 12 = v at *
      generalize cl k s m k1 s1 m1 = a at *
      generalize cl kb sb mb kc sc mc = b at *
      generalize sgP i = sq at *
      have hk := (⟨awakes', lift ra, lift rb, lift pe, lift a66, lift kA, lift kB, x, lift c33, lift d33, lift a22, c28, lift b22, d28, lift c23, lift d23, lift c24, lift d24, lift c26, lift d26, trivial⟩ : allK (((16, [], .bool true) : FuncId × List Value × Value) :: (46, [.agg #[.int .i64 k, .int .i64 n, .int .i64 s, .bool m, .int .i64 k1, .int .i64 n1, .int .i64 s1, .bool m1, .int .i64 st]], .int .i64 0) :: (46, [.agg #[.int .i64 kb, .int .i64 nb, .int .i64 sb, .bool mb, .int .i64 kc, .int .i64 nc, .int .i64 sc, .bool mc, .int .i64 sd]], .int .i64 0) :: (63, [.int .i64 pc], .int .i64 0) :: (66, [.agg #[.int .i64 k, .int .i64 n, .int .i64 s, .bool m, .int .i64 k1, .int .i64 n1, .int .i64 s1, .bool m1, .int .i64 st], .agg #[.int .i64 kb, .int .i64 nb, .int .i64 sb, .bool mb, .int .i64 kc, .int .i64 nc, .int .i64 sc, .bool mc, .int .i64 sd], .int .i64 pc], .bool true) :: (42, [.agg #[.int .i64 k, .int .i64 n, .int .i64 s, .bool m, .int .i64 k1, .int .i64 n1, .int .i64 s1, .bool m1, .int .i64 st]], .tuple #[.int .i64 a, .int .i64 0]) :: (42, [.agg #[.int .i64 kb, .int .i64 nb, .int .i64 sb, .bool mb, .int .i64 kc, .int .i64 nc, .int .i64 sc, .bool mc, .int .i64 sd]], .tuple #[.int .i64 b, .int .i64 0]) ::
        (62, [.agg #[.int .i64 k, .int .i64 n, .int .i64 s, .bool m, .int .i64 k1, .int .i64 n1, .int .i64 s1, .bool m1, .int .i64 st], .agg #[.int .i64 kb, .int .i64 nb, .int .i64 sb, .bool mb, .int .i64 kc, .int .i64 nc, .int .i64 sc, .bool mc, .int .i64 sd], .int .i64 pc], .tuple #[.agg #[.int .i64 h0, .int .i64 h1, .int .i64 h2, .int .i64 g0, .int .i64 g1, .int .i64 g2], .int .i64 0]) :: (33, [.agg #[.int .i64 h0, .int .i64 h1, .int .i64 h2]], .bool true) :: (33, [.agg #[.int .i64 g0, .int .i64 g1, .int .i64 g2]], .bool true) :: (22, [.agg #[.int .i64 kb, .int .i64 nb, .int .i64 sb, .bool mb]], .agg #[.int .i64 l0, .int .i64 l1, .int .i64 l2, .int .i64 l3, .int .i64 l4, .int .i64 l5, .int .i64 l6, .int .i64 l7, .int .i64 l8]) :: (28, [.agg #[.int .i64 l0, .int .i64 l1, .int .i64 l2, .int .i64 l3, .int .i64 l4, .int .i64 l5, .int .i64 l6, .int .i64 l7, .int .i64 l8], .agg #[.int .i64 h0, .int .i64 h1, .int .i64 h2]], .tuple #[.agg #[.int .i64 p0, .int .i64 p1, .int .i64 p2, .int .i64 p3, .int .i64 p4, .int .i64 p5, .int .i64 p6, .int .i64 p7, .int .i64 p8], .int .i64 0]) ::
        (22, [.agg #[.int .i64 kc, .int .i64 nc, .int .i64 sc, .bool mc]], .agg #[.int .i64 x0, .int .i64 x1, .int .i64 x2, .int .i64 x3, .int .i64 x4, .int .i64 x5, .int .i64 x6, .int .i64 x7, .int .i64 x8]) :: (28, [.agg #[.int .i64 x0, .int .i64 x1, .int .i64 x2, .int .i64 x3, .int .i64 x4, .int .i64 x5, .int .i64 x6, .int .i64 x7, .int .i64 x8], .agg #[.int .i64 g0, .int .i64 g1, .int .i64 g2]], .tuple #[.agg #[.int .i64 q0, .int .i64 q1, .int .i64 q2, .int .i64 q3, .int .i64 q4, .int .i64 q5, .int .i64 q6, .int .i64 q7, .int .i64 q8], .int .i64 0]) :: (23, [.agg #[.int .i64 p0, .int .i64 p1, .int .i64 p2, .int .i64 p3, .int .i64 p4, .int .i64 p5, .int .i64 p6, .int .i64 p7, .int .i64 p8]], .tuple #[.int .i64 sq, .int .i64 0]) :: (23, [.agg #[.int .i64 q0, .int .i64 q1, .int .i64 q2, .int .i64 q3, .int .i64 q4, .int .i64 q5, .int .i64 q6, .int .i64 q7, .int .i64 q8]], .tuple #[.int .i64 sq, .int .i64 0]) :: (24, [.agg #[.int .i64 p0, .int .i64 p1, .int .i64 p2, .int .i64 p3, .int .i64 p4, .int .i64 p5, .int .i64 p6, .int .i64 p7, .int .i64 p8]], .tuple #[.agg #[.int .i64 y0, .int .i64 y1], .int .i64 0]) :: (24, [.agg #[.int .i64 q0, .int .i64 q1, .int .i64 q2, .int .i64 q3, .int .i64 q4, .int .i64 q5, .int .i64 q6, .int .i64 q7, .int .i64 q8]], .tuple #[.agg #[.int .i64 z0, .int .i64 z1], .int .i64 0]) ::
        (26, [.agg #[.int .i64 y0, .int .i64 y1]], .tuple #[.int .i64 u, .int .i64 0]) :: (26, [.agg #[.int .i64 z0, .int .i64 z1]], .tuple #[.int .i64 v, .int .i64 0]) :: []))
      generalize hX : (IntKind.i64.wrap (sq * IntKind.i64.wrap (u - v))).tmod 12 = X at hfin1 hfin2
      by_cases hab : a = b
      · obtain ⟨rfl, rfl, rfl, rfl, rfl, rfl⟩ := eqz hab
        subst hab
        have par : a % 2 = 1 ∨ a % 2 = 0 := by omega
        rcases par with par | par <;> rcases sg with sg | sg <;> by_cases hneg : X < 0
        · exact con_val (gm_ospn k n s m k1 n1 s1 m1 st kb nb sb mb kc nc sc mc sd pc 0 a a 0 1 2 0 1 2 _ _ p0 p1 p2 p3 p4 p5 p6 p7 p8 q0 q1 q2 q3 q4 q5 q6 q7 q8 sq sq u v y0 y1 z0 z1 (by simp only [hX]; simp [allC, ta2, tb2, ta4, tb4, hneg, rgA, rgB, ru, rv, par, sg] <;> omega) hk) (vb (by rw [hX]; first | rw [hfin1 hneg, beq_self_eq_true] | rw [hfin2 hneg, beq_self_eq_true]))
        · exact con_val (gm_ospp k n s m k1 n1 s1 m1 st kb nb sb mb kc nc sc mc sd pc 0 a a 0 1 2 0 1 2 _ _ p0 p1 p2 p3 p4 p5 p6 p7 p8 q0 q1 q2 q3 q4 q5 q6 q7 q8 sq sq u v y0 y1 z0 z1 (by simp only [hX]; simp [allC, ta2, tb2, ta4, tb4, hneg, rgA, rgB, ru, rv, par, sg] <;> omega) hk) (vb (by rw [hX]; first | rw [hfin1 hneg, beq_self_eq_true] | rw [hfin2 hneg, beq_self_eq_true]))
        · exact con_val (gm_osmn k n s m k1 n1 s1 m1 st kb nb sb mb kc nc sc mc sd pc 0 a a 0 1 2 0 1 2 _ _ p0 p1 p2 p3 p4 p5 p6 p7 p8 q0 q1 q2 q3 q4 q5 q6 q7 q8 sq sq u v y0 y1 z0 z1 (by simp only [hX]; simp [allC, ta2, tb2, ta4, tb4, hneg, rgA, rgB, ru, rv, par, sg] <;> omega) hk) (vb (by rw [hX]; first | rw [hfin1 hneg, beq_self_eq_true] | rw [hfin2 hneg, beq_self_eq_true]))
        · exact con_val (gm_osmp k n s m k1 n1 s1 m1 st kb nb sb mb kc nc sc mc sd pc 0 a a 0 1 2 0 1 2 _ _ p0 p1 p2 p3 p4 p5 p6 p7 p8 q0 q1 q2 q3 q4 q5 q6 q7 q8 sq sq u v y0 y1 z0 z1 (by simp only [hX]; simp [allC, ta2, tb2, ta4, tb4, hneg, rgA, rgB, ru, rv, par, sg] <;> omega) hk) (vb (by rw [hX]; first | rw [hfin1 hneg, beq_self_eq_true] | rw [hfin2 hneg, beq_self_eq_true]))
        · exact con_val (gm_espn k n s m k1 n1 s1 m1 st kb nb sb mb kc nc sc mc sd pc 0 a a 0 1 2 0 1 2 _ _ p0 p1 p2 p3 p4 p5 p6 p7 p8 q0 q1 q2 q3 q4 q5 q6 q7 q8 sq sq u v y0 y1 z0 z1 (by simp only [hX]; simp [allC, ta2, tb2, ta4, tb4, hneg, rgA, rgB, ru, rv, par, sg] <;> omega) hk) (vb (by rw [hX]; first | rw [hfin1 hneg, beq_self_eq_true] | rw [hfin2 hneg, beq_self_eq_true]))
        · exact con_val (gm_espp k n s m k1 n1 s1 m1 st kb nb sb mb kc nc sc mc sd pc 0 a a 0 1 2 0 1 2 _ _ p0 p1 p2 p3 p4 p5 p6 p7 p8 q0 q1 q2 q3 q4 q5 q6 q7 q8 sq sq u v y0 y1 z0 z1 (by simp only [hX]; simp [allC, ta2, tb2, ta4, tb4, hneg, rgA, rgB, ru, rv, par, sg] <;> omega) hk) (vb (by rw [hX]; first | rw [hfin1 hneg, beq_self_eq_true] | rw [hfin2 hneg, beq_self_eq_true]))
        · exact con_val (gm_esmn k n s m k1 n1 s1 m1 st kb nb sb mb kc nc sc mc sd pc 0 a a 0 1 2 0 1 2 _ _ p0 p1 p2 p3 p4 p5 p6 p7 p8 q0 q1 q2 q3 q4 q5 q6 q7 q8 sq sq u v y0 y1 z0 z1 (by simp only [hX]; simp [allC, ta2, tb2, ta4, tb4, hneg, rgA, rgB, ru, rv, par, sg] <;> omega) hk) (vb (by rw [hX]; first | rw [hfin1 hneg, beq_self_eq_true] | rw [hfin2 hneg, beq_self_eq_true]))
        · exact con_val (gm_esmp k n s m k1 n1 s1 m1 st kb nb sb mb kc nc sc mc sd pc 0 a a 0 1 2 0 1 2 _ _ p0 p1 p2 p3 p4 p5 p6 p7 p8 q0 q1 q2 q3 q4 q5 q6 q7 q8 sq sq u v y0 y1 z0 z1 (by simp only [hX]; simp [allC, ta2, tb2, ta4, tb4, hneg, rgA, rgB, ru, rv, par, sg] <;> omega) hk) (vb (by rw [hX]; first | rw [hfin1 hneg, beq_self_eq_true] | rw [hfin2 hneg, beq_self_eq_true]))
      · have par : (a % 2 = 1 ∧ b % 2 = 1) ∨ (a % 2 = 0 ∧ b % 2 = 0 ∧ a % 4 = b % 4) := by clear hk; omega
        rcases par with par | par <;> rcases sg with sg | sg <;> by_cases hneg : X < 0
        · exact con_val (gm_odpn k n s m k1 n1 s1 m1 st kb nb sb mb kc nc sc mc sd pc 0 a b h0 h1 h2 g0 g1 g2 _ _ p0 p1 p2 p3 p4 p5 p6 p7 p8 q0 q1 q2 q3 q4 q5 q6 q7 q8 sq sq u v y0 y1 z0 z1 (by simp only [hX]; simp [allC, ta2, tb2, ta4, tb4, hneg, rgA, rgB, ru, rv, par, sg, hab] <;> omega) hk) (vb (by rw [hX]; first | rw [hfin1 hneg, beq_self_eq_true] | rw [hfin2 hneg, beq_self_eq_true]))
        · exact con_val (gm_odpp k n s m k1 n1 s1 m1 st kb nb sb mb kc nc sc mc sd pc 0 a b h0 h1 h2 g0 g1 g2 _ _ p0 p1 p2 p3 p4 p5 p6 p7 p8 q0 q1 q2 q3 q4 q5 q6 q7 q8 sq sq u v y0 y1 z0 z1 (by simp only [hX]; simp [allC, ta2, tb2, ta4, tb4, hneg, rgA, rgB, ru, rv, par, sg, hab] <;> omega) hk) (vb (by rw [hX]; first | rw [hfin1 hneg, beq_self_eq_true] | rw [hfin2 hneg, beq_self_eq_true]))
        · exact con_val (gm_odmn k n s m k1 n1 s1 m1 st kb nb sb mb kc nc sc mc sd pc 0 a b h0 h1 h2 g0 g1 g2 _ _ p0 p1 p2 p3 p4 p5 p6 p7 p8 q0 q1 q2 q3 q4 q5 q6 q7 q8 sq sq u v y0 y1 z0 z1 (by simp only [hX]; simp [allC, ta2, tb2, ta4, tb4, hneg, rgA, rgB, ru, rv, par, sg, hab] <;> omega) hk) (vb (by rw [hX]; first | rw [hfin1 hneg, beq_self_eq_true] | rw [hfin2 hneg, beq_self_eq_true]))
        · exact con_val (gm_odmp k n s m k1 n1 s1 m1 st kb nb sb mb kc nc sc mc sd pc 0 a b h0 h1 h2 g0 g1 g2 _ _ p0 p1 p2 p3 p4 p5 p6 p7 p8 q0 q1 q2 q3 q4 q5 q6 q7 q8 sq sq u v y0 y1 z0 z1 (by simp only [hX]; simp [allC, ta2, tb2, ta4, tb4, hneg, rgA, rgB, ru, rv, par, sg, hab] <;> omega) hk) (vb (by rw [hX]; first | rw [hfin1 hneg, beq_self_eq_true] | rw [hfin2 hneg, beq_self_eq_true]))
        · exact con_val (gm_edpn k n s m k1 n1 s1 m1 st kb nb sb mb kc nc sc mc sd pc 0 a b h0 h1 h2 g0 g1 g2 _ _ p0 p1 p2 p3 p4 p5 p6 p7 p8 q0 q1 q2 q3 q4 q5 q6 q7 q8 sq sq u v y0 y1 z0 z1 (by simp only [hX]; simp [allC, ta2, tb2, ta4, tb4, hneg, rgA, rgB, ru, rv, par, sg, hab] <;> omega) hk) (vb (by rw [hX]; first | rw [hfin1 hneg, beq_self_eq_true] | rw [hfin2 hneg, beq_self_eq_true]))
        · exact con_val (gm_edpp k n s m k1 n1 s1 m1 st kb nb sb mb kc nc sc mc sd pc 0 a b h0 h1 h2 g0 g1 g2 _ _ p0 p1 p2 p3 p4 p5 p6 p7 p8 q0 q1 q2 q3 q4 q5 q6 q7 q8 sq sq u v y0 y1 z0 z1 (by simp only [hX]; simp [allC, ta2, tb2, ta4, tb4, hneg, rgA, rgB, ru, rv, par, sg, hab] <;> omega) hk) (vb (by rw [hX]; first | rw [hfin1 hneg, beq_self_eq_true] | rw [hfin2 hneg, beq_self_eq_true]))
        · exact con_val (gm_edmn k n s m k1 n1 s1 m1 st kb nb sb mb kc nc sc mc sd pc 0 a b h0 h1 h2 g0 g1 g2 _ _ p0 p1 p2 p3 p4 p5 p6 p7 p8 q0 q1 q2 q3 q4 q5 q6 q7 q8 sq sq u v y0 y1 z0 z1 (by simp only [hX]; simp [allC, ta2, tb2, ta4, tb4, hneg, rgA, rgB, ru, rv, par, sg, hab] <;> omega) hk) (vb (by rw [hX]; first | rw [hfin1 hneg, beq_self_eq_true] | rw [hfin2 hneg, beq_self_eq_true]))
        · exact con_val (gm_edmp k n s m k1 n1 s1 m1 st kb nb sb mb kc nc sc mc sd pc 0 a b h0 h1 h2 g0 g1 g2 _ _ p0 p1 p2 p3 p4 p5 p6 p7 p8 q0 q1 q2 q3 q4 q5 q6 q7 q8 sq sq u v y0 y1 z0 z1 (by simp only [hX]; simp [allC, ta2, tb2, ta4, tb4, hneg, rgA, rgB, ru, rv, par, sg, hab] <;> omega) hk) (vb (by rw [hX]; first | rw [hfin1 hneg, beq_self_eq_true] | rw [hfin2 hneg, beq_self_eq_true]))
    · have nm := none_mod (nk kb sb mb kc sc mc) (hv kb sb mb) (hv kc sc mc) _ hnk rgA hnone
      rw [← hclB] at nm
      generalize cl k s m k1 s1 m1 = a at *
      generalize cl kb sb mb kc sc mc = b at *
      rcases (show (a % 2 = 1 ∧ b % 2 = 0) ∨ (a % 2 = 0 ∧ b % 2 = 1) ∨ (a % 2 = 0 ∧ b % 2 = 0 ∧ ¬ a % 4 = b % 4) by omega) with par | par | par
      · exact gm_no1 k n s m k1 n1 s1 m1 st kb nb sb mb kc nc sc mc sd pc 0 a b 0 0 0 0 0 0 #[] #[] 0 0 0 0 0 0 0 0 0 0 0 0 0 0 0 0 0 0 0 0 0 0 0 0 0 0 (by simp [allC, ta2, tb2, ta4, tb4, rgA, rgB, par]) ⟨awakes', lift ra, lift rb, lift pe, lift a66, lift kA, lift kB, x, trivial⟩
      · exact gm_no2 k n s m k1 n1 s1 m1 st kb nb sb mb kc nc sc mc sd pc 0 a b 0 0 0 0 0 0 #[] #[] 0 0 0 0 0 0 0 0 0 0 0 0 0 0 0 0 0 0 0 0 0 0 0 0 0 0 (by simp [allC, ta2, tb2, ta4, tb4, rgA, rgB, par]) ⟨awakes', lift ra, lift rb, lift pe, lift a66, lift kA, lift kB, x, trivial⟩
      · exact gm_no3 k n s m k1 n1 s1 m1 st kb nb sb mb kc nc sc mc sd pc 0 a b 0 0 0 0 0 0 #[] #[] 0 0 0 0 0 0 0 0 0 0 0 0 0 0 0 0 0 0 0 0 0 0 0 0 0 0 (by simp [allC, ta2, tb2, ta4, tb4, rgA, rgB, par]) ⟨awakes', lift ra, lift rb, lift pe, lift a66, lift kA, lift kB, x, trivial⟩
end Go.Proofs.YtngdhmliohjigaaDoor.Perm
