/- Clock numbers of renamed units, ratios that agree, pairs that may run: of the program and of the reference. -/
import Derived.Test.YtngdhmliohjigaaDoorLG5
set_option linter.unusedVariables false
set_option linter.unusedSimpArgs false
set_option linter.unusedSectionVars false
set_option linter.unnecessarySimpa false
namespace Go.Proofs.YtngdhmliohjigaaDoor
open Go.Ev Go.RowKit
set_option maxRecDepth 100000
def sameP (i j : Nat) : Bool := oddP i == oddP j
def candV (i j : Nat) : Value := .agg (pmL i ++ pmL j).toArray
def itemV (c : Nat → Nat → Int) (i j : Nat) : Value := match sameP i j with
  | true => .tuple #[.int .i64 (c i j), .bool true]
  | false => .tuple #[.int .i64 0, .bool false]
def valI (c : Nat → Nat → Int) (i j : Nat) : Int := match sameP i j with
  | true => c i j
  | false => -1
/-- The clock number of a renamed unit, if its sequences are the same. -/
def nk (k s : Int) (m : Bool) (k1 s1 : Int) (m1 : Bool) (i j : Nat) : Int := (sgP i * ((hv k s m + offP i) % 12 - (hv k1 s1 m1 + offP j) % 12)) % 12
theorem pm3 (i : Nat) : ∃ a b c : Int, pmL i = [.int .i64 a, .int .i64 b, .int .i64 c] := by
  unfold pmL; split <;> exact ⟨_, _, _, rfl⟩
theorem sg_cases (i : Nat) : sgP i = 1 ∨ sgP i = -1 := by unfold sgP; split <;> simp
theorem same_sg (i j : Nat) : sameP i j = (sgP i == sgP j) := by
  unfold sameP sgP; cases oddP i <;> cases oddP j <;> rfl
theorem mod_a (z : Int) (h : -11 ≤ z ∧ z ≤ 11) : (IntKind.i64.wrap ((IntKind.i64.wrap z).tmod 12 + 12)).tmod 12 = z % 12 := by
  rcases (show z = -11 ∨ z = -10 ∨ z = -9 ∨ z = -8 ∨ z = -7 ∨ z = -6 ∨ z = -5 ∨ z = -4 ∨ z = -3 ∨ z = -2 ∨ z = -1 ∨ z = 0 ∨ z = 1 ∨ z = 2 ∨ z = 3 ∨ z = 4 ∨ z = 5 ∨ z = 6 ∨ z = 7 ∨ z = 8 ∨ z = 9 ∨ z = 10 ∨ z = 11 by omega) with rfl | rfl | rfl | rfl | rfl | rfl | rfl | rfl | rfl | rfl | rfl | rfl | rfl | rfl | rfl | rfl | rfl | rfl | rfl | rfl | rfl | rfl | rfl <;> rfl
theorem mod_b (z : Int) (h : -11 ≤ z ∧ z ≤ 11) : ((IntKind.i64.wrap z).tmod 12 < 0 → IntKind.i64.wrap ((IntKind.i64.wrap z).tmod 12 + 12) = z % 12) ∧ (¬ (IntKind.i64.wrap z).tmod 12 < 0 → (IntKind.i64.wrap z).tmod 12 = z % 12) := by
  rcases (show z = -11 ∨ z = -10 ∨ z = -9 ∨ z = -8 ∨ z = -7 ∨ z = -6 ∨ z = -5 ∨ z = -4 ∨ z = -3 ∨ z = -2 ∨ z = -1 ∨ z = 0 ∨ z = 1 ∨ z = 2 ∨ z = 3 ∨ z = 4 ∨ z = 5 ∨ z = 6 ∨ z = 7 ∨ z = 8 ∨ z = 9 ∨ z = 10 ∨ z = 11 by omega) with rfl | rfl | rfl | rfl | rfl | rfl | rfl | rfl | rfl | rfl | rfl | rfl | rfl | rfl | rfl | rfl | rfl | rfl | rfl | rfl | rfl | rfl | rfl <;> exact ⟨by decide, by decide⟩
theorem mul_w (a x y : Int) (ha : a = 1 ∨ a = -1) (hx : 0 ≤ x ∧ x < 12) (hy : 0 ≤ y ∧ y < 12) : a * IntKind.i64.wrap (x - y) = a * (x - y) ∧ -11 ≤ a * (x - y) ∧ a * (x - y) ≤ 11 := by
  rw [wrapI _ (by omega) (by omega)]
  rcases ha with rfl | rfl <;> omega
theorem rc_c {k n s k1 n1 s1 : Int} (m m1 : Bool) (st : Int) (h : valid k n s) (h' : valid k1 n1 s1) (i j : Nat) (hi : i < 6) (hj : j < 6) : Con 111 [.agg #[.int .i64 k, .int .i64 n, .int .i64 s, .bool m, .int .i64 k1, .int .i64 n1, .int .i64 s1, .bool m1, .int .i64 st], candV i j] (itemV (nk k s m k1 s1 m1) i j) := by
  obtain ⟨l0, l1, l2, l3, l4, l5, l6, l7, l8, o0, o1, o2, o3, o4, o5, o6, o7, o8, p, q, a82, -, a94, -, a88, -, a142, -⟩ := ren_w m h i hi
  obtain ⟨x0, x1, x2, x3, x4, x5, x6, x7, x8, y0, y1, y2, y3, y4, y5, y6, y7, y8, p', q', b82, -, b94, -, b88, -, b142, -⟩ := ren_w m1 h' j hj
  obtain ⟨h0, h1, h2, e1⟩ := pm3 i
  obtain ⟨g0, g1, g2, e2⟩ := pm3 j
  have hc : candV i j = .agg #[.int .i64 h0, .int .i64 h1, .int .i64 h2, .int .i64 g0, .int .i64 g1, .int .i64 g2] := by unfold candV; rw [e1, e2]; rfl
  rw [hc]
  rw [e1] at a94
  rw [e2] at b94
  have sa := sg_cases i
  have sb := sg_cases j
  have ss := same_sg i j
  have r1 : 0 ≤ (hv k s m + offP i) % 12 ∧ (hv k s m + offP i) % 12 < 12 := by omega
  have r2 : 0 ≤ (hv k1 s1 m1 + offP j) % 12 ∧ (hv k1 s1 m1 + offP j) % 12 < 12 := by omega
  have hn : nk k s m k1 s1 m1 i j = (sgP i * ((hv k s m + offP i) % 12 - (hv k1 s1 m1 + offP j) % 12)) % 12 := rfl
  unfold itemV
  rw [hn]
  generalize (hv k s m + offP i) % 12 = x at *
  generalize (hv k1 s1 m1 + offP j) % 12 = y at *
  generalize sgP i = a at *
  generalize sgP j = b at *
  by_cases hab : a = b
  · have hs : sameP i j = true := by rw [ss]; simpa using hab
    rw [hs]
    have mw := mul_w a x y sa r1 r2
    refine con_val (rc_eq k n s m k1 n1 s1 m1 st h0 h1 h2 g0 g1 g2 _ _ o0 o1 o2 o3 o4 o5 o6 o7 o8 y0 y1 y2 y3 y4 y5 y6 y7 y8 a b x y (by simp [allC, hab]) ⟨a82, a94, b82, b94, a88, b88, a142, b142, trivial⟩) (vt2 (vi ?_) rfl)
    rw [mw.1]
    exact mod_a _ ⟨mw.2.1, mw.2.2⟩
  · have hs : sameP i j = false := by rw [ss]; simpa using hab
    rw [hs]
    exact rc_ne k n s m k1 n1 s1 m1 st h0 h1 h2 g0 g1 g2 _ _ o0 o1 o2 o3 o4 o5 o6 o7 o8 y0 y1 y2 y3 y4 y5 y6 y7 y8 a b 0 0 (by simp [allC, hab]) ⟨a82, a94, b82, b94, a88, b88, trivial⟩
theorem nc_c {k n s k1 n1 s1 : Int} (m m1 : Bool) (st : Int) (h : valid k n s) (h' : valid k1 n1 s1) (i j : Nat) (hi : i < 6) (hj : j < 6) : Con 113 [.agg #[.int .i64 k, .int .i64 n, .int .i64 s, .bool m, .int .i64 k1, .int .i64 n1, .int .i64 s1, .bool m1, .int .i64 st], candV i j] (.int .i64 (valI (nk k s m k1 s1 m1) i j)) := by
  obtain ⟨l0, l1, l2, l3, l4, l5, l6, l7, l8, o0, o1, o2, o3, o4, o5, o6, o7, o8, p, q, -, a22, -, a34, -, a31, -, a32, a40, -⟩ := ren_w m h i hi
  obtain ⟨x0, x1, x2, x3, x4, x5, x6, x7, x8, y0, y1, y2, y3, y4, y5, y6, y7, y8, p', q', -, b22, -, b34, -, b31, -, b32, b40, -⟩ := ren_w m1 h' j hj
  obtain ⟨h0, h1, h2, e1⟩ := pm3 i
  obtain ⟨g0, g1, g2, e2⟩ := pm3 j
  have hc : candV i j = .agg #[.int .i64 h0, .int .i64 h1, .int .i64 h2, .int .i64 g0, .int .i64 g1, .int .i64 g2] := by unfold candV; rw [e1, e2]; rfl
  rw [hc]
  rw [e1] at a34
  rw [e2] at b34
  have sa := sg_cases i
  have sb := sg_cases j
  have ss := same_sg i j
  have r1 : 0 ≤ (hv k s m + offP i) % 12 ∧ (hv k s m + offP i) % 12 < 12 := by omega
  have r2 : 0 ≤ (hv k1 s1 m1 + offP j) % 12 ∧ (hv k1 s1 m1 + offP j) % 12 < 12 := by omega
  have hn : nk k s m k1 s1 m1 i j = (sgP i * ((hv k s m + offP i) % 12 - (hv k1 s1 m1 + offP j) % 12)) % 12 := rfl
  unfold valI
  rw [hn]
  generalize (hv k s m + offP i) % 12 = x at *
  generalize (hv k1 s1 m1 + offP j) % 12 = y at *
  generalize sgP i = a at *
  generalize sgP j = b at *
  by_cases hab : a = b
  · have hs : sameP i j = true := by rw [ss]; simpa using hab
    rw [hs]
    have mw := mul_w a x y sa r1 r2
    have mb := mod_b _ ⟨mw.2.1, mw.2.2⟩
    rw [← mw.1] at mb
    by_cases hneg : (IntKind.i64.wrap (a * IntKind.i64.wrap (x - y))).tmod 12 < 0
    · exact con_val (nc_eqneg k n s m k1 n1 s1 m1 st h0 h1 h2 g0 g1 g2 l0 l1 l2 l3 l4 l5 l6 l7 l8 o0 o1 o2 o3 o4 o5 o6 o7 o8 x0 x1 x2 x3 x4 x5 x6 x7 x8 y0 y1 y2 y3 y4 y5 y6 y7 y8 _ _ a b x y 0 0 0 0 (by simp [allC, hab, hneg] <;> (rw [hab] at hneg; exact hneg)) ⟨a22, a34, b22, b34, a31, b31, a32, a40, b32, b40, trivial⟩) (vi (by rw [mb.1 hneg, mw.1]))
    · exact con_val (nc_eqpos k n s m k1 n1 s1 m1 st h0 h1 h2 g0 g1 g2 l0 l1 l2 l3 l4 l5 l6 l7 l8 o0 o1 o2 o3 o4 o5 o6 o7 o8 x0 x1 x2 x3 x4 x5 x6 x7 x8 y0 y1 y2 y3 y4 y5 y6 y7 y8 _ _ a b x y 0 0 0 0 (by simp [allC, hab] <;> (rw [hab] at hneg; omega)) ⟨a22, a34, b22, b34, a31, b31, a32, a40, b32, b40, trivial⟩) (vi (by rw [mb.2 hneg, mw.1]))
  · have hs : sameP i j = false := by rw [ss]; simpa using hab
    rw [hs]
    exact nc_ne k n s m k1 n1 s1 m1 st h0 h1 h2 g0 g1 g2 l0 l1 l2 l3 l4 l5 l6 l7 l8 o0 o1 o2 o3 o4 o5 o6 o7 o8 x0 x1 x2 x3 x4 x5 x6 x7 x8 y0 y1 y2 y3 y4 y5 y6 y7 y8 #[] #[] a b 0 0 0 0 0 0 (by simp [allC, hab]) ⟨a22, a34, b22, b34, a31, b31, trivial⟩
def eP (pc : Int) : Int := if pc < 0 ∨ 100 < pc then 2 else 0
def eC (e1 e2 pc : Int) : Int := if e1 ≠ 0 then e1 else if e2 ≠ 0 then e2 else eP pc
theorem cp_c (k n s : Int) (m : Bool) (k1 n1 s1 : Int) (m1 : Bool) (st : Int) (kb nb sb : Int) (mb : Bool) (kc nc sc : Int) (mc : Bool) (sd : Int) (pc e1 e2 : Int) (a : Con 47 [.agg #[.int .i64 k, .int .i64 n, .int .i64 s, .bool m, .int .i64 k1, .int .i64 n1, .int .i64 s1, .bool m1, .int .i64 st]] (.int .i64 e1)) (b : Con 47 [.agg #[.int .i64 kb, .int .i64 nb, .int .i64 sb, .bool mb, .int .i64 kc, .int .i64 nc, .int .i64 sc, .bool mc, .int .i64 sd]] (.int .i64 e2)) : Con 109 [.agg #[.int .i64 k, .int .i64 n, .int .i64 s, .bool m, .int .i64 k1, .int .i64 n1, .int .i64 s1, .bool m1, .int .i64 st], .agg #[.int .i64 kb, .int .i64 nb, .int .i64 sb, .bool mb, .int .i64 kc, .int .i64 nc, .int .i64 sc, .bool mc, .int .i64 sd], .int .i64 pc] (.int .i64 (eC e1 e2 pc)) := by
  unfold eC eP
  rcases (show pc < 0 ∨ 100 < pc ∨ (0 ≤ pc ∧ pc ≤ 100) by omega) with hs | hs | hs <;> by_cases h1 : e1 = 0 <;> by_cases h2 : e2 = 0
  · subst h1; subst h2; exact con_val (cp_20 k n s m k1 n1 s1 m1 st kb nb sb mb kc nc sc mc sd pc 0 0 (by simp (disch := omega) only [allC, wrapI, tmodn, tdivn, Int.reduceTMod, Int.reduceTDiv, Int.reduceMul, Int.reduceNeg, bne_iff_ne, beq_iff_eq, bne_eq_false_iff_eq, beq_eq_false_iff_ne, decide_eq_true_eq, decide_eq_false_iff_not, Bool.and_eq_true, Bool.and_eq_false_iff, Bool.or_eq_true, Bool.or_eq_false_iff, Bool.not_eq_true', Bool.not_eq_false', Bool.true_eq_false, Bool.false_eq_true, Int.reduceBEq, Int.reduceBNe, and_true, true_and, or_false, or_true, true_or, false_or] <;> omega) ⟨a, b, trivial⟩) (vi (by (repeat' split) <;> omega))
  · subst h1; exact con_val (cp_10 k n s m k1 n1 s1 m1 st kb nb sb mb kc nc sc mc sd pc 0 e2 (by simp (disch := omega) only [allC, wrapI, tmodn, tdivn, Int.reduceTMod, Int.reduceTDiv, Int.reduceMul, Int.reduceNeg, bne_iff_ne, beq_iff_eq, bne_eq_false_iff_eq, beq_eq_false_iff_ne, decide_eq_true_eq, decide_eq_false_iff_not, Bool.and_eq_true, Bool.and_eq_false_iff, Bool.or_eq_true, Bool.or_eq_false_iff, Bool.not_eq_true', Bool.not_eq_false', Bool.true_eq_false, Bool.false_eq_true, Int.reduceBEq, Int.reduceBNe, and_true, true_and, or_false, or_true, true_or, false_or] <;> omega) ⟨a, b, trivial⟩) (vi (by (repeat' split) <;> omega))
  · exact con_val (cp_00 k n s m k1 n1 s1 m1 st kb nb sb mb kc nc sc mc sd pc e1 e2 (by simp (disch := omega) only [allC, wrapI, tmodn, tdivn, Int.reduceTMod, Int.reduceTDiv, Int.reduceMul, Int.reduceNeg, bne_iff_ne, beq_iff_eq, bne_eq_false_iff_eq, beq_eq_false_iff_ne, decide_eq_true_eq, decide_eq_false_iff_not, Bool.and_eq_true, Bool.and_eq_false_iff, Bool.or_eq_true, Bool.or_eq_false_iff, Bool.not_eq_true', Bool.not_eq_false', Bool.true_eq_false, Bool.false_eq_true, Int.reduceBEq, Int.reduceBNe, and_true, true_and, or_false, or_true, true_or, false_or] <;> omega) ⟨a, b, trivial⟩) (vi (by (repeat' split) <;> omega))
  · exact con_val (cp_00 k n s m k1 n1 s1 m1 st kb nb sb mb kc nc sc mc sd pc e1 e2 (by simp (disch := omega) only [allC, wrapI, tmodn, tdivn, Int.reduceTMod, Int.reduceTDiv, Int.reduceMul, Int.reduceNeg, bne_iff_ne, beq_iff_eq, bne_eq_false_iff_eq, beq_eq_false_iff_ne, decide_eq_true_eq, decide_eq_false_iff_not, Bool.and_eq_true, Bool.and_eq_false_iff, Bool.or_eq_true, Bool.or_eq_false_iff, Bool.not_eq_true', Bool.not_eq_false', Bool.true_eq_false, Bool.false_eq_true, Int.reduceBEq, Int.reduceBNe, and_true, true_and, or_false, or_true, true_or, false_or] <;> omega) ⟨a, b, trivial⟩) (vi (by (repeat' split) <;> omega))
  · subst h1; subst h2; exact con_val (cp_21 k n s m k1 n1 s1 m1 st kb nb sb mb kc nc sc mc sd pc 0 0 (by simp (disch := omega) only [allC, wrapI, tmodn, tdivn, Int.reduceTMod, Int.reduceTDiv, Int.reduceMul, Int.reduceNeg, bne_iff_ne, beq_iff_eq, bne_eq_false_iff_eq, beq_eq_false_iff_ne, decide_eq_true_eq, decide_eq_false_iff_not, Bool.and_eq_true, Bool.and_eq_false_iff, Bool.or_eq_true, Bool.or_eq_false_iff, Bool.not_eq_true', Bool.not_eq_false', Bool.true_eq_false, Bool.false_eq_true, Int.reduceBEq, Int.reduceBNe, and_true, true_and, or_false, or_true, true_or, false_or] <;> omega) ⟨a, b, trivial⟩) (vi (by (repeat' split) <;> omega))
  · subst h1; exact con_val (cp_11 k n s m k1 n1 s1 m1 st kb nb sb mb kc nc sc mc sd pc 0 e2 (by simp (disch := omega) only [allC, wrapI, tmodn, tdivn, Int.reduceTMod, Int.reduceTDiv, Int.reduceMul, Int.reduceNeg, bne_iff_ne, beq_iff_eq, bne_eq_false_iff_eq, beq_eq_false_iff_ne, decide_eq_true_eq, decide_eq_false_iff_not, Bool.and_eq_true, Bool.and_eq_false_iff, Bool.or_eq_true, Bool.or_eq_false_iff, Bool.not_eq_true', Bool.not_eq_false', Bool.true_eq_false, Bool.false_eq_true, Int.reduceBEq, Int.reduceBNe, and_true, true_and, or_false, or_true, true_or, false_or] <;> omega) ⟨a, b, trivial⟩) (vi (by (repeat' split) <;> omega))
  · exact con_val (cp_01 k n s m k1 n1 s1 m1 st kb nb sb mb kc nc sc mc sd pc e1 e2 (by simp (disch := omega) only [allC, wrapI, tmodn, tdivn, Int.reduceTMod, Int.reduceTDiv, Int.reduceMul, Int.reduceNeg, bne_iff_ne, beq_iff_eq, bne_eq_false_iff_eq, beq_eq_false_iff_ne, decide_eq_true_eq, decide_eq_false_iff_not, Bool.and_eq_true, Bool.and_eq_false_iff, Bool.or_eq_true, Bool.or_eq_false_iff, Bool.not_eq_true', Bool.not_eq_false', Bool.true_eq_false, Bool.false_eq_true, Int.reduceBEq, Int.reduceBNe, and_true, true_and, or_false, or_true, true_or, false_or] <;> omega) ⟨a, b, trivial⟩) (vi (by (repeat' split) <;> omega))
  · exact con_val (cp_01 k n s m k1 n1 s1 m1 st kb nb sb mb kc nc sc mc sd pc e1 e2 (by simp (disch := omega) only [allC, wrapI, tmodn, tdivn, Int.reduceTMod, Int.reduceTDiv, Int.reduceMul, Int.reduceNeg, bne_iff_ne, beq_iff_eq, bne_eq_false_iff_eq, beq_eq_false_iff_ne, decide_eq_true_eq, decide_eq_false_iff_not, Bool.and_eq_true, Bool.and_eq_false_iff, Bool.or_eq_true, Bool.or_eq_false_iff, Bool.not_eq_true', Bool.not_eq_false', Bool.true_eq_false, Bool.false_eq_true, Int.reduceBEq, Int.reduceBNe, and_true, true_and, or_false, or_true, true_or, false_or] <;> omega) ⟨a, b, trivial⟩) (vi (by (repeat' split) <;> omega))
  · subst h1; subst h2; exact con_val (cp_22 k n s m k1 n1 s1 m1 st kb nb sb mb kc nc sc mc sd pc 0 0 (by simp (disch := omega) only [allC, wrapI, tmodn, tdivn, Int.reduceTMod, Int.reduceTDiv, Int.reduceMul, Int.reduceNeg, bne_iff_ne, beq_iff_eq, bne_eq_false_iff_eq, beq_eq_false_iff_ne, decide_eq_true_eq, decide_eq_false_iff_not, Bool.and_eq_true, Bool.and_eq_false_iff, Bool.or_eq_true, Bool.or_eq_false_iff, Bool.not_eq_true', Bool.not_eq_false', Bool.true_eq_false, Bool.false_eq_true, Int.reduceBEq, Int.reduceBNe, and_true, true_and, or_false, or_true, true_or, false_or] <;> omega) ⟨a, b, trivial⟩) (vi (by (repeat' split) <;> omega))
  · subst h1; exact con_val (cp_12 k n s m k1 n1 s1 m1 st kb nb sb mb kc nc sc mc sd pc 0 e2 (by simp (disch := omega) only [allC, wrapI, tmodn, tdivn, Int.reduceTMod, Int.reduceTDiv, Int.reduceMul, Int.reduceNeg, bne_iff_ne, beq_iff_eq, bne_eq_false_iff_eq, beq_eq_false_iff_ne, decide_eq_true_eq, decide_eq_false_iff_not, Bool.and_eq_true, Bool.and_eq_false_iff, Bool.or_eq_true, Bool.or_eq_false_iff, Bool.not_eq_true', Bool.not_eq_false', Bool.true_eq_false, Bool.false_eq_true, Int.reduceBEq, Int.reduceBNe, and_true, true_and, or_false, or_true, true_or, false_or] <;> omega) ⟨a, b, trivial⟩) (vi (by (repeat' split) <;> omega))
  · exact con_val (cp_02 k n s m k1 n1 s1 m1 st kb nb sb mb kc nc sc mc sd pc e1 e2 (by simp (disch := omega) only [allC, wrapI, tmodn, tdivn, Int.reduceTMod, Int.reduceTDiv, Int.reduceMul, Int.reduceNeg, bne_iff_ne, beq_iff_eq, bne_eq_false_iff_eq, beq_eq_false_iff_ne, decide_eq_true_eq, decide_eq_false_iff_not, Bool.and_eq_true, Bool.and_eq_false_iff, Bool.or_eq_true, Bool.or_eq_false_iff, Bool.not_eq_true', Bool.not_eq_false', Bool.true_eq_false, Bool.false_eq_true, Int.reduceBEq, Int.reduceBNe, and_true, true_and, or_false, or_true, true_or, false_or] <;> omega) ⟨a, b, trivial⟩) (vi (by (repeat' split) <;> omega))
  · exact con_val (cp_02 k n s m k1 n1 s1 m1 st kb nb sb mb kc nc sc mc sd pc e1 e2 (by simp (disch := omega) only [allC, wrapI, tmodn, tdivn, Int.reduceTMod, Int.reduceTDiv, Int.reduceMul, Int.reduceNeg, bne_iff_ne, beq_iff_eq, bne_eq_false_iff_eq, beq_eq_false_iff_ne, decide_eq_true_eq, decide_eq_false_iff_not, Bool.and_eq_true, Bool.and_eq_false_iff, Bool.or_eq_true, Bool.or_eq_false_iff, Bool.not_eq_true', Bool.not_eq_false', Bool.true_eq_false, Bool.false_eq_true, Int.reduceBEq, Int.reduceBNe, and_true, true_and, or_false, or_true, true_or, false_or] <;> omega) ⟨a, b, trivial⟩) (vi (by (repeat' split) <;> omega))
theorem pe_c (pc : Int) : Con 63 [.int .i64 pc] (.int .i64 (eP pc)) := by
  unfold eP
  rcases (show pc < 0 ∨ 100 < pc ∨ (0 ≤ pc ∧ pc ≤ 100) by omega) with hs | hs | hs
  · exact con_val (pe_0 pc (by simp (disch := omega) only [allC, wrapI, tmodn, tdivn, Int.reduceTMod, Int.reduceTDiv, Int.reduceMul, Int.reduceNeg, bne_iff_ne, beq_iff_eq, bne_eq_false_iff_eq, beq_eq_false_iff_ne, decide_eq_true_eq, decide_eq_false_iff_not, Bool.and_eq_true, Bool.and_eq_false_iff, Bool.or_eq_true, Bool.or_eq_false_iff, Bool.not_eq_true', Bool.not_eq_false', Bool.true_eq_false, Bool.false_eq_true, Int.reduceBEq, Int.reduceBNe, and_true, true_and, or_false, or_true, true_or, false_or] <;> omega) trivial) (vi (by (repeat' split) <;> omega))
  · exact con_val (pe_1 pc (by simp (disch := omega) only [allC, wrapI, tmodn, tdivn, Int.reduceTMod, Int.reduceTDiv, Int.reduceMul, Int.reduceNeg, bne_iff_ne, beq_iff_eq, bne_eq_false_iff_eq, beq_eq_false_iff_ne, decide_eq_true_eq, decide_eq_false_iff_not, Bool.and_eq_true, Bool.and_eq_false_iff, Bool.or_eq_true, Bool.or_eq_false_iff, Bool.not_eq_true', Bool.not_eq_false', Bool.true_eq_false, Bool.false_eq_true, Int.reduceBEq, Int.reduceBNe, and_true, true_and, or_false, or_true, true_or, false_or] <;> omega) trivial) (vi (by (repeat' split) <;> omega))
  · exact con_val (pe_2 pc (by simp (disch := omega) only [allC, wrapI, tmodn, tdivn, Int.reduceTMod, Int.reduceTDiv, Int.reduceMul, Int.reduceNeg, bne_iff_ne, beq_iff_eq, bne_eq_false_iff_eq, beq_eq_false_iff_ne, decide_eq_true_eq, decide_eq_false_iff_not, Bool.and_eq_true, Bool.and_eq_false_iff, Bool.or_eq_true, Bool.or_eq_false_iff, Bool.not_eq_true', Bool.not_eq_false', Bool.true_eq_false, Bool.false_eq_true, Int.reduceBEq, Int.reduceBNe, and_true, true_and, or_false, or_true, true_or, false_or] <;> omega) trivial) (vi (by (repeat' split) <;> omega))
/-- Ratios that agree: 100 a ≤ (100 + p) b, and the other way round. -/
def near (f g f1 g1 pc : Int) : Bool := decide (100 * (f * g1) ≤ (100 + pc) * (f1 * g)) && decide (100 * (f1 * g) ≤ (100 + pc) * (f * g1))
theorem prod_range {a b : Int} (ha : 1 ≤ a ∧ a ≤ 36000000) (hb : 1 ≤ b ∧ b ≤ 36000000) : 1 ≤ a * b ∧ a * b ≤ 1296000000000000 :=
  ⟨by have := Int.mul_le_mul ha.1 hb.1 (by omega) (by omega); omega, by have := Int.mul_le_mul ha.2 hb.2 (by omega) (by omega); omega⟩
theorem pc_range {pc z : Int} (hp : 0 ≤ pc ∧ pc ≤ 100) (hz : 1 ≤ z ∧ z ≤ 1296000000000000) : 1 ≤ (100 + pc) * z ∧ (100 + pc) * z ≤ 259200000000000000 :=
  ⟨by have := Int.mul_le_mul (show (1 : Int) ≤ 100 + pc by omega) hz.1 (by omega) (by omega); omega, by have := Int.mul_le_mul (show 100 + pc ≤ 200 by omega) hz.2 (by omega) (by omega); omega⟩
theorem rr {k n s k1 n1 s1 : Int} (h : valid k n s) (h' : valid k1 n1 s1) : (1 ≤ rN k n k1 n1 ∧ rN k n k1 n1 ≤ 36000000) ∧ (1 ≤ rD k n k1 n1 ∧ rD k n k1 n1 ≤ 36000000) := by
  have a := sqv_range h
  have b := sqv_range h'
  have c := low_range a.1 b.1
  unfold rN rD
  omega
theorem ra_c {k n s k1 n1 s1 kb nb sb kc nc sc : Int} (m m1 mb mc : Bool) (st sd pc : Int) (hA : valid k n s) (hA1 : valid k1 n1 s1) (hB : valid kb nb sb) (hB1 : valid kc nc sc) (hp : 0 ≤ pc ∧ pc ≤ 100) : Con 110 [.agg #[.int .i64 k, .int .i64 n, .int .i64 s, .bool m, .int .i64 k1, .int .i64 n1, .int .i64 s1, .bool m1, .int .i64 st], .agg #[.int .i64 kb, .int .i64 nb, .int .i64 sb, .bool mb, .int .i64 kc, .int .i64 nc, .int .i64 sc, .bool mc, .int .i64 sd], .int .i64 pc] (.bool (near (rN k n k1 n1) (rD k n k1 n1) (rN kb nb kc nc) (rD kb nb kc nc) pc)) := by
  have a := ratio_c m m1 st hA hA1
  have b := ratio_c mb mc sd hB hB1
  obtain ⟨f1, f2⟩ := rr hA hA1
  obtain ⟨f3, f4⟩ := rr hB hB1
  unfold near
  generalize rN k n k1 n1 = f at *
  generalize rD k n k1 n1 = g at *
  generalize rN kb nb kc nc = f' at *
  generalize rD kb nb kc nc = g' at *
  have p1 := prod_range f1 f4
  have p2 := prod_range f3 f2
  have q1 := pc_range hp p1
  have q2 := pc_range hp p2
  have w1 : IntKind.i64.wrap (f * g') = f * g' := wrapI _ (by omega) (by omega)
  have w2 : IntKind.i64.wrap (f' * g) = f' * g := wrapI _ (by omega) (by omega)
  have w3 : IntKind.i64.wrap (100 * (f * g')) = 100 * (f * g') := wrapI _ (by omega) (by omega)
  have w4 : IntKind.i64.wrap (100 * (f' * g)) = 100 * (f' * g) := wrapI _ (by omega) (by omega)
  have w5 : IntKind.i64.wrap (100 + pc) = 100 + pc := wrapI _ (by omega) (by omega)
  have w6 : IntKind.i64.wrap ((100 + pc) * (f * g')) = (100 + pc) * (f * g') := wrapI _ (by omega) (by omega)
  have w7 : IntKind.i64.wrap ((100 + pc) * (f' * g)) = (100 + pc) * (f' * g) := wrapI _ (by omega) (by omega)
  by_cases hc : 100 * (f * g') ≤ (100 + pc) * (f' * g)
  · exact con_val (ra_y k n s m k1 n1 s1 m1 st kb nb sb mb kc nc sc mc sd pc f g f' g' (by simp only [allC, w1, w2, w3, w5, w7, hc, decide_true, and_self]) ⟨a, b, trivial⟩) (vb (by simp only [w1, w2, w4, w5, w6, hc, decide_true, Bool.true_and]))
  · exact con_val (ra_n k n s m k1 n1 s1 m1 st kb nb sb mb kc nc sc mc sd pc f g f' g' (by simp only [allC, w1, w2, w3, w5, w7, hc, decide_false, and_self]) ⟨a, b, trivial⟩) (vb (by simp only [hc, decide_false, Bool.false_and]))
theorem sgn_le (x : Int) : decide (sgn x ≤ 0) = decide (x ≤ 0) := by
  unfold sgn
  rcases Int.lt_trichotomy x 0 with h | h | h
  · rw [if_pos h]; simp; omega
  · subst h; rfl
  · rw [if_neg (by omega), if_pos h]; simp; omega
theorem is_c {k n s k1 n1 s1 kb nb sb kc nc sc : Int} (m m1 mb mc : Bool) (st sd pc : Int) (hA : valid k n s) (hA1 : valid k1 n1 s1) (hB : valid kb nb sb) (hB1 : valid kc nc sc) (hp : 0 ≤ pc ∧ pc ≤ 100) : Con 66 [.agg #[.int .i64 k, .int .i64 n, .int .i64 s, .bool m, .int .i64 k1, .int .i64 n1, .int .i64 s1, .bool m1, .int .i64 st], .agg #[.int .i64 kb, .int .i64 nb, .int .i64 sb, .bool mb, .int .i64 kc, .int .i64 nc, .int .i64 sc, .bool mc, .int .i64 sd], .int .i64 pc] (.bool (near (rN k n k1 n1) (rD k n k1 n1) (rN kb nb kc nc) (rD kb nb kc nc) pc)) := by
  have a := rratio_c m m1 st hA hA1
  have b := rratio_c mb mc sd hB hB1
  obtain ⟨f1, f2⟩ := rr hA hA1
  obtain ⟨f3, f4⟩ := rr hB hB1
  unfold near
  generalize rN k n k1 n1 = f at *
  generalize rD k n k1 n1 = g at *
  generalize rN kb nb kc nc = f' at *
  generalize rD kb nb kc nc = g' at *
  have q1 := pc_range hp (z := f) ⟨f1.1, by omega⟩
  have q2 := pc_range hp (z := f') ⟨f3.1, by omega⟩
  have u1 : (100 + pc) * f ≤ 7200000000 := by have := Int.mul_le_mul (show 100 + pc ≤ 200 by omega) f1.2 (by omega) (by omega); omega
  have u2 : (100 + pc) * f' ≤ 7200000000 := by have := Int.mul_le_mul (show 100 + pc ≤ 200 by omega) f3.2 (by omega) (by omega); omega
  have c := compare_c (n := 100 * f) (d := g) (m := (100 + pc) * f') (k := g') (by omega) (by omega) (by omega) (by omega) (by omega) (by omega) (by omega) (by omega)
  have d := compare_c (n := 100 * f') (d := g') (m := (100 + pc) * f) (k := g) (by omega) (by omega) (by omega) (by omega) (by omega) (by omega) (by omega) (by omega)
  have w3 : IntKind.i64.wrap (100 * f) = 100 * f := wrapI _ (by omega) (by omega)
  have w4 : IntKind.i64.wrap (100 * f') = 100 * f' := wrapI _ (by omega) (by omega)
  have w5 : IntKind.i64.wrap (100 + pc) = 100 + pc := wrapI _ (by omega) (by omega)
  have w6 : IntKind.i64.wrap ((100 + pc) * f) = (100 + pc) * f := wrapI _ (by omega) (by omega)
  have w7 : IntKind.i64.wrap ((100 + pc) * f') = (100 + pc) * f' := wrapI _ (by omega) (by omega)
  have e1 := sgn_le (100 * f * g' - (100 + pc) * f' * g)
  have e2 := sgn_le (100 * f' * g - (100 + pc) * f * g')
  have z1 : (100 * f * g' - (100 + pc) * f' * g ≤ 0) = (100 * (f * g') ≤ (100 + pc) * (f' * g)) := by rw [Int.mul_assoc, Int.mul_assoc]; exact propext ⟨fun h => by omega, fun h => by omega⟩
  have z2 : (100 * f' * g - (100 + pc) * f * g' ≤ 0) = (100 * (f' * g) ≤ (100 + pc) * (f * g')) := by rw [Int.mul_assoc, Int.mul_assoc]; exact propext ⟨fun h => by omega, fun h => by omega⟩
  simp only [z1] at e1
  simp only [z2] at e2
  rw [← e1, ← e2]
  generalize sgn (100 * f * g' - (100 + pc) * f' * g) = x at *
  generalize sgn (100 * f' * g - (100 + pc) * f * g') = y at *
  have hk1 : Con 114 [.int .i64 (IntKind.i64.wrap (100 * f)), .int .i64 g, .int .i64 (IntKind.i64.wrap (IntKind.i64.wrap (100 + pc) * f')), .int .i64 g'] (.int .i64 x) := by rw [w3, w5, w7]; exact c
  have hk2 : Con 114 [.int .i64 (IntKind.i64.wrap (100 * f')), .int .i64 g', .int .i64 (IntKind.i64.wrap (IntKind.i64.wrap (100 + pc) * f)), .int .i64 g] (.int .i64 y) := by rw [w4, w5, w6]; exact d
  by_cases hx : x ≤ 0
  · exact con_val (is_y k n s m k1 n1 s1 m1 st kb nb sb mb kc nc sc mc sd pc f g f' g' x y (by simp [allC, hx]) ⟨a, b, hk1, hk2, trivial⟩) (vb (by simp [hx]))
  · exact con_val (is_n k n s m k1 n1 s1 m1 st kb nb sb mb kc nc sc mc sd pc f g f' g' x 0 (by simp [allC]; omega) ⟨a, b, hk1, trivial⟩) (vb (by simp [hx]))
/-- May the units run? -/
def runs (k n s : Int) (m : Bool) (k1 n1 s1 : Int) (m1 : Bool) (kb nb sb : Int) (mb : Bool) (kc nc sc : Int) (mc : Bool) (pc : Int) : Bool := (cl k s m k1 s1 m1 == cl kb sb mb kc sc mc) && near (rN k n k1 n1) (rD k n k1 n1) (rN kb nb kc nc) (rD kb nb kc nc) pc
end Go.Proofs.YtngdhmliohjigaaDoor
