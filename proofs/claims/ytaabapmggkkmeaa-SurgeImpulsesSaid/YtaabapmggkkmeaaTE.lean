import Derived.Test.YtaabapmggkkmeaaTD
set_option linter.unusedVariables false
set_option linter.unusedSimpArgs false
set_option linter.unusedSectionVars false
set_option linter.unnecessarySimpa false
/- Impulses: which are valid. -/
namespace Go.Proofs.Ytaabapmggkkmeaa
open Go.Ev Go.RowKit
set_option maxRecDepth 100000
section
theorem within_eq (n lo hi : Int) : m_14 [iD n, iD lo, iD hi] = some (.one (.bool (decide (lo ≤ n ∧ n ≤ hi)))) := by
  rw [m_14_eq]
  unfold within_M
  by_cases h : lo ≤ n
  · rw [if_pos h]; simp [h]
  · rw [if_neg h]; simp [h]
theorem first_eq (l : List Int) (hl : l.length ≤ 1000) : m_33 [lD l] = some (iD ((l.find? fun x => x != 0).getD 0)) := by
  rw [m_33_eq]
  unfold firstOf_M
  have key : ∀ m i, i + m = l.length → runR (firstOf_L2_S l.length (l.map iD)) (.next 0 [iD (i : Int)]) = (match (l.drop i).find? (fun x => x != 0) with | some x => some (.out 1 [iD x]) | none => some (.out 0 [])) := by
    intro m
    induction m with
    | zero =>
      intro i hi
      rw [List.drop_of_length_le (by omega)]
      refine runR_exit ?_
      show firstOf_L2_S0 l.length (l.map iD) _ = _
      unfold firstOf_L2_S0
      rw [pullD_some (i : Int) (by rfl) (by rfl), if_neg (by omega)]
    | succ m ih =>
      intro i hi
      have hlt : i < l.length := by omega
      have hd : l.drop i = at' l i :: l.drop (i + 1) := by
        rw [List.drop_eq_getElem_cons hlt]
        congr 1
        unfold at'
        rw [List.getElem?_eq_getElem hlt]; rfl
      rw [hd, List.find?_cons]
      have hst : firstOf_L2_S l.length (l.map iD) (.next 0 [iD (i : Int)]) = if at' l i ≠ 0 then some (.out 1 [iD (at' l i)]) else some (.next 0 [iD ((i + 1 : Nat) : Int)]) := by
        show firstOf_L2_S0 l.length (l.map iD) _ = _
        unfold firstOf_L2_S0
        rw [pullD_some (i : Int) (by rfl) (by rfl), if_pos (by omega), guardP_pos (by omega), readA hlt, pullD_some (at' l i) (by rfl) (by rfl), natI (by omega)]
      by_cases h0 : at' l i = 0
      · rw [if_neg (by simpa using h0)] at hst
        rw [runR_next hst, ih (i + 1) (by omega), show (at' l i != 0) = false by simp [h0]]
      · rw [if_pos h0] at hst
        rw [runR_exit hst, show (at' l i != 0) = true by simp [h0]]
  have h := key l.length 0 (by omega)
  rw [List.drop_zero, Int.natCast_zero] at h
  cases hf : l.find? (fun x => x != 0) with
  | none =>
    rw [hf] at h
    rw [bindL_some (j := 0) (ds := []) h, if_pos rfl, pullD_some () (by rfl) (by rfl)]
    rfl
  | some x =>
    rw [hf] at h
    rw [bindL_some (j := 1) (ds := [iD x]) h, if_neg (by decide), if_pos rfl, pullD_some x (by rfl) (by rfl)]
    rfl
theorem first22 : m_33 [.list 2 [iD 2, iD 2]] = some (iD 2) := first_eq [2, 2] (by decide)
theorem first20 : m_33 [.list 2 [iD 2, iD 0]] = some (iD 2) := first_eq [2, 0] (by decide)
theorem first02 : m_33 [.list 2 [iD 0, iD 2]] = some (iD 2) := first_eq [0, 2] (by decide)
theorem first00 : m_33 [.list 2 [iD 0, iD 0]] = some (iD 0) := first_eq [0, 0] (by decide)
theorem first2 (x y : Int) : m_33 [.list 2 [iD x, iD y]] = some (iD (if x ≠ 0 then x else y)) := by
  rw [show [D.list 2 [iD x, iD y]] = [lD [x, y]] from rfl, first_eq _ (by simp)]
  congr 2
  by_cases h1 : x ≠ 0
  · rw [if_pos h1]; simp [h1]
  · have h1 : x = 0 := by omega
    subst h1
    by_cases h2 : y ≠ 0
    · simp [h2]
    · have h2 : y = 0 := by omega
      subst h2; rfl
/-- The error at a point. -/
def errAt (l : List (Int × Int)) (i : Nat) : Int :=
  if ¬ (0 ≤ ta l i ∧ ta l i ≤ 1000000 ∧ -1000000 ≤ va l i ∧ va l i ≤ 1000000) then 2 else if 0 < i ∧ ta l i ≤ ta l (i - 1) then 9 else 0
variable {l : List (Int × Int)} {i : Nat}
theorem errAt_2 (h : ¬ (0 ≤ ta l i ∧ ta l i ≤ 1000000 ∧ -1000000 ≤ va l i ∧ va l i ≤ 1000000)) : errAt l i = 2 := by unfold errAt; rw [if_pos h]
theorem errAt_9 (h : 0 ≤ ta l i ∧ ta l i ≤ 1000000) (h2 : -1000000 ≤ va l i ∧ va l i ≤ 1000000) (c : 0 < i) (q : ta l i ≤ ta l (i - 1)) : errAt l i = 9 := by
  unfold errAt; rw [if_neg (by omega), if_pos ⟨c, q⟩]
theorem errAt_0 (h : 0 ≤ ta l i ∧ ta l i ≤ 1000000) (h2 : -1000000 ≤ va l i ∧ va l i ≤ 1000000) (q : ¬ (0 < i ∧ ta l i ≤ ta l (i - 1))) : errAt l i = 0 := by
  unfold errAt; rw [if_neg (by omega), if_neg q]
theorem natI' {i : Nat} (h : i < 1000000000000000) : IntKind.i64.wrap ((i : Int) + 1) = ((i + 1 : Nat) : Int) := by rw [wrapJ _ (by omega) (by omega)]; omega
theorem step8 (hi : i < l.length) (hl : l.length ≤ 1000) (x0 : Int) : chkImpulse_L5_S0 l.length (cP l) x0 [iD (i : Int)] = if errAt l i = 0 then some (.next 0 [iD ((i + 1 : Nat) : Int)]) else some (.out 1 [iD (i : Int), iD (errAt l i)]) := by
  unfold chkImpulse_L5_S0
  rw [pullD_some (i : Int) (by rfl) (by rfl)]
  have e2 : IntKind.i64.wrap ((i : Int) + 1) = ((i + 1 : Nat) : Int) := natI' (by omega)
  have hw : IntKind.i64.wrap ((0 : Int) - (1000000 : Int)) = -1000000 := by rw [wrapJ _ (by omega) (by omega)]; rfl
  simp only [e2, hw, Int.toNat_natCast]
  rw [if_pos (by omega), guardP_pos (by omega), readP hi, pullD_some (ta l i, va l i) (by rfl) (by rfl)]
  dsimp only
  by_cases a1 : ta l i < 0
  · skip
    by_cases b1 : va l i < -1000000
    · skip
      rw [if_pos a1, if_pos b1, first22, pullI, if_pos (by decide), errAt_2 (by omega), if_neg (by decide)]
    · by_cases b2 : va l i > 1000000
      · skip
        rw [if_pos a1, if_neg b1, if_pos b2, first22, pullI, if_pos (by decide), errAt_2 (by omega), if_neg (by decide)]
      · skip
        rw [if_pos a1, if_neg b1, if_neg b2, first20, pullI, if_pos (by decide), errAt_2 (by omega), if_neg (by decide)]
  · by_cases a2 : ta l i > 1000000
    · skip
      by_cases b1 : va l i < -1000000
      · skip
        rw [if_neg a1, if_pos a2, if_pos b1, first22, pullI, if_pos (by decide), errAt_2 (by omega), if_neg (by decide)]
      · by_cases b2 : va l i > 1000000
        · skip
          rw [if_neg a1, if_pos a2, if_neg b1, if_pos b2, first22, pullI, if_pos (by decide), errAt_2 (by omega), if_neg (by decide)]
        · skip
          rw [if_neg a1, if_pos a2, if_neg b1, if_neg b2, first20, pullI, if_pos (by decide), errAt_2 (by omega), if_neg (by decide)]
    · skip
      by_cases b1 : va l i < -1000000
      · skip
        rw [if_neg a1, if_neg a2, if_pos b1, first02, pullI, if_pos (by decide), errAt_2 (by omega), if_neg (by decide)]
      · by_cases b2 : va l i > 1000000
        · skip
          rw [if_neg a1, if_neg a2, if_neg b1, if_pos b2, first02, pullI, if_pos (by decide), errAt_2 (by omega), if_neg (by decide)]
        · skip
          rw [if_neg a1, if_neg a2, if_neg b1, if_neg b2, first00, pullI, if_neg (by decide)]
          by_cases c : 0 < i
          · have e3 : IntKind.i64.wrap ((i : Int) - 1) = ((i - 1 : Nat) : Int) := by rw [wrapJ _ (by omega) (by omega)]; omega
            simp only [e3, Int.toNat_natCast]
            rw [if_pos (by omega), guardP_pos (by omega), guardP_pos (by omega), readP0 (by omega), pullD_some (ta l (i - 1)) (by rfl) (by rfl)]
            by_cases q : ta l i ≤ ta l (i - 1)
            · rw [if_pos q, errAt_9 (by omega) (by omega) c q, if_neg (by decide)]
            · rw [if_neg q, errAt_0 (by omega) (by omega) (by omega), if_pos rfl]
          · rw [if_neg (by omega), errAt_0 (by omega) (by omega) (by omega), if_pos rfl]
theorem step12 (hi : i < l.length) (hl : l.length ≤ 1000) : chkR_L6_S0 l.length (cP l) [iD (i : Int)] = if errAt l i = 0 then some (.next 0 [iD ((i + 1 : Nat) : Int)]) else some (.out 1 [iD (i : Int), iD (errAt l i)]) := by
  unfold chkR_L6_S0
  rw [pullD_some (i : Int) (by rfl) (by rfl)]
  have e2 : IntKind.i64.wrap ((i : Int) + 1) = ((i + 1 : Nat) : Int) := natI' (by omega)
  simp only [e2, Int.toNat_natCast]
  rw [if_pos (by omega), guardP_pos (by omega), readP hi, pullD_some (ta l i, va l i) (by rfl) (by rfl)]
  dsimp only
  rw [within_eq, pullB]
  by_cases a : 0 ≤ ta l i ∧ ta l i ≤ 1000000
  · rw [if_neg (by simpa using a), within_eq, pullB]
    by_cases b : -1000000 ≤ va l i ∧ va l i ≤ 1000000
    · rw [if_neg (by simpa using b)]
      by_cases c : 0 < i
      · have e3 : IntKind.i64.wrap ((i : Int) - 1) = ((i - 1 : Nat) : Int) := by rw [wrapJ _ (by omega) (by omega)]; omega
        simp only [e3, Int.toNat_natCast]
        rw [if_pos (by omega), guardP_pos (by omega), guardP_pos (by omega), readP0 (by omega), pullD_some (ta l (i - 1)) (by rfl) (by rfl)]
        by_cases q : ta l i ≤ ta l (i - 1)
        · rw [if_pos q, errAt_9 a b c q, if_neg (by decide)]
        · rw [if_neg q, errAt_0 a b (by omega), if_pos rfl]
      · rw [if_neg (by omega), errAt_0 a b (by omega), if_pos rfl]
    · rw [if_pos (by simpa using b), errAt_2 (by omega), if_neg (by decide)]
  · rw [if_pos (by simpa using a), errAt_2 (by omega), if_neg (by decide)]
/-- The index and the error of an impulse. -/
def impX (l : List (Int × Int)) : Int × Int :=
  if l.length < 2 then (0, 10) else if l.length > 12 then (0, 8) else match frst (errAt l) l.length 0 with | none => (0, 0) | some j => ((j : Int), errAt l j)
/-- A valid impulse. -/
structure Imp (l : List (Int × Int)) : Prop where
  two : 2 ≤ l.length
  le : l.length ≤ 12
  ok : ∀ i, i < l.length → 0 ≤ ta l i ∧ ta l i ≤ 1000000 ∧ -1000000 ≤ va l i ∧ va l i ≤ 1000000
  asc : ∀ i, i + 1 < l.length → ta l i < ta l (i + 1)
theorem Imp.mono (h : Imp l) {i j : Nat} (hij : i < j) (hj : j < l.length) : ta l i < ta l j := by
  induction j with
  | zero => omega
  | succ j ih =>
    have h1 := h.asc j hj
    rcases Nat.lt_or_ge i j with h2 | h2
    · have := ih h2 (by omega); omega
    · have : i = j := by omega
      subst this; exact h1
theorem errAt_zero (h : errAt l i = 0) : (0 ≤ ta l i ∧ ta l i ≤ 1000000 ∧ -1000000 ≤ va l i ∧ va l i ≤ 1000000) ∧ ¬ (0 < i ∧ ta l i ≤ ta l (i - 1)) := by
  unfold errAt at h
  split at h
  · cases h
  · split at h
    · cases h
    · rename_i h1 h2
      exact ⟨by omega, h2⟩
theorem impX_zero (h : (impX l).2 = 0) : Imp l := by
  unfold impX at h
  split at h
  · cases h
  · split at h
    · cases h
    · split at h
      · rename_i h1 h2 h3
        have hz := frst_none h3
        refine ⟨by omega, by omega, fun i hi => (errAt_zero (hz i (by omega) (by omega))).1, fun i hi => ?_⟩
        have := (errAt_zero (hz (i + 1) (by omega) (by omega))).2
        simp only [Nat.add_sub_cancel] at this
        omega
      · rename_i h3
        exact absurd h (frst_some h3).1
theorem impX_of (h : Imp l) : impX l = (0, 0) := by
  have h1 := h.two
  have h2 := h.le
  unfold impX
  rw [if_neg (by omega), if_neg (by omega), frst_all fun j _ hj => ?_]
  have hk := h.ok j (by omega)
  refine errAt_0 ⟨hk.1, hk.2.1⟩ hk.2.2 fun ⟨hj0, hq⟩ => ?_
  have := h.asc (j - 1) (by omega)
  rw [show j - 1 + 1 = j by omega] at this
  omega
theorem chk8 (l : List (Int × Int)) : m_8 [.agg [lP l]] = some (.tup [iD (impX l).1, iD (impX l).2]) := by
  rw [m_8_eq]
  unfold chkImpulse_M
  rw [m_32_eq]
  unfold chkCount_M impX
  by_cases h1 : l.length < 2
  · rw [if_pos (by omega), pullI, if_pos (by decide), if_pos h1]
  · rw [if_neg (by omega), if_neg h1]
    by_cases h2 : l.length > 12
    · rw [if_pos (by omega), pullI, if_pos (by decide), if_pos h2]
    · rw [if_neg (by omega), if_neg h2, pullI, if_neg (by decide)]
      have h3 := scanE (n := l.length) (e := errAt l) (S := chkImpulse_L5_S l.length (cP l) 0) (fun i hi => step8 hi (by omega) 0) (by
        show chkImpulse_L5_S0 l.length (cP l) 0 _ = _
        unfold chkImpulse_L5_S0
        rw [pullD_some (l.length : Int) (by rfl) (by rfl), if_neg (by omega)]) l.length 0 (by omega)
      rw [Int.natCast_zero] at h3
      cases hf : frst (errAt l) l.length 0 with
      | none =>
        rw [hf] at h3
        rw [bindL_some h3, if_pos rfl]
        exact pullD_some () (by rfl) (by rfl)
      | some j =>
        rw [hf] at h3
        rw [bindL_some h3, if_neg (by decide), if_pos rfl, pullD_some ((j : Int), errAt l j) (by rfl) (by rfl)]
theorem chk12 (l : List (Int × Int)) : m_12 [.agg [lP l]] = some (.tup [iD (impX l).1, iD (impX l).2]) := by
  rw [m_12_eq]
  unfold chkR_M impX
  by_cases h1 : l.length < 2
  · rw [if_pos (by omega), if_pos h1]
  · rw [if_neg (by omega), if_neg h1]
    by_cases h2 : l.length > 12
    · rw [if_pos (by omega), if_pos h2]
    · rw [if_neg (by omega), if_neg h2]
      have h3 := scanE (n := l.length) (e := errAt l) (S := chkR_L6_S l.length (cP l)) (fun i hi => step12 hi (by omega)) (by
        show chkR_L6_S0 l.length (cP l) _ = _
        unfold chkR_L6_S0
        rw [pullD_some (l.length : Int) (by rfl) (by rfl), if_neg (by omega)]) l.length 0 (by omega)
      rw [Int.natCast_zero] at h3
      cases hf : frst (errAt l) l.length 0 with
      | none =>
        rw [hf] at h3
        rw [bindL_some h3, if_pos rfl]
        exact pullD_some () (by rfl) (by rfl)
      | some j =>
        rw [hf] at h3
        rw [bindL_some h3, if_neg (by decide), if_pos rfl, pullD_some ((j : Int), errAt l j) (by rfl) (by rfl)]
theorem err22 (l : List (Int × Int)) : m_22 [.agg [lP l]] = some (iD (impX l).2) := by
  rw [m_22_eq]
  unfold impErr_M
  rw [show [D.agg [D.list l.length (cP l)]] = [.agg [lP l]] from rfl, chk12, pullD_some ((impX l).1, (impX l).2) (by rfl) (by rfl)]
theorem chkd36 (l : List (Int × Int)) : m_36 [.agg [lP l]] = some (if (impX l).2 ≠ 0 then .tup [.agg [.list 0 []], iD (impX l).2] else .tup [.agg [lP l], iD 0]) := by
  rw [m_36_eq]
  unfold checkedFrom_M
  rw [show [D.agg [D.list l.length (cP l)]] = [.agg [lP l]] from rfl, chk8, pullD_some ((impX l).1, (impX l).2) (by rfl) (by rfl)]
  dsimp only
  by_cases h : (impX l).2 ≠ 0
  · rw [if_pos h, if_pos h]
  · rw [if_neg h, if_neg h]
theorem few7 (l : List (Int × Int)) : m_7 [.agg [lP l]] = some (.one (.bool (decide (l.length ≤ 14)))) := by
  rw [m_7_eq]
  unfold few_M
  congr 3
  exact decide_eq_decide.2 (by omega)
theorem copy9 (l : List (Int × Int)) (hl : l.length ≤ 1000) : m_9 [.agg [lP l]] = some (.agg [lP l]) := by
  rw [m_9_eq]
  unfold copyImp_M
  rw [guardP_pos ⟨cellP l, Nat.le_refl _, by omega, by omega⟩, guardP_pos (cP_len l), guardP_pos ⟨by simp [cP_len], by omega⟩, Nat.zero_add]
end
end Go.Proofs.Ytaabapmggkkmeaa
namespace Go.Proofs.Ytaabapmggkkmeaa
open Go.Ev Go.RowKit
set_option maxRecDepth 100000
set_option maxHeartbeats 8000000
set_option linter.all false
noncomputable section
def valueAt_x40_2_0 : LExit := ⟨some 0, [.cval 2004 0, .cval 2005 0, .rcd 1 .ready], (4 :: (5 :: (6 :: (List.range' 12 27))))⟩
def valueAt_x40_2_1 : LExit := ⟨none, [.cval 2004 0, .cval 2005 0, .rcd 1 .ret], (4 :: (5 :: (6 :: (List.range' 12 27))))⟩
def valueAt_sp : List LSpec := [⟨40, 2, [valueAt_x40_2_0, valueAt_x40_2_1]⟩]
def valueAt_L40_2_E (ka : Nat) (ca : List D) (tm : Int) (x0 : Int) (x1 : Int) : List AV × AHeap := ([.agg [.dsl 0], .yld 6, .ptr 7 0, .pure (.tuple #[]), .pure (.tuple #[]), .pure (.tuple #[]), .pure (.tuple #[]), .ptr 7 0, .ptr 7 0, .dsl 0, .dsl 8, .pure (.int .i64 (((((ka : Int)).toNat - Int.toNat (1 : Int)) : Nat) : Int)), .pure (.int .i64 (0 : Int)), .pure (.tuple #[]), .pure (.tuple #[]), .pure (.tuple #[]), .pure (.tuple #[]), .pure (.tuple #[]), .pure (.tuple #[]), .pure (.tuple #[]), .pure (.tuple #[]), .pure (.tuple #[]), .pure (.tuple #[]), .pure (.tuple #[]), .pure (.tuple #[]), .pure (.tuple #[]), .pure (.tuple #[]), .pure (.tuple #[]), .pure (.tuple #[]), .pure (.tuple #[]), .pure (.tuple #[]), .pure (.tuple #[]), .pure (.tuple #[]), .pure (.tuple #[]), .pure (.tuple #[]), .pure (.tuple #[]), .pure (.tuple #[]), .pure (.tuple #[]), .pure (.tuple #[])], [(8, { cells := [], opn := none, kind := .deep (((ka : Int)).toNat - Int.toNat (1 : Int)) (List.take ((((ka : Int)).toNat - Int.toNat (1 : Int)) * 2) (List.drop (Int.toNat (1 : Int) * 2) ca)) }), (7, { cells := [.dsl 0], opn := none, kind := .cells }), (6, { cells := [.agg [.dsl 0], .pure (.int .i64 tm), .ptr 1 0, .ptr 2 0, .ptr 3 0, .ptr 4 0, .pure (.tuple #[]), .pure (.tuple #[]), .pure (.tuple #[]), .pure (.tuple #[]), .pure (.int .i64 tm), .agg [.dsl 0], .pure (.agg #[.int .i64 x0, .int .i64 x1]), .pure (.int .i64 x0), .pure (.bool (decide (tm < x0))), .agg [.dsl 0], .func (Fn.func 40) [.agg [.dsl 0]] [], .pure (.tuple #[]), .pure (.tuple #[]), .pure (.tuple #[]), .pure (.tuple #[]), .pure (.tuple #[]), .pure (.tuple #[]), .pure (.tuple #[]), .pure (.tuple #[]), .pure (.tuple #[]), .pure (.tuple #[]), .pure (.tuple #[]), .pure (.tuple #[]), .pure (.tuple #[]), .pure (.tuple #[]), .pure (.tuple #[]), .pure (.tuple #[]), .pure (.tuple #[]), .pure (.tuple #[]), .pure (.tuple #[]), .pure (.tuple #[]), .pure (.tuple #[]), .pure (.tuple #[]), .pure (.tuple #[]), .pure (.tuple #[]), .pure (.tuple #[]), .pure (.tuple #[]), .pure (.tuple #[]), .pure (.tuple #[]), .pure (.tuple #[]), .pure (.tuple #[]), .pure (.tuple #[])], opn := none, kind := .loop { f := 39, ps := #[17, 18], asg := (Code.region 4 #[{ dst := some 6, op := Op.assign (Operand.tmp 17), type := 3, pos := "impulses.go:43", after := #[], guard := none }] false).seq (Code.region 5 #[{ dst := some 7, op := Op.alloc 96, type := 0, pos := "impulses.go:43", after := #[], guard := none }, { dst := none, op := Op.store 96 (Operand.tmp 7) (Operand.tmp 18), type := 0, pos := "impulses.go:43", after := #[{ on := 0, ground := Ground.data }, { on := 0, ground := Ground.phase }], guard := none }] false), body := Code.block 1 ((Code.region 6 #[{ dst := some 19, op := Op.fieldAddr 90 (Operand.tmp 2) 0, type := 0, pos := "impulses.go:44", after := #[], guard := none }, { dst := some 20, op := Op.fieldAddr 24 (Operand.tmp 19) 0, type := 0, pos := "impulses.go:44", after := #[{ on := 0, ground := Ground.data }], guard := none }, { dst := some 21, op := Op.load 22 (Operand.tmp 20), type := 22, pos := "impulses.go:44", after := #[{ on := 1, ground := Ground.data }], guard := none }, { dst := some 22, op := Op.move (Operand.tmp 6), type := 3, pos := "impulses.go:44", after := #[], guard := none }, { dst := some 23, op := Op.indexAddr 22 (Operand.tmp 21) (Operand.tmp 22), type := 0, pos := "impulses.go:44", after := #[{ on := 2, ground := Ground.data }, { on := 3, ground := Ground.data }], guard := none }, { dst := some 24, op := Op.load 59 (Operand.tmp 23), type := 59, pos := "impulses.go:44", after := #[{ on := 4, ground := Ground.data }], guard := none }, { dst := some 8, op := Op.alloc 59, type := 0, pos := "impulses.go:44", after := #[], guard := none }, { dst := none, op := Op.store 59 (Operand.tmp 8) (Operand.tmp 24), type := 0, pos := "impulses.go:44", after := #[{ on := 6, ground := Ground.data }, { on := 5, ground := Ground.data }, { on := 0, ground := Ground.phase }, { on := 1, ground := Ground.phase }, { on := 2, ground := Ground.phase }, { on := 3, ground := Ground.phase }, { on := 4, ground := Ground.phase }, { on := 5, ground := Ground.phase }, { on := 6, ground := Ground.phase }], guard := none }] false).seq ((Code.region 7 #[{ dst := some 25, op := Op.load 3 (Operand.tmp 3), type := 3, pos := "impulses.go:45", after := #[], guard := none }, { dst := some 26, op := Op.fieldAddr 59 (Operand.tmp 8) 0, type := 0, pos := "impulses.go:45", after := #[], guard := none }, { dst := some 27, op := Op.load 3 (Operand.tmp 26), type := 3, pos := "impulses.go:45", after := #[{ on := 1, ground := Ground.data }], guard := none }, { dst := some 28, op := Op.binOp BinOp.sub 3 (Operand.tmp 25) (Operand.tmp 27) 3, type := 3, pos := "impulses.go:45", after := #[{ on := 0, ground := Ground.data }, { on := 2, ground := Ground.data }], guard := none }, { dst := some 9, op := Op.assign (Operand.tmp 28), type := 3, pos := "impulses.go:45", after := #[{ on := 3, ground := Ground.data }, { on := 0, ground := Ground.phase }, { on := 1, ground := Ground.phase }, { on := 2, ground := Ground.phase }, { on := 3, ground := Ground.phase }], guard := none }] false).seq ((Code.region 8 #[{ dst := some 29, op := Op.move (Operand.tmp 9), type := 3, pos := "impulses.go:45", after := #[], guard := none }, { dst := some 30, op := Op.fieldAddr 96 (Operand.tmp 7) 1, type := 0, pos := "impulses.go:45", after := #[], guard := none }, { dst := some 31, op := Op.load 3 (Operand.tmp 30), type := 3, pos := "impulses.go:45", after := #[{ on := 1, ground := Ground.data }], guard := none }, { dst := some 32, op := Op.binOp BinOp.leq 3 (Operand.tmp 29) (Operand.tmp 31) 3, type := 4, pos := "impulses.go:45", after := #[{ on := 0, ground := Ground.data }, { on := 2, ground := Ground.data }], guard := none }] false).seq (Code.cond (Operand.tmp 32) ((Code.region 9 #[{ dst := some 33, op := Op.fieldAddr 59 (Operand.tmp 8) 1, type := 0, pos := "impulses.go:46", after := #[], guard := none }, { dst := some 34, op := Op.load 3 (Operand.tmp 33), type := 3, pos := "impulses.go:46", after := #[{ on := 0, ground := Ground.data }], guard := none }, { dst := some 35, op := Op.fieldAddr 96 (Operand.tmp 7) 1, type := 0, pos := "impulses.go:46", after := #[], guard := none }, { dst := some 36, op := Op.load 3 (Operand.tmp 35), type := 3, pos := "impulses.go:46", after := #[{ on := 2, ground := Ground.data }], guard := none }, { dst := some 37, op := Op.binOp BinOp.mul 3 (Operand.tmp 34) (Operand.tmp 36) 3, type := 3, pos := "impulses.go:46", after := #[{ on := 1, ground := Ground.data }, { on := 3, ground := Ground.data }], guard := none }, { dst := some 38, op := Op.move (Operand.tmp 9), type := 3, pos := "impulses.go:46", after := #[], guard := none }, { dst := some 39, op := Op.fieldAddr 96 (Operand.tmp 7) 0, type := 0, pos := "impulses.go:46", after := #[], guard := none }, { dst := some 40, op := Op.load 3 (Operand.tmp 39), type := 3, pos := "impulses.go:46", after := #[{ on := 6, ground := Ground.data }], guard := none }, { dst := some 41, op := Op.binOp BinOp.mul 3 (Operand.tmp 38) (Operand.tmp 40) 3, type := 3, pos := "impulses.go:46", after := #[{ on := 5, ground := Ground.data }, { on := 7, ground := Ground.data }], guard := none }, { dst := some 42, op := Op.binOp BinOp.add 3 (Operand.tmp 37) (Operand.tmp 41) 3, type := 3, pos := "impulses.go:46", after := #[{ on := 4, ground := Ground.data }, { on := 8, ground := Ground.data }], guard := none }, { dst := some 43, op := Op.fieldAddr 96 (Operand.tmp 7) 1, type := 0, pos := "impulses.go:46", after := #[{ on := 12, ground := Ground.gcOnly Departure.lateStores }], guard := none }, { dst := some 44, op := Op.load 3 (Operand.tmp 43), type := 3, pos := "impulses.go:46", after := #[{ on := 10, ground := Ground.data }, { on := 12, ground := Ground.gcOnly Departure.lateStores }], guard := none }, { dst := none, op := Op.store 3 (Operand.tmp 4) (Operand.tmp 42), type := 0, pos := "impulses.go:46", after := #[{ on := 9, ground := Ground.data }, { on := 0, ground := Ground.phase }, { on := 1, ground := Ground.phase }, { on := 2, ground := Ground.phase }, { on := 3, ground := Ground.phase }, { on := 4, ground := Ground.phase }, { on := 5, ground := Ground.phase }, { on := 6, ground := Ground.phase }, { on := 7, ground := Ground.phase }, { on := 8, ground := Ground.phase }, { on := 9, ground := Ground.phase }, { on := 10, ground := Ground.textOnly Departure.lateStores }, { on := 11, ground := Ground.textOnly Departure.lateStores }], guard := none }, { dst := none, op := Op.store 3 (Operand.tmp 5) (Operand.tmp 44), type := 0, pos := "impulses.go:46", after := #[{ on := 11, ground := Ground.data }, { on := 12, ground := Ground.chain }, { on := 0, ground := Ground.phase }, { on := 1, ground := Ground.phase }, { on := 2, ground := Ground.phase }, { on := 3, ground := Ground.phase }, { on := 4, ground := Ground.phase }, { on := 5, ground := Ground.phase }, { on := 6, ground := Ground.phase }, { on := 7, ground := Ground.phase }, { on := 8, ground := Ground.phase }, { on := 9, ground := Ground.phase }, { on := 10, ground := Ground.phase }, { on := 11, ground := Ground.phase }, { on := 12, ground := Ground.phase }], guard := none }] true).seq Code.ret) Code.skip)))), st := RState.ready } }), (5, { cells := [], opn := none, kind := .dfr }), (4, { cells := [.pure (.int .i64 (0 : Int))], opn := none, kind := .cells }), (3, { cells := [.pure (.int .i64 (0 : Int))], opn := none, kind := .cells }), (2, { cells := [.pure (.int .i64 tm)], opn := none, kind := .cells }), (1, { cells := [.dsl 0], opn := none, kind := .cells }), (0, { cells := [], opn := none, kind := .deep ka ca })])
def valueAt_L40_2_A : LoopAt := ⟨40, loopAt Try.prog 40 0, 9, 42, 3, noFrame⟩
theorem valueAt_L40_2_ok : (valueAt_L40_2_A).OK := ⟨by show 9 ≤ 42; decide, by show 3 ≤ 9; decide, by kernel_rfl, rfl⟩
def valueAt_L40_2_gs (ka : Nat) (ca : List D) (tm : Int) (x0 : Int) (x1 : Int) : Go.Ev.Rd → Option GS
  | .next 0 ds => ghost [.val 12, .cval 2004 0, .cval 2005 0, .rcd 1 .ready] (4 :: (5 :: (6 :: (List.range' 13 26)))) (valueAt_L40_2_E ka ca tm x0 x1).1 (valueAt_L40_2_E ka ca tm x0 x1).2 9 ds
  | .out 0 ds => ghost valueAt_x40_2_0.live valueAt_x40_2_0.junk (valueAt_L40_2_E ka ca tm x0 x1).1 (valueAt_L40_2_E ka ca tm x0 x1).2 9 ds
  | .out 1 ds => ghost valueAt_x40_2_1.live valueAt_x40_2_1.junk (valueAt_L40_2_E ka ca tm x0 x1).1 (valueAt_L40_2_E ka ca tm x0 x1).2 9 ds
  | _ => none
def valueAt_L40_2_ex : Nat → Option Nat
  | 0 => valueAt_x40_2_0.ex
  | 1 => valueAt_x40_2_1.ex
  | _ => none
def valueAt_L40_2_ax : Go.Ev.Rd → AX
  | .next _ _ => .normal
  | .out j _ => axOf (valueAt_L40_2_ex j)
def valueAt_L40_2_S0 (ka : Nat) (ca : List D) (tm : Int) (x0 : Int) (x1 : Int) (ds : List D) : Option Go.Ev.Rd := pullD (α := Int × Int × Int) (some (.tup ds)) (fun d => ((D.vi (D.at d 0)), (D.vi (D.at d 1)), (D.vi (D.at d 2)))) (fun (s12, s2004_0, s2005_0) => .tup [iD s12, iD s2004_0, iD s2005_0, .one (.tuple #[])]) fun (s12, s2004_0, s2005_0) => ((if s12 < (((((ka : Int)).toNat - Int.toNat (1 : Int)) : Nat) : Int) then guardP ((0 : Int) ≤ s12 ∧ s12.toNat < ((ka : Int)).toNat - Int.toNat (1 : Int)) (pullD (α := Int × Int) (readD (List.take ((((ka : Int)).toNat - Int.toNat (1 : Int)) * 2) (List.drop (Int.toNat (1 : Int) * 2) ca)) (s12.toNat * 2) 2 true) (fun d => ((D.vi (D.at d 0)), (D.vi (D.at d 1)))) (fun (v0, v1) => .agg [iD v0, iD v1]) fun (v0, v1) => (guardP ((0 : Int) ≤ s12 ∧ s12.toNat < ka) (pullD (α := Int × Int) (readD ca (s12.toNat * 2) 2 true) (fun d => ((D.vi (D.at d 0)), (D.vi (D.at d 1)))) (fun (v2, v3) => .agg [iD v2, iD v3]) fun (v2, v3) => (pullD (α := Int × Int) (readD ca (s12.toNat * 2) 2 true) (fun d => ((D.vi (D.at d 0)), (D.vi (D.at d 1)))) (fun (v4, v5) => .agg [iD v4, iD v5]) fun (v4, v5) => ((if IntKind.i64.wrap (tm - v4) ≤ IntKind.i64.wrap (v0 - v2) then some (.out 1 [iD (IntKind.i64.wrap (IntKind.i64.wrap (v5 * IntKind.i64.wrap (v0 - v2)) + IntKind.i64.wrap (IntKind.i64.wrap (tm - v4) * IntKind.i64.wrap (v1 - v3)))), iD (IntKind.i64.wrap (v0 - v2)), .one (.tuple #[])]) else some (.next 0 [iD (IntKind.i64.wrap (s12 + (1 : Int))), iD s2004_0, iD s2005_0, .one (.tuple #[])]))))))) else some (.out 0 [iD s2004_0, iD s2005_0, .one (.tuple #[])])))
def valueAt_L40_2_S (ka : Nat) (ca : List D) (tm : Int) (x0 : Int) (x1 : Int) : Go.Ev.Rd → Option Go.Ev.Rd
  | .next 0 ds => valueAt_L40_2_S0 ka ca tm x0 x1 ds
  | _ => none
theorem valueAt_L40_2_S_0 (ka : Nat) (ca : List D) (tm : Int) (x0 : Int) (x1 : Int) (ds : List D) : valueAt_L40_2_S ka ca tm x0 x1 (.next 0 ds) = valueAt_L40_2_S0 ka ca tm x0 x1 ds := rfl
theorem valueAt_L40_2_S_ok (ka : Nat) (ca : List D) (tm : Int) (x0 : Int) (x1 : Int) : ∀ s_ t_, valueAt_L40_2_S ka ca tm x0 x1 s_ = some t_ → Step (ctx [39, 40] valueAt_sp) Tabs valueAt_L40_2_A (stateOf (valueAt_L40_2_gs ka ca tm x0 x1 s_)) (stateOf (valueAt_L40_2_gs ka ca tm x0 x1 t_)) (valueAt_L40_2_ax t_) ∧ EndOK valueAt_L40_2_A.nx valueAt_L40_2_A.low (valueAt_L40_2_gs ka ca tm x0 x1) t_
  | .next 0 ds, t_, h => by
    have h_ : valueAt_L40_2_S0 ka ca tm x0 x1 ds = some t_ := h
    clear h
    unfold valueAt_L40_2_S0 at h_
    obtain ⟨⟨s12, s2004_0, s2005_0⟩, e0, h0⟩ := pullD_elim h_
    clear h_
    obtain rfl := tup_inj e0
    by_cases b1_ : s12 < (((((ka : Int)).toNat - Int.toNat (1 : Int)) : Nat) : Int)
    · have h2_ := (if_pos b1_).symm.trans h0
      obtain ⟨f3_, h4_⟩ := guardP_elim h2_
      obtain ⟨⟨v0, v1⟩, f5_, h6_⟩ := pullD_elim h4_
      replace f5_ := readD_elim f5_
      obtain ⟨f7_, h8_⟩ := guardP_elim h6_
      obtain ⟨⟨v2, v3⟩, f9_, h10_⟩ := pullD_elim h8_
      replace f9_ := readD_elim f9_
      obtain ⟨⟨v4, v5⟩, f11_, h12_⟩ := pullD_elim h10_
      replace f11_ := readD_elim f11_
      by_cases b13_ : IntKind.i64.wrap (tm - v4) ≤ IntKind.i64.wrap (v0 - v2)
      · have h14_ := (if_pos b13_).symm.trans h12_
        obtain rfl := Option.some.inj h14_
        exact ⟨step_pc 3000 (bT 3 []) [.agg [iD v0, iD v1], .agg [iD v2, iD v3], .agg [iD v4, iD v5]] [c_d b1_, c_f f3_, c_f f5_, c_f f7_, c_f f9_, c_f f7_, c_f f11_, c_d b13_, c_T] [] _ rfl (by kernel_rfl) (by kernel_rfl) (by kernel_rfl) (by kernel_rfl) (by kernel_rfl) (by kernel_rfl), by kernel_rfl, by kernel_rfl⟩
      have h14_ := (if_neg b13_).symm.trans h12_
      obtain rfl := Option.some.inj h14_
      exact ⟨step_pc 3000 (bT 1 (bF 2 [])) [.agg [iD v0, iD v1], .agg [iD v2, iD v3], .agg [iD v4, iD v5]] [c_d b1_, c_f f3_, c_f f5_, c_f f7_, c_f f9_, c_f f7_, c_f f11_, c_n b13_, c_F] [] _ rfl (by kernel_rfl) (by kernel_rfl) (by kernel_rfl) (by kernel_rfl) (by kernel_rfl) (by kernel_rfl), trivial⟩
    have h2_ := (if_neg b1_).symm.trans h0
    obtain rfl := Option.some.inj h2_
    exact ⟨step_pc 3000 (bF 1 []) [] [c_n b1_] [] _ rfl (by kernel_rfl) (by kernel_rfl) (by kernel_rfl) (by kernel_rfl) (by kernel_rfl) (by kernel_rfl), by kernel_rfl, by kernel_rfl⟩
  | .next (_ + 1) _, _, h => by cases h
  | .out _ _, _, h => by cases h
theorem valueAt_L40_2_go (ka : Nat) (ca : List D) (tm : Int) (x0 : Int) (x1 : Int) {q : Nat} {ds : List D} {j : Nat} {es : List D} (h : runR (valueAt_L40_2_S ka ca tm x0 x1) (.next q ds) = some (.out j es)) : Runs (ctx [39, 40] valueAt_sp) Tabs valueAt_L40_2_A (stateOf (valueAt_L40_2_gs ka ca tm x0 x1 (.next q ds))) (stateOf (valueAt_L40_2_gs ka ca tm x0 x1 (.out j es))) (valueAt_L40_2_ax (.out j es)) ∧ (nxtOf (valueAt_L40_2_gs ka ca tm x0 x1 (.out j es)), lowGS (valueAt_L40_2_gs ka ca tm x0 x1 (.out j es))) = (valueAt_L40_2_A.nx, valueAt_L40_2_A.low) :=
  runs_of' (good true _ _) valueAt_L40_2_ok (ax := valueAt_L40_2_ax) (fun _ _ => rfl) (fun _ _ => axOf_end _) (valueAt_L40_2_S_ok ka ca tm x0 x1) h
theorem valueAt_L40_2_in0 (ka : Nat) (ca : List D) (tm : Int) (x0 : Int) (x1 : Int) {es : List D} (h : runR (valueAt_L40_2_S ka ca tm x0 x1) (.next 0 [iD ((0 : Int)), iD ((0 : Int)), iD ((0 : Int)), .one (.tuple #[])]) = some (.out 0 es)) : LoopC (loopAt Try.prog 40 0) (valueAt_L40_2_E ka ca tm x0 x1) 9 noFrame valueAt_x40_2_0 es :=
  have r := valueAt_L40_2_go ka ca tm x0 x1 h
  loopin_as rfl (loop_in (l := valueAt_L40_2_A) (E := (valueAt_L40_2_E ka ca tm x0 x1)) (S := stateOf (valueAt_L40_2_gs ka ca tm x0 x1 (.next 0 [iD ((0 : Int)), iD ((0 : Int)), iD ((0 : Int)), .one (.tuple #[])]))) (ns := nsOf (valueAt_L40_2_gs ka ca tm x0 x1 (.next 0 [iD ((0 : Int)), iD ((0 : Int)), iD ((0 : Int)), .one (.tuple #[])]))) valueAt_L40_2_ok r.1 r.2 (by kernel_rfl) (by kernel_rfl) (by kernel_rfl) (by kernel_rfl))
theorem valueAt_L40_2_in1 (ka : Nat) (ca : List D) (tm : Int) (x0 : Int) (x1 : Int) {es : List D} (h : runR (valueAt_L40_2_S ka ca tm x0 x1) (.next 0 [iD ((0 : Int)), iD ((0 : Int)), iD ((0 : Int)), .one (.tuple #[])]) = some (.out 1 es)) : LoopC (loopAt Try.prog 40 0) (valueAt_L40_2_E ka ca tm x0 x1) 9 noFrame valueAt_x40_2_1 es :=
  have r := valueAt_L40_2_go ka ca tm x0 x1 h
  loopin_as rfl (loop_in (l := valueAt_L40_2_A) (E := (valueAt_L40_2_E ka ca tm x0 x1)) (S := stateOf (valueAt_L40_2_gs ka ca tm x0 x1 (.next 0 [iD ((0 : Int)), iD ((0 : Int)), iD ((0 : Int)), .one (.tuple #[])]))) (ns := nsOf (valueAt_L40_2_gs ka ca tm x0 x1 (.next 0 [iD ((0 : Int)), iD ((0 : Int)), iD ((0 : Int)), .one (.tuple #[])]))) valueAt_L40_2_ok r.1 r.2 (by kernel_rfl) (by kernel_rfl) (by kernel_rfl) (by kernel_rfl))
def valueAt_M (ka : Nat) (ca : List D) (tm : Int) : Option D := pullD (α := Int × Int) (m_47 [.agg [.list ka ca]]) (fun d => ((D.vi (D.at d 0)), (D.vi (D.at d 1)))) (fun (r0, r1) => .agg [iD r0, iD r1]) fun (r0, r1) => ((if tm < r0 then some (.tup [iD (0 : Int), iD (1 : Int)]) else guardP ((0 : Int) ≤ (1 : Int) ∧ (1 : Int) ≤ (ka : Int) ∧ (ka : Int) ≤ (ka : Int) ∧ ca.length = ka * 2) (bindL (runR (valueAt_L40_2_S ka ca tm r0 r1) (.next 0 [iD ((0 : Int)), iD ((0 : Int)), iD ((0 : Int)), .one (.tuple #[])])) fun j ds => (if j = 0 then pullD (α := Int × Int) (some (.tup ds)) (fun d => ((D.vi (D.at d 0)), (D.vi (D.at d 1)))) (fun (l2, l3) => .tup [iD l2, iD l3, .one (.tuple #[])]) fun (l2, l3) => (pullD (α := Int × Int) (m_48 [.agg [.list ka ca]]) (fun d => ((D.vi (D.at d 0)), (D.vi (D.at d 1)))) (fun (r4, r5) => .agg [iD r4, iD r5]) fun (r4, r5) => (some (.tup [iD r5, iD (1 : Int)]))) else if j = 1 then pullD (α := Int × Int) (some (.tup ds)) (fun d => ((D.vi (D.at d 0)), (D.vi (D.at d 1)))) (fun (l6, l7) => .tup [iD l6, iD l7, .one (.tuple #[])]) fun (l6, l7) => (some (.tup [iD l6, iD l7])) else none))))
theorem valueAt_M_ok (ka : Nat) (ca : List D) (tm : Int) {r : D} (h : valueAt_M ka ca tm = some r) : Con 39 [.agg [.list ka ca], iD tm] r := by
  unfold valueAt_M at h
  obtain ⟨⟨r0, r1⟩, f1_, h2_⟩ := pullD_elim h
  replace f1_ := m_47_ok f1_
  by_cases b3_ : tm < r0
  · have h4_ := (if_pos b3_).symm.trans h2_
    obtain rfl := Option.some.inj h4_
    exact con_pc (op := true) (I := [39, 40]) (sp := valueAt_sp) 3000 (bT 1 []) [.agg [iD r0, iD r1]] [c_d b3_] [k_c f1_] (by kernel_rfl)
  have h4_ := (if_neg b3_).symm.trans h2_
  obtain ⟨f5_, h6_⟩ := guardP_elim h4_
  obtain ⟨j, ds, e7_, h8_⟩ := bindL_elim h6_
  by_cases j9_ : j = 0
  · have h12_ := (if_pos j9_).symm.trans h8_
    clear h8_
    subst j9_
    obtain ⟨⟨l2, l3⟩, e10_, h13_⟩ := pullD_elim h12_
    clear h12_
    obtain rfl := tup_inj e10_
    have k11_ := valueAt_L40_2_in0 ka ca tm r0 r1 e7_
    obtain ⟨⟨r4, r5⟩, f14_, h15_⟩ := pullD_elim h13_
    replace f14_ := m_48_ok f14_
    obtain rfl := Option.some.inj h15_
    exact con_pc (op := true) (I := [39, 40]) (sp := valueAt_sp) 3000 (bF 1 []) [.agg [iD r0, iD r1], .tup [iD (Int.ofNat 0), iD l2, iD l3, .one (.tuple #[])], .agg [iD r4, iD r5]] [c_n b3_, c_f f5_] [k_c f1_, k_l k11_ [] [.tup [iD (Int.ofNat 0), iD l2, iD l3, .one (.tuple #[])], .agg [iD r4, iD r5]] [.agg [iD r4, iD r5]], k_c f14_] (by kernel_rfl)
  have h16_ := (if_neg j9_).symm.trans h8_
  clear h8_
  by_cases j17_ : j = 1
  · have h20_ := (if_pos j17_).symm.trans h16_
    clear h16_
    subst j17_
    obtain ⟨⟨l6, l7⟩, e18_, h21_⟩ := pullD_elim h20_
    clear h20_
    obtain rfl := tup_inj e18_
    have k19_ := valueAt_L40_2_in1 ka ca tm r0 r1 e7_
    obtain rfl := Option.some.inj h21_
    exact con_pc (op := true) (I := [39, 40]) (sp := valueAt_sp) 3000 (bF 1 []) [.agg [iD r0, iD r1], .tup [iD (Int.ofNat 1), iD l6, iD l7, .one (.tuple #[])]] [c_n b3_, c_f f5_] [k_c f1_, k_l k19_ [] [.tup [iD (Int.ofNat 1), iD l6, iD l7, .one (.tuple #[])]] []] (by kernel_rfl)
  have h22_ := (if_neg j17_).symm.trans h16_
  clear h16_
  cases h22_
def m_39 (ds : List D) : Option D := pullD (α := Nat × (List D) × Int) (some (.tup ds)) (fun d => ((D.ln (D.at (D.at d 0) 0)), (D.lc (D.at (D.at d 0) 0)), (D.vi (D.at d 1)))) (fun (ka, ca, tm) => .tup [.agg [.list ka ca], iD tm]) fun (ka, ca, tm) => valueAt_M ka ca tm
theorem m_39_ok {ds : List D} {r : D} (h : m_39 ds = some r) : Con 39 ds r := by
  unfold m_39 at h
  obtain ⟨⟨ka, ca, tm⟩, e0, h0⟩ := pullD_elim h
  obtain rfl := tup_inj e0
  exact valueAt_M_ok ka ca tm h0
theorem m_39_eq (ka : Nat) (ca : List D) (tm : Int) : m_39 [.agg [.list ka ca], iD tm] = valueAt_M ka ca tm := pullD_some (ka, ca, tm) rfl rfl
end
end Go.Proofs.Ytaabapmggkkmeaa
/- Impulses: the value at a time. -/
namespace Go.Proofs.Ytaabapmggkkmeaa
open Go.Ev Go.RowKit
set_option maxRecDepth 100000
section
variable {l : List (Int × Int)}
theorem ta_drop (l : List (Int × Int)) (i : Nat) : ta (l.drop 1) i = ta l (i + 1) ∧ va (l.drop 1) i = va l (i + 1) := by
  unfold ta va; rw [List.getElem?_drop, Nat.add_comm]; exact ⟨rfl, rfl⟩
theorem rest_cells (l : List (Int × Int)) : List.take ((l.length - 1) * 2) (List.drop (1 * 2) (cP l)) = cP (l.drop 1) := by
  rw [cP_drop, ← List.length_drop, ← cP_len, List.take_length]
theorem first47 (h : Imp l) : m_47 [.agg [lP l]] = some (.agg [iD (ta l 0), iD (va l 0)]) := by
  have := h.two
  rw [m_47_eq]
  unfold first_M
  rw [guardP_pos ⟨Int.le_refl _, by show 0 < l.length; omega⟩, show Int.toNat (0 : Int) * 2 = 0 * 2 from rfl, readP (by omega), pullD_some (ta l 0, va l 0) (by rfl) (by rfl)]
theorem last48 (h : Imp l) : m_48 [.agg [lP l]] = some (.agg [iD (ta l (l.length - 1)), iD (va l (l.length - 1))]) := by
  have h2 := h.two
  have h3 := h.le
  rw [m_48_eq]
  unfold last_M
  have e3 : IntKind.i64.wrap ((l.length : Int) - 1) = ((l.length - 1 : Nat) : Int) := by rw [wrapJ _ (by omega) (by omega)]; omega
  simp only [e3, Int.toNat_natCast]
  rw [guardP_pos (by omega), readP (by omega), pullD_some (ta l (l.length - 1), va l (l.length - 1)) (by rfl) (by rfl)]
/-- On a piece: the numerator, the denominator. -/
def numP (l : List (Int × Int)) (k : Nat) (tm : Int) : Int := va l k * (ta l (k + 1) - ta l k) + (tm - ta l k) * (va l (k + 1) - va l k)
def denP (l : List (Int × Int)) (k : Nat) : Int := ta l (k + 1) - ta l k
theorem stepV (h : Imp l) {tm : Int} (t0 : ta l 0 ≤ tm) (t1 : tm ≤ 10000000) {k : Nat} (hk : k + 1 < l.length) (hlo : 0 < k → ta l k < tm) (x0 x1 s1 s2 : Int) :
    valueAt_L40_2_S0 l.length (cP l) tm x0 x1 [iD (k : Int), iD s1, iD s2, .one (.tuple #[])] = if tm ≤ ta l (k + 1) then some (.out 1 [iD (numP l k tm), iD (denP l k), .one (.tuple #[])]) else some (.next 0 [iD ((k + 1 : Nat) : Int), iD s1, iD s2, .one (.tuple #[])]) := by
  have h2 := h.two
  have h3 := h.le
  have b0 := h.ok k (by omega)
  have b1 := h.ok (k + 1) hk
  have b2 := h.asc k hk
  have b3 : ta l k ≤ tm := by
    rcases Nat.eq_zero_or_pos k with rfl | hp
    · exact t0
    · have := hlo hp; omega
  unfold valueAt_L40_2_S0
  rw [pullD_some ((k : Int), s1, s2) (by rfl) (by rfl)]
  have e2 : IntKind.i64.wrap ((k : Int) + 1) = ((k + 1 : Nat) : Int) := natI' (by omega)
  simp only [e2, Int.toNat_natCast, show Int.toNat (1 : Int) = 1 from rfl, rest_cells]
  rw [if_pos (by omega), guardP_pos (by omega), readP (by rw [List.length_drop]; omega), (ta_drop l k).1, (ta_drop l k).2, pullD_some (ta l (k + 1), va l (k + 1)) (by rfl) (by rfl)]
  dsimp only
  rw [guardP_pos (by omega), readP (by omega), pullD_some (ta l k, va l k) (by rfl) (by rfl)]
  dsimp only
  rw [pullD_some (ta l k, va l k) (by rfl) (by rfl)]
  dsimp only
  rw [wrapJ (tm - ta l k) (by omega) (by omega), wrapJ (ta l (k + 1) - ta l k) (by omega) (by omega), wrapJ (va l (k + 1) - va l k) (by omega) (by omega)]
  by_cases hc : tm ≤ ta l (k + 1)
  · have m1 := mulB (x := va l k) (y := ta l (k + 1) - ta l k) (A := 1000000) (B := 1000000) (by omega) (by omega) (by omega) (by omega)
    have m2 := mulB (x := tm - ta l k) (y := va l (k + 1) - va l k) (A := 1000000) (B := 2000000) (by omega) (by omega) (by omega) (by omega)
    rw [if_pos (by omega), if_pos hc, wrapJ (va l k * (ta l (k + 1) - ta l k)) (by omega) (by omega), wrapJ ((tm - ta l k) * (va l (k + 1) - va l k)) (by omega) (by omega), wrapJ _ (by omega) (by omega)]
    rfl
  · rw [if_neg (by omega), if_neg hc]
theorem value_piece (h : Imp l) {tm : Int} {k : Nat} (hk : k + 1 < l.length) (t0 : ta l 0 ≤ tm) (hlo : 0 < k → ta l k < tm) (hhi : tm ≤ ta l (k + 1)) : m_39 [.agg [lP l], iD tm] = some (.tup [iD (numP l k tm), iD (denP l k)]) := by
  have b1 := h.ok (k + 1) hk
  rw [m_39_eq]
  unfold valueAt_M
  rw [show [D.agg [D.list l.length (cP l)]] = [.agg [lP l]] from rfl, first47 h, pullD_some (ta l 0, va l 0) (by rfl) (by rfl)]
  dsimp only
  have h2 := h.two
  have h3 := h.le
  rw [if_neg (by omega), guardP_pos ⟨by omega, by omega, Int.le_refl _, cP_len l⟩]
  have s1 : runR (valueAt_L40_2_S l.length (cP l) tm (ta l 0) (va l 0)) (.next 0 [iD 0, iD 0, iD 0, .one (.tuple #[])]) = _ := runR_scan (S := valueAt_L40_2_S l.length (cP l) tm (ta l 0) (va l 0)) (fun _ => 0) (fun i => [iD (i : Int), iD 0, iD 0, .one (.tuple #[])]) (Nat.zero_le k) (fun i _ hi => by
    show valueAt_L40_2_S0 l.length (cP l) tm (ta l 0) (va l 0) _ = _
    have hkt := hlo (by omega)
    have hlt : ta l (i + 1) < tm := by
      rcases Nat.lt_or_ge (i + 1) k with h4 | h4
      · have := h.mono h4 (by omega); omega
      · have : i + 1 = k := by omega
        rw [this]; exact hkt
    rw [stepV h t0 (by omega) (by omega) (fun hp => by have := h.asc i (by omega); omega), if_neg (by omega)])
  have s2 : runR (valueAt_L40_2_S l.length (cP l) tm (ta l 0) (va l 0)) (.next 0 [iD (k : Int), iD 0, iD 0, .one (.tuple #[])]) = some (.out 1 [iD (numP l k tm), iD (denP l k), .one (.tuple #[])]) := runR_exit (by
    show valueAt_L40_2_S0 l.length (cP l) tm (ta l 0) (va l 0) _ = _
    rw [stepV h t0 (by omega) hk hlo, if_pos hhi])
  rw [bindL_some (s1.trans s2), if_neg (by decide), if_pos rfl, pullD_some (numP l k tm, denP l k) (by rfl) (by rfl)]
theorem value_end (h : Imp l) {tm : Int} (t1 : tm ≤ 10000000) (hlo : ta l (l.length - 1) < tm) : m_39 [.agg [lP l], iD tm] = some (.tup [iD (va l (l.length - 1)), iD 1]) := by
  have h2 := h.two
  have h3 := h.le
  have t0 : ta l 0 ≤ tm := by have := h.mono (i := 0) (j := l.length - 1) (by omega) (by omega); omega
  rw [m_39_eq]
  unfold valueAt_M
  rw [show [D.agg [D.list l.length (cP l)]] = [.agg [lP l]] from rfl, first47 h, pullD_some (ta l 0, va l 0) (by rfl) (by rfl)]
  dsimp only
  rw [if_neg (by omega), guardP_pos ⟨by omega, by omega, Int.le_refl _, cP_len l⟩]
  have hall : ∀ i, i < l.length → ta l i < tm := fun i hi => by
    rcases Nat.lt_or_ge i (l.length - 1) with h4 | h4
    · have := h.mono h4 (by omega); omega
    · have : i = l.length - 1 := by omega
      rw [this]; exact hlo
  have s1 : runR (valueAt_L40_2_S l.length (cP l) tm (ta l 0) (va l 0)) (.next 0 [iD 0, iD 0, iD 0, .one (.tuple #[])]) = _ := runR_scan (S := valueAt_L40_2_S l.length (cP l) tm (ta l 0) (va l 0)) (fun _ => 0) (fun i => [iD (i : Int), iD 0, iD 0, .one (.tuple #[])]) (Nat.zero_le (l.length - 1)) (fun i _ hi => by
    show valueAt_L40_2_S0 l.length (cP l) tm (ta l 0) (va l 0) _ = _
    have := hall (i + 1) (by omega)
    rw [stepV h t0 t1 (by omega) (fun _ => hall i (by omega)), if_neg (by omega)])
  have s2 : runR (valueAt_L40_2_S l.length (cP l) tm (ta l 0) (va l 0)) (.next 0 [iD ((l.length - 1 : Nat) : Int), iD 0, iD 0, .one (.tuple #[])]) = some (.out 0 [iD 0, iD 0, .one (.tuple #[])]) := runR_exit (by
    show valueAt_L40_2_S0 l.length (cP l) tm (ta l 0) (va l 0) _ = _
    unfold valueAt_L40_2_S0
    rw [pullD_some (((l.length - 1 : Nat) : Int), 0, 0) (by rfl) (by rfl)]
    simp only [Int.toNat_natCast, show Int.toNat (1 : Int) = 1 from rfl]
    rw [if_neg (by omega)])
  rw [bindL_some (s1.trans s2), if_pos rfl, pullD_some (0, 0) (by rfl) (by rfl)]
  rw [last48 h, pullD_some (ta l (l.length - 1), va l (l.length - 1)) (by rfl) (by rfl)]
theorem value_before (h : Imp l) {tm : Int} (t0 : tm < ta l 0) : m_39 [.agg [lP l], iD tm] = some (.tup [iD 0, iD 1]) := by
  rw [m_39_eq]
  unfold valueAt_M
  rw [show [D.agg [D.list l.length (cP l)]] = [.agg [lP l]] from rfl, first47 h, pullD_some (ta l 0, va l 0) (by rfl) (by rfl)]
  dsimp only
  rw [if_pos t0]
/-- The piece on which a time lies. -/
theorem piece_of (h : Imp l) {tm : Int} (t0 : ta l 0 ≤ tm) (t1 : tm ≤ ta l (l.length - 1)) : ∃ k, k + 1 < l.length ∧ (0 < k → ta l k < tm) ∧ tm ≤ ta l (k + 1) := by
  have h2 := h.two
  have key : ∀ m, m + 1 < l.length → tm ≤ ta l (m + 1) → ∃ k, k + 1 < l.length ∧ (0 < k → ta l k < tm) ∧ tm ≤ ta l (k + 1) := by
    intro m
    induction m with
    | zero => intro h3 h4; exact ⟨0, h3, fun h => by omega, h4⟩
    | succ m ih =>
      intro h3 h4
      by_cases h5 : tm ≤ ta l (m + 1)
      · exact ih (by omega) h5
      · exact ⟨m + 1, h3, fun _ => by omega, h4⟩
  exact key (l.length - 2) (by omega) (by rw [show l.length - 2 + 1 = l.length - 1 by omega]; exact t1)
/-- On a piece the value lies between -10^6 and 10^6. -/
theorem num_bound (h : Imp l) {tm : Int} {k : Nat} (hk : k + 1 < l.length) (t0 : ta l 0 ≤ tm) (hlo : 0 < k → ta l k < tm) (hhi : tm ≤ ta l (k + 1)) : -(1000000 * denP l k) ≤ numP l k tm ∧ numP l k tm ≤ 1000000 * denP l k ∧ 0 < denP l k ∧ denP l k ≤ 1000000 := by
  have b0 := h.ok k (by omega)
  have b1 := h.ok (k + 1) hk
  have b2 := h.asc k hk
  have b3 : ta l k ≤ tm := by
    rcases Nat.eq_zero_or_pos k with rfl | hp
    · exact t0
    · have := hlo hp; omega
  have e : numP l k tm = va l k * (ta l (k + 1) - tm) + (tm - ta l k) * va l (k + 1) := by unfold numP; grind
  have n1 : 0 ≤ (1000000 - va l k) * (ta l (k + 1) - tm) := Int.mul_nonneg (by omega) (by omega)
  have n2 : 0 ≤ (1000000 + va l k) * (ta l (k + 1) - tm) := Int.mul_nonneg (by omega) (by omega)
  have n3 : 0 ≤ (tm - ta l k) * (1000000 - va l (k + 1)) := Int.mul_nonneg (by omega) (by omega)
  have n4 : 0 ≤ (tm - ta l k) * (1000000 + va l (k + 1)) := Int.mul_nonneg (by omega) (by omega)
  unfold denP
  refine ⟨?_, ?_, by omega, by omega⟩
  · rw [e]; grind
  · rw [e]; grind
/-- At a point's own time: its voltage. -/
theorem value_own (h : Imp l) {i : Nat} (hi : i < l.length) : ∃ d, 0 < d ∧ d ≤ 1000000 ∧ m_39 [.agg [lP l], iD (ta l i)] = some (.tup [iD (va l i * d), iD d]) := by
  have h2 := h.two
  rcases Nat.eq_zero_or_pos i with rfl | hp
  · have hb := num_bound h (tm := ta l 0) (k := 0) (by omega) (Int.le_refl _) (fun h => by omega) (by have := h.asc 0 (by omega); omega)
    refine ⟨denP l 0, hb.2.2.1, hb.2.2.2, ?_⟩
    rw [value_piece h (k := 0) (by omega) (Int.le_refl _) (fun h => by omega) (by have := h.asc 0 (by omega); omega)]
    have : numP l 0 (ta l 0) = va l 0 * denP l 0 := by unfold numP denP; grind
    rw [this]
  · obtain ⟨k, rfl⟩ : ∃ k, i = k + 1 := ⟨i - 1, by omega⟩
    have t0 : ta l 0 ≤ ta l (k + 1) := by have := h.mono (i := 0) (j := k + 1) (by omega) hi; omega
    have hb := num_bound h (tm := ta l (k + 1)) (k := k) hi t0 (fun _ => h.asc k hi) (Int.le_refl _)
    refine ⟨denP l k, hb.2.2.1, hb.2.2.2, ?_⟩
    rw [value_piece h (k := k) hi t0 (fun _ => h.asc k hi) (Int.le_refl _)]
    have : numP l k (ta l (k + 1)) = va l (k + 1) * denP l k := by unfold numP denP; grind
    rw [this]
end
end Go.Proofs.Ytaabapmggkkmeaa
namespace Go.Proofs.Ytaabapmggkkmeaa
open Go.Ev Go.RowKit
set_option maxRecDepth 100000
set_option maxHeartbeats 8000000
set_option linter.all false
noncomputable section
def chopped_x10_0 : LExit := ⟨some 0, [.grow 12 2], (14 :: (List.range' 50 13))⟩
def chopped_x10_1 : LExit := ⟨some 0, [.nil 12], (14 :: (List.range' 50 13))⟩
def chopped_sp : List LSpec := [⟨19, 10, [chopped_x10_0, chopped_x10_1]⟩]
def chopped_L10_3_E (ka : Nat) (ca : List D) (tm fl : Int) (x0 : Nat) (x1 : List D) (x2 : Int) (x3 : Int) (x4 : Int) (x5 : Int) (x6 : Int) (x7 : Int) : List AV × AHeap := ([.agg [.dsl 0], .pure (.int .i64 tm), .pure (.int .i64 fl), .ptr 1 0, .pure (.tuple #[]), .pure (.tuple #[]), .ptr 2 0, .pure (.int .i64 (0 : Int)), .ptr 4 0, .pure (.int .i64 x2), .func (Fn.func 60) [] [.ptr 5 0, .ptr 6 0], .pure (.int .i64 x7), .pure (.slice none 0 0), .pure (.tuple #[]), .pure (.tuple #[]), .tuple [.agg [.dsl 3], .pure (.int .i64 x2)], .agg [.dsl 0], .tuple [.agg [.dsl 3], .pure (.int .i64 x2)], .agg [.dsl 3], .pure (.int .i64 x2), .pure (.int .i64 x2), .pure (.bool (x2 != (0 : Int))), .pure (.tuple #[]), .pure (.tuple #[]), .agg [.dsl 3], .pure (.agg #[.int .i64 x3, .int .i64 x4]), .pure (.int .i64 x3), .pure (.int .i64 (IntKind.i64.wrap (x3 + (1 : Int)))), .agg [.dsl 3], .pure (.agg #[.int .i64 x5, .int .i64 x6]), .pure (.int .i64 x5), .func (Fn.func 60) [] [.ptr 5 0, .ptr 6 0], .func (Fn.func 60) [] [.ptr 5 0, .ptr 6 0], .pure (.int .i64 tm), .sl 7 0 1 1, .pure (.int .i64 (0 : Int)), .func (Fn.func 60) [] [.ptr 8 0, .ptr 9 0], .pure (.int .i64 fl), .sl 10 0 1 1, .pure (.int .i64 (0 : Int)), .sl 11 0 2 2, .pure (.int .i64 x7), .pure (.int .i64 x7), .pure (.bool (x7 != (0 : Int))), .pure (.tuple #[]), .pure (.tuple #[]), .ptr 4 0, .ptr 4 0, .dsl 3, .pure (.int .i64 (x0 : Int)), .pure (.int .i64 (0 : Int)), .pure (.tuple #[]), .pure (.tuple #[]), .pure (.tuple #[]), .pure (.tuple #[]), .pure (.tuple #[]), .pure (.tuple #[]), .pure (.tuple #[]), .pure (.tuple #[]), .pure (.tuple #[]), .pure (.tuple #[]), .pure (.tuple #[]), .pure (.tuple #[]), .pure (.tuple #[]), .pure (.tuple #[]), .pure (.tuple #[]), .pure (.tuple #[]), .pure (.tuple #[]), .pure (.tuple #[]), .pure (.tuple #[]), .pure (.tuple #[]), .pure (.tuple #[]), .pure (.tuple #[]), .pure (.tuple #[]), .pure (.tuple #[]), .pure (.tuple #[]), .pure (.tuple #[]), .pure (.tuple #[]), .pure (.tuple #[]), .pure (.tuple #[]), .pure (.tuple #[]), .pure (.tuple #[]), .pure (.tuple #[]), .pure (.tuple #[]), .pure (.tuple #[]), .pure (.tuple #[]), .pure (.tuple #[]), .pure (.tuple #[]), .pure (.tuple #[]), .pure (.tuple #[])], [(11, { cells := [.pure (.int .i64 (0 : Int)), .pure (.int .i64 (0 : Int))], opn := none, kind := .cells }), (10, { cells := [.pure (.int .i64 fl)], opn := none, kind := .cells }), (9, { cells := [.pure (.int .i64 (100000 : Int))], opn := none, kind := .cells }), (8, { cells := [.pure (.int .i64 (1 : Int))], opn := none, kind := .cells }), (7, { cells := [.pure (.int .i64 tm)], opn := none, kind := .cells }), (6, { cells := [.pure (.int .i64 x5)], opn := none, kind := .cells }), (5, { cells := [.pure (.int .i64 (IntKind.i64.wrap (x3 + (1 : Int))))], opn := none, kind := .cells }), (4, { cells := [.dsl 3], opn := none, kind := .cells }), (3, { cells := [], opn := none, kind := .deep x0 x1 }), (2, { cells := [.pure (.slice none 0 0)], opn := none, kind := .cells }), (1, { cells := [.dsl 0], opn := none, kind := .cells }), (0, { cells := [], opn := none, kind := .deep ka ca })])
def chopped_L10_3_A : LoopAt := ⟨19, loopAt Try.prog 19 0, 12, 27, 12, noFrame⟩
theorem chopped_L10_3_ok : (chopped_L10_3_A).OK := ⟨by show 12 ≤ 27; decide, by show 12 ≤ 12; decide, by kernel_rfl, rfl⟩
def chopped_L10_3_gs (ka : Nat) (ca : List D) (tm fl : Int) (x0 : Nat) (x1 : List D) (x2 : Int) (x3 : Int) (x4 : Int) (x5 : Int) (x6 : Int) (x7 : Int) : Go.Ev.Rd → Option GS
  | .next 0 ds => ghost [.grow 12 2, .val 50] (14 :: (List.range' 51 12)) (chopped_L10_3_E ka ca tm fl x0 x1 x2 x3 x4 x5 x6 x7).1 (chopped_L10_3_E ka ca tm fl x0 x1 x2 x3 x4 x5 x6 x7).2 12 ds
  | .next 1 ds => ghost [.nil 12, .val 50] (14 :: (List.range' 51 12)) (chopped_L10_3_E ka ca tm fl x0 x1 x2 x3 x4 x5 x6 x7).1 (chopped_L10_3_E ka ca tm fl x0 x1 x2 x3 x4 x5 x6 x7).2 12 ds
  | .out 0 ds => ghost chopped_x10_0.live chopped_x10_0.junk (chopped_L10_3_E ka ca tm fl x0 x1 x2 x3 x4 x5 x6 x7).1 (chopped_L10_3_E ka ca tm fl x0 x1 x2 x3 x4 x5 x6 x7).2 12 ds
  | .out 1 ds => ghost chopped_x10_1.live chopped_x10_1.junk (chopped_L10_3_E ka ca tm fl x0 x1 x2 x3 x4 x5 x6 x7).1 (chopped_L10_3_E ka ca tm fl x0 x1 x2 x3 x4 x5 x6 x7).2 12 ds
  | _ => none
def chopped_L10_3_ex : Nat → Option Nat
  | 0 => chopped_x10_0.ex
  | 1 => chopped_x10_1.ex
  | _ => none
def chopped_L10_3_ax : Go.Ev.Rd → AX
  | .next _ _ => .normal
  | .out j _ => axOf (chopped_L10_3_ex j)
def chopped_L10_3_S0 (ka : Nat) (ca : List D) (tm fl : Int) (x0 : Nat) (x1 : List D) (x2 : Int) (x3 : Int) (x4 : Int) (x5 : Int) (x6 : Int) (x7 : Int) (ds : List D) : Option Go.Ev.Rd := pullD (α := Nat × (List D) × Int) (some (.tup ds)) (fun d => ((D.ln (D.at d 0)), (D.lc (D.at d 0)), (D.vi (D.at d 1)))) (fun (s12n, s12c, s50) => .tup [.list s12n s12c, iD s50]) fun (s12n, s12c, s50) => ((if s50 < (x0 : Int) then guardP ((0 : Int) ≤ s50 ∧ s50.toNat < x0) (pullD (α := Int × Int) (readD x1 (s50.toNat * 2) 2 true) (fun d => ((D.vi (D.at d 0)), (D.vi (D.at d 1)))) (fun (v0, v1) => .agg [iD v0, iD v1]) fun (v0, v1) => ((if v0 < tm then guardP ((∀ (u : D), u ∈ [dCell (.int .i64 v0), dCell (.int .i64 v1)] → cellD u) ∧ s12n * 2 ≤ s12c.length ∧ (s12n + (0 + 1)) * 16 ≤ 140737488355328 ∧ s12n + (0 + 1) ≤ 4611686018427387904) (some (.next 0 [.list (s12n + (0 + 1)) (List.append (List.take (s12n * 2) s12c) [dCell (.int .i64 v0), dCell (.int .i64 v1)]), iD (IntKind.i64.wrap (s50 + (1 : Int)))])) else some (.next 0 [.list s12n s12c, iD (IntKind.i64.wrap (s50 + (1 : Int)))])))) else some (.out 0 [.list s12n s12c])))
def chopped_L10_3_S1 (ka : Nat) (ca : List D) (tm fl : Int) (x0 : Nat) (x1 : List D) (x2 : Int) (x3 : Int) (x4 : Int) (x5 : Int) (x6 : Int) (x7 : Int) (ds : List D) : Option Go.Ev.Rd := pullD (α := Int) (some (.tup ds)) (fun d => ((D.vi (D.at d 1)))) (fun s50 => .tup [.one (.tuple #[]), iD s50]) fun s50 => ((if s50 < (x0 : Int) then guardP ((0 : Int) ≤ s50 ∧ s50.toNat < x0) (pullD (α := Int × Int) (readD x1 (s50.toNat * 2) 2 true) (fun d => ((D.vi (D.at d 0)), (D.vi (D.at d 1)))) (fun (v0, v1) => .agg [iD v0, iD v1]) fun (v0, v1) => ((if v0 < tm then some (.next 0 [.list 1 [iD v0, iD v1], iD (IntKind.i64.wrap (s50 + (1 : Int)))]) else some (.next 1 [.one (.tuple #[]), iD (IntKind.i64.wrap (s50 + (1 : Int)))])))) else some (.out 1 [.one (.tuple #[])])))
def chopped_L10_3_S (ka : Nat) (ca : List D) (tm fl : Int) (x0 : Nat) (x1 : List D) (x2 : Int) (x3 : Int) (x4 : Int) (x5 : Int) (x6 : Int) (x7 : Int) : Go.Ev.Rd → Option Go.Ev.Rd
  | .next 0 ds => chopped_L10_3_S0 ka ca tm fl x0 x1 x2 x3 x4 x5 x6 x7 ds
  | .next 1 ds => chopped_L10_3_S1 ka ca tm fl x0 x1 x2 x3 x4 x5 x6 x7 ds
  | _ => none
theorem chopped_L10_3_S_0 (ka : Nat) (ca : List D) (tm fl : Int) (x0 : Nat) (x1 : List D) (x2 : Int) (x3 : Int) (x4 : Int) (x5 : Int) (x6 : Int) (x7 : Int) (ds : List D) : chopped_L10_3_S ka ca tm fl x0 x1 x2 x3 x4 x5 x6 x7 (.next 0 ds) = chopped_L10_3_S0 ka ca tm fl x0 x1 x2 x3 x4 x5 x6 x7 ds := rfl
theorem chopped_L10_3_S_1 (ka : Nat) (ca : List D) (tm fl : Int) (x0 : Nat) (x1 : List D) (x2 : Int) (x3 : Int) (x4 : Int) (x5 : Int) (x6 : Int) (x7 : Int) (ds : List D) : chopped_L10_3_S ka ca tm fl x0 x1 x2 x3 x4 x5 x6 x7 (.next 1 ds) = chopped_L10_3_S1 ka ca tm fl x0 x1 x2 x3 x4 x5 x6 x7 ds := rfl
theorem chopped_L10_3_S_ok (ka : Nat) (ca : List D) (tm fl : Int) (x0 : Nat) (x1 : List D) (x2 : Int) (x3 : Int) (x4 : Int) (x5 : Int) (x6 : Int) (x7 : Int) : ∀ s_ t_, chopped_L10_3_S ka ca tm fl x0 x1 x2 x3 x4 x5 x6 x7 s_ = some t_ → Step (ctx [19, 34, 60] chopped_sp) Tabs chopped_L10_3_A (stateOf (chopped_L10_3_gs ka ca tm fl x0 x1 x2 x3 x4 x5 x6 x7 s_)) (stateOf (chopped_L10_3_gs ka ca tm fl x0 x1 x2 x3 x4 x5 x6 x7 t_)) (chopped_L10_3_ax t_) ∧ EndOK chopped_L10_3_A.nx chopped_L10_3_A.low (chopped_L10_3_gs ka ca tm fl x0 x1 x2 x3 x4 x5 x6 x7) t_
  | .next 0 ds, t_, h => by
    have h_ : chopped_L10_3_S0 ka ca tm fl x0 x1 x2 x3 x4 x5 x6 x7 ds = some t_ := h
    clear h
    unfold chopped_L10_3_S0 at h_
    obtain ⟨⟨s12n, s12c, s50⟩, e0, h0⟩ := pullD_elim h_
    clear h_
    obtain rfl := tup_inj e0
    by_cases b1_ : s50 < (x0 : Int)
    · have h2_ := (if_pos b1_).symm.trans h0
      obtain ⟨f3_, h4_⟩ := guardP_elim h2_
      obtain ⟨⟨v0, v1⟩, f5_, h6_⟩ := pullD_elim h4_
      replace f5_ := readD_elim f5_
      by_cases b7_ : v0 < tm
      · have h8_ := (if_pos b7_).symm.trans h6_
        obtain ⟨f9_, h10_⟩ := guardP_elim h8_
        obtain rfl := Option.some.inj h10_
        exact ⟨step_pc 3000 (bT 2 []) [.agg [iD v0, iD v1]] [c_d b1_, c_f f3_, c_f f5_, c_d b7_, c_f f9_] [] _ rfl (by kernel_rfl) (by kernel_rfl) (by kernel_rfl) (by kernel_rfl) (by kernel_rfl) (by kernel_rfl), trivial⟩
      have h8_ := (if_neg b7_).symm.trans h6_
      obtain rfl := Option.some.inj h8_
      exact ⟨step_pc 3000 (bT 1 (bF 1 [])) [.agg [iD v0, iD v1]] [c_d b1_, c_f f3_, c_f f5_, c_n b7_] [] _ rfl (by kernel_rfl) (by kernel_rfl) (by kernel_rfl) (by kernel_rfl) (by kernel_rfl) (by kernel_rfl), trivial⟩
    have h2_ := (if_neg b1_).symm.trans h0
    obtain rfl := Option.some.inj h2_
    exact ⟨step_pc 3000 (bF 1 []) [] [c_n b1_] [] _ rfl (by kernel_rfl) (by kernel_rfl) (by kernel_rfl) (by kernel_rfl) (by kernel_rfl) (by kernel_rfl), by kernel_rfl, by kernel_rfl⟩
  | .next 1 ds, t_, h => by
    have h_ : chopped_L10_3_S1 ka ca tm fl x0 x1 x2 x3 x4 x5 x6 x7 ds = some t_ := h
    clear h
    unfold chopped_L10_3_S1 at h_
    obtain ⟨s50, e0, h0⟩ := pullD_elim h_
    clear h_
    obtain rfl := tup_inj e0
    by_cases b1_ : s50 < (x0 : Int)
    · have h2_ := (if_pos b1_).symm.trans h0
      obtain ⟨f3_, h4_⟩ := guardP_elim h2_
      obtain ⟨⟨v0, v1⟩, f5_, h6_⟩ := pullD_elim h4_
      replace f5_ := readD_elim f5_
      by_cases b7_ : v0 < tm
      · have h8_ := (if_pos b7_).symm.trans h6_
        obtain rfl := Option.some.inj h8_
        exact ⟨step_pc 3000 (bT 2 []) [.agg [iD v0, iD v1]] [c_d b1_, c_f f3_, c_f f5_, c_d b7_, ⟨fact (0 < 0 + 1 ∧ (0 + 1) * 16 ≤ 140737488355328 ∧ 0 + 1 ≤ 4611686018427387904), true, fact_mk (by decide)⟩] [] _ rfl (by kernel_rfl) (by kernel_rfl) (by kernel_rfl) (by kernel_rfl) (by kernel_rfl) (by kernel_rfl), trivial⟩
      have h8_ := (if_neg b7_).symm.trans h6_
      obtain rfl := Option.some.inj h8_
      exact ⟨step_pc 3000 (bT 1 (bF 1 [])) [.agg [iD v0, iD v1]] [c_d b1_, c_f f3_, c_f f5_, c_n b7_] [] _ rfl (by kernel_rfl) (by kernel_rfl) (by kernel_rfl) (by kernel_rfl) (by kernel_rfl) (by kernel_rfl), trivial⟩
    have h2_ := (if_neg b1_).symm.trans h0
    obtain rfl := Option.some.inj h2_
    exact ⟨step_pc 3000 (bF 1 []) [] [c_n b1_] [] _ rfl (by kernel_rfl) (by kernel_rfl) (by kernel_rfl) (by kernel_rfl) (by kernel_rfl) (by kernel_rfl), by kernel_rfl, by kernel_rfl⟩
  | .next (_ + 2) _, _, h => by cases h
  | .out _ _, _, h => by cases h
theorem chopped_L10_3_go (ka : Nat) (ca : List D) (tm fl : Int) (x0 : Nat) (x1 : List D) (x2 : Int) (x3 : Int) (x4 : Int) (x5 : Int) (x6 : Int) (x7 : Int) {q : Nat} {ds : List D} {j : Nat} {es : List D} (h : runR (chopped_L10_3_S ka ca tm fl x0 x1 x2 x3 x4 x5 x6 x7) (.next q ds) = some (.out j es)) : Runs (ctx [19, 34, 60] chopped_sp) Tabs chopped_L10_3_A (stateOf (chopped_L10_3_gs ka ca tm fl x0 x1 x2 x3 x4 x5 x6 x7 (.next q ds))) (stateOf (chopped_L10_3_gs ka ca tm fl x0 x1 x2 x3 x4 x5 x6 x7 (.out j es))) (chopped_L10_3_ax (.out j es)) ∧ (nxtOf (chopped_L10_3_gs ka ca tm fl x0 x1 x2 x3 x4 x5 x6 x7 (.out j es)), lowGS (chopped_L10_3_gs ka ca tm fl x0 x1 x2 x3 x4 x5 x6 x7 (.out j es))) = (chopped_L10_3_A.nx, chopped_L10_3_A.low) :=
  runs_of' (good true _ _) chopped_L10_3_ok (ax := chopped_L10_3_ax) (fun _ _ => rfl) (fun _ _ => axOf_end _) (chopped_L10_3_S_ok ka ca tm fl x0 x1 x2 x3 x4 x5 x6 x7) h
theorem chopped_L10_3_in0 (ka : Nat) (ca : List D) (tm fl : Int) (x0 : Nat) (x1 : List D) (x2 : Int) (x3 : Int) (x4 : Int) (x5 : Int) (x6 : Int) (x7 : Int) {es : List D} (h : runR (chopped_L10_3_S ka ca tm fl x0 x1 x2 x3 x4 x5 x6 x7) (.next 1 [.one (.tuple #[]), iD ((0 : Int))]) = some (.out 0 es)) : LoopC (loopAt Try.prog 19 0) (chopped_L10_3_E ka ca tm fl x0 x1 x2 x3 x4 x5 x6 x7) 12 noFrame chopped_x10_0 es :=
  have r := chopped_L10_3_go ka ca tm fl x0 x1 x2 x3 x4 x5 x6 x7 h
  loopin_as rfl (loop_in (l := chopped_L10_3_A) (E := (chopped_L10_3_E ka ca tm fl x0 x1 x2 x3 x4 x5 x6 x7)) (S := stateOf (chopped_L10_3_gs ka ca tm fl x0 x1 x2 x3 x4 x5 x6 x7 (.next 1 [.one (.tuple #[]), iD ((0 : Int))]))) (ns := nsOf (chopped_L10_3_gs ka ca tm fl x0 x1 x2 x3 x4 x5 x6 x7 (.next 1 [.one (.tuple #[]), iD ((0 : Int))]))) chopped_L10_3_ok r.1 r.2 (by kernel_rfl) (by kernel_rfl) (by kernel_rfl) (by kernel_rfl))
theorem chopped_L10_3_in1 (ka : Nat) (ca : List D) (tm fl : Int) (x0 : Nat) (x1 : List D) (x2 : Int) (x3 : Int) (x4 : Int) (x5 : Int) (x6 : Int) (x7 : Int) {es : List D} (h : runR (chopped_L10_3_S ka ca tm fl x0 x1 x2 x3 x4 x5 x6 x7) (.next 1 [.one (.tuple #[]), iD ((0 : Int))]) = some (.out 1 es)) : LoopC (loopAt Try.prog 19 0) (chopped_L10_3_E ka ca tm fl x0 x1 x2 x3 x4 x5 x6 x7) 12 noFrame chopped_x10_1 es :=
  have r := chopped_L10_3_go ka ca tm fl x0 x1 x2 x3 x4 x5 x6 x7 h
  loopin_as rfl (loop_in (l := chopped_L10_3_A) (E := (chopped_L10_3_E ka ca tm fl x0 x1 x2 x3 x4 x5 x6 x7)) (S := stateOf (chopped_L10_3_gs ka ca tm fl x0 x1 x2 x3 x4 x5 x6 x7 (.next 1 [.one (.tuple #[]), iD ((0 : Int))]))) (ns := nsOf (chopped_L10_3_gs ka ca tm fl x0 x1 x2 x3 x4 x5 x6 x7 (.next 1 [.one (.tuple #[]), iD ((0 : Int))]))) chopped_L10_3_ok r.1 r.2 (by kernel_rfl) (by kernel_rfl) (by kernel_rfl) (by kernel_rfl))
def chopped_L10_2_E (ka : Nat) (ca : List D) (tm fl : Int) (x0 : Nat) (x1 : List D) (x2 : Int) (x3 : Int) (x4 : Int) (x5 : Int) (x6 : Int) (x7 : Int) : List AV × AHeap := ([.agg [.dsl 0], .pure (.int .i64 tm), .pure (.int .i64 fl), .ptr 1 0, .pure (.tuple #[]), .pure (.tuple #[]), .ptr 2 0, .pure (.int .i64 (0 : Int)), .ptr 4 0, .pure (.int .i64 x2), .func (Fn.func 60) [] [.ptr 5 0, .ptr 6 0], .pure (.int .i64 x7), .pure (.slice none 0 0), .pure (.tuple #[]), .pure (.tuple #[]), .tuple [.agg [.dsl 3], .pure (.int .i64 x2)], .agg [.dsl 0], .tuple [.agg [.dsl 3], .pure (.int .i64 x2)], .agg [.dsl 3], .pure (.int .i64 x2), .pure (.int .i64 x2), .pure (.bool (x2 != (0 : Int))), .pure (.tuple #[]), .pure (.tuple #[]), .agg [.dsl 3], .pure (.agg #[.int .i64 x3, .int .i64 x4]), .pure (.int .i64 x3), .pure (.int .i64 (IntKind.i64.wrap (x3 + (1 : Int)))), .agg [.dsl 3], .pure (.agg #[.int .i64 x5, .int .i64 x6]), .pure (.int .i64 x5), .func (Fn.func 60) [] [.ptr 5 0, .ptr 6 0], .func (Fn.func 60) [] [.ptr 5 0, .ptr 6 0], .pure (.int .i64 tm), .sl 7 0 1 1, .pure (.int .i64 (0 : Int)), .func (Fn.func 60) [] [.ptr 8 0, .ptr 9 0], .pure (.int .i64 fl), .sl 10 0 1 1, .pure (.int .i64 (2 : Int)), .sl 11 0 2 2, .pure (.int .i64 x7), .pure (.int .i64 x7), .pure (.bool (x7 != (0 : Int))), .pure (.tuple #[]), .pure (.tuple #[]), .ptr 4 0, .ptr 4 0, .dsl 3, .pure (.int .i64 (x0 : Int)), .pure (.int .i64 (0 : Int)), .pure (.tuple #[]), .pure (.tuple #[]), .pure (.tuple #[]), .pure (.tuple #[]), .pure (.tuple #[]), .pure (.tuple #[]), .pure (.tuple #[]), .pure (.tuple #[]), .pure (.tuple #[]), .pure (.tuple #[]), .pure (.tuple #[]), .pure (.tuple #[]), .pure (.tuple #[]), .pure (.tuple #[]), .pure (.tuple #[]), .pure (.tuple #[]), .pure (.tuple #[]), .pure (.tuple #[]), .pure (.tuple #[]), .pure (.tuple #[]), .pure (.tuple #[]), .pure (.tuple #[]), .pure (.tuple #[]), .pure (.tuple #[]), .pure (.tuple #[]), .pure (.tuple #[]), .pure (.tuple #[]), .pure (.tuple #[]), .pure (.tuple #[]), .pure (.tuple #[]), .pure (.tuple #[]), .pure (.tuple #[]), .pure (.tuple #[]), .pure (.tuple #[]), .pure (.tuple #[]), .pure (.tuple #[]), .pure (.tuple #[]), .pure (.tuple #[]), .pure (.tuple #[])], [(11, { cells := [.pure (.int .i64 (0 : Int)), .pure (.int .i64 (2 : Int))], opn := none, kind := .cells }), (10, { cells := [.pure (.int .i64 fl)], opn := none, kind := .cells }), (9, { cells := [.pure (.int .i64 (100000 : Int))], opn := none, kind := .cells }), (8, { cells := [.pure (.int .i64 (1 : Int))], opn := none, kind := .cells }), (7, { cells := [.pure (.int .i64 tm)], opn := none, kind := .cells }), (6, { cells := [.pure (.int .i64 x5)], opn := none, kind := .cells }), (5, { cells := [.pure (.int .i64 (IntKind.i64.wrap (x3 + (1 : Int))))], opn := none, kind := .cells }), (4, { cells := [.dsl 3], opn := none, kind := .cells }), (3, { cells := [], opn := none, kind := .deep x0 x1 }), (2, { cells := [.pure (.slice none 0 0)], opn := none, kind := .cells }), (1, { cells := [.dsl 0], opn := none, kind := .cells }), (0, { cells := [], opn := none, kind := .deep ka ca })])
def chopped_L10_2_A : LoopAt := ⟨19, loopAt Try.prog 19 0, 12, 27, 12, noFrame⟩
theorem chopped_L10_2_ok : (chopped_L10_2_A).OK := ⟨by show 12 ≤ 27; decide, by show 12 ≤ 12; decide, by kernel_rfl, rfl⟩
def chopped_L10_2_gs (ka : Nat) (ca : List D) (tm fl : Int) (x0 : Nat) (x1 : List D) (x2 : Int) (x3 : Int) (x4 : Int) (x5 : Int) (x6 : Int) (x7 : Int) : Go.Ev.Rd → Option GS
  | .next 0 ds => ghost [.grow 12 2, .val 50] (14 :: (List.range' 51 12)) (chopped_L10_2_E ka ca tm fl x0 x1 x2 x3 x4 x5 x6 x7).1 (chopped_L10_2_E ka ca tm fl x0 x1 x2 x3 x4 x5 x6 x7).2 12 ds
  | .next 1 ds => ghost [.nil 12, .val 50] (14 :: (List.range' 51 12)) (chopped_L10_2_E ka ca tm fl x0 x1 x2 x3 x4 x5 x6 x7).1 (chopped_L10_2_E ka ca tm fl x0 x1 x2 x3 x4 x5 x6 x7).2 12 ds
  | .out 0 ds => ghost chopped_x10_0.live chopped_x10_0.junk (chopped_L10_2_E ka ca tm fl x0 x1 x2 x3 x4 x5 x6 x7).1 (chopped_L10_2_E ka ca tm fl x0 x1 x2 x3 x4 x5 x6 x7).2 12 ds
  | .out 1 ds => ghost chopped_x10_1.live chopped_x10_1.junk (chopped_L10_2_E ka ca tm fl x0 x1 x2 x3 x4 x5 x6 x7).1 (chopped_L10_2_E ka ca tm fl x0 x1 x2 x3 x4 x5 x6 x7).2 12 ds
  | _ => none
def chopped_L10_2_ex : Nat → Option Nat
  | 0 => chopped_x10_0.ex
  | 1 => chopped_x10_1.ex
  | _ => none
def chopped_L10_2_ax : Go.Ev.Rd → AX
  | .next _ _ => .normal
  | .out j _ => axOf (chopped_L10_2_ex j)
def chopped_L10_2_S0 (ka : Nat) (ca : List D) (tm fl : Int) (x0 : Nat) (x1 : List D) (x2 : Int) (x3 : Int) (x4 : Int) (x5 : Int) (x6 : Int) (x7 : Int) (ds : List D) : Option Go.Ev.Rd := pullD (α := Nat × (List D) × Int) (some (.tup ds)) (fun d => ((D.ln (D.at d 0)), (D.lc (D.at d 0)), (D.vi (D.at d 1)))) (fun (s12n, s12c, s50) => .tup [.list s12n s12c, iD s50]) fun (s12n, s12c, s50) => ((if s50 < (x0 : Int) then guardP ((0 : Int) ≤ s50 ∧ s50.toNat < x0) (pullD (α := Int × Int) (readD x1 (s50.toNat * 2) 2 true) (fun d => ((D.vi (D.at d 0)), (D.vi (D.at d 1)))) (fun (v0, v1) => .agg [iD v0, iD v1]) fun (v0, v1) => ((if v0 < tm then guardP ((∀ (u : D), u ∈ [dCell (.int .i64 v0), dCell (.int .i64 v1)] → cellD u) ∧ s12n * 2 ≤ s12c.length ∧ (s12n + (0 + 1)) * 16 ≤ 140737488355328 ∧ s12n + (0 + 1) ≤ 4611686018427387904) (some (.next 0 [.list (s12n + (0 + 1)) (List.append (List.take (s12n * 2) s12c) [dCell (.int .i64 v0), dCell (.int .i64 v1)]), iD (IntKind.i64.wrap (s50 + (1 : Int)))])) else some (.next 0 [.list s12n s12c, iD (IntKind.i64.wrap (s50 + (1 : Int)))])))) else some (.out 0 [.list s12n s12c])))
def chopped_L10_2_S1 (ka : Nat) (ca : List D) (tm fl : Int) (x0 : Nat) (x1 : List D) (x2 : Int) (x3 : Int) (x4 : Int) (x5 : Int) (x6 : Int) (x7 : Int) (ds : List D) : Option Go.Ev.Rd := pullD (α := Int) (some (.tup ds)) (fun d => ((D.vi (D.at d 1)))) (fun s50 => .tup [.one (.tuple #[]), iD s50]) fun s50 => ((if s50 < (x0 : Int) then guardP ((0 : Int) ≤ s50 ∧ s50.toNat < x0) (pullD (α := Int × Int) (readD x1 (s50.toNat * 2) 2 true) (fun d => ((D.vi (D.at d 0)), (D.vi (D.at d 1)))) (fun (v0, v1) => .agg [iD v0, iD v1]) fun (v0, v1) => ((if v0 < tm then some (.next 0 [.list 1 [iD v0, iD v1], iD (IntKind.i64.wrap (s50 + (1 : Int)))]) else some (.next 1 [.one (.tuple #[]), iD (IntKind.i64.wrap (s50 + (1 : Int)))])))) else some (.out 1 [.one (.tuple #[])])))
def chopped_L10_2_S (ka : Nat) (ca : List D) (tm fl : Int) (x0 : Nat) (x1 : List D) (x2 : Int) (x3 : Int) (x4 : Int) (x5 : Int) (x6 : Int) (x7 : Int) : Go.Ev.Rd → Option Go.Ev.Rd
  | .next 0 ds => chopped_L10_2_S0 ka ca tm fl x0 x1 x2 x3 x4 x5 x6 x7 ds
  | .next 1 ds => chopped_L10_2_S1 ka ca tm fl x0 x1 x2 x3 x4 x5 x6 x7 ds
  | _ => none
theorem chopped_L10_2_S_0 (ka : Nat) (ca : List D) (tm fl : Int) (x0 : Nat) (x1 : List D) (x2 : Int) (x3 : Int) (x4 : Int) (x5 : Int) (x6 : Int) (x7 : Int) (ds : List D) : chopped_L10_2_S ka ca tm fl x0 x1 x2 x3 x4 x5 x6 x7 (.next 0 ds) = chopped_L10_2_S0 ka ca tm fl x0 x1 x2 x3 x4 x5 x6 x7 ds := rfl
theorem chopped_L10_2_S_1 (ka : Nat) (ca : List D) (tm fl : Int) (x0 : Nat) (x1 : List D) (x2 : Int) (x3 : Int) (x4 : Int) (x5 : Int) (x6 : Int) (x7 : Int) (ds : List D) : chopped_L10_2_S ka ca tm fl x0 x1 x2 x3 x4 x5 x6 x7 (.next 1 ds) = chopped_L10_2_S1 ka ca tm fl x0 x1 x2 x3 x4 x5 x6 x7 ds := rfl
theorem chopped_L10_2_S_ok (ka : Nat) (ca : List D) (tm fl : Int) (x0 : Nat) (x1 : List D) (x2 : Int) (x3 : Int) (x4 : Int) (x5 : Int) (x6 : Int) (x7 : Int) : ∀ s_ t_, chopped_L10_2_S ka ca tm fl x0 x1 x2 x3 x4 x5 x6 x7 s_ = some t_ → Step (ctx [19, 34, 60] chopped_sp) Tabs chopped_L10_2_A (stateOf (chopped_L10_2_gs ka ca tm fl x0 x1 x2 x3 x4 x5 x6 x7 s_)) (stateOf (chopped_L10_2_gs ka ca tm fl x0 x1 x2 x3 x4 x5 x6 x7 t_)) (chopped_L10_2_ax t_) ∧ EndOK chopped_L10_2_A.nx chopped_L10_2_A.low (chopped_L10_2_gs ka ca tm fl x0 x1 x2 x3 x4 x5 x6 x7) t_
  | .next 0 ds, t_, h => by
    have h_ : chopped_L10_2_S0 ka ca tm fl x0 x1 x2 x3 x4 x5 x6 x7 ds = some t_ := h
    clear h
    unfold chopped_L10_2_S0 at h_
    obtain ⟨⟨s12n, s12c, s50⟩, e0, h0⟩ := pullD_elim h_
    clear h_
    obtain rfl := tup_inj e0
    by_cases b1_ : s50 < (x0 : Int)
    · have h2_ := (if_pos b1_).symm.trans h0
      obtain ⟨f3_, h4_⟩ := guardP_elim h2_
      obtain ⟨⟨v0, v1⟩, f5_, h6_⟩ := pullD_elim h4_
      replace f5_ := readD_elim f5_
      by_cases b7_ : v0 < tm
      · have h8_ := (if_pos b7_).symm.trans h6_
        obtain ⟨f9_, h10_⟩ := guardP_elim h8_
        obtain rfl := Option.some.inj h10_
        exact ⟨step_pc 3000 (bT 2 []) [.agg [iD v0, iD v1]] [c_d b1_, c_f f3_, c_f f5_, c_d b7_, c_f f9_] [] _ rfl (by kernel_rfl) (by kernel_rfl) (by kernel_rfl) (by kernel_rfl) (by kernel_rfl) (by kernel_rfl), trivial⟩
      have h8_ := (if_neg b7_).symm.trans h6_
      obtain rfl := Option.some.inj h8_
      exact ⟨step_pc 3000 (bT 1 (bF 1 [])) [.agg [iD v0, iD v1]] [c_d b1_, c_f f3_, c_f f5_, c_n b7_] [] _ rfl (by kernel_rfl) (by kernel_rfl) (by kernel_rfl) (by kernel_rfl) (by kernel_rfl) (by kernel_rfl), trivial⟩
    have h2_ := (if_neg b1_).symm.trans h0
    obtain rfl := Option.some.inj h2_
    exact ⟨step_pc 3000 (bF 1 []) [] [c_n b1_] [] _ rfl (by kernel_rfl) (by kernel_rfl) (by kernel_rfl) (by kernel_rfl) (by kernel_rfl) (by kernel_rfl), by kernel_rfl, by kernel_rfl⟩
  | .next 1 ds, t_, h => by
    have h_ : chopped_L10_2_S1 ka ca tm fl x0 x1 x2 x3 x4 x5 x6 x7 ds = some t_ := h
    clear h
    unfold chopped_L10_2_S1 at h_
    obtain ⟨s50, e0, h0⟩ := pullD_elim h_
    clear h_
    obtain rfl := tup_inj e0
    by_cases b1_ : s50 < (x0 : Int)
    · have h2_ := (if_pos b1_).symm.trans h0
      obtain ⟨f3_, h4_⟩ := guardP_elim h2_
      obtain ⟨⟨v0, v1⟩, f5_, h6_⟩ := pullD_elim h4_
      replace f5_ := readD_elim f5_
      by_cases b7_ : v0 < tm
      · have h8_ := (if_pos b7_).symm.trans h6_
        obtain rfl := Option.some.inj h8_
        exact ⟨step_pc 3000 (bT 2 []) [.agg [iD v0, iD v1]] [c_d b1_, c_f f3_, c_f f5_, c_d b7_, ⟨fact (0 < 0 + 1 ∧ (0 + 1) * 16 ≤ 140737488355328 ∧ 0 + 1 ≤ 4611686018427387904), true, fact_mk (by decide)⟩] [] _ rfl (by kernel_rfl) (by kernel_rfl) (by kernel_rfl) (by kernel_rfl) (by kernel_rfl) (by kernel_rfl), trivial⟩
      have h8_ := (if_neg b7_).symm.trans h6_
      obtain rfl := Option.some.inj h8_
      exact ⟨step_pc 3000 (bT 1 (bF 1 [])) [.agg [iD v0, iD v1]] [c_d b1_, c_f f3_, c_f f5_, c_n b7_] [] _ rfl (by kernel_rfl) (by kernel_rfl) (by kernel_rfl) (by kernel_rfl) (by kernel_rfl) (by kernel_rfl), trivial⟩
    have h2_ := (if_neg b1_).symm.trans h0
    obtain rfl := Option.some.inj h2_
    exact ⟨step_pc 3000 (bF 1 []) [] [c_n b1_] [] _ rfl (by kernel_rfl) (by kernel_rfl) (by kernel_rfl) (by kernel_rfl) (by kernel_rfl) (by kernel_rfl), by kernel_rfl, by kernel_rfl⟩
  | .next (_ + 2) _, _, h => by cases h
  | .out _ _, _, h => by cases h
theorem chopped_L10_2_go (ka : Nat) (ca : List D) (tm fl : Int) (x0 : Nat) (x1 : List D) (x2 : Int) (x3 : Int) (x4 : Int) (x5 : Int) (x6 : Int) (x7 : Int) {q : Nat} {ds : List D} {j : Nat} {es : List D} (h : runR (chopped_L10_2_S ka ca tm fl x0 x1 x2 x3 x4 x5 x6 x7) (.next q ds) = some (.out j es)) : Runs (ctx [19, 34, 60] chopped_sp) Tabs chopped_L10_2_A (stateOf (chopped_L10_2_gs ka ca tm fl x0 x1 x2 x3 x4 x5 x6 x7 (.next q ds))) (stateOf (chopped_L10_2_gs ka ca tm fl x0 x1 x2 x3 x4 x5 x6 x7 (.out j es))) (chopped_L10_2_ax (.out j es)) ∧ (nxtOf (chopped_L10_2_gs ka ca tm fl x0 x1 x2 x3 x4 x5 x6 x7 (.out j es)), lowGS (chopped_L10_2_gs ka ca tm fl x0 x1 x2 x3 x4 x5 x6 x7 (.out j es))) = (chopped_L10_2_A.nx, chopped_L10_2_A.low) :=
  runs_of' (good true _ _) chopped_L10_2_ok (ax := chopped_L10_2_ax) (fun _ _ => rfl) (fun _ _ => axOf_end _) (chopped_L10_2_S_ok ka ca tm fl x0 x1 x2 x3 x4 x5 x6 x7) h
theorem chopped_L10_2_in0 (ka : Nat) (ca : List D) (tm fl : Int) (x0 : Nat) (x1 : List D) (x2 : Int) (x3 : Int) (x4 : Int) (x5 : Int) (x6 : Int) (x7 : Int) {es : List D} (h : runR (chopped_L10_2_S ka ca tm fl x0 x1 x2 x3 x4 x5 x6 x7) (.next 1 [.one (.tuple #[]), iD ((0 : Int))]) = some (.out 0 es)) : LoopC (loopAt Try.prog 19 0) (chopped_L10_2_E ka ca tm fl x0 x1 x2 x3 x4 x5 x6 x7) 12 noFrame chopped_x10_0 es :=
  have r := chopped_L10_2_go ka ca tm fl x0 x1 x2 x3 x4 x5 x6 x7 h
  loopin_as rfl (loop_in (l := chopped_L10_2_A) (E := (chopped_L10_2_E ka ca tm fl x0 x1 x2 x3 x4 x5 x6 x7)) (S := stateOf (chopped_L10_2_gs ka ca tm fl x0 x1 x2 x3 x4 x5 x6 x7 (.next 1 [.one (.tuple #[]), iD ((0 : Int))]))) (ns := nsOf (chopped_L10_2_gs ka ca tm fl x0 x1 x2 x3 x4 x5 x6 x7 (.next 1 [.one (.tuple #[]), iD ((0 : Int))]))) chopped_L10_2_ok r.1 r.2 (by kernel_rfl) (by kernel_rfl) (by kernel_rfl) (by kernel_rfl))
theorem chopped_L10_2_in1 (ka : Nat) (ca : List D) (tm fl : Int) (x0 : Nat) (x1 : List D) (x2 : Int) (x3 : Int) (x4 : Int) (x5 : Int) (x6 : Int) (x7 : Int) {es : List D} (h : runR (chopped_L10_2_S ka ca tm fl x0 x1 x2 x3 x4 x5 x6 x7) (.next 1 [.one (.tuple #[]), iD ((0 : Int))]) = some (.out 1 es)) : LoopC (loopAt Try.prog 19 0) (chopped_L10_2_E ka ca tm fl x0 x1 x2 x3 x4 x5 x6 x7) 12 noFrame chopped_x10_1 es :=
  have r := chopped_L10_2_go ka ca tm fl x0 x1 x2 x3 x4 x5 x6 x7 h
  loopin_as rfl (loop_in (l := chopped_L10_2_A) (E := (chopped_L10_2_E ka ca tm fl x0 x1 x2 x3 x4 x5 x6 x7)) (S := stateOf (chopped_L10_2_gs ka ca tm fl x0 x1 x2 x3 x4 x5 x6 x7 (.next 1 [.one (.tuple #[]), iD ((0 : Int))]))) (ns := nsOf (chopped_L10_2_gs ka ca tm fl x0 x1 x2 x3 x4 x5 x6 x7 (.next 1 [.one (.tuple #[]), iD ((0 : Int))]))) chopped_L10_2_ok r.1 r.2 (by kernel_rfl) (by kernel_rfl) (by kernel_rfl) (by kernel_rfl))
def chopped_L10_1_E (ka : Nat) (ca : List D) (tm fl : Int) (x0 : Nat) (x1 : List D) (x2 : Int) (x3 : Int) (x4 : Int) (x5 : Int) (x6 : Int) (x7 : Int) : List AV × AHeap := ([.agg [.dsl 0], .pure (.int .i64 tm), .pure (.int .i64 fl), .ptr 1 0, .pure (.tuple #[]), .pure (.tuple #[]), .ptr 2 0, .pure (.int .i64 (0 : Int)), .ptr 4 0, .pure (.int .i64 x2), .func (Fn.func 60) [] [.ptr 5 0, .ptr 6 0], .pure (.int .i64 x7), .pure (.slice none 0 0), .pure (.tuple #[]), .pure (.tuple #[]), .tuple [.agg [.dsl 3], .pure (.int .i64 x2)], .agg [.dsl 0], .tuple [.agg [.dsl 3], .pure (.int .i64 x2)], .agg [.dsl 3], .pure (.int .i64 x2), .pure (.int .i64 x2), .pure (.bool (x2 != (0 : Int))), .pure (.tuple #[]), .pure (.tuple #[]), .agg [.dsl 3], .pure (.agg #[.int .i64 x3, .int .i64 x4]), .pure (.int .i64 x3), .pure (.int .i64 (IntKind.i64.wrap (x3 + (1 : Int)))), .agg [.dsl 3], .pure (.agg #[.int .i64 x5, .int .i64 x6]), .pure (.int .i64 x5), .func (Fn.func 60) [] [.ptr 5 0, .ptr 6 0], .func (Fn.func 60) [] [.ptr 5 0, .ptr 6 0], .pure (.int .i64 tm), .sl 7 0 1 1, .pure (.int .i64 (2 : Int)), .func (Fn.func 60) [] [.ptr 8 0, .ptr 9 0], .pure (.int .i64 fl), .sl 10 0 1 1, .pure (.int .i64 (0 : Int)), .sl 11 0 2 2, .pure (.int .i64 x7), .pure (.int .i64 x7), .pure (.bool (x7 != (0 : Int))), .pure (.tuple #[]), .pure (.tuple #[]), .ptr 4 0, .ptr 4 0, .dsl 3, .pure (.int .i64 (x0 : Int)), .pure (.int .i64 (0 : Int)), .pure (.tuple #[]), .pure (.tuple #[]), .pure (.tuple #[]), .pure (.tuple #[]), .pure (.tuple #[]), .pure (.tuple #[]), .pure (.tuple #[]), .pure (.tuple #[]), .pure (.tuple #[]), .pure (.tuple #[]), .pure (.tuple #[]), .pure (.tuple #[]), .pure (.tuple #[]), .pure (.tuple #[]), .pure (.tuple #[]), .pure (.tuple #[]), .pure (.tuple #[]), .pure (.tuple #[]), .pure (.tuple #[]), .pure (.tuple #[]), .pure (.tuple #[]), .pure (.tuple #[]), .pure (.tuple #[]), .pure (.tuple #[]), .pure (.tuple #[]), .pure (.tuple #[]), .pure (.tuple #[]), .pure (.tuple #[]), .pure (.tuple #[]), .pure (.tuple #[]), .pure (.tuple #[]), .pure (.tuple #[]), .pure (.tuple #[]), .pure (.tuple #[]), .pure (.tuple #[]), .pure (.tuple #[]), .pure (.tuple #[]), .pure (.tuple #[]), .pure (.tuple #[])], [(11, { cells := [.pure (.int .i64 (2 : Int)), .pure (.int .i64 (0 : Int))], opn := none, kind := .cells }), (10, { cells := [.pure (.int .i64 fl)], opn := none, kind := .cells }), (9, { cells := [.pure (.int .i64 (100000 : Int))], opn := none, kind := .cells }), (8, { cells := [.pure (.int .i64 (1 : Int))], opn := none, kind := .cells }), (7, { cells := [.pure (.int .i64 tm)], opn := none, kind := .cells }), (6, { cells := [.pure (.int .i64 x5)], opn := none, kind := .cells }), (5, { cells := [.pure (.int .i64 (IntKind.i64.wrap (x3 + (1 : Int))))], opn := none, kind := .cells }), (4, { cells := [.dsl 3], opn := none, kind := .cells }), (3, { cells := [], opn := none, kind := .deep x0 x1 }), (2, { cells := [.pure (.slice none 0 0)], opn := none, kind := .cells }), (1, { cells := [.dsl 0], opn := none, kind := .cells }), (0, { cells := [], opn := none, kind := .deep ka ca })])
def chopped_L10_1_A : LoopAt := ⟨19, loopAt Try.prog 19 0, 12, 27, 12, noFrame⟩
theorem chopped_L10_1_ok : (chopped_L10_1_A).OK := ⟨by show 12 ≤ 27; decide, by show 12 ≤ 12; decide, by kernel_rfl, rfl⟩
def chopped_L10_1_gs (ka : Nat) (ca : List D) (tm fl : Int) (x0 : Nat) (x1 : List D) (x2 : Int) (x3 : Int) (x4 : Int) (x5 : Int) (x6 : Int) (x7 : Int) : Go.Ev.Rd → Option GS
  | .next 0 ds => ghost [.grow 12 2, .val 50] (14 :: (List.range' 51 12)) (chopped_L10_1_E ka ca tm fl x0 x1 x2 x3 x4 x5 x6 x7).1 (chopped_L10_1_E ka ca tm fl x0 x1 x2 x3 x4 x5 x6 x7).2 12 ds
  | .next 1 ds => ghost [.nil 12, .val 50] (14 :: (List.range' 51 12)) (chopped_L10_1_E ka ca tm fl x0 x1 x2 x3 x4 x5 x6 x7).1 (chopped_L10_1_E ka ca tm fl x0 x1 x2 x3 x4 x5 x6 x7).2 12 ds
  | .out 0 ds => ghost chopped_x10_0.live chopped_x10_0.junk (chopped_L10_1_E ka ca tm fl x0 x1 x2 x3 x4 x5 x6 x7).1 (chopped_L10_1_E ka ca tm fl x0 x1 x2 x3 x4 x5 x6 x7).2 12 ds
  | .out 1 ds => ghost chopped_x10_1.live chopped_x10_1.junk (chopped_L10_1_E ka ca tm fl x0 x1 x2 x3 x4 x5 x6 x7).1 (chopped_L10_1_E ka ca tm fl x0 x1 x2 x3 x4 x5 x6 x7).2 12 ds
  | _ => none
def chopped_L10_1_ex : Nat → Option Nat
  | 0 => chopped_x10_0.ex
  | 1 => chopped_x10_1.ex
  | _ => none
def chopped_L10_1_ax : Go.Ev.Rd → AX
  | .next _ _ => .normal
  | .out j _ => axOf (chopped_L10_1_ex j)
def chopped_L10_1_S0 (ka : Nat) (ca : List D) (tm fl : Int) (x0 : Nat) (x1 : List D) (x2 : Int) (x3 : Int) (x4 : Int) (x5 : Int) (x6 : Int) (x7 : Int) (ds : List D) : Option Go.Ev.Rd := pullD (α := Nat × (List D) × Int) (some (.tup ds)) (fun d => ((D.ln (D.at d 0)), (D.lc (D.at d 0)), (D.vi (D.at d 1)))) (fun (s12n, s12c, s50) => .tup [.list s12n s12c, iD s50]) fun (s12n, s12c, s50) => ((if s50 < (x0 : Int) then guardP ((0 : Int) ≤ s50 ∧ s50.toNat < x0) (pullD (α := Int × Int) (readD x1 (s50.toNat * 2) 2 true) (fun d => ((D.vi (D.at d 0)), (D.vi (D.at d 1)))) (fun (v0, v1) => .agg [iD v0, iD v1]) fun (v0, v1) => ((if v0 < tm then guardP ((∀ (u : D), u ∈ [dCell (.int .i64 v0), dCell (.int .i64 v1)] → cellD u) ∧ s12n * 2 ≤ s12c.length ∧ (s12n + (0 + 1)) * 16 ≤ 140737488355328 ∧ s12n + (0 + 1) ≤ 4611686018427387904) (some (.next 0 [.list (s12n + (0 + 1)) (List.append (List.take (s12n * 2) s12c) [dCell (.int .i64 v0), dCell (.int .i64 v1)]), iD (IntKind.i64.wrap (s50 + (1 : Int)))])) else some (.next 0 [.list s12n s12c, iD (IntKind.i64.wrap (s50 + (1 : Int)))])))) else some (.out 0 [.list s12n s12c])))
def chopped_L10_1_S1 (ka : Nat) (ca : List D) (tm fl : Int) (x0 : Nat) (x1 : List D) (x2 : Int) (x3 : Int) (x4 : Int) (x5 : Int) (x6 : Int) (x7 : Int) (ds : List D) : Option Go.Ev.Rd := pullD (α := Int) (some (.tup ds)) (fun d => ((D.vi (D.at d 1)))) (fun s50 => .tup [.one (.tuple #[]), iD s50]) fun s50 => ((if s50 < (x0 : Int) then guardP ((0 : Int) ≤ s50 ∧ s50.toNat < x0) (pullD (α := Int × Int) (readD x1 (s50.toNat * 2) 2 true) (fun d => ((D.vi (D.at d 0)), (D.vi (D.at d 1)))) (fun (v0, v1) => .agg [iD v0, iD v1]) fun (v0, v1) => ((if v0 < tm then some (.next 0 [.list 1 [iD v0, iD v1], iD (IntKind.i64.wrap (s50 + (1 : Int)))]) else some (.next 1 [.one (.tuple #[]), iD (IntKind.i64.wrap (s50 + (1 : Int)))])))) else some (.out 1 [.one (.tuple #[])])))
def chopped_L10_1_S (ka : Nat) (ca : List D) (tm fl : Int) (x0 : Nat) (x1 : List D) (x2 : Int) (x3 : Int) (x4 : Int) (x5 : Int) (x6 : Int) (x7 : Int) : Go.Ev.Rd → Option Go.Ev.Rd
  | .next 0 ds => chopped_L10_1_S0 ka ca tm fl x0 x1 x2 x3 x4 x5 x6 x7 ds
  | .next 1 ds => chopped_L10_1_S1 ka ca tm fl x0 x1 x2 x3 x4 x5 x6 x7 ds
  | _ => none
theorem chopped_L10_1_S_0 (ka : Nat) (ca : List D) (tm fl : Int) (x0 : Nat) (x1 : List D) (x2 : Int) (x3 : Int) (x4 : Int) (x5 : Int) (x6 : Int) (x7 : Int) (ds : List D) : chopped_L10_1_S ka ca tm fl x0 x1 x2 x3 x4 x5 x6 x7 (.next 0 ds) = chopped_L10_1_S0 ka ca tm fl x0 x1 x2 x3 x4 x5 x6 x7 ds := rfl
theorem chopped_L10_1_S_1 (ka : Nat) (ca : List D) (tm fl : Int) (x0 : Nat) (x1 : List D) (x2 : Int) (x3 : Int) (x4 : Int) (x5 : Int) (x6 : Int) (x7 : Int) (ds : List D) : chopped_L10_1_S ka ca tm fl x0 x1 x2 x3 x4 x5 x6 x7 (.next 1 ds) = chopped_L10_1_S1 ka ca tm fl x0 x1 x2 x3 x4 x5 x6 x7 ds := rfl
theorem chopped_L10_1_S_ok (ka : Nat) (ca : List D) (tm fl : Int) (x0 : Nat) (x1 : List D) (x2 : Int) (x3 : Int) (x4 : Int) (x5 : Int) (x6 : Int) (x7 : Int) : ∀ s_ t_, chopped_L10_1_S ka ca tm fl x0 x1 x2 x3 x4 x5 x6 x7 s_ = some t_ → Step (ctx [19, 34, 60] chopped_sp) Tabs chopped_L10_1_A (stateOf (chopped_L10_1_gs ka ca tm fl x0 x1 x2 x3 x4 x5 x6 x7 s_)) (stateOf (chopped_L10_1_gs ka ca tm fl x0 x1 x2 x3 x4 x5 x6 x7 t_)) (chopped_L10_1_ax t_) ∧ EndOK chopped_L10_1_A.nx chopped_L10_1_A.low (chopped_L10_1_gs ka ca tm fl x0 x1 x2 x3 x4 x5 x6 x7) t_
  | .next 0 ds, t_, h => by
    have h_ : chopped_L10_1_S0 ka ca tm fl x0 x1 x2 x3 x4 x5 x6 x7 ds = some t_ := h
    clear h
    unfold chopped_L10_1_S0 at h_
    obtain ⟨⟨s12n, s12c, s50⟩, e0, h0⟩ := pullD_elim h_
    clear h_
    obtain rfl := tup_inj e0
    by_cases b1_ : s50 < (x0 : Int)
    · have h2_ := (if_pos b1_).symm.trans h0
      obtain ⟨f3_, h4_⟩ := guardP_elim h2_
      obtain ⟨⟨v0, v1⟩, f5_, h6_⟩ := pullD_elim h4_
      replace f5_ := readD_elim f5_
      by_cases b7_ : v0 < tm
      · have h8_ := (if_pos b7_).symm.trans h6_
        obtain ⟨f9_, h10_⟩ := guardP_elim h8_
        obtain rfl := Option.some.inj h10_
        exact ⟨step_pc 3000 (bT 2 []) [.agg [iD v0, iD v1]] [c_d b1_, c_f f3_, c_f f5_, c_d b7_, c_f f9_] [] _ rfl (by kernel_rfl) (by kernel_rfl) (by kernel_rfl) (by kernel_rfl) (by kernel_rfl) (by kernel_rfl), trivial⟩
      have h8_ := (if_neg b7_).symm.trans h6_
      obtain rfl := Option.some.inj h8_
      exact ⟨step_pc 3000 (bT 1 (bF 1 [])) [.agg [iD v0, iD v1]] [c_d b1_, c_f f3_, c_f f5_, c_n b7_] [] _ rfl (by kernel_rfl) (by kernel_rfl) (by kernel_rfl) (by kernel_rfl) (by kernel_rfl) (by kernel_rfl), trivial⟩
    have h2_ := (if_neg b1_).symm.trans h0
    obtain rfl := Option.some.inj h2_
    exact ⟨step_pc 3000 (bF 1 []) [] [c_n b1_] [] _ rfl (by kernel_rfl) (by kernel_rfl) (by kernel_rfl) (by kernel_rfl) (by kernel_rfl) (by kernel_rfl), by kernel_rfl, by kernel_rfl⟩
  | .next 1 ds, t_, h => by
    have h_ : chopped_L10_1_S1 ka ca tm fl x0 x1 x2 x3 x4 x5 x6 x7 ds = some t_ := h
    clear h
    unfold chopped_L10_1_S1 at h_
    obtain ⟨s50, e0, h0⟩ := pullD_elim h_
    clear h_
    obtain rfl := tup_inj e0
    by_cases b1_ : s50 < (x0 : Int)
    · have h2_ := (if_pos b1_).symm.trans h0
      obtain ⟨f3_, h4_⟩ := guardP_elim h2_
      obtain ⟨⟨v0, v1⟩, f5_, h6_⟩ := pullD_elim h4_
      replace f5_ := readD_elim f5_
      by_cases b7_ : v0 < tm
      · have h8_ := (if_pos b7_).symm.trans h6_
        obtain rfl := Option.some.inj h8_
        exact ⟨step_pc 3000 (bT 2 []) [.agg [iD v0, iD v1]] [c_d b1_, c_f f3_, c_f f5_, c_d b7_, ⟨fact (0 < 0 + 1 ∧ (0 + 1) * 16 ≤ 140737488355328 ∧ 0 + 1 ≤ 4611686018427387904), true, fact_mk (by decide)⟩] [] _ rfl (by kernel_rfl) (by kernel_rfl) (by kernel_rfl) (by kernel_rfl) (by kernel_rfl) (by kernel_rfl), trivial⟩
      have h8_ := (if_neg b7_).symm.trans h6_
      obtain rfl := Option.some.inj h8_
      exact ⟨step_pc 3000 (bT 1 (bF 1 [])) [.agg [iD v0, iD v1]] [c_d b1_, c_f f3_, c_f f5_, c_n b7_] [] _ rfl (by kernel_rfl) (by kernel_rfl) (by kernel_rfl) (by kernel_rfl) (by kernel_rfl) (by kernel_rfl), trivial⟩
    have h2_ := (if_neg b1_).symm.trans h0
    obtain rfl := Option.some.inj h2_
    exact ⟨step_pc 3000 (bF 1 []) [] [c_n b1_] [] _ rfl (by kernel_rfl) (by kernel_rfl) (by kernel_rfl) (by kernel_rfl) (by kernel_rfl) (by kernel_rfl), by kernel_rfl, by kernel_rfl⟩
  | .next (_ + 2) _, _, h => by cases h
  | .out _ _, _, h => by cases h
theorem chopped_L10_1_go (ka : Nat) (ca : List D) (tm fl : Int) (x0 : Nat) (x1 : List D) (x2 : Int) (x3 : Int) (x4 : Int) (x5 : Int) (x6 : Int) (x7 : Int) {q : Nat} {ds : List D} {j : Nat} {es : List D} (h : runR (chopped_L10_1_S ka ca tm fl x0 x1 x2 x3 x4 x5 x6 x7) (.next q ds) = some (.out j es)) : Runs (ctx [19, 34, 60] chopped_sp) Tabs chopped_L10_1_A (stateOf (chopped_L10_1_gs ka ca tm fl x0 x1 x2 x3 x4 x5 x6 x7 (.next q ds))) (stateOf (chopped_L10_1_gs ka ca tm fl x0 x1 x2 x3 x4 x5 x6 x7 (.out j es))) (chopped_L10_1_ax (.out j es)) ∧ (nxtOf (chopped_L10_1_gs ka ca tm fl x0 x1 x2 x3 x4 x5 x6 x7 (.out j es)), lowGS (chopped_L10_1_gs ka ca tm fl x0 x1 x2 x3 x4 x5 x6 x7 (.out j es))) = (chopped_L10_1_A.nx, chopped_L10_1_A.low) :=
  runs_of' (good true _ _) chopped_L10_1_ok (ax := chopped_L10_1_ax) (fun _ _ => rfl) (fun _ _ => axOf_end _) (chopped_L10_1_S_ok ka ca tm fl x0 x1 x2 x3 x4 x5 x6 x7) h
theorem chopped_L10_1_in0 (ka : Nat) (ca : List D) (tm fl : Int) (x0 : Nat) (x1 : List D) (x2 : Int) (x3 : Int) (x4 : Int) (x5 : Int) (x6 : Int) (x7 : Int) {es : List D} (h : runR (chopped_L10_1_S ka ca tm fl x0 x1 x2 x3 x4 x5 x6 x7) (.next 1 [.one (.tuple #[]), iD ((0 : Int))]) = some (.out 0 es)) : LoopC (loopAt Try.prog 19 0) (chopped_L10_1_E ka ca tm fl x0 x1 x2 x3 x4 x5 x6 x7) 12 noFrame chopped_x10_0 es :=
  have r := chopped_L10_1_go ka ca tm fl x0 x1 x2 x3 x4 x5 x6 x7 h
  loopin_as rfl (loop_in (l := chopped_L10_1_A) (E := (chopped_L10_1_E ka ca tm fl x0 x1 x2 x3 x4 x5 x6 x7)) (S := stateOf (chopped_L10_1_gs ka ca tm fl x0 x1 x2 x3 x4 x5 x6 x7 (.next 1 [.one (.tuple #[]), iD ((0 : Int))]))) (ns := nsOf (chopped_L10_1_gs ka ca tm fl x0 x1 x2 x3 x4 x5 x6 x7 (.next 1 [.one (.tuple #[]), iD ((0 : Int))]))) chopped_L10_1_ok r.1 r.2 (by kernel_rfl) (by kernel_rfl) (by kernel_rfl) (by kernel_rfl))
theorem chopped_L10_1_in1 (ka : Nat) (ca : List D) (tm fl : Int) (x0 : Nat) (x1 : List D) (x2 : Int) (x3 : Int) (x4 : Int) (x5 : Int) (x6 : Int) (x7 : Int) {es : List D} (h : runR (chopped_L10_1_S ka ca tm fl x0 x1 x2 x3 x4 x5 x6 x7) (.next 1 [.one (.tuple #[]), iD ((0 : Int))]) = some (.out 1 es)) : LoopC (loopAt Try.prog 19 0) (chopped_L10_1_E ka ca tm fl x0 x1 x2 x3 x4 x5 x6 x7) 12 noFrame chopped_x10_1 es :=
  have r := chopped_L10_1_go ka ca tm fl x0 x1 x2 x3 x4 x5 x6 x7 h
  loopin_as rfl (loop_in (l := chopped_L10_1_A) (E := (chopped_L10_1_E ka ca tm fl x0 x1 x2 x3 x4 x5 x6 x7)) (S := stateOf (chopped_L10_1_gs ka ca tm fl x0 x1 x2 x3 x4 x5 x6 x7 (.next 1 [.one (.tuple #[]), iD ((0 : Int))]))) (ns := nsOf (chopped_L10_1_gs ka ca tm fl x0 x1 x2 x3 x4 x5 x6 x7 (.next 1 [.one (.tuple #[]), iD ((0 : Int))]))) chopped_L10_1_ok r.1 r.2 (by kernel_rfl) (by kernel_rfl) (by kernel_rfl) (by kernel_rfl))
def chopped_L10_E (ka : Nat) (ca : List D) (tm fl : Int) (x0 : Nat) (x1 : List D) (x2 : Int) (x3 : Int) (x4 : Int) (x5 : Int) (x6 : Int) (x7 : Int) : List AV × AHeap := ([.agg [.dsl 0], .pure (.int .i64 tm), .pure (.int .i64 fl), .ptr 1 0, .pure (.tuple #[]), .pure (.tuple #[]), .ptr 2 0, .pure (.int .i64 (0 : Int)), .ptr 4 0, .pure (.int .i64 x2), .func (Fn.func 60) [] [.ptr 5 0, .ptr 6 0], .pure (.int .i64 x7), .pure (.slice none 0 0), .pure (.tuple #[]), .pure (.tuple #[]), .tuple [.agg [.dsl 3], .pure (.int .i64 x2)], .agg [.dsl 0], .tuple [.agg [.dsl 3], .pure (.int .i64 x2)], .agg [.dsl 3], .pure (.int .i64 x2), .pure (.int .i64 x2), .pure (.bool (x2 != (0 : Int))), .pure (.tuple #[]), .pure (.tuple #[]), .agg [.dsl 3], .pure (.agg #[.int .i64 x3, .int .i64 x4]), .pure (.int .i64 x3), .pure (.int .i64 (IntKind.i64.wrap (x3 + (1 : Int)))), .agg [.dsl 3], .pure (.agg #[.int .i64 x5, .int .i64 x6]), .pure (.int .i64 x5), .func (Fn.func 60) [] [.ptr 5 0, .ptr 6 0], .func (Fn.func 60) [] [.ptr 5 0, .ptr 6 0], .pure (.int .i64 tm), .sl 7 0 1 1, .pure (.int .i64 (2 : Int)), .func (Fn.func 60) [] [.ptr 8 0, .ptr 9 0], .pure (.int .i64 fl), .sl 10 0 1 1, .pure (.int .i64 (2 : Int)), .sl 11 0 2 2, .pure (.int .i64 x7), .pure (.int .i64 x7), .pure (.bool (x7 != (0 : Int))), .pure (.tuple #[]), .pure (.tuple #[]), .ptr 4 0, .ptr 4 0, .dsl 3, .pure (.int .i64 (x0 : Int)), .pure (.int .i64 (0 : Int)), .pure (.tuple #[]), .pure (.tuple #[]), .pure (.tuple #[]), .pure (.tuple #[]), .pure (.tuple #[]), .pure (.tuple #[]), .pure (.tuple #[]), .pure (.tuple #[]), .pure (.tuple #[]), .pure (.tuple #[]), .pure (.tuple #[]), .pure (.tuple #[]), .pure (.tuple #[]), .pure (.tuple #[]), .pure (.tuple #[]), .pure (.tuple #[]), .pure (.tuple #[]), .pure (.tuple #[]), .pure (.tuple #[]), .pure (.tuple #[]), .pure (.tuple #[]), .pure (.tuple #[]), .pure (.tuple #[]), .pure (.tuple #[]), .pure (.tuple #[]), .pure (.tuple #[]), .pure (.tuple #[]), .pure (.tuple #[]), .pure (.tuple #[]), .pure (.tuple #[]), .pure (.tuple #[]), .pure (.tuple #[]), .pure (.tuple #[]), .pure (.tuple #[]), .pure (.tuple #[]), .pure (.tuple #[]), .pure (.tuple #[]), .pure (.tuple #[]), .pure (.tuple #[])], [(11, { cells := [.pure (.int .i64 (2 : Int)), .pure (.int .i64 (2 : Int))], opn := none, kind := .cells }), (10, { cells := [.pure (.int .i64 fl)], opn := none, kind := .cells }), (9, { cells := [.pure (.int .i64 (100000 : Int))], opn := none, kind := .cells }), (8, { cells := [.pure (.int .i64 (1 : Int))], opn := none, kind := .cells }), (7, { cells := [.pure (.int .i64 tm)], opn := none, kind := .cells }), (6, { cells := [.pure (.int .i64 x5)], opn := none, kind := .cells }), (5, { cells := [.pure (.int .i64 (IntKind.i64.wrap (x3 + (1 : Int))))], opn := none, kind := .cells }), (4, { cells := [.dsl 3], opn := none, kind := .cells }), (3, { cells := [], opn := none, kind := .deep x0 x1 }), (2, { cells := [.pure (.slice none 0 0)], opn := none, kind := .cells }), (1, { cells := [.dsl 0], opn := none, kind := .cells }), (0, { cells := [], opn := none, kind := .deep ka ca })])
def chopped_L10_A : LoopAt := ⟨19, loopAt Try.prog 19 0, 12, 27, 12, noFrame⟩
theorem chopped_L10_ok : (chopped_L10_A).OK := ⟨by show 12 ≤ 27; decide, by show 12 ≤ 12; decide, by kernel_rfl, rfl⟩
def chopped_L10_gs (ka : Nat) (ca : List D) (tm fl : Int) (x0 : Nat) (x1 : List D) (x2 : Int) (x3 : Int) (x4 : Int) (x5 : Int) (x6 : Int) (x7 : Int) : Go.Ev.Rd → Option GS
  | .next 0 ds => ghost [.grow 12 2, .val 50] (14 :: (List.range' 51 12)) (chopped_L10_E ka ca tm fl x0 x1 x2 x3 x4 x5 x6 x7).1 (chopped_L10_E ka ca tm fl x0 x1 x2 x3 x4 x5 x6 x7).2 12 ds
  | .next 1 ds => ghost [.nil 12, .val 50] (14 :: (List.range' 51 12)) (chopped_L10_E ka ca tm fl x0 x1 x2 x3 x4 x5 x6 x7).1 (chopped_L10_E ka ca tm fl x0 x1 x2 x3 x4 x5 x6 x7).2 12 ds
  | .out 0 ds => ghost chopped_x10_0.live chopped_x10_0.junk (chopped_L10_E ka ca tm fl x0 x1 x2 x3 x4 x5 x6 x7).1 (chopped_L10_E ka ca tm fl x0 x1 x2 x3 x4 x5 x6 x7).2 12 ds
  | .out 1 ds => ghost chopped_x10_1.live chopped_x10_1.junk (chopped_L10_E ka ca tm fl x0 x1 x2 x3 x4 x5 x6 x7).1 (chopped_L10_E ka ca tm fl x0 x1 x2 x3 x4 x5 x6 x7).2 12 ds
  | _ => none
def chopped_L10_ex : Nat → Option Nat
  | 0 => chopped_x10_0.ex
  | 1 => chopped_x10_1.ex
  | _ => none
def chopped_L10_ax : Go.Ev.Rd → AX
  | .next _ _ => .normal
  | .out j _ => axOf (chopped_L10_ex j)
def chopped_L10_S0 (ka : Nat) (ca : List D) (tm fl : Int) (x0 : Nat) (x1 : List D) (x2 : Int) (x3 : Int) (x4 : Int) (x5 : Int) (x6 : Int) (x7 : Int) (ds : List D) : Option Go.Ev.Rd := pullD (α := Nat × (List D) × Int) (some (.tup ds)) (fun d => ((D.ln (D.at d 0)), (D.lc (D.at d 0)), (D.vi (D.at d 1)))) (fun (s12n, s12c, s50) => .tup [.list s12n s12c, iD s50]) fun (s12n, s12c, s50) => ((if s50 < (x0 : Int) then guardP ((0 : Int) ≤ s50 ∧ s50.toNat < x0) (pullD (α := Int × Int) (readD x1 (s50.toNat * 2) 2 true) (fun d => ((D.vi (D.at d 0)), (D.vi (D.at d 1)))) (fun (v0, v1) => .agg [iD v0, iD v1]) fun (v0, v1) => ((if v0 < tm then guardP ((∀ (u : D), u ∈ [dCell (.int .i64 v0), dCell (.int .i64 v1)] → cellD u) ∧ s12n * 2 ≤ s12c.length ∧ (s12n + (0 + 1)) * 16 ≤ 140737488355328 ∧ s12n + (0 + 1) ≤ 4611686018427387904) (some (.next 0 [.list (s12n + (0 + 1)) (List.append (List.take (s12n * 2) s12c) [dCell (.int .i64 v0), dCell (.int .i64 v1)]), iD (IntKind.i64.wrap (s50 + (1 : Int)))])) else some (.next 0 [.list s12n s12c, iD (IntKind.i64.wrap (s50 + (1 : Int)))])))) else some (.out 0 [.list s12n s12c])))
def chopped_L10_S1 (ka : Nat) (ca : List D) (tm fl : Int) (x0 : Nat) (x1 : List D) (x2 : Int) (x3 : Int) (x4 : Int) (x5 : Int) (x6 : Int) (x7 : Int) (ds : List D) : Option Go.Ev.Rd := pullD (α := Int) (some (.tup ds)) (fun d => ((D.vi (D.at d 1)))) (fun s50 => .tup [.one (.tuple #[]), iD s50]) fun s50 => ((if s50 < (x0 : Int) then guardP ((0 : Int) ≤ s50 ∧ s50.toNat < x0) (pullD (α := Int × Int) (readD x1 (s50.toNat * 2) 2 true) (fun d => ((D.vi (D.at d 0)), (D.vi (D.at d 1)))) (fun (v0, v1) => .agg [iD v0, iD v1]) fun (v0, v1) => ((if v0 < tm then some (.next 0 [.list 1 [iD v0, iD v1], iD (IntKind.i64.wrap (s50 + (1 : Int)))]) else some (.next 1 [.one (.tuple #[]), iD (IntKind.i64.wrap (s50 + (1 : Int)))])))) else some (.out 1 [.one (.tuple #[])])))
def chopped_L10_S (ka : Nat) (ca : List D) (tm fl : Int) (x0 : Nat) (x1 : List D) (x2 : Int) (x3 : Int) (x4 : Int) (x5 : Int) (x6 : Int) (x7 : Int) : Go.Ev.Rd → Option Go.Ev.Rd
  | .next 0 ds => chopped_L10_S0 ka ca tm fl x0 x1 x2 x3 x4 x5 x6 x7 ds
  | .next 1 ds => chopped_L10_S1 ka ca tm fl x0 x1 x2 x3 x4 x5 x6 x7 ds
  | _ => none
theorem chopped_L10_S_0 (ka : Nat) (ca : List D) (tm fl : Int) (x0 : Nat) (x1 : List D) (x2 : Int) (x3 : Int) (x4 : Int) (x5 : Int) (x6 : Int) (x7 : Int) (ds : List D) : chopped_L10_S ka ca tm fl x0 x1 x2 x3 x4 x5 x6 x7 (.next 0 ds) = chopped_L10_S0 ka ca tm fl x0 x1 x2 x3 x4 x5 x6 x7 ds := rfl
theorem chopped_L10_S_1 (ka : Nat) (ca : List D) (tm fl : Int) (x0 : Nat) (x1 : List D) (x2 : Int) (x3 : Int) (x4 : Int) (x5 : Int) (x6 : Int) (x7 : Int) (ds : List D) : chopped_L10_S ka ca tm fl x0 x1 x2 x3 x4 x5 x6 x7 (.next 1 ds) = chopped_L10_S1 ka ca tm fl x0 x1 x2 x3 x4 x5 x6 x7 ds := rfl
theorem chopped_L10_S_ok (ka : Nat) (ca : List D) (tm fl : Int) (x0 : Nat) (x1 : List D) (x2 : Int) (x3 : Int) (x4 : Int) (x5 : Int) (x6 : Int) (x7 : Int) : ∀ s_ t_, chopped_L10_S ka ca tm fl x0 x1 x2 x3 x4 x5 x6 x7 s_ = some t_ → Step (ctx [19, 34, 60] chopped_sp) Tabs chopped_L10_A (stateOf (chopped_L10_gs ka ca tm fl x0 x1 x2 x3 x4 x5 x6 x7 s_)) (stateOf (chopped_L10_gs ka ca tm fl x0 x1 x2 x3 x4 x5 x6 x7 t_)) (chopped_L10_ax t_) ∧ EndOK chopped_L10_A.nx chopped_L10_A.low (chopped_L10_gs ka ca tm fl x0 x1 x2 x3 x4 x5 x6 x7) t_
  | .next 0 ds, t_, h => by
    have h_ : chopped_L10_S0 ka ca tm fl x0 x1 x2 x3 x4 x5 x6 x7 ds = some t_ := h
    clear h
    unfold chopped_L10_S0 at h_
    obtain ⟨⟨s12n, s12c, s50⟩, e0, h0⟩ := pullD_elim h_
    clear h_
    obtain rfl := tup_inj e0
    by_cases b1_ : s50 < (x0 : Int)
    · have h2_ := (if_pos b1_).symm.trans h0
      obtain ⟨f3_, h4_⟩ := guardP_elim h2_
      obtain ⟨⟨v0, v1⟩, f5_, h6_⟩ := pullD_elim h4_
      replace f5_ := readD_elim f5_
      by_cases b7_ : v0 < tm
      · have h8_ := (if_pos b7_).symm.trans h6_
        obtain ⟨f9_, h10_⟩ := guardP_elim h8_
        obtain rfl := Option.some.inj h10_
        exact ⟨step_pc 3000 (bT 2 []) [.agg [iD v0, iD v1]] [c_d b1_, c_f f3_, c_f f5_, c_d b7_, c_f f9_] [] _ rfl (by kernel_rfl) (by kernel_rfl) (by kernel_rfl) (by kernel_rfl) (by kernel_rfl) (by kernel_rfl), trivial⟩
      have h8_ := (if_neg b7_).symm.trans h6_
      obtain rfl := Option.some.inj h8_
      exact ⟨step_pc 3000 (bT 1 (bF 1 [])) [.agg [iD v0, iD v1]] [c_d b1_, c_f f3_, c_f f5_, c_n b7_] [] _ rfl (by kernel_rfl) (by kernel_rfl) (by kernel_rfl) (by kernel_rfl) (by kernel_rfl) (by kernel_rfl), trivial⟩
    have h2_ := (if_neg b1_).symm.trans h0
    obtain rfl := Option.some.inj h2_
    exact ⟨step_pc 3000 (bF 1 []) [] [c_n b1_] [] _ rfl (by kernel_rfl) (by kernel_rfl) (by kernel_rfl) (by kernel_rfl) (by kernel_rfl) (by kernel_rfl), by kernel_rfl, by kernel_rfl⟩
  | .next 1 ds, t_, h => by
    have h_ : chopped_L10_S1 ka ca tm fl x0 x1 x2 x3 x4 x5 x6 x7 ds = some t_ := h
    clear h
    unfold chopped_L10_S1 at h_
    obtain ⟨s50, e0, h0⟩ := pullD_elim h_
    clear h_
    obtain rfl := tup_inj e0
    by_cases b1_ : s50 < (x0 : Int)
    · have h2_ := (if_pos b1_).symm.trans h0
      obtain ⟨f3_, h4_⟩ := guardP_elim h2_
      obtain ⟨⟨v0, v1⟩, f5_, h6_⟩ := pullD_elim h4_
      replace f5_ := readD_elim f5_
      by_cases b7_ : v0 < tm
      · have h8_ := (if_pos b7_).symm.trans h6_
        obtain rfl := Option.some.inj h8_
        exact ⟨step_pc 3000 (bT 2 []) [.agg [iD v0, iD v1]] [c_d b1_, c_f f3_, c_f f5_, c_d b7_, ⟨fact (0 < 0 + 1 ∧ (0 + 1) * 16 ≤ 140737488355328 ∧ 0 + 1 ≤ 4611686018427387904), true, fact_mk (by decide)⟩] [] _ rfl (by kernel_rfl) (by kernel_rfl) (by kernel_rfl) (by kernel_rfl) (by kernel_rfl) (by kernel_rfl), trivial⟩
      have h8_ := (if_neg b7_).symm.trans h6_
      obtain rfl := Option.some.inj h8_
      exact ⟨step_pc 3000 (bT 1 (bF 1 [])) [.agg [iD v0, iD v1]] [c_d b1_, c_f f3_, c_f f5_, c_n b7_] [] _ rfl (by kernel_rfl) (by kernel_rfl) (by kernel_rfl) (by kernel_rfl) (by kernel_rfl) (by kernel_rfl), trivial⟩
    have h2_ := (if_neg b1_).symm.trans h0
    obtain rfl := Option.some.inj h2_
    exact ⟨step_pc 3000 (bF 1 []) [] [c_n b1_] [] _ rfl (by kernel_rfl) (by kernel_rfl) (by kernel_rfl) (by kernel_rfl) (by kernel_rfl) (by kernel_rfl), by kernel_rfl, by kernel_rfl⟩
  | .next (_ + 2) _, _, h => by cases h
  | .out _ _, _, h => by cases h
theorem chopped_L10_go (ka : Nat) (ca : List D) (tm fl : Int) (x0 : Nat) (x1 : List D) (x2 : Int) (x3 : Int) (x4 : Int) (x5 : Int) (x6 : Int) (x7 : Int) {q : Nat} {ds : List D} {j : Nat} {es : List D} (h : runR (chopped_L10_S ka ca tm fl x0 x1 x2 x3 x4 x5 x6 x7) (.next q ds) = some (.out j es)) : Runs (ctx [19, 34, 60] chopped_sp) Tabs chopped_L10_A (stateOf (chopped_L10_gs ka ca tm fl x0 x1 x2 x3 x4 x5 x6 x7 (.next q ds))) (stateOf (chopped_L10_gs ka ca tm fl x0 x1 x2 x3 x4 x5 x6 x7 (.out j es))) (chopped_L10_ax (.out j es)) ∧ (nxtOf (chopped_L10_gs ka ca tm fl x0 x1 x2 x3 x4 x5 x6 x7 (.out j es)), lowGS (chopped_L10_gs ka ca tm fl x0 x1 x2 x3 x4 x5 x6 x7 (.out j es))) = (chopped_L10_A.nx, chopped_L10_A.low) :=
  runs_of' (good true _ _) chopped_L10_ok (ax := chopped_L10_ax) (fun _ _ => rfl) (fun _ _ => axOf_end _) (chopped_L10_S_ok ka ca tm fl x0 x1 x2 x3 x4 x5 x6 x7) h
theorem chopped_L10_in0 (ka : Nat) (ca : List D) (tm fl : Int) (x0 : Nat) (x1 : List D) (x2 : Int) (x3 : Int) (x4 : Int) (x5 : Int) (x6 : Int) (x7 : Int) {es : List D} (h : runR (chopped_L10_S ka ca tm fl x0 x1 x2 x3 x4 x5 x6 x7) (.next 1 [.one (.tuple #[]), iD ((0 : Int))]) = some (.out 0 es)) : LoopC (loopAt Try.prog 19 0) (chopped_L10_E ka ca tm fl x0 x1 x2 x3 x4 x5 x6 x7) 12 noFrame chopped_x10_0 es :=
  have r := chopped_L10_go ka ca tm fl x0 x1 x2 x3 x4 x5 x6 x7 h
  loopin_as rfl (loop_in (l := chopped_L10_A) (E := (chopped_L10_E ka ca tm fl x0 x1 x2 x3 x4 x5 x6 x7)) (S := stateOf (chopped_L10_gs ka ca tm fl x0 x1 x2 x3 x4 x5 x6 x7 (.next 1 [.one (.tuple #[]), iD ((0 : Int))]))) (ns := nsOf (chopped_L10_gs ka ca tm fl x0 x1 x2 x3 x4 x5 x6 x7 (.next 1 [.one (.tuple #[]), iD ((0 : Int))]))) chopped_L10_ok r.1 r.2 (by kernel_rfl) (by kernel_rfl) (by kernel_rfl) (by kernel_rfl))
theorem chopped_L10_in1 (ka : Nat) (ca : List D) (tm fl : Int) (x0 : Nat) (x1 : List D) (x2 : Int) (x3 : Int) (x4 : Int) (x5 : Int) (x6 : Int) (x7 : Int) {es : List D} (h : runR (chopped_L10_S ka ca tm fl x0 x1 x2 x3 x4 x5 x6 x7) (.next 1 [.one (.tuple #[]), iD ((0 : Int))]) = some (.out 1 es)) : LoopC (loopAt Try.prog 19 0) (chopped_L10_E ka ca tm fl x0 x1 x2 x3 x4 x5 x6 x7) 12 noFrame chopped_x10_1 es :=
  have r := chopped_L10_go ka ca tm fl x0 x1 x2 x3 x4 x5 x6 x7 h
  loopin_as rfl (loop_in (l := chopped_L10_A) (E := (chopped_L10_E ka ca tm fl x0 x1 x2 x3 x4 x5 x6 x7)) (S := stateOf (chopped_L10_gs ka ca tm fl x0 x1 x2 x3 x4 x5 x6 x7 (.next 1 [.one (.tuple #[]), iD ((0 : Int))]))) (ns := nsOf (chopped_L10_gs ka ca tm fl x0 x1 x2 x3 x4 x5 x6 x7 (.next 1 [.one (.tuple #[]), iD ((0 : Int))]))) chopped_L10_ok r.1 r.2 (by kernel_rfl) (by kernel_rfl) (by kernel_rfl) (by kernel_rfl))
def chopped_M_s0 (ka : Nat) (ca : List D) (tm fl : Int) (k0 : Nat) (c1 : List D) (r2 : Int) (r3 : Int) (r4 : Int) (r5 : Int) (r6 : Int) : Option D := (if fl < (1 : Int) then pullD (α := Int) (m_33 [.list 2 [iD (2 : Int), iD (2 : Int)]]) (fun d => ((D.vi d))) (fun r7 => iD r7) fun r7 => ((if r7 ≠ (0 : Int) then some (.tup [.agg [.list 0 []], iD r7]) else bindL (runR (chopped_L10_S ka ca tm fl k0 c1 r2 r3 r4 r5 r6 r7) (.next 1 [.one (.tuple #[]), iD ((0 : Int))])) fun j ds => (if j = 0 then pullD (α := Nat × (List D)) (some (.tup ds)) (fun d => ((D.ln (D.at d 0)), (D.lc (D.at d 0)))) (fun (k8, c9) => .tup [.list k8 c9]) fun (k8, c9) => (pullD (α := Int × Int) (m_39 [.agg [.list k0 c1], iD tm]) (fun d => ((D.vi (D.at d 0)), (D.vi (D.at d 1)))) (fun (r10, r11) => .tup [iD r10, iD r11]) fun (r10, r11) => (pullD (α := Int) (m_46 [iD r10, iD r11]) (fun d => ((D.vi d))) (fun r12 => iD r12) fun r12 => (guardP ((∀ (u : D), u ∈ [dCell (.int .i64 tm), dCell (.int .i64 r12), dCell (.int .i64 (IntKind.i64.wrap (tm + fl))), dCell (.int .i64 (0 : Int))] → cellD u) ∧ k8 * 2 ≤ c9.length ∧ (k8 + (1 + 1)) * 16 ≤ 140737488355328 ∧ k8 + (1 + 1) ≤ 4611686018427387904) ((if IntKind.i64.wrap (tm + fl) > (1000000 : Int) then some (.tup [.agg [.list 0 []], iD (8 : Int)]) else (if (((k8 + (1 + 1)) : Nat) : Int) > (12 : Int) then some (.tup [.agg [.list 0 []], iD (8 : Int)]) else guardP ((0 + (k8 + (1 + 1))) * 2 ≤ (List.take (k8 * 2) c9 ++ [dCell (.int .i64 tm), dCell (.int .i64 r12), dCell (.int .i64 (IntKind.i64.wrap (tm + fl))), dCell (.int .i64 (0 : Int))]).length ∧ 0 < 2) (some (.tup [.agg [.list (k8 + (1 + 1)) (List.append (List.take (k8 * 2) c9) [dCell (.int .i64 tm), dCell (.int .i64 r12), dCell (.int .i64 (IntKind.i64.wrap (tm + fl))), dCell (.int .i64 (0 : Int))])], iD (0 : Int)])))))))) else if j = 1 then pullD (some (.tup ds)) (fun _ => ()) (fun _ => .tup [.one (.tuple #[])]) fun _ => (pullD (α := Int × Int) (m_39 [.agg [.list k0 c1], iD tm]) (fun d => ((D.vi (D.at d 0)), (D.vi (D.at d 1)))) (fun (r13, r14) => .tup [iD r13, iD r14]) fun (r13, r14) => (pullD (α := Int) (m_46 [iD r13, iD r14]) (fun d => ((D.vi d))) (fun r15 => iD r15) fun r15 => ((if IntKind.i64.wrap (tm + fl) > (1000000 : Int) then some (.tup [.agg [.list 0 []], iD (8 : Int)]) else guardP ((0 + (1 + 1)) * 2 ≤ [dCell (.int .i64 tm), dCell (.int .i64 r15), dCell (.int .i64 (IntKind.i64.wrap (tm + fl))), dCell (.int .i64 (0 : Int))].length ∧ 0 < 2) (some (.tup [.agg [.list 2 [iD tm, iD r15, iD (IntKind.i64.wrap (tm + fl)), iD (0 : Int)]], iD (0 : Int)])))))) else none))) else (if fl > (100000 : Int) then pullD (α := Int) (m_33 [.list 2 [iD (2 : Int), iD (2 : Int)]]) (fun d => ((D.vi d))) (fun r16 => iD r16) fun r16 => ((if r16 ≠ (0 : Int) then some (.tup [.agg [.list 0 []], iD r16]) else bindL (runR (chopped_L10_S ka ca tm fl k0 c1 r2 r3 r4 r5 r6 r16) (.next 1 [.one (.tuple #[]), iD ((0 : Int))])) fun j ds => (if j = 0 then pullD (α := Nat × (List D)) (some (.tup ds)) (fun d => ((D.ln (D.at d 0)), (D.lc (D.at d 0)))) (fun (k17, c18) => .tup [.list k17 c18]) fun (k17, c18) => (pullD (α := Int × Int) (m_39 [.agg [.list k0 c1], iD tm]) (fun d => ((D.vi (D.at d 0)), (D.vi (D.at d 1)))) (fun (r19, r20) => .tup [iD r19, iD r20]) fun (r19, r20) => (pullD (α := Int) (m_46 [iD r19, iD r20]) (fun d => ((D.vi d))) (fun r21 => iD r21) fun r21 => (guardP ((∀ (u : D), u ∈ [dCell (.int .i64 tm), dCell (.int .i64 r21), dCell (.int .i64 (IntKind.i64.wrap (tm + fl))), dCell (.int .i64 (0 : Int))] → cellD u) ∧ k17 * 2 ≤ c18.length ∧ (k17 + (1 + 1)) * 16 ≤ 140737488355328 ∧ k17 + (1 + 1) ≤ 4611686018427387904) ((if IntKind.i64.wrap (tm + fl) > (1000000 : Int) then some (.tup [.agg [.list 0 []], iD (8 : Int)]) else (if (((k17 + (1 + 1)) : Nat) : Int) > (12 : Int) then some (.tup [.agg [.list 0 []], iD (8 : Int)]) else guardP ((0 + (k17 + (1 + 1))) * 2 ≤ (List.take (k17 * 2) c18 ++ [dCell (.int .i64 tm), dCell (.int .i64 r21), dCell (.int .i64 (IntKind.i64.wrap (tm + fl))), dCell (.int .i64 (0 : Int))]).length ∧ 0 < 2) (some (.tup [.agg [.list (k17 + (1 + 1)) (List.append (List.take (k17 * 2) c18) [dCell (.int .i64 tm), dCell (.int .i64 r21), dCell (.int .i64 (IntKind.i64.wrap (tm + fl))), dCell (.int .i64 (0 : Int))])], iD (0 : Int)])))))))) else if j = 1 then pullD (some (.tup ds)) (fun _ => ()) (fun _ => .tup [.one (.tuple #[])]) fun _ => (pullD (α := Int × Int) (m_39 [.agg [.list k0 c1], iD tm]) (fun d => ((D.vi (D.at d 0)), (D.vi (D.at d 1)))) (fun (r22, r23) => .tup [iD r22, iD r23]) fun (r22, r23) => (pullD (α := Int) (m_46 [iD r22, iD r23]) (fun d => ((D.vi d))) (fun r24 => iD r24) fun r24 => ((if IntKind.i64.wrap (tm + fl) > (1000000 : Int) then some (.tup [.agg [.list 0 []], iD (8 : Int)]) else guardP ((0 + (1 + 1)) * 2 ≤ [dCell (.int .i64 tm), dCell (.int .i64 r24), dCell (.int .i64 (IntKind.i64.wrap (tm + fl))), dCell (.int .i64 (0 : Int))].length ∧ 0 < 2) (some (.tup [.agg [.list 2 [iD tm, iD r24, iD (IntKind.i64.wrap (tm + fl)), iD (0 : Int)]], iD (0 : Int)])))))) else none))) else pullD (α := Int) (m_33 [.list 2 [iD (2 : Int), iD (0 : Int)]]) (fun d => ((D.vi d))) (fun r25 => iD r25) fun r25 => ((if r25 ≠ (0 : Int) then some (.tup [.agg [.list 0 []], iD r25]) else bindL (runR (chopped_L10_1_S ka ca tm fl k0 c1 r2 r3 r4 r5 r6 r25) (.next 1 [.one (.tuple #[]), iD ((0 : Int))])) fun j ds => (if j = 0 then pullD (α := Nat × (List D)) (some (.tup ds)) (fun d => ((D.ln (D.at d 0)), (D.lc (D.at d 0)))) (fun (k26, c27) => .tup [.list k26 c27]) fun (k26, c27) => (pullD (α := Int × Int) (m_39 [.agg [.list k0 c1], iD tm]) (fun d => ((D.vi (D.at d 0)), (D.vi (D.at d 1)))) (fun (r28, r29) => .tup [iD r28, iD r29]) fun (r28, r29) => (pullD (α := Int) (m_46 [iD r28, iD r29]) (fun d => ((D.vi d))) (fun r30 => iD r30) fun r30 => (guardP ((∀ (u : D), u ∈ [dCell (.int .i64 tm), dCell (.int .i64 r30), dCell (.int .i64 (IntKind.i64.wrap (tm + fl))), dCell (.int .i64 (0 : Int))] → cellD u) ∧ k26 * 2 ≤ c27.length ∧ (k26 + (1 + 1)) * 16 ≤ 140737488355328 ∧ k26 + (1 + 1) ≤ 4611686018427387904) ((if IntKind.i64.wrap (tm + fl) > (1000000 : Int) then some (.tup [.agg [.list 0 []], iD (8 : Int)]) else (if (((k26 + (1 + 1)) : Nat) : Int) > (12 : Int) then some (.tup [.agg [.list 0 []], iD (8 : Int)]) else guardP ((0 + (k26 + (1 + 1))) * 2 ≤ (List.take (k26 * 2) c27 ++ [dCell (.int .i64 tm), dCell (.int .i64 r30), dCell (.int .i64 (IntKind.i64.wrap (tm + fl))), dCell (.int .i64 (0 : Int))]).length ∧ 0 < 2) (some (.tup [.agg [.list (k26 + (1 + 1)) (List.append (List.take (k26 * 2) c27) [dCell (.int .i64 tm), dCell (.int .i64 r30), dCell (.int .i64 (IntKind.i64.wrap (tm + fl))), dCell (.int .i64 (0 : Int))])], iD (0 : Int)])))))))) else if j = 1 then pullD (some (.tup ds)) (fun _ => ()) (fun _ => .tup [.one (.tuple #[])]) fun _ => (pullD (α := Int × Int) (m_39 [.agg [.list k0 c1], iD tm]) (fun d => ((D.vi (D.at d 0)), (D.vi (D.at d 1)))) (fun (r31, r32) => .tup [iD r31, iD r32]) fun (r31, r32) => (pullD (α := Int) (m_46 [iD r31, iD r32]) (fun d => ((D.vi d))) (fun r33 => iD r33) fun r33 => ((if IntKind.i64.wrap (tm + fl) > (1000000 : Int) then some (.tup [.agg [.list 0 []], iD (8 : Int)]) else guardP ((0 + (1 + 1)) * 2 ≤ [dCell (.int .i64 tm), dCell (.int .i64 r33), dCell (.int .i64 (IntKind.i64.wrap (tm + fl))), dCell (.int .i64 (0 : Int))].length ∧ 0 < 2) (some (.tup [.agg [.list 2 [iD tm, iD r33, iD (IntKind.i64.wrap (tm + fl)), iD (0 : Int)]], iD (0 : Int)])))))) else none)))))
def chopped_M_s1 (ka : Nat) (ca : List D) (tm fl : Int) (k0 : Nat) (c1 : List D) (r2 : Int) (r3 : Int) (r4 : Int) (r5 : Int) (r6 : Int) : Option D := (if fl < (1 : Int) then pullD (α := Int) (m_33 [.list 2 [iD (2 : Int), iD (2 : Int)]]) (fun d => ((D.vi d))) (fun r34 => iD r34) fun r34 => ((if r34 ≠ (0 : Int) then some (.tup [.agg [.list 0 []], iD r34]) else bindL (runR (chopped_L10_S ka ca tm fl k0 c1 r2 r3 r4 r5 r6 r34) (.next 1 [.one (.tuple #[]), iD ((0 : Int))])) fun j ds => (if j = 0 then pullD (α := Nat × (List D)) (some (.tup ds)) (fun d => ((D.ln (D.at d 0)), (D.lc (D.at d 0)))) (fun (k35, c36) => .tup [.list k35 c36]) fun (k35, c36) => (pullD (α := Int × Int) (m_39 [.agg [.list k0 c1], iD tm]) (fun d => ((D.vi (D.at d 0)), (D.vi (D.at d 1)))) (fun (r37, r38) => .tup [iD r37, iD r38]) fun (r37, r38) => (pullD (α := Int) (m_46 [iD r37, iD r38]) (fun d => ((D.vi d))) (fun r39 => iD r39) fun r39 => (guardP ((∀ (u : D), u ∈ [dCell (.int .i64 tm), dCell (.int .i64 r39), dCell (.int .i64 (IntKind.i64.wrap (tm + fl))), dCell (.int .i64 (0 : Int))] → cellD u) ∧ k35 * 2 ≤ c36.length ∧ (k35 + (1 + 1)) * 16 ≤ 140737488355328 ∧ k35 + (1 + 1) ≤ 4611686018427387904) ((if IntKind.i64.wrap (tm + fl) > (1000000 : Int) then some (.tup [.agg [.list 0 []], iD (8 : Int)]) else (if (((k35 + (1 + 1)) : Nat) : Int) > (12 : Int) then some (.tup [.agg [.list 0 []], iD (8 : Int)]) else guardP ((0 + (k35 + (1 + 1))) * 2 ≤ (List.take (k35 * 2) c36 ++ [dCell (.int .i64 tm), dCell (.int .i64 r39), dCell (.int .i64 (IntKind.i64.wrap (tm + fl))), dCell (.int .i64 (0 : Int))]).length ∧ 0 < 2) (some (.tup [.agg [.list (k35 + (1 + 1)) (List.append (List.take (k35 * 2) c36) [dCell (.int .i64 tm), dCell (.int .i64 r39), dCell (.int .i64 (IntKind.i64.wrap (tm + fl))), dCell (.int .i64 (0 : Int))])], iD (0 : Int)])))))))) else if j = 1 then pullD (some (.tup ds)) (fun _ => ()) (fun _ => .tup [.one (.tuple #[])]) fun _ => (pullD (α := Int × Int) (m_39 [.agg [.list k0 c1], iD tm]) (fun d => ((D.vi (D.at d 0)), (D.vi (D.at d 1)))) (fun (r40, r41) => .tup [iD r40, iD r41]) fun (r40, r41) => (pullD (α := Int) (m_46 [iD r40, iD r41]) (fun d => ((D.vi d))) (fun r42 => iD r42) fun r42 => ((if IntKind.i64.wrap (tm + fl) > (1000000 : Int) then some (.tup [.agg [.list 0 []], iD (8 : Int)]) else guardP ((0 + (1 + 1)) * 2 ≤ [dCell (.int .i64 tm), dCell (.int .i64 r42), dCell (.int .i64 (IntKind.i64.wrap (tm + fl))), dCell (.int .i64 (0 : Int))].length ∧ 0 < 2) (some (.tup [.agg [.list 2 [iD tm, iD r42, iD (IntKind.i64.wrap (tm + fl)), iD (0 : Int)]], iD (0 : Int)])))))) else none))) else (if fl > (100000 : Int) then pullD (α := Int) (m_33 [.list 2 [iD (2 : Int), iD (2 : Int)]]) (fun d => ((D.vi d))) (fun r43 => iD r43) fun r43 => ((if r43 ≠ (0 : Int) then some (.tup [.agg [.list 0 []], iD r43]) else bindL (runR (chopped_L10_S ka ca tm fl k0 c1 r2 r3 r4 r5 r6 r43) (.next 1 [.one (.tuple #[]), iD ((0 : Int))])) fun j ds => (if j = 0 then pullD (α := Nat × (List D)) (some (.tup ds)) (fun d => ((D.ln (D.at d 0)), (D.lc (D.at d 0)))) (fun (k44, c45) => .tup [.list k44 c45]) fun (k44, c45) => (pullD (α := Int × Int) (m_39 [.agg [.list k0 c1], iD tm]) (fun d => ((D.vi (D.at d 0)), (D.vi (D.at d 1)))) (fun (r46, r47) => .tup [iD r46, iD r47]) fun (r46, r47) => (pullD (α := Int) (m_46 [iD r46, iD r47]) (fun d => ((D.vi d))) (fun r48 => iD r48) fun r48 => (guardP ((∀ (u : D), u ∈ [dCell (.int .i64 tm), dCell (.int .i64 r48), dCell (.int .i64 (IntKind.i64.wrap (tm + fl))), dCell (.int .i64 (0 : Int))] → cellD u) ∧ k44 * 2 ≤ c45.length ∧ (k44 + (1 + 1)) * 16 ≤ 140737488355328 ∧ k44 + (1 + 1) ≤ 4611686018427387904) ((if IntKind.i64.wrap (tm + fl) > (1000000 : Int) then some (.tup [.agg [.list 0 []], iD (8 : Int)]) else (if (((k44 + (1 + 1)) : Nat) : Int) > (12 : Int) then some (.tup [.agg [.list 0 []], iD (8 : Int)]) else guardP ((0 + (k44 + (1 + 1))) * 2 ≤ (List.take (k44 * 2) c45 ++ [dCell (.int .i64 tm), dCell (.int .i64 r48), dCell (.int .i64 (IntKind.i64.wrap (tm + fl))), dCell (.int .i64 (0 : Int))]).length ∧ 0 < 2) (some (.tup [.agg [.list (k44 + (1 + 1)) (List.append (List.take (k44 * 2) c45) [dCell (.int .i64 tm), dCell (.int .i64 r48), dCell (.int .i64 (IntKind.i64.wrap (tm + fl))), dCell (.int .i64 (0 : Int))])], iD (0 : Int)])))))))) else if j = 1 then pullD (some (.tup ds)) (fun _ => ()) (fun _ => .tup [.one (.tuple #[])]) fun _ => (pullD (α := Int × Int) (m_39 [.agg [.list k0 c1], iD tm]) (fun d => ((D.vi (D.at d 0)), (D.vi (D.at d 1)))) (fun (r49, r50) => .tup [iD r49, iD r50]) fun (r49, r50) => (pullD (α := Int) (m_46 [iD r49, iD r50]) (fun d => ((D.vi d))) (fun r51 => iD r51) fun r51 => ((if IntKind.i64.wrap (tm + fl) > (1000000 : Int) then some (.tup [.agg [.list 0 []], iD (8 : Int)]) else guardP ((0 + (1 + 1)) * 2 ≤ [dCell (.int .i64 tm), dCell (.int .i64 r51), dCell (.int .i64 (IntKind.i64.wrap (tm + fl))), dCell (.int .i64 (0 : Int))].length ∧ 0 < 2) (some (.tup [.agg [.list 2 [iD tm, iD r51, iD (IntKind.i64.wrap (tm + fl)), iD (0 : Int)]], iD (0 : Int)])))))) else none))) else pullD (α := Int) (m_33 [.list 2 [iD (2 : Int), iD (0 : Int)]]) (fun d => ((D.vi d))) (fun r52 => iD r52) fun r52 => ((if r52 ≠ (0 : Int) then some (.tup [.agg [.list 0 []], iD r52]) else bindL (runR (chopped_L10_1_S ka ca tm fl k0 c1 r2 r3 r4 r5 r6 r52) (.next 1 [.one (.tuple #[]), iD ((0 : Int))])) fun j ds => (if j = 0 then pullD (α := Nat × (List D)) (some (.tup ds)) (fun d => ((D.ln (D.at d 0)), (D.lc (D.at d 0)))) (fun (k53, c54) => .tup [.list k53 c54]) fun (k53, c54) => (pullD (α := Int × Int) (m_39 [.agg [.list k0 c1], iD tm]) (fun d => ((D.vi (D.at d 0)), (D.vi (D.at d 1)))) (fun (r55, r56) => .tup [iD r55, iD r56]) fun (r55, r56) => (pullD (α := Int) (m_46 [iD r55, iD r56]) (fun d => ((D.vi d))) (fun r57 => iD r57) fun r57 => (guardP ((∀ (u : D), u ∈ [dCell (.int .i64 tm), dCell (.int .i64 r57), dCell (.int .i64 (IntKind.i64.wrap (tm + fl))), dCell (.int .i64 (0 : Int))] → cellD u) ∧ k53 * 2 ≤ c54.length ∧ (k53 + (1 + 1)) * 16 ≤ 140737488355328 ∧ k53 + (1 + 1) ≤ 4611686018427387904) ((if IntKind.i64.wrap (tm + fl) > (1000000 : Int) then some (.tup [.agg [.list 0 []], iD (8 : Int)]) else (if (((k53 + (1 + 1)) : Nat) : Int) > (12 : Int) then some (.tup [.agg [.list 0 []], iD (8 : Int)]) else guardP ((0 + (k53 + (1 + 1))) * 2 ≤ (List.take (k53 * 2) c54 ++ [dCell (.int .i64 tm), dCell (.int .i64 r57), dCell (.int .i64 (IntKind.i64.wrap (tm + fl))), dCell (.int .i64 (0 : Int))]).length ∧ 0 < 2) (some (.tup [.agg [.list (k53 + (1 + 1)) (List.append (List.take (k53 * 2) c54) [dCell (.int .i64 tm), dCell (.int .i64 r57), dCell (.int .i64 (IntKind.i64.wrap (tm + fl))), dCell (.int .i64 (0 : Int))])], iD (0 : Int)])))))))) else if j = 1 then pullD (some (.tup ds)) (fun _ => ()) (fun _ => .tup [.one (.tuple #[])]) fun _ => (pullD (α := Int × Int) (m_39 [.agg [.list k0 c1], iD tm]) (fun d => ((D.vi (D.at d 0)), (D.vi (D.at d 1)))) (fun (r58, r59) => .tup [iD r58, iD r59]) fun (r58, r59) => (pullD (α := Int) (m_46 [iD r58, iD r59]) (fun d => ((D.vi d))) (fun r60 => iD r60) fun r60 => ((if IntKind.i64.wrap (tm + fl) > (1000000 : Int) then some (.tup [.agg [.list 0 []], iD (8 : Int)]) else guardP ((0 + (1 + 1)) * 2 ≤ [dCell (.int .i64 tm), dCell (.int .i64 r60), dCell (.int .i64 (IntKind.i64.wrap (tm + fl))), dCell (.int .i64 (0 : Int))].length ∧ 0 < 2) (some (.tup [.agg [.list 2 [iD tm, iD r60, iD (IntKind.i64.wrap (tm + fl)), iD (0 : Int)]], iD (0 : Int)])))))) else none)))))
def chopped_M_s2 (ka : Nat) (ca : List D) (tm fl : Int) (k0 : Nat) (c1 : List D) (r2 : Int) (r3 : Int) (r4 : Int) (r5 : Int) (r6 : Int) : Option D := (if fl < (1 : Int) then pullD (α := Int) (m_33 [.list 2 [iD (0 : Int), iD (2 : Int)]]) (fun d => ((D.vi d))) (fun r61 => iD r61) fun r61 => ((if r61 ≠ (0 : Int) then some (.tup [.agg [.list 0 []], iD r61]) else bindL (runR (chopped_L10_2_S ka ca tm fl k0 c1 r2 r3 r4 r5 r6 r61) (.next 1 [.one (.tuple #[]), iD ((0 : Int))])) fun j ds => (if j = 0 then pullD (α := Nat × (List D)) (some (.tup ds)) (fun d => ((D.ln (D.at d 0)), (D.lc (D.at d 0)))) (fun (k62, c63) => .tup [.list k62 c63]) fun (k62, c63) => (pullD (α := Int × Int) (m_39 [.agg [.list k0 c1], iD tm]) (fun d => ((D.vi (D.at d 0)), (D.vi (D.at d 1)))) (fun (r64, r65) => .tup [iD r64, iD r65]) fun (r64, r65) => (pullD (α := Int) (m_46 [iD r64, iD r65]) (fun d => ((D.vi d))) (fun r66 => iD r66) fun r66 => (guardP ((∀ (u : D), u ∈ [dCell (.int .i64 tm), dCell (.int .i64 r66), dCell (.int .i64 (IntKind.i64.wrap (tm + fl))), dCell (.int .i64 (0 : Int))] → cellD u) ∧ k62 * 2 ≤ c63.length ∧ (k62 + (1 + 1)) * 16 ≤ 140737488355328 ∧ k62 + (1 + 1) ≤ 4611686018427387904) ((if IntKind.i64.wrap (tm + fl) > (1000000 : Int) then some (.tup [.agg [.list 0 []], iD (8 : Int)]) else (if (((k62 + (1 + 1)) : Nat) : Int) > (12 : Int) then some (.tup [.agg [.list 0 []], iD (8 : Int)]) else guardP ((0 + (k62 + (1 + 1))) * 2 ≤ (List.take (k62 * 2) c63 ++ [dCell (.int .i64 tm), dCell (.int .i64 r66), dCell (.int .i64 (IntKind.i64.wrap (tm + fl))), dCell (.int .i64 (0 : Int))]).length ∧ 0 < 2) (some (.tup [.agg [.list (k62 + (1 + 1)) (List.append (List.take (k62 * 2) c63) [dCell (.int .i64 tm), dCell (.int .i64 r66), dCell (.int .i64 (IntKind.i64.wrap (tm + fl))), dCell (.int .i64 (0 : Int))])], iD (0 : Int)])))))))) else if j = 1 then pullD (some (.tup ds)) (fun _ => ()) (fun _ => .tup [.one (.tuple #[])]) fun _ => (pullD (α := Int × Int) (m_39 [.agg [.list k0 c1], iD tm]) (fun d => ((D.vi (D.at d 0)), (D.vi (D.at d 1)))) (fun (r67, r68) => .tup [iD r67, iD r68]) fun (r67, r68) => (pullD (α := Int) (m_46 [iD r67, iD r68]) (fun d => ((D.vi d))) (fun r69 => iD r69) fun r69 => ((if IntKind.i64.wrap (tm + fl) > (1000000 : Int) then some (.tup [.agg [.list 0 []], iD (8 : Int)]) else guardP ((0 + (1 + 1)) * 2 ≤ [dCell (.int .i64 tm), dCell (.int .i64 r69), dCell (.int .i64 (IntKind.i64.wrap (tm + fl))), dCell (.int .i64 (0 : Int))].length ∧ 0 < 2) (some (.tup [.agg [.list 2 [iD tm, iD r69, iD (IntKind.i64.wrap (tm + fl)), iD (0 : Int)]], iD (0 : Int)])))))) else none))) else (if fl > (100000 : Int) then pullD (α := Int) (m_33 [.list 2 [iD (0 : Int), iD (2 : Int)]]) (fun d => ((D.vi d))) (fun r70 => iD r70) fun r70 => ((if r70 ≠ (0 : Int) then some (.tup [.agg [.list 0 []], iD r70]) else bindL (runR (chopped_L10_2_S ka ca tm fl k0 c1 r2 r3 r4 r5 r6 r70) (.next 1 [.one (.tuple #[]), iD ((0 : Int))])) fun j ds => (if j = 0 then pullD (α := Nat × (List D)) (some (.tup ds)) (fun d => ((D.ln (D.at d 0)), (D.lc (D.at d 0)))) (fun (k71, c72) => .tup [.list k71 c72]) fun (k71, c72) => (pullD (α := Int × Int) (m_39 [.agg [.list k0 c1], iD tm]) (fun d => ((D.vi (D.at d 0)), (D.vi (D.at d 1)))) (fun (r73, r74) => .tup [iD r73, iD r74]) fun (r73, r74) => (pullD (α := Int) (m_46 [iD r73, iD r74]) (fun d => ((D.vi d))) (fun r75 => iD r75) fun r75 => (guardP ((∀ (u : D), u ∈ [dCell (.int .i64 tm), dCell (.int .i64 r75), dCell (.int .i64 (IntKind.i64.wrap (tm + fl))), dCell (.int .i64 (0 : Int))] → cellD u) ∧ k71 * 2 ≤ c72.length ∧ (k71 + (1 + 1)) * 16 ≤ 140737488355328 ∧ k71 + (1 + 1) ≤ 4611686018427387904) ((if IntKind.i64.wrap (tm + fl) > (1000000 : Int) then some (.tup [.agg [.list 0 []], iD (8 : Int)]) else (if (((k71 + (1 + 1)) : Nat) : Int) > (12 : Int) then some (.tup [.agg [.list 0 []], iD (8 : Int)]) else guardP ((0 + (k71 + (1 + 1))) * 2 ≤ (List.take (k71 * 2) c72 ++ [dCell (.int .i64 tm), dCell (.int .i64 r75), dCell (.int .i64 (IntKind.i64.wrap (tm + fl))), dCell (.int .i64 (0 : Int))]).length ∧ 0 < 2) (some (.tup [.agg [.list (k71 + (1 + 1)) (List.append (List.take (k71 * 2) c72) [dCell (.int .i64 tm), dCell (.int .i64 r75), dCell (.int .i64 (IntKind.i64.wrap (tm + fl))), dCell (.int .i64 (0 : Int))])], iD (0 : Int)])))))))) else if j = 1 then pullD (some (.tup ds)) (fun _ => ()) (fun _ => .tup [.one (.tuple #[])]) fun _ => (pullD (α := Int × Int) (m_39 [.agg [.list k0 c1], iD tm]) (fun d => ((D.vi (D.at d 0)), (D.vi (D.at d 1)))) (fun (r76, r77) => .tup [iD r76, iD r77]) fun (r76, r77) => (pullD (α := Int) (m_46 [iD r76, iD r77]) (fun d => ((D.vi d))) (fun r78 => iD r78) fun r78 => ((if IntKind.i64.wrap (tm + fl) > (1000000 : Int) then some (.tup [.agg [.list 0 []], iD (8 : Int)]) else guardP ((0 + (1 + 1)) * 2 ≤ [dCell (.int .i64 tm), dCell (.int .i64 r78), dCell (.int .i64 (IntKind.i64.wrap (tm + fl))), dCell (.int .i64 (0 : Int))].length ∧ 0 < 2) (some (.tup [.agg [.list 2 [iD tm, iD r78, iD (IntKind.i64.wrap (tm + fl)), iD (0 : Int)]], iD (0 : Int)])))))) else none))) else pullD (α := Int) (m_33 [.list 2 [iD (0 : Int), iD (0 : Int)]]) (fun d => ((D.vi d))) (fun r79 => iD r79) fun r79 => ((if r79 ≠ (0 : Int) then some (.tup [.agg [.list 0 []], iD r79]) else bindL (runR (chopped_L10_3_S ka ca tm fl k0 c1 r2 r3 r4 r5 r6 r79) (.next 1 [.one (.tuple #[]), iD ((0 : Int))])) fun j ds => (if j = 0 then pullD (α := Nat × (List D)) (some (.tup ds)) (fun d => ((D.ln (D.at d 0)), (D.lc (D.at d 0)))) (fun (k80, c81) => .tup [.list k80 c81]) fun (k80, c81) => (pullD (α := Int × Int) (m_39 [.agg [.list k0 c1], iD tm]) (fun d => ((D.vi (D.at d 0)), (D.vi (D.at d 1)))) (fun (r82, r83) => .tup [iD r82, iD r83]) fun (r82, r83) => (pullD (α := Int) (m_46 [iD r82, iD r83]) (fun d => ((D.vi d))) (fun r84 => iD r84) fun r84 => (guardP ((∀ (u : D), u ∈ [dCell (.int .i64 tm), dCell (.int .i64 r84), dCell (.int .i64 (IntKind.i64.wrap (tm + fl))), dCell (.int .i64 (0 : Int))] → cellD u) ∧ k80 * 2 ≤ c81.length ∧ (k80 + (1 + 1)) * 16 ≤ 140737488355328 ∧ k80 + (1 + 1) ≤ 4611686018427387904) ((if IntKind.i64.wrap (tm + fl) > (1000000 : Int) then some (.tup [.agg [.list 0 []], iD (8 : Int)]) else (if (((k80 + (1 + 1)) : Nat) : Int) > (12 : Int) then some (.tup [.agg [.list 0 []], iD (8 : Int)]) else guardP ((0 + (k80 + (1 + 1))) * 2 ≤ (List.take (k80 * 2) c81 ++ [dCell (.int .i64 tm), dCell (.int .i64 r84), dCell (.int .i64 (IntKind.i64.wrap (tm + fl))), dCell (.int .i64 (0 : Int))]).length ∧ 0 < 2) (some (.tup [.agg [.list (k80 + (1 + 1)) (List.append (List.take (k80 * 2) c81) [dCell (.int .i64 tm), dCell (.int .i64 r84), dCell (.int .i64 (IntKind.i64.wrap (tm + fl))), dCell (.int .i64 (0 : Int))])], iD (0 : Int)])))))))) else if j = 1 then pullD (some (.tup ds)) (fun _ => ()) (fun _ => .tup [.one (.tuple #[])]) fun _ => (pullD (α := Int × Int) (m_39 [.agg [.list k0 c1], iD tm]) (fun d => ((D.vi (D.at d 0)), (D.vi (D.at d 1)))) (fun (r85, r86) => .tup [iD r85, iD r86]) fun (r85, r86) => (pullD (α := Int) (m_46 [iD r85, iD r86]) (fun d => ((D.vi d))) (fun r87 => iD r87) fun r87 => ((if IntKind.i64.wrap (tm + fl) > (1000000 : Int) then some (.tup [.agg [.list 0 []], iD (8 : Int)]) else guardP ((0 + (1 + 1)) * 2 ≤ [dCell (.int .i64 tm), dCell (.int .i64 r87), dCell (.int .i64 (IntKind.i64.wrap (tm + fl))), dCell (.int .i64 (0 : Int))].length ∧ 0 < 2) (some (.tup [.agg [.list 2 [iD tm, iD r87, iD (IntKind.i64.wrap (tm + fl)), iD (0 : Int)]], iD (0 : Int)])))))) else none)))))
def chopped_M (ka : Nat) (ca : List D) (tm fl : Int) : Option D := pullD (α := Nat × (List D) × Int) (m_36 [.agg [.list ka ca]]) (fun d => ((D.ln (D.at (D.at d 0) 0)), (D.lc (D.at (D.at d 0) 0)), (D.vi (D.at d 1)))) (fun (k0, c1, r2) => .tup [.agg [.list k0 c1], iD r2]) fun (k0, c1, r2) => ((if r2 ≠ (0 : Int) then some (.tup [.agg [.list 0 []], iD r2]) else pullD (α := Int × Int) (m_47 [.agg [.list k0 c1]]) (fun d => ((D.vi (D.at d 0)), (D.vi (D.at d 1)))) (fun (r3, r4) => .agg [iD r3, iD r4]) fun (r3, r4) => (pullD (α := Int × Int) (m_48 [.agg [.list k0 c1]]) (fun d => ((D.vi (D.at d 0)), (D.vi (D.at d 1)))) (fun (r5, r6) => .agg [iD r5, iD r6]) fun (r5, r6) => ((if tm < IntKind.i64.wrap (r3 + (1 : Int)) then chopped_M_s0 ka ca tm fl k0 c1 r2 r3 r4 r5 r6 else (if tm > r5 then chopped_M_s1 ka ca tm fl k0 c1 r2 r3 r4 r5 r6 else chopped_M_s2 ka ca tm fl k0 c1 r2 r3 r4 r5 r6))))))
theorem chopped_M_s0_ok (ka : Nat) (ca : List D) (tm fl : Int) (k0 : Nat) (c1 : List D) (r2 : Int) (r3 : Int) (r4 : Int) (r5 : Int) (r6 : Int) (f1_ : Con 36 [.agg [.list ka ca]] (.tup [.agg [.list k0 c1], iD r2])) (b5_ : r2 = (0 : Int)) (f6_ : Con 47 [.agg [.list k0 c1]] (.agg [iD r3, iD r4])) (f8_ : Con 48 [.agg [.list k0 c1]] (.agg [iD r5, iD r6])) (b10_ : tm < IntKind.i64.wrap (r3 + (1 : Int))) {r : D} (h : chopped_M_s0 ka ca tm fl k0 c1 r2 r3 r4 r5 r6 = some r) : Con 19 [.agg [.list ka ca], iD tm, iD fl] r := by
  unfold chopped_M_s0 at h
  by_cases bq1_ : fl < (1 : Int)
  · have hq2_ := (if_pos bq1_).symm.trans h
    obtain ⟨r7, fq3_, hq4_⟩ := pullD_elim hq2_
    replace fq3_ := m_33_ok fq3_
    by_cases bq5_ : r7 ≠ (0 : Int)
    · have hq6_ := (if_pos bq5_).symm.trans hq4_
      obtain rfl := Option.some.inj hq6_
      exact con_pc (op := true) (I := [19, 34, 60]) (sp := chopped_sp) 3000 (bF 1 (bT 13 [])) [.tup [.agg [.list k0 c1], iD r2], .agg [iD r3, iD r4], .agg [iD r5, iD r6], iD r7] [c_bn b5_, c_T, c_d b10_, c_d b10_, c_d b10_, c_d b10_, c_T, c_T, c_d bq1_, c_d bq1_, c_d bq1_, c_d bq1_, c_T, c_le 1, c_b bq5_] [k_c f1_, k_c f6_, k_c f8_, k_c fq3_] (by kernel_rfl)
    have hq6_ := (if_neg bq5_).symm.trans hq4_
    have bq7_ : r7 = (0 : Int) := by first | exact bq5_ | simpa using bq5_
    obtain ⟨j, ds, eq8_, hq9_⟩ := bindL_elim hq6_
    by_cases jq10_ : j = 0
    · have hq13_ := (if_pos jq10_).symm.trans hq9_
      clear hq9_
      subst jq10_
      obtain ⟨⟨k8, c9⟩, eq11_, hq14_⟩ := pullD_elim hq13_
      clear hq13_
      obtain rfl := tup_inj eq11_
      have kq12_ := chopped_L10_in0 ka ca tm fl k0 c1 r2 r3 r4 r5 r6 r7 eq8_
      obtain ⟨⟨r10, r11⟩, fq15_, hq16_⟩ := pullD_elim hq14_
      replace fq15_ := m_39_ok fq15_
      obtain ⟨r12, fq17_, hq18_⟩ := pullD_elim hq16_
      replace fq17_ := m_46_ok fq17_
      obtain ⟨fq19_, hq20_⟩ := guardP_elim hq18_
      by_cases bq21_ : IntKind.i64.wrap (tm + fl) > (1000000 : Int)
      · have hq22_ := (if_pos bq21_).symm.trans hq20_
        obtain rfl := Option.some.inj hq22_
        exact con_pc (op := true) (I := [19, 34, 60]) (sp := chopped_sp) 3000 (bF 1 (bT 12 (bF 1 (bT 5 [])))) [.tup [.agg [.list k0 c1], iD r2], .agg [iD r3, iD r4], .agg [iD r5, iD r6], iD r7, .tup [iD (Int.ofNat 0), .list k8 c9], .tup [iD r10, iD r11], iD r12] [c_bn b5_, c_T, c_d b10_, c_d b10_, c_d b10_, c_d b10_, c_T, c_T, c_d bq1_, c_d bq1_, c_d bq1_, c_d bq1_, c_T, c_le 1, c_bn bq7_, c_f fq19_, c_d bq21_, c_d bq21_, c_d bq21_, c_d bq21_, c_T] [k_c f1_, k_c f6_, k_c f8_, k_c fq3_, k_l kq12_ (bT 5 []) [.tup [iD (Int.ofNat 0), .list k8 c9], .tup [iD r10, iD r11], iD r12] [.tup [iD r10, iD r11], iD r12], k_c fq15_, k_c fq17_] (by kernel_rfl)
      have hq22_ := (if_neg bq21_).symm.trans hq20_
      by_cases bq23_ : (((k8 + (1 + 1)) : Nat) : Int) > (12 : Int)
      · have hq24_ := (if_pos bq23_).symm.trans hq22_
        obtain rfl := Option.some.inj hq24_
        exact con_pc (op := true) (I := [19, 34, 60]) (sp := chopped_sp) 3000 (bF 1 (bT 12 (bF 5 (bT 1 [])))) [.tup [.agg [.list k0 c1], iD r2], .agg [iD r3, iD r4], .agg [iD r5, iD r6], iD r7, .tup [iD (Int.ofNat 0), .list k8 c9], .tup [iD r10, iD r11], iD r12] [c_bn b5_, c_T, c_d b10_, c_d b10_, c_d b10_, c_d b10_, c_T, c_T, c_d bq1_, c_d bq1_, c_d bq1_, c_d bq1_, c_T, c_le 1, c_bn bq7_, c_f fq19_, c_n bq21_, c_n bq21_, c_n bq21_, c_n bq21_, c_d bq23_] [k_c f1_, k_c f6_, k_c f8_, k_c fq3_, k_l kq12_ (bF 4 (bT 1 [])) [.tup [iD (Int.ofNat 0), .list k8 c9], .tup [iD r10, iD r11], iD r12] [.tup [iD r10, iD r11], iD r12], k_c fq15_, k_c fq17_] (by kernel_rfl)
      have hq24_ := (if_neg bq23_).symm.trans hq22_
      obtain ⟨fq25_, hq26_⟩ := guardP_elim hq24_
      obtain rfl := Option.some.inj hq26_
      exact con_pc (op := true) (I := [19, 34, 60]) (sp := chopped_sp) 3000 (bF 1 (bT 12 (bF 6 []))) [.tup [.agg [.list k0 c1], iD r2], .agg [iD r3, iD r4], .agg [iD r5, iD r6], iD r7, .tup [iD (Int.ofNat 0), .list k8 c9], .tup [iD r10, iD r11], iD r12] [c_bn b5_, c_T, c_d b10_, c_d b10_, c_d b10_, c_d b10_, c_T, c_T, c_d bq1_, c_d bq1_, c_d bq1_, c_d bq1_, c_T, c_le 1, c_bn bq7_, c_f fq19_, c_n bq21_, c_n bq21_, c_n bq21_, c_n bq21_, c_n bq23_, c_f fq25_] [k_c f1_, k_c f6_, k_c f8_, k_c fq3_, k_l kq12_ (bF 5 []) [.tup [iD (Int.ofNat 0), .list k8 c9], .tup [iD r10, iD r11], iD r12] [.tup [iD r10, iD r11], iD r12], k_c fq15_, k_c fq17_] (by kernel_rfl)
    have hq27_ := (if_neg jq10_).symm.trans hq9_
    clear hq9_
    by_cases jq28_ : j = 1
    · have hq31_ := (if_pos jq28_).symm.trans hq27_
      clear hq27_
      subst jq28_
      obtain ⟨⟨⟩, eq29_, hq32_⟩ := pullD_elim hq31_
      clear hq31_
      obtain rfl := tup_inj eq29_
      have kq30_ := chopped_L10_in1 ka ca tm fl k0 c1 r2 r3 r4 r5 r6 r7 eq8_
      obtain ⟨⟨r13, r14⟩, fq33_, hq34_⟩ := pullD_elim hq32_
      replace fq33_ := m_39_ok fq33_
      obtain ⟨r15, fq35_, hq36_⟩ := pullD_elim hq34_
      replace fq35_ := m_46_ok fq35_
      by_cases bq37_ : IntKind.i64.wrap (tm + fl) > (1000000 : Int)
      · have hq38_ := (if_pos bq37_).symm.trans hq36_
        obtain rfl := Option.some.inj hq38_
        exact con_pc (op := true) (I := [19, 34, 60]) (sp := chopped_sp) 3000 (bF 1 (bT 12 (bF 1 (bT 5 [])))) [.tup [.agg [.list k0 c1], iD r2], .agg [iD r3, iD r4], .agg [iD r5, iD r6], iD r7, .tup [iD (Int.ofNat 1), .one (.tuple #[])], .tup [iD r13, iD r14], iD r15] [c_bn b5_, c_T, c_d b10_, c_d b10_, c_d b10_, c_d b10_, c_T, c_T, c_d bq1_, c_d bq1_, c_d bq1_, c_d bq1_, c_T, c_le 1, c_bn bq7_, ⟨fact (0 < 1 + 1 ∧ (1 + 1) * 16 ≤ 140737488355328 ∧ 1 + 1 ≤ 4611686018427387904), true, fact_mk (by decide)⟩, c_d bq37_, c_d bq37_, c_d bq37_, c_d bq37_, c_T] [k_c f1_, k_c f6_, k_c f8_, k_c fq3_, k_l kq30_ (bT 5 []) [.tup [iD (Int.ofNat 1), .one (.tuple #[])], .tup [iD r13, iD r14], iD r15] [.tup [iD r13, iD r14], iD r15], k_c fq33_, k_c fq35_] (by kernel_rfl)
      have hq38_ := (if_neg bq37_).symm.trans hq36_
      obtain ⟨fq39_, hq40_⟩ := guardP_elim hq38_
      obtain rfl := Option.some.inj hq40_
      exact con_pc (op := true) (I := [19, 34, 60]) (sp := chopped_sp) 3000 (bF 1 (bT 12 (bF 6 []))) [.tup [.agg [.list k0 c1], iD r2], .agg [iD r3, iD r4], .agg [iD r5, iD r6], iD r7, .tup [iD (Int.ofNat 1), .one (.tuple #[])], .tup [iD r13, iD r14], iD r15] [c_bn b5_, c_T, c_d b10_, c_d b10_, c_d b10_, c_d b10_, c_T, c_T, c_d bq1_, c_d bq1_, c_d bq1_, c_d bq1_, c_T, c_le 1, c_bn bq7_, ⟨fact (0 < 1 + 1 ∧ (1 + 1) * 16 ≤ 140737488355328 ∧ 1 + 1 ≤ 4611686018427387904), true, fact_mk (by decide)⟩, c_n bq37_, c_n bq37_, c_n bq37_, c_n bq37_, c_F, c_f fq39_] [k_c f1_, k_c f6_, k_c f8_, k_c fq3_, k_l kq30_ (bF 5 []) [.tup [iD (Int.ofNat 1), .one (.tuple #[])], .tup [iD r13, iD r14], iD r15] [.tup [iD r13, iD r14], iD r15], k_c fq33_, k_c fq35_] (by kernel_rfl)
    have hq41_ := (if_neg jq28_).symm.trans hq27_
    clear hq27_
    cases hq41_
  have hq2_ := (if_neg bq1_).symm.trans h
  by_cases bq42_ : fl > (100000 : Int)
  · have hq43_ := (if_pos bq42_).symm.trans hq2_
    obtain ⟨r16, fq44_, hq45_⟩ := pullD_elim hq43_
    replace fq44_ := m_33_ok fq44_
    by_cases bq46_ : r16 ≠ (0 : Int)
    · have hq47_ := (if_pos bq46_).symm.trans hq45_
      obtain rfl := Option.some.inj hq47_
      exact con_pc (op := true) (I := [19, 34, 60]) (sp := chopped_sp) 3000 (bF 1 (bT 7 (bF 4 (bT 2 [])))) [.tup [.agg [.list k0 c1], iD r2], .agg [iD r3, iD r4], .agg [iD r5, iD r6], iD r16] [c_bn b5_, c_T, c_d b10_, c_d b10_, c_d b10_, c_d b10_, c_T, c_T, c_n bq1_, c_n bq1_, c_n bq1_, c_n bq1_, c_d bq42_, c_le 1, c_b bq46_] [k_c f1_, k_c f6_, k_c f8_, k_c fq44_] (by kernel_rfl)
    have hq47_ := (if_neg bq46_).symm.trans hq45_
    have bq48_ : r16 = (0 : Int) := by first | exact bq46_ | simpa using bq46_
    obtain ⟨j, ds, eq49_, hq50_⟩ := bindL_elim hq47_
    by_cases jq51_ : j = 0
    · have hq54_ := (if_pos jq51_).symm.trans hq50_
      clear hq50_
      subst jq51_
      obtain ⟨⟨k17, c18⟩, eq52_, hq55_⟩ := pullD_elim hq54_
      clear hq54_
      obtain rfl := tup_inj eq52_
      have kq53_ := chopped_L10_in0 ka ca tm fl k0 c1 r2 r3 r4 r5 r6 r16 eq49_
      obtain ⟨⟨r19, r20⟩, fq56_, hq57_⟩ := pullD_elim hq55_
      replace fq56_ := m_39_ok fq56_
      obtain ⟨r21, fq58_, hq59_⟩ := pullD_elim hq57_
      replace fq58_ := m_46_ok fq58_
      obtain ⟨fq60_, hq61_⟩ := guardP_elim hq59_
      by_cases bq62_ : IntKind.i64.wrap (tm + fl) > (1000000 : Int)
      · have hq63_ := (if_pos bq62_).symm.trans hq61_
        obtain rfl := Option.some.inj hq63_
        exact con_pc (op := true) (I := [19, 34, 60]) (sp := chopped_sp) 3000 (bF 1 (bT 7 (bF 4 (bT 1 (bF 1 (bT 5 [])))))) [.tup [.agg [.list k0 c1], iD r2], .agg [iD r3, iD r4], .agg [iD r5, iD r6], iD r16, .tup [iD (Int.ofNat 0), .list k17 c18], .tup [iD r19, iD r20], iD r21] [c_bn b5_, c_T, c_d b10_, c_d b10_, c_d b10_, c_d b10_, c_T, c_T, c_n bq1_, c_n bq1_, c_n bq1_, c_n bq1_, c_d bq42_, c_le 1, c_bn bq48_, c_f fq60_, c_d bq62_, c_d bq62_, c_d bq62_, c_d bq62_, c_T] [k_c f1_, k_c f6_, k_c f8_, k_c fq44_, k_l kq53_ (bT 5 []) [.tup [iD (Int.ofNat 0), .list k17 c18], .tup [iD r19, iD r20], iD r21] [.tup [iD r19, iD r20], iD r21], k_c fq56_, k_c fq58_] (by kernel_rfl)
      have hq63_ := (if_neg bq62_).symm.trans hq61_
      by_cases bq64_ : (((k17 + (1 + 1)) : Nat) : Int) > (12 : Int)
      · have hq65_ := (if_pos bq64_).symm.trans hq63_
        obtain rfl := Option.some.inj hq65_
        exact con_pc (op := true) (I := [19, 34, 60]) (sp := chopped_sp) 3000 (bF 1 (bT 7 (bF 4 (bT 1 (bF 5 (bT 1 [])))))) [.tup [.agg [.list k0 c1], iD r2], .agg [iD r3, iD r4], .agg [iD r5, iD r6], iD r16, .tup [iD (Int.ofNat 0), .list k17 c18], .tup [iD r19, iD r20], iD r21] [c_bn b5_, c_T, c_d b10_, c_d b10_, c_d b10_, c_d b10_, c_T, c_T, c_n bq1_, c_n bq1_, c_n bq1_, c_n bq1_, c_d bq42_, c_le 1, c_bn bq48_, c_f fq60_, c_n bq62_, c_n bq62_, c_n bq62_, c_n bq62_, c_d bq64_] [k_c f1_, k_c f6_, k_c f8_, k_c fq44_, k_l kq53_ (bF 4 (bT 1 [])) [.tup [iD (Int.ofNat 0), .list k17 c18], .tup [iD r19, iD r20], iD r21] [.tup [iD r19, iD r20], iD r21], k_c fq56_, k_c fq58_] (by kernel_rfl)
      have hq65_ := (if_neg bq64_).symm.trans hq63_
      obtain ⟨fq66_, hq67_⟩ := guardP_elim hq65_
      obtain rfl := Option.some.inj hq67_
      exact con_pc (op := true) (I := [19, 34, 60]) (sp := chopped_sp) 3000 (bF 1 (bT 7 (bF 4 (bT 1 (bF 6 []))))) [.tup [.agg [.list k0 c1], iD r2], .agg [iD r3, iD r4], .agg [iD r5, iD r6], iD r16, .tup [iD (Int.ofNat 0), .list k17 c18], .tup [iD r19, iD r20], iD r21] [c_bn b5_, c_T, c_d b10_, c_d b10_, c_d b10_, c_d b10_, c_T, c_T, c_n bq1_, c_n bq1_, c_n bq1_, c_n bq1_, c_d bq42_, c_le 1, c_bn bq48_, c_f fq60_, c_n bq62_, c_n bq62_, c_n bq62_, c_n bq62_, c_n bq64_, c_f fq66_] [k_c f1_, k_c f6_, k_c f8_, k_c fq44_, k_l kq53_ (bF 5 []) [.tup [iD (Int.ofNat 0), .list k17 c18], .tup [iD r19, iD r20], iD r21] [.tup [iD r19, iD r20], iD r21], k_c fq56_, k_c fq58_] (by kernel_rfl)
    have hq68_ := (if_neg jq51_).symm.trans hq50_
    clear hq50_
    by_cases jq69_ : j = 1
    · have hq72_ := (if_pos jq69_).symm.trans hq68_
      clear hq68_
      subst jq69_
      obtain ⟨⟨⟩, eq70_, hq73_⟩ := pullD_elim hq72_
      clear hq72_
      obtain rfl := tup_inj eq70_
      have kq71_ := chopped_L10_in1 ka ca tm fl k0 c1 r2 r3 r4 r5 r6 r16 eq49_
      obtain ⟨⟨r22, r23⟩, fq74_, hq75_⟩ := pullD_elim hq73_
      replace fq74_ := m_39_ok fq74_
      obtain ⟨r24, fq76_, hq77_⟩ := pullD_elim hq75_
      replace fq76_ := m_46_ok fq76_
      by_cases bq78_ : IntKind.i64.wrap (tm + fl) > (1000000 : Int)
      · have hq79_ := (if_pos bq78_).symm.trans hq77_
        obtain rfl := Option.some.inj hq79_
        exact con_pc (op := true) (I := [19, 34, 60]) (sp := chopped_sp) 3000 (bF 1 (bT 7 (bF 4 (bT 1 (bF 1 (bT 5 [])))))) [.tup [.agg [.list k0 c1], iD r2], .agg [iD r3, iD r4], .agg [iD r5, iD r6], iD r16, .tup [iD (Int.ofNat 1), .one (.tuple #[])], .tup [iD r22, iD r23], iD r24] [c_bn b5_, c_T, c_d b10_, c_d b10_, c_d b10_, c_d b10_, c_T, c_T, c_n bq1_, c_n bq1_, c_n bq1_, c_n bq1_, c_d bq42_, c_le 1, c_bn bq48_, ⟨fact (0 < 1 + 1 ∧ (1 + 1) * 16 ≤ 140737488355328 ∧ 1 + 1 ≤ 4611686018427387904), true, fact_mk (by decide)⟩, c_d bq78_, c_d bq78_, c_d bq78_, c_d bq78_, c_T] [k_c f1_, k_c f6_, k_c f8_, k_c fq44_, k_l kq71_ (bT 5 []) [.tup [iD (Int.ofNat 1), .one (.tuple #[])], .tup [iD r22, iD r23], iD r24] [.tup [iD r22, iD r23], iD r24], k_c fq74_, k_c fq76_] (by kernel_rfl)
      have hq79_ := (if_neg bq78_).symm.trans hq77_
      obtain ⟨fq80_, hq81_⟩ := guardP_elim hq79_
      obtain rfl := Option.some.inj hq81_
      exact con_pc (op := true) (I := [19, 34, 60]) (sp := chopped_sp) 3000 (bF 1 (bT 7 (bF 4 (bT 1 (bF 6 []))))) [.tup [.agg [.list k0 c1], iD r2], .agg [iD r3, iD r4], .agg [iD r5, iD r6], iD r16, .tup [iD (Int.ofNat 1), .one (.tuple #[])], .tup [iD r22, iD r23], iD r24] [c_bn b5_, c_T, c_d b10_, c_d b10_, c_d b10_, c_d b10_, c_T, c_T, c_n bq1_, c_n bq1_, c_n bq1_, c_n bq1_, c_d bq42_, c_le 1, c_bn bq48_, ⟨fact (0 < 1 + 1 ∧ (1 + 1) * 16 ≤ 140737488355328 ∧ 1 + 1 ≤ 4611686018427387904), true, fact_mk (by decide)⟩, c_n bq78_, c_n bq78_, c_n bq78_, c_n bq78_, c_F, c_f fq80_] [k_c f1_, k_c f6_, k_c f8_, k_c fq44_, k_l kq71_ (bF 5 []) [.tup [iD (Int.ofNat 1), .one (.tuple #[])], .tup [iD r22, iD r23], iD r24] [.tup [iD r22, iD r23], iD r24], k_c fq74_, k_c fq76_] (by kernel_rfl)
    have hq82_ := (if_neg jq69_).symm.trans hq68_
    clear hq68_
    cases hq82_
  have hq43_ := (if_neg bq42_).symm.trans hq2_
  obtain ⟨r25, fq83_, hq84_⟩ := pullD_elim hq43_
  replace fq83_ := m_33_ok fq83_
  by_cases bq85_ : r25 ≠ (0 : Int)
  · have hq86_ := (if_pos bq85_).symm.trans hq84_
    obtain rfl := Option.some.inj hq86_
    exact con_pc (op := true) (I := [19, 34, 60]) (sp := chopped_sp) 3000 (bF 1 (bT 7 (bF 6 (bT 1 [])))) [.tup [.agg [.list k0 c1], iD r2], .agg [iD r3, iD r4], .agg [iD r5, iD r6], iD r25] [c_bn b5_, c_T, c_d b10_, c_d b10_, c_d b10_, c_d b10_, c_T, c_T, c_n bq1_, c_n bq1_, c_n bq1_, c_n bq1_, c_n bq42_, c_F, c_le 1, c_b bq85_] [k_c f1_, k_c f6_, k_c f8_, k_c fq83_] (by kernel_rfl)
  have hq86_ := (if_neg bq85_).symm.trans hq84_
  have bq87_ : r25 = (0 : Int) := by first | exact bq85_ | simpa using bq85_
  obtain ⟨j, ds, eq88_, hq89_⟩ := bindL_elim hq86_
  by_cases jq90_ : j = 0
  · have hq93_ := (if_pos jq90_).symm.trans hq89_
    clear hq89_
    subst jq90_
    obtain ⟨⟨k26, c27⟩, eq91_, hq94_⟩ := pullD_elim hq93_
    clear hq93_
    obtain rfl := tup_inj eq91_
    have kq92_ := chopped_L10_1_in0 ka ca tm fl k0 c1 r2 r3 r4 r5 r6 r25 eq88_
    obtain ⟨⟨r28, r29⟩, fq95_, hq96_⟩ := pullD_elim hq94_
    replace fq95_ := m_39_ok fq95_
    obtain ⟨r30, fq97_, hq98_⟩ := pullD_elim hq96_
    replace fq97_ := m_46_ok fq97_
    obtain ⟨fq99_, hq100_⟩ := guardP_elim hq98_
    by_cases bq101_ : IntKind.i64.wrap (tm + fl) > (1000000 : Int)
    · have hq102_ := (if_pos bq101_).symm.trans hq100_
      obtain rfl := Option.some.inj hq102_
      exact con_pc (op := true) (I := [19, 34, 60]) (sp := chopped_sp) 3000 (bF 1 (bT 7 (bF 7 (bT 5 [])))) [.tup [.agg [.list k0 c1], iD r2], .agg [iD r3, iD r4], .agg [iD r5, iD r6], iD r25, .tup [iD (Int.ofNat 0), .list k26 c27], .tup [iD r28, iD r29], iD r30] [c_bn b5_, c_T, c_d b10_, c_d b10_, c_d b10_, c_d b10_, c_T, c_T, c_n bq1_, c_n bq1_, c_n bq1_, c_n bq1_, c_n bq42_, c_F, c_le 1, c_bn bq87_, c_f fq99_, c_d bq101_, c_d bq101_, c_d bq101_, c_d bq101_, c_T] [k_c f1_, k_c f6_, k_c f8_, k_c fq83_, k_l kq92_ (bT 5 []) [.tup [iD (Int.ofNat 0), .list k26 c27], .tup [iD r28, iD r29], iD r30] [.tup [iD r28, iD r29], iD r30], k_c fq95_, k_c fq97_] (by kernel_rfl)
    have hq102_ := (if_neg bq101_).symm.trans hq100_
    by_cases bq103_ : (((k26 + (1 + 1)) : Nat) : Int) > (12 : Int)
    · have hq104_ := (if_pos bq103_).symm.trans hq102_
      obtain rfl := Option.some.inj hq104_
      exact con_pc (op := true) (I := [19, 34, 60]) (sp := chopped_sp) 3000 (bF 1 (bT 7 (bF 11 (bT 1 [])))) [.tup [.agg [.list k0 c1], iD r2], .agg [iD r3, iD r4], .agg [iD r5, iD r6], iD r25, .tup [iD (Int.ofNat 0), .list k26 c27], .tup [iD r28, iD r29], iD r30] [c_bn b5_, c_T, c_d b10_, c_d b10_, c_d b10_, c_d b10_, c_T, c_T, c_n bq1_, c_n bq1_, c_n bq1_, c_n bq1_, c_n bq42_, c_F, c_le 1, c_bn bq87_, c_f fq99_, c_n bq101_, c_n bq101_, c_n bq101_, c_n bq101_, c_d bq103_] [k_c f1_, k_c f6_, k_c f8_, k_c fq83_, k_l kq92_ (bF 4 (bT 1 [])) [.tup [iD (Int.ofNat 0), .list k26 c27], .tup [iD r28, iD r29], iD r30] [.tup [iD r28, iD r29], iD r30], k_c fq95_, k_c fq97_] (by kernel_rfl)
    have hq104_ := (if_neg bq103_).symm.trans hq102_
    obtain ⟨fq105_, hq106_⟩ := guardP_elim hq104_
    obtain rfl := Option.some.inj hq106_
    exact con_pc (op := true) (I := [19, 34, 60]) (sp := chopped_sp) 3000 (bF 1 (bT 7 (bF 12 []))) [.tup [.agg [.list k0 c1], iD r2], .agg [iD r3, iD r4], .agg [iD r5, iD r6], iD r25, .tup [iD (Int.ofNat 0), .list k26 c27], .tup [iD r28, iD r29], iD r30] [c_bn b5_, c_T, c_d b10_, c_d b10_, c_d b10_, c_d b10_, c_T, c_T, c_n bq1_, c_n bq1_, c_n bq1_, c_n bq1_, c_n bq42_, c_F, c_le 1, c_bn bq87_, c_f fq99_, c_n bq101_, c_n bq101_, c_n bq101_, c_n bq101_, c_n bq103_, c_f fq105_] [k_c f1_, k_c f6_, k_c f8_, k_c fq83_, k_l kq92_ (bF 5 []) [.tup [iD (Int.ofNat 0), .list k26 c27], .tup [iD r28, iD r29], iD r30] [.tup [iD r28, iD r29], iD r30], k_c fq95_, k_c fq97_] (by kernel_rfl)
  have hq107_ := (if_neg jq90_).symm.trans hq89_
  clear hq89_
  by_cases jq108_ : j = 1
  · have hq111_ := (if_pos jq108_).symm.trans hq107_
    clear hq107_
    subst jq108_
    obtain ⟨⟨⟩, eq109_, hq112_⟩ := pullD_elim hq111_
    clear hq111_
    obtain rfl := tup_inj eq109_
    have kq110_ := chopped_L10_1_in1 ka ca tm fl k0 c1 r2 r3 r4 r5 r6 r25 eq88_
    obtain ⟨⟨r31, r32⟩, fq113_, hq114_⟩ := pullD_elim hq112_
    replace fq113_ := m_39_ok fq113_
    obtain ⟨r33, fq115_, hq116_⟩ := pullD_elim hq114_
    replace fq115_ := m_46_ok fq115_
    by_cases bq117_ : IntKind.i64.wrap (tm + fl) > (1000000 : Int)
    · have hq118_ := (if_pos bq117_).symm.trans hq116_
      obtain rfl := Option.some.inj hq118_
      exact con_pc (op := true) (I := [19, 34, 60]) (sp := chopped_sp) 3000 (bF 1 (bT 7 (bF 7 (bT 5 [])))) [.tup [.agg [.list k0 c1], iD r2], .agg [iD r3, iD r4], .agg [iD r5, iD r6], iD r25, .tup [iD (Int.ofNat 1), .one (.tuple #[])], .tup [iD r31, iD r32], iD r33] [c_bn b5_, c_T, c_d b10_, c_d b10_, c_d b10_, c_d b10_, c_T, c_T, c_n bq1_, c_n bq1_, c_n bq1_, c_n bq1_, c_n bq42_, c_F, c_le 1, c_bn bq87_, ⟨fact (0 < 1 + 1 ∧ (1 + 1) * 16 ≤ 140737488355328 ∧ 1 + 1 ≤ 4611686018427387904), true, fact_mk (by decide)⟩, c_d bq117_, c_d bq117_, c_d bq117_, c_d bq117_, c_T] [k_c f1_, k_c f6_, k_c f8_, k_c fq83_, k_l kq110_ (bT 5 []) [.tup [iD (Int.ofNat 1), .one (.tuple #[])], .tup [iD r31, iD r32], iD r33] [.tup [iD r31, iD r32], iD r33], k_c fq113_, k_c fq115_] (by kernel_rfl)
    have hq118_ := (if_neg bq117_).symm.trans hq116_
    obtain ⟨fq119_, hq120_⟩ := guardP_elim hq118_
    obtain rfl := Option.some.inj hq120_
    exact con_pc (op := true) (I := [19, 34, 60]) (sp := chopped_sp) 3000 (bF 1 (bT 7 (bF 12 []))) [.tup [.agg [.list k0 c1], iD r2], .agg [iD r3, iD r4], .agg [iD r5, iD r6], iD r25, .tup [iD (Int.ofNat 1), .one (.tuple #[])], .tup [iD r31, iD r32], iD r33] [c_bn b5_, c_T, c_d b10_, c_d b10_, c_d b10_, c_d b10_, c_T, c_T, c_n bq1_, c_n bq1_, c_n bq1_, c_n bq1_, c_n bq42_, c_F, c_le 1, c_bn bq87_, ⟨fact (0 < 1 + 1 ∧ (1 + 1) * 16 ≤ 140737488355328 ∧ 1 + 1 ≤ 4611686018427387904), true, fact_mk (by decide)⟩, c_n bq117_, c_n bq117_, c_n bq117_, c_n bq117_, c_F, c_f fq119_] [k_c f1_, k_c f6_, k_c f8_, k_c fq83_, k_l kq110_ (bF 5 []) [.tup [iD (Int.ofNat 1), .one (.tuple #[])], .tup [iD r31, iD r32], iD r33] [.tup [iD r31, iD r32], iD r33], k_c fq113_, k_c fq115_] (by kernel_rfl)
  have hq121_ := (if_neg jq108_).symm.trans hq107_
  clear hq107_
  cases hq121_
theorem chopped_M_s1_ok (ka : Nat) (ca : List D) (tm fl : Int) (k0 : Nat) (c1 : List D) (r2 : Int) (r3 : Int) (r4 : Int) (r5 : Int) (r6 : Int) (f1_ : Con 36 [.agg [.list ka ca]] (.tup [.agg [.list k0 c1], iD r2])) (b5_ : r2 = (0 : Int)) (f6_ : Con 47 [.agg [.list k0 c1]] (.agg [iD r3, iD r4])) (f8_ : Con 48 [.agg [.list k0 c1]] (.agg [iD r5, iD r6])) (b10_ : ¬ (tm < IntKind.i64.wrap (r3 + (1 : Int)))) (b12_ : tm > r5) {r : D} (h : chopped_M_s1 ka ca tm fl k0 c1 r2 r3 r4 r5 r6 = some r) : Con 19 [.agg [.list ka ca], iD tm, iD fl] r := by
  unfold chopped_M_s1 at h
  by_cases bq1_ : fl < (1 : Int)
  · have hq2_ := (if_pos bq1_).symm.trans h
    obtain ⟨r34, fq3_, hq4_⟩ := pullD_elim hq2_
    replace fq3_ := m_33_ok fq3_
    by_cases bq5_ : r34 ≠ (0 : Int)
    · have hq6_ := (if_pos bq5_).symm.trans hq4_
      obtain rfl := Option.some.inj hq6_
      exact con_pc (op := true) (I := [19, 34, 60]) (sp := chopped_sp) 3000 (bF 1 (bT 1 (bF 4 (bT 8 [])))) [.tup [.agg [.list k0 c1], iD r2], .agg [iD r3, iD r4], .agg [iD r5, iD r6], iD r34] [c_bn b5_, c_T, c_n b10_, c_n b10_, c_n b10_, c_n b10_, c_d b12_, c_T, c_d bq1_, c_d bq1_, c_d bq1_, c_d bq1_, c_T, c_le 1, c_b bq5_] [k_c f1_, k_c f6_, k_c f8_, k_c fq3_] (by kernel_rfl)
    have hq6_ := (if_neg bq5_).symm.trans hq4_
    have bq7_ : r34 = (0 : Int) := by first | exact bq5_ | simpa using bq5_
    obtain ⟨j, ds, eq8_, hq9_⟩ := bindL_elim hq6_
    by_cases jq10_ : j = 0
    · have hq13_ := (if_pos jq10_).symm.trans hq9_
      clear hq9_
      subst jq10_
      obtain ⟨⟨k35, c36⟩, eq11_, hq14_⟩ := pullD_elim hq13_
      clear hq13_
      obtain rfl := tup_inj eq11_
      have kq12_ := chopped_L10_in0 ka ca tm fl k0 c1 r2 r3 r4 r5 r6 r34 eq8_
      obtain ⟨⟨r37, r38⟩, fq15_, hq16_⟩ := pullD_elim hq14_
      replace fq15_ := m_39_ok fq15_
      obtain ⟨r39, fq17_, hq18_⟩ := pullD_elim hq16_
      replace fq17_ := m_46_ok fq17_
      obtain ⟨fq19_, hq20_⟩ := guardP_elim hq18_
      by_cases bq21_ : IntKind.i64.wrap (tm + fl) > (1000000 : Int)
      · have hq22_ := (if_pos bq21_).symm.trans hq20_
        obtain rfl := Option.some.inj hq22_
        exact con_pc (op := true) (I := [19, 34, 60]) (sp := chopped_sp) 3000 (bF 1 (bT 1 (bF 4 (bT 7 (bF 1 (bT 5 [])))))) [.tup [.agg [.list k0 c1], iD r2], .agg [iD r3, iD r4], .agg [iD r5, iD r6], iD r34, .tup [iD (Int.ofNat 0), .list k35 c36], .tup [iD r37, iD r38], iD r39] [c_bn b5_, c_T, c_n b10_, c_n b10_, c_n b10_, c_n b10_, c_d b12_, c_T, c_d bq1_, c_d bq1_, c_d bq1_, c_d bq1_, c_T, c_le 1, c_bn bq7_, c_f fq19_, c_d bq21_, c_d bq21_, c_d bq21_, c_d bq21_, c_T] [k_c f1_, k_c f6_, k_c f8_, k_c fq3_, k_l kq12_ (bT 5 []) [.tup [iD (Int.ofNat 0), .list k35 c36], .tup [iD r37, iD r38], iD r39] [.tup [iD r37, iD r38], iD r39], k_c fq15_, k_c fq17_] (by kernel_rfl)
      have hq22_ := (if_neg bq21_).symm.trans hq20_
      by_cases bq23_ : (((k35 + (1 + 1)) : Nat) : Int) > (12 : Int)
      · have hq24_ := (if_pos bq23_).symm.trans hq22_
        obtain rfl := Option.some.inj hq24_
        exact con_pc (op := true) (I := [19, 34, 60]) (sp := chopped_sp) 3000 (bF 1 (bT 1 (bF 4 (bT 7 (bF 5 (bT 1 [])))))) [.tup [.agg [.list k0 c1], iD r2], .agg [iD r3, iD r4], .agg [iD r5, iD r6], iD r34, .tup [iD (Int.ofNat 0), .list k35 c36], .tup [iD r37, iD r38], iD r39] [c_bn b5_, c_T, c_n b10_, c_n b10_, c_n b10_, c_n b10_, c_d b12_, c_T, c_d bq1_, c_d bq1_, c_d bq1_, c_d bq1_, c_T, c_le 1, c_bn bq7_, c_f fq19_, c_n bq21_, c_n bq21_, c_n bq21_, c_n bq21_, c_d bq23_] [k_c f1_, k_c f6_, k_c f8_, k_c fq3_, k_l kq12_ (bF 4 (bT 1 [])) [.tup [iD (Int.ofNat 0), .list k35 c36], .tup [iD r37, iD r38], iD r39] [.tup [iD r37, iD r38], iD r39], k_c fq15_, k_c fq17_] (by kernel_rfl)
      have hq24_ := (if_neg bq23_).symm.trans hq22_
      obtain ⟨fq25_, hq26_⟩ := guardP_elim hq24_
      obtain rfl := Option.some.inj hq26_
      exact con_pc (op := true) (I := [19, 34, 60]) (sp := chopped_sp) 3000 (bF 1 (bT 1 (bF 4 (bT 7 (bF 6 []))))) [.tup [.agg [.list k0 c1], iD r2], .agg [iD r3, iD r4], .agg [iD r5, iD r6], iD r34, .tup [iD (Int.ofNat 0), .list k35 c36], .tup [iD r37, iD r38], iD r39] [c_bn b5_, c_T, c_n b10_, c_n b10_, c_n b10_, c_n b10_, c_d b12_, c_T, c_d bq1_, c_d bq1_, c_d bq1_, c_d bq1_, c_T, c_le 1, c_bn bq7_, c_f fq19_, c_n bq21_, c_n bq21_, c_n bq21_, c_n bq21_, c_n bq23_, c_f fq25_] [k_c f1_, k_c f6_, k_c f8_, k_c fq3_, k_l kq12_ (bF 5 []) [.tup [iD (Int.ofNat 0), .list k35 c36], .tup [iD r37, iD r38], iD r39] [.tup [iD r37, iD r38], iD r39], k_c fq15_, k_c fq17_] (by kernel_rfl)
    have hq27_ := (if_neg jq10_).symm.trans hq9_
    clear hq9_
    by_cases jq28_ : j = 1
    · have hq31_ := (if_pos jq28_).symm.trans hq27_
      clear hq27_
      subst jq28_
      obtain ⟨⟨⟩, eq29_, hq32_⟩ := pullD_elim hq31_
      clear hq31_
      obtain rfl := tup_inj eq29_
      have kq30_ := chopped_L10_in1 ka ca tm fl k0 c1 r2 r3 r4 r5 r6 r34 eq8_
      obtain ⟨⟨r40, r41⟩, fq33_, hq34_⟩ := pullD_elim hq32_
      replace fq33_ := m_39_ok fq33_
      obtain ⟨r42, fq35_, hq36_⟩ := pullD_elim hq34_
      replace fq35_ := m_46_ok fq35_
      by_cases bq37_ : IntKind.i64.wrap (tm + fl) > (1000000 : Int)
      · have hq38_ := (if_pos bq37_).symm.trans hq36_
        obtain rfl := Option.some.inj hq38_
        exact con_pc (op := true) (I := [19, 34, 60]) (sp := chopped_sp) 3000 (bF 1 (bT 1 (bF 4 (bT 7 (bF 1 (bT 5 [])))))) [.tup [.agg [.list k0 c1], iD r2], .agg [iD r3, iD r4], .agg [iD r5, iD r6], iD r34, .tup [iD (Int.ofNat 1), .one (.tuple #[])], .tup [iD r40, iD r41], iD r42] [c_bn b5_, c_T, c_n b10_, c_n b10_, c_n b10_, c_n b10_, c_d b12_, c_T, c_d bq1_, c_d bq1_, c_d bq1_, c_d bq1_, c_T, c_le 1, c_bn bq7_, ⟨fact (0 < 1 + 1 ∧ (1 + 1) * 16 ≤ 140737488355328 ∧ 1 + 1 ≤ 4611686018427387904), true, fact_mk (by decide)⟩, c_d bq37_, c_d bq37_, c_d bq37_, c_d bq37_, c_T] [k_c f1_, k_c f6_, k_c f8_, k_c fq3_, k_l kq30_ (bT 5 []) [.tup [iD (Int.ofNat 1), .one (.tuple #[])], .tup [iD r40, iD r41], iD r42] [.tup [iD r40, iD r41], iD r42], k_c fq33_, k_c fq35_] (by kernel_rfl)
      have hq38_ := (if_neg bq37_).symm.trans hq36_
      obtain ⟨fq39_, hq40_⟩ := guardP_elim hq38_
      obtain rfl := Option.some.inj hq40_
      exact con_pc (op := true) (I := [19, 34, 60]) (sp := chopped_sp) 3000 (bF 1 (bT 1 (bF 4 (bT 7 (bF 6 []))))) [.tup [.agg [.list k0 c1], iD r2], .agg [iD r3, iD r4], .agg [iD r5, iD r6], iD r34, .tup [iD (Int.ofNat 1), .one (.tuple #[])], .tup [iD r40, iD r41], iD r42] [c_bn b5_, c_T, c_n b10_, c_n b10_, c_n b10_, c_n b10_, c_d b12_, c_T, c_d bq1_, c_d bq1_, c_d bq1_, c_d bq1_, c_T, c_le 1, c_bn bq7_, ⟨fact (0 < 1 + 1 ∧ (1 + 1) * 16 ≤ 140737488355328 ∧ 1 + 1 ≤ 4611686018427387904), true, fact_mk (by decide)⟩, c_n bq37_, c_n bq37_, c_n bq37_, c_n bq37_, c_F, c_f fq39_] [k_c f1_, k_c f6_, k_c f8_, k_c fq3_, k_l kq30_ (bF 5 []) [.tup [iD (Int.ofNat 1), .one (.tuple #[])], .tup [iD r40, iD r41], iD r42] [.tup [iD r40, iD r41], iD r42], k_c fq33_, k_c fq35_] (by kernel_rfl)
    have hq41_ := (if_neg jq28_).symm.trans hq27_
    clear hq27_
    cases hq41_
  have hq2_ := (if_neg bq1_).symm.trans h
  by_cases bq42_ : fl > (100000 : Int)
  · have hq43_ := (if_pos bq42_).symm.trans hq2_
    obtain ⟨r43, fq44_, hq45_⟩ := pullD_elim hq43_
    replace fq44_ := m_33_ok fq44_
    by_cases bq46_ : r43 ≠ (0 : Int)
    · have hq47_ := (if_pos bq46_).symm.trans hq45_
      obtain rfl := Option.some.inj hq47_
      exact con_pc (op := true) (I := [19, 34, 60]) (sp := chopped_sp) 3000 (bF 1 (bT 1 (bF 4 (bT 2 (bF 4 (bT 2 [])))))) [.tup [.agg [.list k0 c1], iD r2], .agg [iD r3, iD r4], .agg [iD r5, iD r6], iD r43] [c_bn b5_, c_T, c_n b10_, c_n b10_, c_n b10_, c_n b10_, c_d b12_, c_T, c_n bq1_, c_n bq1_, c_n bq1_, c_n bq1_, c_d bq42_, c_le 1, c_b bq46_] [k_c f1_, k_c f6_, k_c f8_, k_c fq44_] (by kernel_rfl)
    have hq47_ := (if_neg bq46_).symm.trans hq45_
    have bq48_ : r43 = (0 : Int) := by first | exact bq46_ | simpa using bq46_
    obtain ⟨j, ds, eq49_, hq50_⟩ := bindL_elim hq47_
    by_cases jq51_ : j = 0
    · have hq54_ := (if_pos jq51_).symm.trans hq50_
      clear hq50_
      subst jq51_
      obtain ⟨⟨k44, c45⟩, eq52_, hq55_⟩ := pullD_elim hq54_
      clear hq54_
      obtain rfl := tup_inj eq52_
      have kq53_ := chopped_L10_in0 ka ca tm fl k0 c1 r2 r3 r4 r5 r6 r43 eq49_
      obtain ⟨⟨r46, r47⟩, fq56_, hq57_⟩ := pullD_elim hq55_
      replace fq56_ := m_39_ok fq56_
      obtain ⟨r48, fq58_, hq59_⟩ := pullD_elim hq57_
      replace fq58_ := m_46_ok fq58_
      obtain ⟨fq60_, hq61_⟩ := guardP_elim hq59_
      by_cases bq62_ : IntKind.i64.wrap (tm + fl) > (1000000 : Int)
      · have hq63_ := (if_pos bq62_).symm.trans hq61_
        obtain rfl := Option.some.inj hq63_
        exact con_pc (op := true) (I := [19, 34, 60]) (sp := chopped_sp) 3000 (bF 1 (bT 1 (bF 4 (bT 2 (bF 4 (bT 1 (bF 1 (bT 5 [])))))))) [.tup [.agg [.list k0 c1], iD r2], .agg [iD r3, iD r4], .agg [iD r5, iD r6], iD r43, .tup [iD (Int.ofNat 0), .list k44 c45], .tup [iD r46, iD r47], iD r48] [c_bn b5_, c_T, c_n b10_, c_n b10_, c_n b10_, c_n b10_, c_d b12_, c_T, c_n bq1_, c_n bq1_, c_n bq1_, c_n bq1_, c_d bq42_, c_le 1, c_bn bq48_, c_f fq60_, c_d bq62_, c_d bq62_, c_d bq62_, c_d bq62_, c_T] [k_c f1_, k_c f6_, k_c f8_, k_c fq44_, k_l kq53_ (bT 5 []) [.tup [iD (Int.ofNat 0), .list k44 c45], .tup [iD r46, iD r47], iD r48] [.tup [iD r46, iD r47], iD r48], k_c fq56_, k_c fq58_] (by kernel_rfl)
      have hq63_ := (if_neg bq62_).symm.trans hq61_
      by_cases bq64_ : (((k44 + (1 + 1)) : Nat) : Int) > (12 : Int)
      · have hq65_ := (if_pos bq64_).symm.trans hq63_
        obtain rfl := Option.some.inj hq65_
        exact con_pc (op := true) (I := [19, 34, 60]) (sp := chopped_sp) 3000 (bF 1 (bT 1 (bF 4 (bT 2 (bF 4 (bT 1 (bF 5 (bT 1 [])))))))) [.tup [.agg [.list k0 c1], iD r2], .agg [iD r3, iD r4], .agg [iD r5, iD r6], iD r43, .tup [iD (Int.ofNat 0), .list k44 c45], .tup [iD r46, iD r47], iD r48] [c_bn b5_, c_T, c_n b10_, c_n b10_, c_n b10_, c_n b10_, c_d b12_, c_T, c_n bq1_, c_n bq1_, c_n bq1_, c_n bq1_, c_d bq42_, c_le 1, c_bn bq48_, c_f fq60_, c_n bq62_, c_n bq62_, c_n bq62_, c_n bq62_, c_d bq64_] [k_c f1_, k_c f6_, k_c f8_, k_c fq44_, k_l kq53_ (bF 4 (bT 1 [])) [.tup [iD (Int.ofNat 0), .list k44 c45], .tup [iD r46, iD r47], iD r48] [.tup [iD r46, iD r47], iD r48], k_c fq56_, k_c fq58_] (by kernel_rfl)
      have hq65_ := (if_neg bq64_).symm.trans hq63_
      obtain ⟨fq66_, hq67_⟩ := guardP_elim hq65_
      obtain rfl := Option.some.inj hq67_
      exact con_pc (op := true) (I := [19, 34, 60]) (sp := chopped_sp) 3000 (bF 1 (bT 1 (bF 4 (bT 2 (bF 4 (bT 1 (bF 6 []))))))) [.tup [.agg [.list k0 c1], iD r2], .agg [iD r3, iD r4], .agg [iD r5, iD r6], iD r43, .tup [iD (Int.ofNat 0), .list k44 c45], .tup [iD r46, iD r47], iD r48] [c_bn b5_, c_T, c_n b10_, c_n b10_, c_n b10_, c_n b10_, c_d b12_, c_T, c_n bq1_, c_n bq1_, c_n bq1_, c_n bq1_, c_d bq42_, c_le 1, c_bn bq48_, c_f fq60_, c_n bq62_, c_n bq62_, c_n bq62_, c_n bq62_, c_n bq64_, c_f fq66_] [k_c f1_, k_c f6_, k_c f8_, k_c fq44_, k_l kq53_ (bF 5 []) [.tup [iD (Int.ofNat 0), .list k44 c45], .tup [iD r46, iD r47], iD r48] [.tup [iD r46, iD r47], iD r48], k_c fq56_, k_c fq58_] (by kernel_rfl)
    have hq68_ := (if_neg jq51_).symm.trans hq50_
    clear hq50_
    by_cases jq69_ : j = 1
    · have hq72_ := (if_pos jq69_).symm.trans hq68_
      clear hq68_
      subst jq69_
      obtain ⟨⟨⟩, eq70_, hq73_⟩ := pullD_elim hq72_
      clear hq72_
      obtain rfl := tup_inj eq70_
      have kq71_ := chopped_L10_in1 ka ca tm fl k0 c1 r2 r3 r4 r5 r6 r43 eq49_
      obtain ⟨⟨r49, r50⟩, fq74_, hq75_⟩ := pullD_elim hq73_
      replace fq74_ := m_39_ok fq74_
      obtain ⟨r51, fq76_, hq77_⟩ := pullD_elim hq75_
      replace fq76_ := m_46_ok fq76_
      by_cases bq78_ : IntKind.i64.wrap (tm + fl) > (1000000 : Int)
      · have hq79_ := (if_pos bq78_).symm.trans hq77_
        obtain rfl := Option.some.inj hq79_
        exact con_pc (op := true) (I := [19, 34, 60]) (sp := chopped_sp) 3000 (bF 1 (bT 1 (bF 4 (bT 2 (bF 4 (bT 1 (bF 1 (bT 5 [])))))))) [.tup [.agg [.list k0 c1], iD r2], .agg [iD r3, iD r4], .agg [iD r5, iD r6], iD r43, .tup [iD (Int.ofNat 1), .one (.tuple #[])], .tup [iD r49, iD r50], iD r51] [c_bn b5_, c_T, c_n b10_, c_n b10_, c_n b10_, c_n b10_, c_d b12_, c_T, c_n bq1_, c_n bq1_, c_n bq1_, c_n bq1_, c_d bq42_, c_le 1, c_bn bq48_, ⟨fact (0 < 1 + 1 ∧ (1 + 1) * 16 ≤ 140737488355328 ∧ 1 + 1 ≤ 4611686018427387904), true, fact_mk (by decide)⟩, c_d bq78_, c_d bq78_, c_d bq78_, c_d bq78_, c_T] [k_c f1_, k_c f6_, k_c f8_, k_c fq44_, k_l kq71_ (bT 5 []) [.tup [iD (Int.ofNat 1), .one (.tuple #[])], .tup [iD r49, iD r50], iD r51] [.tup [iD r49, iD r50], iD r51], k_c fq74_, k_c fq76_] (by kernel_rfl)
      have hq79_ := (if_neg bq78_).symm.trans hq77_
      obtain ⟨fq80_, hq81_⟩ := guardP_elim hq79_
      obtain rfl := Option.some.inj hq81_
      exact con_pc (op := true) (I := [19, 34, 60]) (sp := chopped_sp) 3000 (bF 1 (bT 1 (bF 4 (bT 2 (bF 4 (bT 1 (bF 6 []))))))) [.tup [.agg [.list k0 c1], iD r2], .agg [iD r3, iD r4], .agg [iD r5, iD r6], iD r43, .tup [iD (Int.ofNat 1), .one (.tuple #[])], .tup [iD r49, iD r50], iD r51] [c_bn b5_, c_T, c_n b10_, c_n b10_, c_n b10_, c_n b10_, c_d b12_, c_T, c_n bq1_, c_n bq1_, c_n bq1_, c_n bq1_, c_d bq42_, c_le 1, c_bn bq48_, ⟨fact (0 < 1 + 1 ∧ (1 + 1) * 16 ≤ 140737488355328 ∧ 1 + 1 ≤ 4611686018427387904), true, fact_mk (by decide)⟩, c_n bq78_, c_n bq78_, c_n bq78_, c_n bq78_, c_F, c_f fq80_] [k_c f1_, k_c f6_, k_c f8_, k_c fq44_, k_l kq71_ (bF 5 []) [.tup [iD (Int.ofNat 1), .one (.tuple #[])], .tup [iD r49, iD r50], iD r51] [.tup [iD r49, iD r50], iD r51], k_c fq74_, k_c fq76_] (by kernel_rfl)
    have hq82_ := (if_neg jq69_).symm.trans hq68_
    clear hq68_
    cases hq82_
  have hq43_ := (if_neg bq42_).symm.trans hq2_
  obtain ⟨r52, fq83_, hq84_⟩ := pullD_elim hq43_
  replace fq83_ := m_33_ok fq83_
  by_cases bq85_ : r52 ≠ (0 : Int)
  · have hq86_ := (if_pos bq85_).symm.trans hq84_
    obtain rfl := Option.some.inj hq86_
    exact con_pc (op := true) (I := [19, 34, 60]) (sp := chopped_sp) 3000 (bF 1 (bT 1 (bF 4 (bT 2 (bF 6 (bT 1 [])))))) [.tup [.agg [.list k0 c1], iD r2], .agg [iD r3, iD r4], .agg [iD r5, iD r6], iD r52] [c_bn b5_, c_T, c_n b10_, c_n b10_, c_n b10_, c_n b10_, c_d b12_, c_T, c_n bq1_, c_n bq1_, c_n bq1_, c_n bq1_, c_n bq42_, c_F, c_le 1, c_b bq85_] [k_c f1_, k_c f6_, k_c f8_, k_c fq83_] (by kernel_rfl)
  have hq86_ := (if_neg bq85_).symm.trans hq84_
  have bq87_ : r52 = (0 : Int) := by first | exact bq85_ | simpa using bq85_
  obtain ⟨j, ds, eq88_, hq89_⟩ := bindL_elim hq86_
  by_cases jq90_ : j = 0
  · have hq93_ := (if_pos jq90_).symm.trans hq89_
    clear hq89_
    subst jq90_
    obtain ⟨⟨k53, c54⟩, eq91_, hq94_⟩ := pullD_elim hq93_
    clear hq93_
    obtain rfl := tup_inj eq91_
    have kq92_ := chopped_L10_1_in0 ka ca tm fl k0 c1 r2 r3 r4 r5 r6 r52 eq88_
    obtain ⟨⟨r55, r56⟩, fq95_, hq96_⟩ := pullD_elim hq94_
    replace fq95_ := m_39_ok fq95_
    obtain ⟨r57, fq97_, hq98_⟩ := pullD_elim hq96_
    replace fq97_ := m_46_ok fq97_
    obtain ⟨fq99_, hq100_⟩ := guardP_elim hq98_
    by_cases bq101_ : IntKind.i64.wrap (tm + fl) > (1000000 : Int)
    · have hq102_ := (if_pos bq101_).symm.trans hq100_
      obtain rfl := Option.some.inj hq102_
      exact con_pc (op := true) (I := [19, 34, 60]) (sp := chopped_sp) 3000 (bF 1 (bT 1 (bF 4 (bT 2 (bF 7 (bT 5 [])))))) [.tup [.agg [.list k0 c1], iD r2], .agg [iD r3, iD r4], .agg [iD r5, iD r6], iD r52, .tup [iD (Int.ofNat 0), .list k53 c54], .tup [iD r55, iD r56], iD r57] [c_bn b5_, c_T, c_n b10_, c_n b10_, c_n b10_, c_n b10_, c_d b12_, c_T, c_n bq1_, c_n bq1_, c_n bq1_, c_n bq1_, c_n bq42_, c_F, c_le 1, c_bn bq87_, c_f fq99_, c_d bq101_, c_d bq101_, c_d bq101_, c_d bq101_, c_T] [k_c f1_, k_c f6_, k_c f8_, k_c fq83_, k_l kq92_ (bT 5 []) [.tup [iD (Int.ofNat 0), .list k53 c54], .tup [iD r55, iD r56], iD r57] [.tup [iD r55, iD r56], iD r57], k_c fq95_, k_c fq97_] (by kernel_rfl)
    have hq102_ := (if_neg bq101_).symm.trans hq100_
    by_cases bq103_ : (((k53 + (1 + 1)) : Nat) : Int) > (12 : Int)
    · have hq104_ := (if_pos bq103_).symm.trans hq102_
      obtain rfl := Option.some.inj hq104_
      exact con_pc (op := true) (I := [19, 34, 60]) (sp := chopped_sp) 3000 (bF 1 (bT 1 (bF 4 (bT 2 (bF 11 (bT 1 [])))))) [.tup [.agg [.list k0 c1], iD r2], .agg [iD r3, iD r4], .agg [iD r5, iD r6], iD r52, .tup [iD (Int.ofNat 0), .list k53 c54], .tup [iD r55, iD r56], iD r57] [c_bn b5_, c_T, c_n b10_, c_n b10_, c_n b10_, c_n b10_, c_d b12_, c_T, c_n bq1_, c_n bq1_, c_n bq1_, c_n bq1_, c_n bq42_, c_F, c_le 1, c_bn bq87_, c_f fq99_, c_n bq101_, c_n bq101_, c_n bq101_, c_n bq101_, c_d bq103_] [k_c f1_, k_c f6_, k_c f8_, k_c fq83_, k_l kq92_ (bF 4 (bT 1 [])) [.tup [iD (Int.ofNat 0), .list k53 c54], .tup [iD r55, iD r56], iD r57] [.tup [iD r55, iD r56], iD r57], k_c fq95_, k_c fq97_] (by kernel_rfl)
    have hq104_ := (if_neg bq103_).symm.trans hq102_
    obtain ⟨fq105_, hq106_⟩ := guardP_elim hq104_
    obtain rfl := Option.some.inj hq106_
    exact con_pc (op := true) (I := [19, 34, 60]) (sp := chopped_sp) 3000 (bF 1 (bT 1 (bF 4 (bT 2 (bF 12 []))))) [.tup [.agg [.list k0 c1], iD r2], .agg [iD r3, iD r4], .agg [iD r5, iD r6], iD r52, .tup [iD (Int.ofNat 0), .list k53 c54], .tup [iD r55, iD r56], iD r57] [c_bn b5_, c_T, c_n b10_, c_n b10_, c_n b10_, c_n b10_, c_d b12_, c_T, c_n bq1_, c_n bq1_, c_n bq1_, c_n bq1_, c_n bq42_, c_F, c_le 1, c_bn bq87_, c_f fq99_, c_n bq101_, c_n bq101_, c_n bq101_, c_n bq101_, c_n bq103_, c_f fq105_] [k_c f1_, k_c f6_, k_c f8_, k_c fq83_, k_l kq92_ (bF 5 []) [.tup [iD (Int.ofNat 0), .list k53 c54], .tup [iD r55, iD r56], iD r57] [.tup [iD r55, iD r56], iD r57], k_c fq95_, k_c fq97_] (by kernel_rfl)
  have hq107_ := (if_neg jq90_).symm.trans hq89_
  clear hq89_
  by_cases jq108_ : j = 1
  · have hq111_ := (if_pos jq108_).symm.trans hq107_
    clear hq107_
    subst jq108_
    obtain ⟨⟨⟩, eq109_, hq112_⟩ := pullD_elim hq111_
    clear hq111_
    obtain rfl := tup_inj eq109_
    have kq110_ := chopped_L10_1_in1 ka ca tm fl k0 c1 r2 r3 r4 r5 r6 r52 eq88_
    obtain ⟨⟨r58, r59⟩, fq113_, hq114_⟩ := pullD_elim hq112_
    replace fq113_ := m_39_ok fq113_
    obtain ⟨r60, fq115_, hq116_⟩ := pullD_elim hq114_
    replace fq115_ := m_46_ok fq115_
    by_cases bq117_ : IntKind.i64.wrap (tm + fl) > (1000000 : Int)
    · have hq118_ := (if_pos bq117_).symm.trans hq116_
      obtain rfl := Option.some.inj hq118_
      exact con_pc (op := true) (I := [19, 34, 60]) (sp := chopped_sp) 3000 (bF 1 (bT 1 (bF 4 (bT 2 (bF 7 (bT 5 [])))))) [.tup [.agg [.list k0 c1], iD r2], .agg [iD r3, iD r4], .agg [iD r5, iD r6], iD r52, .tup [iD (Int.ofNat 1), .one (.tuple #[])], .tup [iD r58, iD r59], iD r60] [c_bn b5_, c_T, c_n b10_, c_n b10_, c_n b10_, c_n b10_, c_d b12_, c_T, c_n bq1_, c_n bq1_, c_n bq1_, c_n bq1_, c_n bq42_, c_F, c_le 1, c_bn bq87_, ⟨fact (0 < 1 + 1 ∧ (1 + 1) * 16 ≤ 140737488355328 ∧ 1 + 1 ≤ 4611686018427387904), true, fact_mk (by decide)⟩, c_d bq117_, c_d bq117_, c_d bq117_, c_d bq117_, c_T] [k_c f1_, k_c f6_, k_c f8_, k_c fq83_, k_l kq110_ (bT 5 []) [.tup [iD (Int.ofNat 1), .one (.tuple #[])], .tup [iD r58, iD r59], iD r60] [.tup [iD r58, iD r59], iD r60], k_c fq113_, k_c fq115_] (by kernel_rfl)
    have hq118_ := (if_neg bq117_).symm.trans hq116_
    obtain ⟨fq119_, hq120_⟩ := guardP_elim hq118_
    obtain rfl := Option.some.inj hq120_
    exact con_pc (op := true) (I := [19, 34, 60]) (sp := chopped_sp) 3000 (bF 1 (bT 1 (bF 4 (bT 2 (bF 12 []))))) [.tup [.agg [.list k0 c1], iD r2], .agg [iD r3, iD r4], .agg [iD r5, iD r6], iD r52, .tup [iD (Int.ofNat 1), .one (.tuple #[])], .tup [iD r58, iD r59], iD r60] [c_bn b5_, c_T, c_n b10_, c_n b10_, c_n b10_, c_n b10_, c_d b12_, c_T, c_n bq1_, c_n bq1_, c_n bq1_, c_n bq1_, c_n bq42_, c_F, c_le 1, c_bn bq87_, ⟨fact (0 < 1 + 1 ∧ (1 + 1) * 16 ≤ 140737488355328 ∧ 1 + 1 ≤ 4611686018427387904), true, fact_mk (by decide)⟩, c_n bq117_, c_n bq117_, c_n bq117_, c_n bq117_, c_F, c_f fq119_] [k_c f1_, k_c f6_, k_c f8_, k_c fq83_, k_l kq110_ (bF 5 []) [.tup [iD (Int.ofNat 1), .one (.tuple #[])], .tup [iD r58, iD r59], iD r60] [.tup [iD r58, iD r59], iD r60], k_c fq113_, k_c fq115_] (by kernel_rfl)
  have hq121_ := (if_neg jq108_).symm.trans hq107_
  clear hq107_
  cases hq121_
theorem chopped_M_s2_ok (ka : Nat) (ca : List D) (tm fl : Int) (k0 : Nat) (c1 : List D) (r2 : Int) (r3 : Int) (r4 : Int) (r5 : Int) (r6 : Int) (f1_ : Con 36 [.agg [.list ka ca]] (.tup [.agg [.list k0 c1], iD r2])) (b5_ : r2 = (0 : Int)) (f6_ : Con 47 [.agg [.list k0 c1]] (.agg [iD r3, iD r4])) (f8_ : Con 48 [.agg [.list k0 c1]] (.agg [iD r5, iD r6])) (b10_ : ¬ (tm < IntKind.i64.wrap (r3 + (1 : Int)))) (b12_ : ¬ (tm > r5)) {r : D} (h : chopped_M_s2 ka ca tm fl k0 c1 r2 r3 r4 r5 r6 = some r) : Con 19 [.agg [.list ka ca], iD tm, iD fl] r := by
  unfold chopped_M_s2 at h
  by_cases bq1_ : fl < (1 : Int)
  · have hq2_ := (if_pos bq1_).symm.trans h
    obtain ⟨r61, fq3_, hq4_⟩ := pullD_elim hq2_
    replace fq3_ := m_33_ok fq3_
    by_cases bq5_ : r61 ≠ (0 : Int)
    · have hq6_ := (if_pos bq5_).symm.trans hq4_
      obtain rfl := Option.some.inj hq6_
      exact con_pc (op := true) (I := [19, 34, 60]) (sp := chopped_sp) 3000 (bF 1 (bT 1 (bF 6 (bT 7 [])))) [.tup [.agg [.list k0 c1], iD r2], .agg [iD r3, iD r4], .agg [iD r5, iD r6], iD r61] [c_bn b5_, c_T, c_n b10_, c_n b10_, c_n b10_, c_n b10_, c_n b12_, c_F, c_T, c_d bq1_, c_d bq1_, c_d bq1_, c_d bq1_, c_T, c_le 1, c_b bq5_] [k_c f1_, k_c f6_, k_c f8_, k_c fq3_] (by kernel_rfl)
    have hq6_ := (if_neg bq5_).symm.trans hq4_
    have bq7_ : r61 = (0 : Int) := by first | exact bq5_ | simpa using bq5_
    obtain ⟨j, ds, eq8_, hq9_⟩ := bindL_elim hq6_
    by_cases jq10_ : j = 0
    · have hq13_ := (if_pos jq10_).symm.trans hq9_
      clear hq9_
      subst jq10_
      obtain ⟨⟨k62, c63⟩, eq11_, hq14_⟩ := pullD_elim hq13_
      clear hq13_
      obtain rfl := tup_inj eq11_
      have kq12_ := chopped_L10_2_in0 ka ca tm fl k0 c1 r2 r3 r4 r5 r6 r61 eq8_
      obtain ⟨⟨r64, r65⟩, fq15_, hq16_⟩ := pullD_elim hq14_
      replace fq15_ := m_39_ok fq15_
      obtain ⟨r66, fq17_, hq18_⟩ := pullD_elim hq16_
      replace fq17_ := m_46_ok fq17_
      obtain ⟨fq19_, hq20_⟩ := guardP_elim hq18_
      by_cases bq21_ : IntKind.i64.wrap (tm + fl) > (1000000 : Int)
      · have hq22_ := (if_pos bq21_).symm.trans hq20_
        obtain rfl := Option.some.inj hq22_
        exact con_pc (op := true) (I := [19, 34, 60]) (sp := chopped_sp) 3000 (bF 1 (bT 1 (bF 6 (bT 6 (bF 1 (bT 5 [])))))) [.tup [.agg [.list k0 c1], iD r2], .agg [iD r3, iD r4], .agg [iD r5, iD r6], iD r61, .tup [iD (Int.ofNat 0), .list k62 c63], .tup [iD r64, iD r65], iD r66] [c_bn b5_, c_T, c_n b10_, c_n b10_, c_n b10_, c_n b10_, c_n b12_, c_F, c_T, c_d bq1_, c_d bq1_, c_d bq1_, c_d bq1_, c_T, c_le 1, c_bn bq7_, c_f fq19_, c_d bq21_, c_d bq21_, c_d bq21_, c_d bq21_, c_T] [k_c f1_, k_c f6_, k_c f8_, k_c fq3_, k_l kq12_ (bT 5 []) [.tup [iD (Int.ofNat 0), .list k62 c63], .tup [iD r64, iD r65], iD r66] [.tup [iD r64, iD r65], iD r66], k_c fq15_, k_c fq17_] (by kernel_rfl)
      have hq22_ := (if_neg bq21_).symm.trans hq20_
      by_cases bq23_ : (((k62 + (1 + 1)) : Nat) : Int) > (12 : Int)
      · have hq24_ := (if_pos bq23_).symm.trans hq22_
        obtain rfl := Option.some.inj hq24_
        exact con_pc (op := true) (I := [19, 34, 60]) (sp := chopped_sp) 3000 (bF 1 (bT 1 (bF 6 (bT 6 (bF 5 (bT 1 [])))))) [.tup [.agg [.list k0 c1], iD r2], .agg [iD r3, iD r4], .agg [iD r5, iD r6], iD r61, .tup [iD (Int.ofNat 0), .list k62 c63], .tup [iD r64, iD r65], iD r66] [c_bn b5_, c_T, c_n b10_, c_n b10_, c_n b10_, c_n b10_, c_n b12_, c_F, c_T, c_d bq1_, c_d bq1_, c_d bq1_, c_d bq1_, c_T, c_le 1, c_bn bq7_, c_f fq19_, c_n bq21_, c_n bq21_, c_n bq21_, c_n bq21_, c_d bq23_] [k_c f1_, k_c f6_, k_c f8_, k_c fq3_, k_l kq12_ (bF 4 (bT 1 [])) [.tup [iD (Int.ofNat 0), .list k62 c63], .tup [iD r64, iD r65], iD r66] [.tup [iD r64, iD r65], iD r66], k_c fq15_, k_c fq17_] (by kernel_rfl)
      have hq24_ := (if_neg bq23_).symm.trans hq22_
      obtain ⟨fq25_, hq26_⟩ := guardP_elim hq24_
      obtain rfl := Option.some.inj hq26_
      exact con_pc (op := true) (I := [19, 34, 60]) (sp := chopped_sp) 3000 (bF 1 (bT 1 (bF 6 (bT 6 (bF 6 []))))) [.tup [.agg [.list k0 c1], iD r2], .agg [iD r3, iD r4], .agg [iD r5, iD r6], iD r61, .tup [iD (Int.ofNat 0), .list k62 c63], .tup [iD r64, iD r65], iD r66] [c_bn b5_, c_T, c_n b10_, c_n b10_, c_n b10_, c_n b10_, c_n b12_, c_F, c_T, c_d bq1_, c_d bq1_, c_d bq1_, c_d bq1_, c_T, c_le 1, c_bn bq7_, c_f fq19_, c_n bq21_, c_n bq21_, c_n bq21_, c_n bq21_, c_n bq23_, c_f fq25_] [k_c f1_, k_c f6_, k_c f8_, k_c fq3_, k_l kq12_ (bF 5 []) [.tup [iD (Int.ofNat 0), .list k62 c63], .tup [iD r64, iD r65], iD r66] [.tup [iD r64, iD r65], iD r66], k_c fq15_, k_c fq17_] (by kernel_rfl)
    have hq27_ := (if_neg jq10_).symm.trans hq9_
    clear hq9_
    by_cases jq28_ : j = 1
    · have hq31_ := (if_pos jq28_).symm.trans hq27_
      clear hq27_
      subst jq28_
      obtain ⟨⟨⟩, eq29_, hq32_⟩ := pullD_elim hq31_
      clear hq31_
      obtain rfl := tup_inj eq29_
      have kq30_ := chopped_L10_2_in1 ka ca tm fl k0 c1 r2 r3 r4 r5 r6 r61 eq8_
      obtain ⟨⟨r67, r68⟩, fq33_, hq34_⟩ := pullD_elim hq32_
      replace fq33_ := m_39_ok fq33_
      obtain ⟨r69, fq35_, hq36_⟩ := pullD_elim hq34_
      replace fq35_ := m_46_ok fq35_
      by_cases bq37_ : IntKind.i64.wrap (tm + fl) > (1000000 : Int)
      · have hq38_ := (if_pos bq37_).symm.trans hq36_
        obtain rfl := Option.some.inj hq38_
        exact con_pc (op := true) (I := [19, 34, 60]) (sp := chopped_sp) 3000 (bF 1 (bT 1 (bF 6 (bT 6 (bF 1 (bT 5 [])))))) [.tup [.agg [.list k0 c1], iD r2], .agg [iD r3, iD r4], .agg [iD r5, iD r6], iD r61, .tup [iD (Int.ofNat 1), .one (.tuple #[])], .tup [iD r67, iD r68], iD r69] [c_bn b5_, c_T, c_n b10_, c_n b10_, c_n b10_, c_n b10_, c_n b12_, c_F, c_T, c_d bq1_, c_d bq1_, c_d bq1_, c_d bq1_, c_T, c_le 1, c_bn bq7_, ⟨fact (0 < 1 + 1 ∧ (1 + 1) * 16 ≤ 140737488355328 ∧ 1 + 1 ≤ 4611686018427387904), true, fact_mk (by decide)⟩, c_d bq37_, c_d bq37_, c_d bq37_, c_d bq37_, c_T] [k_c f1_, k_c f6_, k_c f8_, k_c fq3_, k_l kq30_ (bT 5 []) [.tup [iD (Int.ofNat 1), .one (.tuple #[])], .tup [iD r67, iD r68], iD r69] [.tup [iD r67, iD r68], iD r69], k_c fq33_, k_c fq35_] (by kernel_rfl)
      have hq38_ := (if_neg bq37_).symm.trans hq36_
      obtain ⟨fq39_, hq40_⟩ := guardP_elim hq38_
      obtain rfl := Option.some.inj hq40_
      exact con_pc (op := true) (I := [19, 34, 60]) (sp := chopped_sp) 3000 (bF 1 (bT 1 (bF 6 (bT 6 (bF 6 []))))) [.tup [.agg [.list k0 c1], iD r2], .agg [iD r3, iD r4], .agg [iD r5, iD r6], iD r61, .tup [iD (Int.ofNat 1), .one (.tuple #[])], .tup [iD r67, iD r68], iD r69] [c_bn b5_, c_T, c_n b10_, c_n b10_, c_n b10_, c_n b10_, c_n b12_, c_F, c_T, c_d bq1_, c_d bq1_, c_d bq1_, c_d bq1_, c_T, c_le 1, c_bn bq7_, ⟨fact (0 < 1 + 1 ∧ (1 + 1) * 16 ≤ 140737488355328 ∧ 1 + 1 ≤ 4611686018427387904), true, fact_mk (by decide)⟩, c_n bq37_, c_n bq37_, c_n bq37_, c_n bq37_, c_F, c_f fq39_] [k_c f1_, k_c f6_, k_c f8_, k_c fq3_, k_l kq30_ (bF 5 []) [.tup [iD (Int.ofNat 1), .one (.tuple #[])], .tup [iD r67, iD r68], iD r69] [.tup [iD r67, iD r68], iD r69], k_c fq33_, k_c fq35_] (by kernel_rfl)
    have hq41_ := (if_neg jq28_).symm.trans hq27_
    clear hq27_
    cases hq41_
  have hq2_ := (if_neg bq1_).symm.trans h
  by_cases bq42_ : fl > (100000 : Int)
  · have hq43_ := (if_pos bq42_).symm.trans hq2_
    obtain ⟨r70, fq44_, hq45_⟩ := pullD_elim hq43_
    replace fq44_ := m_33_ok fq44_
    by_cases bq46_ : r70 ≠ (0 : Int)
    · have hq47_ := (if_pos bq46_).symm.trans hq45_
      obtain rfl := Option.some.inj hq47_
      exact con_pc (op := true) (I := [19, 34, 60]) (sp := chopped_sp) 3000 (bF 1 (bT 1 (bF 6 (bT 1 (bF 4 (bT 2 [])))))) [.tup [.agg [.list k0 c1], iD r2], .agg [iD r3, iD r4], .agg [iD r5, iD r6], iD r70] [c_bn b5_, c_T, c_n b10_, c_n b10_, c_n b10_, c_n b10_, c_n b12_, c_F, c_T, c_n bq1_, c_n bq1_, c_n bq1_, c_n bq1_, c_d bq42_, c_le 1, c_b bq46_] [k_c f1_, k_c f6_, k_c f8_, k_c fq44_] (by kernel_rfl)
    have hq47_ := (if_neg bq46_).symm.trans hq45_
    have bq48_ : r70 = (0 : Int) := by first | exact bq46_ | simpa using bq46_
    obtain ⟨j, ds, eq49_, hq50_⟩ := bindL_elim hq47_
    by_cases jq51_ : j = 0
    · have hq54_ := (if_pos jq51_).symm.trans hq50_
      clear hq50_
      subst jq51_
      obtain ⟨⟨k71, c72⟩, eq52_, hq55_⟩ := pullD_elim hq54_
      clear hq54_
      obtain rfl := tup_inj eq52_
      have kq53_ := chopped_L10_2_in0 ka ca tm fl k0 c1 r2 r3 r4 r5 r6 r70 eq49_
      obtain ⟨⟨r73, r74⟩, fq56_, hq57_⟩ := pullD_elim hq55_
      replace fq56_ := m_39_ok fq56_
      obtain ⟨r75, fq58_, hq59_⟩ := pullD_elim hq57_
      replace fq58_ := m_46_ok fq58_
      obtain ⟨fq60_, hq61_⟩ := guardP_elim hq59_
      by_cases bq62_ : IntKind.i64.wrap (tm + fl) > (1000000 : Int)
      · have hq63_ := (if_pos bq62_).symm.trans hq61_
        obtain rfl := Option.some.inj hq63_
        exact con_pc (op := true) (I := [19, 34, 60]) (sp := chopped_sp) 3000 (bF 1 (bT 1 (bF 6 (bT 1 (bF 4 (bT 1 (bF 1 (bT 5 [])))))))) [.tup [.agg [.list k0 c1], iD r2], .agg [iD r3, iD r4], .agg [iD r5, iD r6], iD r70, .tup [iD (Int.ofNat 0), .list k71 c72], .tup [iD r73, iD r74], iD r75] [c_bn b5_, c_T, c_n b10_, c_n b10_, c_n b10_, c_n b10_, c_n b12_, c_F, c_T, c_n bq1_, c_n bq1_, c_n bq1_, c_n bq1_, c_d bq42_, c_le 1, c_bn bq48_, c_f fq60_, c_d bq62_, c_d bq62_, c_d bq62_, c_d bq62_, c_T] [k_c f1_, k_c f6_, k_c f8_, k_c fq44_, k_l kq53_ (bT 5 []) [.tup [iD (Int.ofNat 0), .list k71 c72], .tup [iD r73, iD r74], iD r75] [.tup [iD r73, iD r74], iD r75], k_c fq56_, k_c fq58_] (by kernel_rfl)
      have hq63_ := (if_neg bq62_).symm.trans hq61_
      by_cases bq64_ : (((k71 + (1 + 1)) : Nat) : Int) > (12 : Int)
      · have hq65_ := (if_pos bq64_).symm.trans hq63_
        obtain rfl := Option.some.inj hq65_
        exact con_pc (op := true) (I := [19, 34, 60]) (sp := chopped_sp) 3000 (bF 1 (bT 1 (bF 6 (bT 1 (bF 4 (bT 1 (bF 5 (bT 1 [])))))))) [.tup [.agg [.list k0 c1], iD r2], .agg [iD r3, iD r4], .agg [iD r5, iD r6], iD r70, .tup [iD (Int.ofNat 0), .list k71 c72], .tup [iD r73, iD r74], iD r75] [c_bn b5_, c_T, c_n b10_, c_n b10_, c_n b10_, c_n b10_, c_n b12_, c_F, c_T, c_n bq1_, c_n bq1_, c_n bq1_, c_n bq1_, c_d bq42_, c_le 1, c_bn bq48_, c_f fq60_, c_n bq62_, c_n bq62_, c_n bq62_, c_n bq62_, c_d bq64_] [k_c f1_, k_c f6_, k_c f8_, k_c fq44_, k_l kq53_ (bF 4 (bT 1 [])) [.tup [iD (Int.ofNat 0), .list k71 c72], .tup [iD r73, iD r74], iD r75] [.tup [iD r73, iD r74], iD r75], k_c fq56_, k_c fq58_] (by kernel_rfl)
      have hq65_ := (if_neg bq64_).symm.trans hq63_
      obtain ⟨fq66_, hq67_⟩ := guardP_elim hq65_
      obtain rfl := Option.some.inj hq67_
      exact con_pc (op := true) (I := [19, 34, 60]) (sp := chopped_sp) 3000 (bF 1 (bT 1 (bF 6 (bT 1 (bF 4 (bT 1 (bF 6 []))))))) [.tup [.agg [.list k0 c1], iD r2], .agg [iD r3, iD r4], .agg [iD r5, iD r6], iD r70, .tup [iD (Int.ofNat 0), .list k71 c72], .tup [iD r73, iD r74], iD r75] [c_bn b5_, c_T, c_n b10_, c_n b10_, c_n b10_, c_n b10_, c_n b12_, c_F, c_T, c_n bq1_, c_n bq1_, c_n bq1_, c_n bq1_, c_d bq42_, c_le 1, c_bn bq48_, c_f fq60_, c_n bq62_, c_n bq62_, c_n bq62_, c_n bq62_, c_n bq64_, c_f fq66_] [k_c f1_, k_c f6_, k_c f8_, k_c fq44_, k_l kq53_ (bF 5 []) [.tup [iD (Int.ofNat 0), .list k71 c72], .tup [iD r73, iD r74], iD r75] [.tup [iD r73, iD r74], iD r75], k_c fq56_, k_c fq58_] (by kernel_rfl)
    have hq68_ := (if_neg jq51_).symm.trans hq50_
    clear hq50_
    by_cases jq69_ : j = 1
    · have hq72_ := (if_pos jq69_).symm.trans hq68_
      clear hq68_
      subst jq69_
      obtain ⟨⟨⟩, eq70_, hq73_⟩ := pullD_elim hq72_
      clear hq72_
      obtain rfl := tup_inj eq70_
      have kq71_ := chopped_L10_2_in1 ka ca tm fl k0 c1 r2 r3 r4 r5 r6 r70 eq49_
      obtain ⟨⟨r76, r77⟩, fq74_, hq75_⟩ := pullD_elim hq73_
      replace fq74_ := m_39_ok fq74_
      obtain ⟨r78, fq76_, hq77_⟩ := pullD_elim hq75_
      replace fq76_ := m_46_ok fq76_
      by_cases bq78_ : IntKind.i64.wrap (tm + fl) > (1000000 : Int)
      · have hq79_ := (if_pos bq78_).symm.trans hq77_
        obtain rfl := Option.some.inj hq79_
        exact con_pc (op := true) (I := [19, 34, 60]) (sp := chopped_sp) 3000 (bF 1 (bT 1 (bF 6 (bT 1 (bF 4 (bT 1 (bF 1 (bT 5 [])))))))) [.tup [.agg [.list k0 c1], iD r2], .agg [iD r3, iD r4], .agg [iD r5, iD r6], iD r70, .tup [iD (Int.ofNat 1), .one (.tuple #[])], .tup [iD r76, iD r77], iD r78] [c_bn b5_, c_T, c_n b10_, c_n b10_, c_n b10_, c_n b10_, c_n b12_, c_F, c_T, c_n bq1_, c_n bq1_, c_n bq1_, c_n bq1_, c_d bq42_, c_le 1, c_bn bq48_, ⟨fact (0 < 1 + 1 ∧ (1 + 1) * 16 ≤ 140737488355328 ∧ 1 + 1 ≤ 4611686018427387904), true, fact_mk (by decide)⟩, c_d bq78_, c_d bq78_, c_d bq78_, c_d bq78_, c_T] [k_c f1_, k_c f6_, k_c f8_, k_c fq44_, k_l kq71_ (bT 5 []) [.tup [iD (Int.ofNat 1), .one (.tuple #[])], .tup [iD r76, iD r77], iD r78] [.tup [iD r76, iD r77], iD r78], k_c fq74_, k_c fq76_] (by kernel_rfl)
      have hq79_ := (if_neg bq78_).symm.trans hq77_
      obtain ⟨fq80_, hq81_⟩ := guardP_elim hq79_
      obtain rfl := Option.some.inj hq81_
      exact con_pc (op := true) (I := [19, 34, 60]) (sp := chopped_sp) 3000 (bF 1 (bT 1 (bF 6 (bT 1 (bF 4 (bT 1 (bF 6 []))))))) [.tup [.agg [.list k0 c1], iD r2], .agg [iD r3, iD r4], .agg [iD r5, iD r6], iD r70, .tup [iD (Int.ofNat 1), .one (.tuple #[])], .tup [iD r76, iD r77], iD r78] [c_bn b5_, c_T, c_n b10_, c_n b10_, c_n b10_, c_n b10_, c_n b12_, c_F, c_T, c_n bq1_, c_n bq1_, c_n bq1_, c_n bq1_, c_d bq42_, c_le 1, c_bn bq48_, ⟨fact (0 < 1 + 1 ∧ (1 + 1) * 16 ≤ 140737488355328 ∧ 1 + 1 ≤ 4611686018427387904), true, fact_mk (by decide)⟩, c_n bq78_, c_n bq78_, c_n bq78_, c_n bq78_, c_F, c_f fq80_] [k_c f1_, k_c f6_, k_c f8_, k_c fq44_, k_l kq71_ (bF 5 []) [.tup [iD (Int.ofNat 1), .one (.tuple #[])], .tup [iD r76, iD r77], iD r78] [.tup [iD r76, iD r77], iD r78], k_c fq74_, k_c fq76_] (by kernel_rfl)
    have hq82_ := (if_neg jq69_).symm.trans hq68_
    clear hq68_
    cases hq82_
  have hq43_ := (if_neg bq42_).symm.trans hq2_
  obtain ⟨r79, fq83_, hq84_⟩ := pullD_elim hq43_
  replace fq83_ := m_33_ok fq83_
  by_cases bq85_ : r79 ≠ (0 : Int)
  · have hq86_ := (if_pos bq85_).symm.trans hq84_
    obtain rfl := Option.some.inj hq86_
    exact con_pc (op := true) (I := [19, 34, 60]) (sp := chopped_sp) 3000 (bF 1 (bT 1 (bF 6 (bT 1 (bF 6 (bT 1 [])))))) [.tup [.agg [.list k0 c1], iD r2], .agg [iD r3, iD r4], .agg [iD r5, iD r6], iD r79] [c_bn b5_, c_T, c_n b10_, c_n b10_, c_n b10_, c_n b10_, c_n b12_, c_F, c_T, c_n bq1_, c_n bq1_, c_n bq1_, c_n bq1_, c_n bq42_, c_F, c_le 1, c_b bq85_] [k_c f1_, k_c f6_, k_c f8_, k_c fq83_] (by kernel_rfl)
  have hq86_ := (if_neg bq85_).symm.trans hq84_
  have bq87_ : r79 = (0 : Int) := by first | exact bq85_ | simpa using bq85_
  obtain ⟨j, ds, eq88_, hq89_⟩ := bindL_elim hq86_
  by_cases jq90_ : j = 0
  · have hq93_ := (if_pos jq90_).symm.trans hq89_
    clear hq89_
    subst jq90_
    obtain ⟨⟨k80, c81⟩, eq91_, hq94_⟩ := pullD_elim hq93_
    clear hq93_
    obtain rfl := tup_inj eq91_
    have kq92_ := chopped_L10_3_in0 ka ca tm fl k0 c1 r2 r3 r4 r5 r6 r79 eq88_
    obtain ⟨⟨r82, r83⟩, fq95_, hq96_⟩ := pullD_elim hq94_
    replace fq95_ := m_39_ok fq95_
    obtain ⟨r84, fq97_, hq98_⟩ := pullD_elim hq96_
    replace fq97_ := m_46_ok fq97_
    obtain ⟨fq99_, hq100_⟩ := guardP_elim hq98_
    by_cases bq101_ : IntKind.i64.wrap (tm + fl) > (1000000 : Int)
    · have hq102_ := (if_pos bq101_).symm.trans hq100_
      obtain rfl := Option.some.inj hq102_
      exact con_pc (op := true) (I := [19, 34, 60]) (sp := chopped_sp) 3000 (bF 1 (bT 1 (bF 6 (bT 1 (bF 7 (bT 5 [])))))) [.tup [.agg [.list k0 c1], iD r2], .agg [iD r3, iD r4], .agg [iD r5, iD r6], iD r79, .tup [iD (Int.ofNat 0), .list k80 c81], .tup [iD r82, iD r83], iD r84] [c_bn b5_, c_T, c_n b10_, c_n b10_, c_n b10_, c_n b10_, c_n b12_, c_F, c_T, c_n bq1_, c_n bq1_, c_n bq1_, c_n bq1_, c_n bq42_, c_F, c_le 1, c_bn bq87_, c_f fq99_, c_d bq101_, c_d bq101_, c_d bq101_, c_d bq101_, c_T] [k_c f1_, k_c f6_, k_c f8_, k_c fq83_, k_l kq92_ (bT 5 []) [.tup [iD (Int.ofNat 0), .list k80 c81], .tup [iD r82, iD r83], iD r84] [.tup [iD r82, iD r83], iD r84], k_c fq95_, k_c fq97_] (by kernel_rfl)
    have hq102_ := (if_neg bq101_).symm.trans hq100_
    by_cases bq103_ : (((k80 + (1 + 1)) : Nat) : Int) > (12 : Int)
    · have hq104_ := (if_pos bq103_).symm.trans hq102_
      obtain rfl := Option.some.inj hq104_
      exact con_pc (op := true) (I := [19, 34, 60]) (sp := chopped_sp) 3000 (bF 1 (bT 1 (bF 6 (bT 1 (bF 11 (bT 1 [])))))) [.tup [.agg [.list k0 c1], iD r2], .agg [iD r3, iD r4], .agg [iD r5, iD r6], iD r79, .tup [iD (Int.ofNat 0), .list k80 c81], .tup [iD r82, iD r83], iD r84] [c_bn b5_, c_T, c_n b10_, c_n b10_, c_n b10_, c_n b10_, c_n b12_, c_F, c_T, c_n bq1_, c_n bq1_, c_n bq1_, c_n bq1_, c_n bq42_, c_F, c_le 1, c_bn bq87_, c_f fq99_, c_n bq101_, c_n bq101_, c_n bq101_, c_n bq101_, c_d bq103_] [k_c f1_, k_c f6_, k_c f8_, k_c fq83_, k_l kq92_ (bF 4 (bT 1 [])) [.tup [iD (Int.ofNat 0), .list k80 c81], .tup [iD r82, iD r83], iD r84] [.tup [iD r82, iD r83], iD r84], k_c fq95_, k_c fq97_] (by kernel_rfl)
    have hq104_ := (if_neg bq103_).symm.trans hq102_
    obtain ⟨fq105_, hq106_⟩ := guardP_elim hq104_
    obtain rfl := Option.some.inj hq106_
    exact con_pc (op := true) (I := [19, 34, 60]) (sp := chopped_sp) 3000 (bF 1 (bT 1 (bF 6 (bT 1 (bF 12 []))))) [.tup [.agg [.list k0 c1], iD r2], .agg [iD r3, iD r4], .agg [iD r5, iD r6], iD r79, .tup [iD (Int.ofNat 0), .list k80 c81], .tup [iD r82, iD r83], iD r84] [c_bn b5_, c_T, c_n b10_, c_n b10_, c_n b10_, c_n b10_, c_n b12_, c_F, c_T, c_n bq1_, c_n bq1_, c_n bq1_, c_n bq1_, c_n bq42_, c_F, c_le 1, c_bn bq87_, c_f fq99_, c_n bq101_, c_n bq101_, c_n bq101_, c_n bq101_, c_n bq103_, c_f fq105_] [k_c f1_, k_c f6_, k_c f8_, k_c fq83_, k_l kq92_ (bF 5 []) [.tup [iD (Int.ofNat 0), .list k80 c81], .tup [iD r82, iD r83], iD r84] [.tup [iD r82, iD r83], iD r84], k_c fq95_, k_c fq97_] (by kernel_rfl)
  have hq107_ := (if_neg jq90_).symm.trans hq89_
  clear hq89_
  by_cases jq108_ : j = 1
  · have hq111_ := (if_pos jq108_).symm.trans hq107_
    clear hq107_
    subst jq108_
    obtain ⟨⟨⟩, eq109_, hq112_⟩ := pullD_elim hq111_
    clear hq111_
    obtain rfl := tup_inj eq109_
    have kq110_ := chopped_L10_3_in1 ka ca tm fl k0 c1 r2 r3 r4 r5 r6 r79 eq88_
    obtain ⟨⟨r85, r86⟩, fq113_, hq114_⟩ := pullD_elim hq112_
    replace fq113_ := m_39_ok fq113_
    obtain ⟨r87, fq115_, hq116_⟩ := pullD_elim hq114_
    replace fq115_ := m_46_ok fq115_
    by_cases bq117_ : IntKind.i64.wrap (tm + fl) > (1000000 : Int)
    · have hq118_ := (if_pos bq117_).symm.trans hq116_
      obtain rfl := Option.some.inj hq118_
      exact con_pc (op := true) (I := [19, 34, 60]) (sp := chopped_sp) 3000 (bF 1 (bT 1 (bF 6 (bT 1 (bF 7 (bT 5 [])))))) [.tup [.agg [.list k0 c1], iD r2], .agg [iD r3, iD r4], .agg [iD r5, iD r6], iD r79, .tup [iD (Int.ofNat 1), .one (.tuple #[])], .tup [iD r85, iD r86], iD r87] [c_bn b5_, c_T, c_n b10_, c_n b10_, c_n b10_, c_n b10_, c_n b12_, c_F, c_T, c_n bq1_, c_n bq1_, c_n bq1_, c_n bq1_, c_n bq42_, c_F, c_le 1, c_bn bq87_, ⟨fact (0 < 1 + 1 ∧ (1 + 1) * 16 ≤ 140737488355328 ∧ 1 + 1 ≤ 4611686018427387904), true, fact_mk (by decide)⟩, c_d bq117_, c_d bq117_, c_d bq117_, c_d bq117_, c_T] [k_c f1_, k_c f6_, k_c f8_, k_c fq83_, k_l kq110_ (bT 5 []) [.tup [iD (Int.ofNat 1), .one (.tuple #[])], .tup [iD r85, iD r86], iD r87] [.tup [iD r85, iD r86], iD r87], k_c fq113_, k_c fq115_] (by kernel_rfl)
    have hq118_ := (if_neg bq117_).symm.trans hq116_
    obtain ⟨fq119_, hq120_⟩ := guardP_elim hq118_
    obtain rfl := Option.some.inj hq120_
    exact con_pc (op := true) (I := [19, 34, 60]) (sp := chopped_sp) 3000 (bF 1 (bT 1 (bF 6 (bT 1 (bF 12 []))))) [.tup [.agg [.list k0 c1], iD r2], .agg [iD r3, iD r4], .agg [iD r5, iD r6], iD r79, .tup [iD (Int.ofNat 1), .one (.tuple #[])], .tup [iD r85, iD r86], iD r87] [c_bn b5_, c_T, c_n b10_, c_n b10_, c_n b10_, c_n b10_, c_n b12_, c_F, c_T, c_n bq1_, c_n bq1_, c_n bq1_, c_n bq1_, c_n bq42_, c_F, c_le 1, c_bn bq87_, ⟨fact (0 < 1 + 1 ∧ (1 + 1) * 16 ≤ 140737488355328 ∧ 1 + 1 ≤ 4611686018427387904), true, fact_mk (by decide)⟩, c_n bq117_, c_n bq117_, c_n bq117_, c_n bq117_, c_F, c_f fq119_] [k_c f1_, k_c f6_, k_c f8_, k_c fq83_, k_l kq110_ (bF 5 []) [.tup [iD (Int.ofNat 1), .one (.tuple #[])], .tup [iD r85, iD r86], iD r87] [.tup [iD r85, iD r86], iD r87], k_c fq113_, k_c fq115_] (by kernel_rfl)
  have hq121_ := (if_neg jq108_).symm.trans hq107_
  clear hq107_
  cases hq121_
theorem chopped_M_ok (ka : Nat) (ca : List D) (tm fl : Int) {r : D} (h : chopped_M ka ca tm fl = some r) : Con 19 [.agg [.list ka ca], iD tm, iD fl] r := by
  unfold chopped_M at h
  obtain ⟨⟨k0, c1, r2⟩, f1_, h2_⟩ := pullD_elim h
  replace f1_ := m_36_ok f1_
  by_cases b3_ : r2 ≠ (0 : Int)
  · have h4_ := (if_pos b3_).symm.trans h2_
    obtain rfl := Option.some.inj h4_
    exact con_pc (op := true) (I := [19, 34, 60]) (sp := chopped_sp) 3000 (bT 1 []) [.tup [.agg [.list k0 c1], iD r2]] [c_b b3_] [k_c f1_] (by kernel_rfl)
  have h4_ := (if_neg b3_).symm.trans h2_
  have b5_ : r2 = (0 : Int) := by first | exact b3_ | simpa using b3_
  obtain ⟨⟨r3, r4⟩, f6_, h7_⟩ := pullD_elim h4_
  replace f6_ := m_47_ok f6_
  obtain ⟨⟨r5, r6⟩, f8_, h9_⟩ := pullD_elim h7_
  replace f8_ := m_48_ok f8_
  by_cases b10_ : tm < IntKind.i64.wrap (r3 + (1 : Int))
  · have h11_ := (if_pos b10_).symm.trans h9_
    exact chopped_M_s0_ok ka ca tm fl k0 c1 r2 r3 r4 r5 r6 f1_ b5_ f6_ f8_ b10_ h11_
  have h11_ := (if_neg b10_).symm.trans h9_
  by_cases b12_ : tm > r5
  · have h13_ := (if_pos b12_).symm.trans h11_
    exact chopped_M_s1_ok ka ca tm fl k0 c1 r2 r3 r4 r5 r6 f1_ b5_ f6_ f8_ b10_ b12_ h13_
  have h13_ := (if_neg b12_).symm.trans h11_
  exact chopped_M_s2_ok ka ca tm fl k0 c1 r2 r3 r4 r5 r6 f1_ b5_ f6_ f8_ b10_ b12_ h13_
def m_19 (ds : List D) : Option D := pullD (α := Nat × (List D) × Int × Int) (some (.tup ds)) (fun d => ((D.ln (D.at (D.at d 0) 0)), (D.lc (D.at (D.at d 0) 0)), (D.vi (D.at d 1)), (D.vi (D.at d 2)))) (fun (ka, ca, tm, fl) => .tup [.agg [.list ka ca], iD tm, iD fl]) fun (ka, ca, tm, fl) => chopped_M ka ca tm fl
theorem m_19_ok {ds : List D} {r : D} (h : m_19 ds = some r) : Con 19 ds r := by
  unfold m_19 at h
  obtain ⟨⟨ka, ca, tm, fl⟩, e0, h0⟩ := pullD_elim h
  obtain rfl := tup_inj e0
  exact chopped_M_ok ka ca tm fl h0
theorem m_19_eq (ka : Nat) (ca : List D) (tm fl : Int) : m_19 [.agg [.list ka ca], iD tm, iD fl] = chopped_M ka ca tm fl := pullD_some (ka, ca, tm, fl) rfl rfl
end
end Go.Proofs.Ytaabapmggkkmeaa
namespace Go.Proofs.Ytaabapmggkkmeaa
open Go.Ev Go.RowKit
set_option maxRecDepth 100000
set_option maxHeartbeats 8000000
set_option linter.all false
noncomputable section
def whole_sp : List LSpec := []
def whole_M (n : Int) : Option D := some (.agg [iD n, iD (1 : Int)])
theorem whole_M_ok (n : Int) {r : D} (h : whole_M n = some r) : Con 24 [iD n] r := by
  unfold whole_M at h
  obtain rfl := Option.some.inj h
  exact con_pc (op := true) (I := [24]) (sp := whole_sp) 3000 [] [] [] [] (by kernel_rfl)
def m_24 (ds : List D) : Option D := pullD (α := Int) (some (.tup ds)) (fun d => ((D.vi (D.at d 0)))) (fun n => .tup [iD n]) fun n => whole_M n
theorem m_24_ok {ds : List D} {r : D} (h : m_24 ds = some r) : Con 24 ds r := by
  unfold m_24 at h
  obtain ⟨n, e0, h0⟩ := pullD_elim h
  obtain rfl := tup_inj e0
  exact whole_M_ok n h0
theorem m_24_eq (n : Int) : m_24 [iD n] = whole_M n := pullD_some n rfl rfl
def sizeOf_sp : List LSpec := []
def sizeOf_M (n : Int) : Option D := some (iD (if IntKind.i64.wrap ((0 : Int) - n) > n then IntKind.i64.wrap ((0 : Int) - n) else n))
theorem sizeOf_M_ok (n : Int) {r : D} (h : sizeOf_M n = some r) : Con 42 [iD n] r := by
  unfold sizeOf_M at h
  obtain rfl := Option.some.inj h
  exact con_pc (op := true) (I := [42]) (sp := sizeOf_sp) 3000 [] [] [] [] (by kernel_rfl)
def m_42 (ds : List D) : Option D := pullD (α := Int) (some (.tup ds)) (fun d => ((D.vi (D.at d 0)))) (fun n => .tup [iD n]) fun n => sizeOf_M n
theorem m_42_ok {ds : List D} {r : D} (h : m_42 ds = some r) : Con 42 ds r := by
  unfold m_42 at h
  obtain ⟨n, e0, h0⟩ := pullD_elim h
  obtain rfl := tup_inj e0
  exact sizeOf_M_ok n h0
theorem m_42_eq (n : Int) : m_42 [iD n] = sizeOf_M n := pullD_some n rfl rfl
def divisor_x1_0 : LExit := ⟨some 0, [.val 0], (1 :: (List.range' 5 6))⟩
def divisor_sp : List LSpec := [⟨61, 1, [divisor_x1_0]⟩]
def divisor_L1_E (n m : Int)  : List AV × AHeap := ([.pure (.int .i64 n), .pure (.int .i64 m), .pure (.tuple #[]), .pure (.tuple #[]), .pure (.int .i64 (0 : Int)), .pure (.tuple #[]), .pure (.tuple #[]), .pure (.tuple #[]), .pure (.tuple #[]), .pure (.tuple #[]), .pure (.tuple #[]), .pure (.tuple #[]), .pure (.tuple #[]), .pure (.tuple #[]), .pure (.tuple #[])], [])
def divisor_L1_A : LoopAt := ⟨61, loopAt Try.prog 61 0, 0, 8, 0, noFrame⟩
theorem divisor_L1_ok : (divisor_L1_A).OK := ⟨by show 0 ≤ 8; decide, by show 0 ≤ 0; decide, by kernel_rfl, rfl⟩
def divisor_L1_gs (n m : Int)  : Go.Ev.Rd → Option GS
  | .next 0 ds => ghost [.val 0, .val 1] (List.range' 5 6) (divisor_L1_E n m).1 (divisor_L1_E n m).2 0 ds
  | .out 0 ds => ghost divisor_x1_0.live divisor_x1_0.junk (divisor_L1_E n m).1 (divisor_L1_E n m).2 0 ds
  | _ => none
def divisor_L1_ex : Nat → Option Nat
  | 0 => divisor_x1_0.ex
  | _ => none
def divisor_L1_ax : Go.Ev.Rd → AX
  | .next _ _ => .normal
  | .out j _ => axOf (divisor_L1_ex j)
def divisor_L1_S0 (n m : Int)  (ds : List D) : Option Go.Ev.Rd := pullD (α := Int × Int) (some (.tup ds)) (fun d => ((D.vi (D.at d 0)), (D.vi (D.at d 1)))) (fun (s0, s1) => .tup [iD s0, iD s1]) fun (s0, s1) => ((if s1 ≠ (0 : Int) then some (.next 0 [iD s1, iD (s0.tmod s1)]) else some (.out 0 [iD s0])))
def divisor_L1_S (n m : Int)  : Go.Ev.Rd → Option Go.Ev.Rd
  | .next 0 ds => divisor_L1_S0 n m ds
  | _ => none
theorem divisor_L1_S_0 (n m : Int)  (ds : List D) : divisor_L1_S n m (.next 0 ds) = divisor_L1_S0 n m ds := rfl
theorem divisor_L1_S_ok (n m : Int)  : ∀ s_ t_, divisor_L1_S n m s_ = some t_ → Step (ctx [61] divisor_sp) Tabs divisor_L1_A (stateOf (divisor_L1_gs n m s_)) (stateOf (divisor_L1_gs n m t_)) (divisor_L1_ax t_) ∧ EndOK divisor_L1_A.nx divisor_L1_A.low (divisor_L1_gs n m) t_
  | .next 0 ds, t_, h => by
    have h_ : divisor_L1_S0 n m ds = some t_ := h
    clear h
    unfold divisor_L1_S0 at h_
    obtain ⟨⟨s0, s1⟩, e0, h0⟩ := pullD_elim h_
    clear h_
    obtain rfl := tup_inj e0
    by_cases b1_ : s1 ≠ (0 : Int)
    · have h2_ := (if_pos b1_).symm.trans h0
      obtain rfl := Option.some.inj h2_
      exact ⟨step_pc 3000 (bT 1 []) [] [c_b b1_, c_en b1_] [] _ rfl (by kernel_rfl) (by kernel_rfl) (by kernel_rfl) (by kernel_rfl) (by kernel_rfl) (by kernel_rfl), trivial⟩
    have h2_ := (if_neg b1_).symm.trans h0
    have b3_ : s1 = (0 : Int) := by first | exact b1_ | simpa using b1_
    obtain rfl := Option.some.inj h2_
    exact ⟨step_pc 3000 (bF 1 []) [] [c_bn b3_] [] _ rfl (by kernel_rfl) (by kernel_rfl) (by kernel_rfl) (by kernel_rfl) (by kernel_rfl) (by kernel_rfl), by kernel_rfl, by kernel_rfl⟩
  | .next (_ + 1) _, _, h => by cases h
  | .out _ _, _, h => by cases h
theorem divisor_L1_go (n m : Int)  {q : Nat} {ds : List D} {j : Nat} {es : List D} (h : runR (divisor_L1_S n m) (.next q ds) = some (.out j es)) : Runs (ctx [61] divisor_sp) Tabs divisor_L1_A (stateOf (divisor_L1_gs n m (.next q ds))) (stateOf (divisor_L1_gs n m (.out j es))) (divisor_L1_ax (.out j es)) ∧ (nxtOf (divisor_L1_gs n m (.out j es)), lowGS (divisor_L1_gs n m (.out j es))) = (divisor_L1_A.nx, divisor_L1_A.low) :=
  runs_of' (good true _ _) divisor_L1_ok (ax := divisor_L1_ax) (fun _ _ => rfl) (fun _ _ => axOf_end _) (divisor_L1_S_ok n m) h
theorem divisor_L1_in0 (n m : Int)  {es : List D} (h : runR (divisor_L1_S n m) (.next 0 [iD n, iD m]) = some (.out 0 es)) : LoopC (loopAt Try.prog 61 0) (divisor_L1_E n m) 0 noFrame divisor_x1_0 es :=
  have r := divisor_L1_go n m h
  loopin_as rfl (loop_in (l := divisor_L1_A) (E := (divisor_L1_E n m)) (S := stateOf (divisor_L1_gs n m (.next 0 [iD n, iD m]))) (ns := nsOf (divisor_L1_gs n m (.next 0 [iD n, iD m]))) divisor_L1_ok r.1 r.2 (by kernel_rfl) (by kernel_rfl) (by kernel_rfl) (by kernel_rfl))
def divisor_M (n m : Int) : Option D := bindL (runR (divisor_L1_S n m) (.next 0 [iD n, iD m])) fun j ds => (if j = 0 then pullD (α := Int) (some (.tup ds)) (fun d => ((D.vi (D.at d 0)))) (fun l0 => .tup [iD l0]) fun l0 => (some (iD (if IntKind.i64.wrap ((0 : Int) - l0) > l0 then IntKind.i64.wrap ((0 : Int) - l0) else l0))) else none)
theorem divisor_M_ok (n m : Int) {r : D} (h : divisor_M n m = some r) : Con 61 [iD n, iD m] r := by
  unfold divisor_M at h
  obtain ⟨j, ds, e1_, h2_⟩ := bindL_elim h
  by_cases j3_ : j = 0
  · have h6_ := (if_pos j3_).symm.trans h2_
    clear h2_
    subst j3_
    obtain ⟨l0, e4_, h7_⟩ := pullD_elim h6_
    clear h6_
    obtain rfl := tup_inj e4_
    have k5_ := divisor_L1_in0 n m e1_
    obtain rfl := Option.some.inj h7_
    exact con_pc (op := true) (I := [61]) (sp := divisor_sp) 3000 [] [.tup [iD (Int.ofNat 0), iD l0]] [] [k_l k5_ [] [.tup [iD (Int.ofNat 0), iD l0]] []] (by kernel_rfl)
  have h8_ := (if_neg j3_).symm.trans h2_
  clear h2_
  cases h8_
def m_61 (ds : List D) : Option D := pullD (α := Int × Int) (some (.tup ds)) (fun d => ((D.vi (D.at d 0)), (D.vi (D.at d 1)))) (fun (n, m) => .tup [iD n, iD m]) fun (n, m) => divisor_M n m
theorem m_61_ok {ds : List D} {r : D} (h : m_61 ds = some r) : Con 61 ds r := by
  unfold m_61 at h
  obtain ⟨⟨n, m⟩, e0, h0⟩ := pullD_elim h
  obtain rfl := tup_inj e0
  exact divisor_M_ok n m h0
theorem m_61_eq (n m : Int) : m_61 [iD n, iD m] = divisor_M n m := pullD_some (n, m) rfl rfl
def reduced_sp : List LSpec := []
def reduced_M (n m : Int) : Option D := pullD (α := Int) (m_61 [iD n, iD m]) (fun d => ((D.vi d))) (fun r0 => iD r0) fun r0 => (guardP (r0 ≠ (0 : Int)) (some (.agg [iD (IntKind.i64.wrap (n.tdiv r0)), iD (IntKind.i64.wrap (m.tdiv r0))])))
theorem reduced_M_ok (n m : Int) {r : D} (h : reduced_M n m = some r) : Con 38 [iD n, iD m] r := by
  unfold reduced_M at h
  obtain ⟨r0, f1_, h2_⟩ := pullD_elim h
  replace f1_ := m_61_ok f1_
  obtain ⟨f3_, h4_⟩ := guardP_elim h2_
  obtain rfl := Option.some.inj h4_
  exact con_pc (op := true) (I := [38]) (sp := reduced_sp) 3000 [] [iD r0] [c_en f3_, c_en f3_] [k_c f1_] (by kernel_rfl)
def m_38 (ds : List D) : Option D := pullD (α := Int × Int) (some (.tup ds)) (fun d => ((D.vi (D.at d 0)), (D.vi (D.at d 1)))) (fun (n, m) => .tup [iD n, iD m]) fun (n, m) => reduced_M n m
theorem m_38_ok {ds : List D} {r : D} (h : m_38 ds = some r) : Con 38 ds r := by
  unfold m_38 at h
  obtain ⟨⟨n, m⟩, e0, h0⟩ := pullD_elim h
  obtain rfl := tup_inj e0
  exact reduced_M_ok n m h0
theorem m_38_eq (n m : Int) : m_38 [iD n, iD m] = reduced_M n m := pullD_some (n, m) rfl rfl
def limited_sp : List LSpec := []
def limited_M (nu de : Int) : Option D := pullD (α := Int) (m_42 [iD nu]) (fun d => ((D.vi d))) (fun r0 => iD r0) fun r0 => ((if (if de > r0 then de else r0) > (1000000000 : Int) then some (.tup [.agg [iD (0 : Int), iD (0 : Int)], iD (8 : Int)]) else some (.tup [.agg [iD nu, iD de], iD (0 : Int)])))
theorem limited_M_ok (nu de : Int) {r : D} (h : limited_M nu de = some r) : Con 37 [.agg [iD nu, iD de]] r := by
  unfold limited_M at h
  obtain ⟨r0, f1_, h2_⟩ := pullD_elim h
  replace f1_ := m_42_ok f1_
  by_cases b3_ : (if de > r0 then de else r0) > (1000000000 : Int)
  · have h4_ := (if_pos b3_).symm.trans h2_
    obtain rfl := Option.some.inj h4_
    exact con_pc (op := true) (I := [37]) (sp := limited_sp) 3000 (bT 1 []) [iD r0] [c_d b3_] [k_c f1_] (by kernel_rfl)
  have h4_ := (if_neg b3_).symm.trans h2_
  obtain rfl := Option.some.inj h4_
  exact con_pc (op := true) (I := [37]) (sp := limited_sp) 3000 (bF 1 []) [iD r0] [c_n b3_] [k_c f1_] (by kernel_rfl)
def m_37 (ds : List D) : Option D := pullD (α := Int × Int) (some (.tup ds)) (fun d => ((D.vi (D.at (D.at d 0) 0)), (D.vi (D.at (D.at d 0) 1)))) (fun (nu, de) => .tup [.agg [iD nu, iD de]]) fun (nu, de) => limited_M nu de
theorem m_37_ok {ds : List D} {r : D} (h : m_37 ds = some r) : Con 37 ds r := by
  unfold m_37 at h
  obtain ⟨⟨nu, de⟩, e0, h0⟩ := pullD_elim h
  obtain rfl := tup_inj e0
  exact limited_M_ok nu de h0
theorem m_37_eq (nu de : Int) : m_37 [.agg [iD nu, iD de]] = limited_M nu de := pullD_some (nu, de) rfl rfl
def valueAtC_sp : List LSpec := []
def valueAtC_M (ka : Nat) (ca : List D) (tm : Int) : Option D := pullD (α := Nat × (List D) × Int) (m_36 [.agg [.list ka ca]]) (fun d => ((D.ln (D.at (D.at d 0) 0)), (D.lc (D.at (D.at d 0) 0)), (D.vi (D.at d 1)))) (fun (k0, c1, r2) => .tup [.agg [.list k0 c1], iD r2]) fun (k0, c1, r2) => ((if tm < (0 : Int) then pullD (α := Int) (m_33 [.list 2 [iD r2, iD (2 : Int)]]) (fun d => ((D.vi d))) (fun r3 => iD r3) fun r3 => ((if r3 ≠ (0 : Int) then some (.tup [.agg [iD (0 : Int), iD (0 : Int)], iD r3]) else pullD (α := Int × Int) (m_39 [.agg [.list k0 c1], iD tm]) (fun d => ((D.vi (D.at d 0)), (D.vi (D.at d 1)))) (fun (r4, r5) => .tup [iD r4, iD r5]) fun (r4, r5) => (pullD (α := Int × Int) (m_38 [iD r4, iD r5]) (fun d => ((D.vi (D.at d 0)), (D.vi (D.at d 1)))) (fun (r6, r7) => .agg [iD r6, iD r7]) fun (r6, r7) => (pullD (α := Int × Int × Int) (m_37 [.agg [iD r6, iD r7]]) (fun d => ((D.vi (D.at (D.at d 0) 0)), (D.vi (D.at (D.at d 0) 1)), (D.vi (D.at d 1)))) (fun (r8, r9, r10) => .tup [.agg [iD r8, iD r9], iD r10]) fun (r8, r9, r10) => (some (.tup [.agg [iD r8, iD r9], iD r10])))))) else (if tm > (1000000 : Int) then pullD (α := Int) (m_33 [.list 2 [iD r2, iD (2 : Int)]]) (fun d => ((D.vi d))) (fun r11 => iD r11) fun r11 => ((if r11 ≠ (0 : Int) then some (.tup [.agg [iD (0 : Int), iD (0 : Int)], iD r11]) else pullD (α := Int × Int) (m_39 [.agg [.list k0 c1], iD tm]) (fun d => ((D.vi (D.at d 0)), (D.vi (D.at d 1)))) (fun (r12, r13) => .tup [iD r12, iD r13]) fun (r12, r13) => (pullD (α := Int × Int) (m_38 [iD r12, iD r13]) (fun d => ((D.vi (D.at d 0)), (D.vi (D.at d 1)))) (fun (r14, r15) => .agg [iD r14, iD r15]) fun (r14, r15) => (pullD (α := Int × Int × Int) (m_37 [.agg [iD r14, iD r15]]) (fun d => ((D.vi (D.at (D.at d 0) 0)), (D.vi (D.at (D.at d 0) 1)), (D.vi (D.at d 1)))) (fun (r16, r17, r18) => .tup [.agg [iD r16, iD r17], iD r18]) fun (r16, r17, r18) => (some (.tup [.agg [iD r16, iD r17], iD r18])))))) else pullD (α := Int) (m_33 [.list 2 [iD r2, iD (0 : Int)]]) (fun d => ((D.vi d))) (fun r19 => iD r19) fun r19 => ((if r19 ≠ (0 : Int) then some (.tup [.agg [iD (0 : Int), iD (0 : Int)], iD r19]) else pullD (α := Int × Int) (m_39 [.agg [.list k0 c1], iD tm]) (fun d => ((D.vi (D.at d 0)), (D.vi (D.at d 1)))) (fun (r20, r21) => .tup [iD r20, iD r21]) fun (r20, r21) => (pullD (α := Int × Int) (m_38 [iD r20, iD r21]) (fun d => ((D.vi (D.at d 0)), (D.vi (D.at d 1)))) (fun (r22, r23) => .agg [iD r22, iD r23]) fun (r22, r23) => (pullD (α := Int × Int × Int) (m_37 [.agg [iD r22, iD r23]]) (fun d => ((D.vi (D.at (D.at d 0) 0)), (D.vi (D.at (D.at d 0) 1)), (D.vi (D.at d 1)))) (fun (r24, r25, r26) => .tup [.agg [iD r24, iD r25], iD r26]) fun (r24, r25, r26) => (some (.tup [.agg [iD r24, iD r25], iD r26])))))))))
theorem valueAtC_M_ok (ka : Nat) (ca : List D) (tm : Int) {r : D} (h : valueAtC_M ka ca tm = some r) : Con 10 [.agg [.list ka ca], iD tm] r := by
  unfold valueAtC_M at h
  obtain ⟨⟨k0, c1, r2⟩, f1_, h2_⟩ := pullD_elim h
  replace f1_ := m_36_ok f1_
  by_cases b3_ : tm < (0 : Int)
  · have h4_ := (if_pos b3_).symm.trans h2_
    obtain ⟨r3, f5_, h6_⟩ := pullD_elim h4_
    replace f5_ := m_33_ok f5_
    by_cases b7_ : r3 ≠ (0 : Int)
    · have h8_ := (if_pos b7_).symm.trans h6_
      obtain rfl := Option.some.inj h8_
      exact con_pc (op := true) (I := [10, 34, 60]) (sp := valueAtC_sp) 3000 (bT 7 []) [.tup [.agg [.list k0 c1], iD r2], iD r3] [c_T, c_d b3_, c_d b3_, c_d b3_, c_d b3_, c_T, c_le 1, c_b b7_] [k_c f1_, k_c f5_] (by kernel_rfl)
    have h8_ := (if_neg b7_).symm.trans h6_
    have b9_ : r3 = (0 : Int) := by first | exact b7_ | simpa using b7_
    obtain ⟨⟨r4, r5⟩, f10_, h11_⟩ := pullD_elim h8_
    replace f10_ := m_39_ok f10_
    obtain ⟨⟨r6, r7⟩, f12_, h13_⟩ := pullD_elim h11_
    replace f12_ := m_38_ok f12_
    obtain ⟨⟨r8, r9, r10⟩, f14_, h15_⟩ := pullD_elim h13_
    replace f14_ := m_37_ok f14_
    obtain rfl := Option.some.inj h15_
    exact con_pc (op := true) (I := [10, 34, 60]) (sp := valueAtC_sp) 3000 (bT 6 (bF 1 [])) [.tup [.agg [.list k0 c1], iD r2], iD r3, .tup [iD r4, iD r5], .agg [iD r6, iD r7], .tup [.agg [iD r8, iD r9], iD r10]] [c_T, c_d b3_, c_d b3_, c_d b3_, c_d b3_, c_T, c_le 1, c_bn b9_] [k_c f1_, k_c f5_, k_c f10_, k_c f12_, k_c f14_] (by kernel_rfl)
  have h4_ := (if_neg b3_).symm.trans h2_
  by_cases b16_ : tm > (1000000 : Int)
  · have h17_ := (if_pos b16_).symm.trans h4_
    obtain ⟨r11, f18_, h19_⟩ := pullD_elim h17_
    replace f18_ := m_33_ok f18_
    by_cases b20_ : r11 ≠ (0 : Int)
    · have h21_ := (if_pos b20_).symm.trans h19_
      obtain rfl := Option.some.inj h21_
      exact con_pc (op := true) (I := [10, 34, 60]) (sp := valueAtC_sp) 3000 (bT 1 (bF 4 (bT 2 []))) [.tup [.agg [.list k0 c1], iD r2], iD r11] [c_T, c_n b3_, c_n b3_, c_n b3_, c_n b3_, c_d b16_, c_le 1, c_b b20_] [k_c f1_, k_c f18_] (by kernel_rfl)
    have h21_ := (if_neg b20_).symm.trans h19_
    have b22_ : r11 = (0 : Int) := by first | exact b20_ | simpa using b20_
    obtain ⟨⟨r12, r13⟩, f23_, h24_⟩ := pullD_elim h21_
    replace f23_ := m_39_ok f23_
    obtain ⟨⟨r14, r15⟩, f25_, h26_⟩ := pullD_elim h24_
    replace f25_ := m_38_ok f25_
    obtain ⟨⟨r16, r17, r18⟩, f27_, h28_⟩ := pullD_elim h26_
    replace f27_ := m_37_ok f27_
    obtain rfl := Option.some.inj h28_
    exact con_pc (op := true) (I := [10, 34, 60]) (sp := valueAtC_sp) 3000 (bT 1 (bF 4 (bT 1 (bF 1 [])))) [.tup [.agg [.list k0 c1], iD r2], iD r11, .tup [iD r12, iD r13], .agg [iD r14, iD r15], .tup [.agg [iD r16, iD r17], iD r18]] [c_T, c_n b3_, c_n b3_, c_n b3_, c_n b3_, c_d b16_, c_le 1, c_bn b22_] [k_c f1_, k_c f18_, k_c f23_, k_c f25_, k_c f27_] (by kernel_rfl)
  have h17_ := (if_neg b16_).symm.trans h4_
  obtain ⟨r19, f29_, h30_⟩ := pullD_elim h17_
  replace f29_ := m_33_ok f29_
  by_cases b31_ : r19 ≠ (0 : Int)
  · have h32_ := (if_pos b31_).symm.trans h30_
    obtain rfl := Option.some.inj h32_
    exact con_pc (op := true) (I := [10, 34, 60]) (sp := valueAtC_sp) 3000 (bT 1 (bF 6 (bT 1 []))) [.tup [.agg [.list k0 c1], iD r2], iD r19] [c_T, c_n b3_, c_n b3_, c_n b3_, c_n b3_, c_n b16_, c_F, c_le 1, c_b b31_] [k_c f1_, k_c f29_] (by kernel_rfl)
  have h32_ := (if_neg b31_).symm.trans h30_
  have b33_ : r19 = (0 : Int) := by first | exact b31_ | simpa using b31_
  obtain ⟨⟨r20, r21⟩, f34_, h35_⟩ := pullD_elim h32_
  replace f34_ := m_39_ok f34_
  obtain ⟨⟨r22, r23⟩, f36_, h37_⟩ := pullD_elim h35_
  replace f36_ := m_38_ok f36_
  obtain ⟨⟨r24, r25, r26⟩, f38_, h39_⟩ := pullD_elim h37_
  replace f38_ := m_37_ok f38_
  obtain rfl := Option.some.inj h39_
  exact con_pc (op := true) (I := [10, 34, 60]) (sp := valueAtC_sp) 3000 (bT 1 (bF 7 [])) [.tup [.agg [.list k0 c1], iD r2], iD r19, .tup [iD r20, iD r21], .agg [iD r22, iD r23], .tup [.agg [iD r24, iD r25], iD r26]] [c_T, c_n b3_, c_n b3_, c_n b3_, c_n b3_, c_n b16_, c_F, c_le 1, c_bn b33_] [k_c f1_, k_c f29_, k_c f34_, k_c f36_, k_c f38_] (by kernel_rfl)
def m_10 (ds : List D) : Option D := pullD (α := Nat × (List D) × Int) (some (.tup ds)) (fun d => ((D.ln (D.at (D.at d 0) 0)), (D.lc (D.at (D.at d 0) 0)), (D.vi (D.at d 1)))) (fun (ka, ca, tm) => .tup [.agg [.list ka ca], iD tm]) fun (ka, ca, tm) => valueAtC_M ka ca tm
theorem m_10_ok {ds : List D} {r : D} (h : m_10 ds = some r) : Con 10 ds r := by
  unfold m_10 at h
  obtain ⟨⟨ka, ca, tm⟩, e0, h0⟩ := pullD_elim h
  obtain rfl := tup_inj e0
  exact valueAtC_M_ok ka ca tm h0
theorem m_10_eq (ka : Nat) (ca : List D) (tm : Int) : m_10 [.agg [.list ka ca], iD tm] = valueAtC_M ka ca tm := pullD_some (ka, ca, tm) rfl rfl
end
end Go.Proofs.Ytaabapmggkkmeaa
/- Impulses: what is chopped; values in lowest terms. -/
namespace Go.Proofs.Ytaabapmggkkmeaa
open Go.Ev Go.RowKit
set_option maxRecDepth 100000
section
variable {l : List (Int × Int)}
theorem tdiv_floor {n d : Int} (hd : 0 < d) : (if n.tmod d < 0 then n.tdiv d - 1 else n.tdiv d) = n / d := by
  have h1 := Int.tdiv_eq_ediv (a := n) (b := d)
  have h2 := Int.tmod_eq_emod (a := n) (b := d)
  have h3 := Int.emod_nonneg n (b := d) (by omega)
  have h4 := Int.emod_lt_of_pos n hd
  have hs : d.sign = 1 := Int.sign_eq_one_of_pos hd
  by_cases hc : 0 ≤ n ∨ d ∣ n
  · rw [if_pos hc] at h1 h2
    rw [if_neg (by omega)]
    omega
  · rw [if_neg hc] at h1 h2
    rw [hs] at h1
    rw [if_pos (by omega)]
    omega
theorem rdown_eq {n d : Int} (hd : 0 < d) (h1 : -1000000000000 ≤ n) (h2 : n ≤ 1000000000000) : m_46 [iD n, iD d] = some (iD (n / d)) := by
  rw [m_46_eq]
  unfold rdown_M
  have hb := tdiv_bound (N := n) (s := d) (B := 1000000000000) h1 h2
  rw [guardP_pos (by omega), wrapJ (n.tdiv d) (by omega) (by omega), wrapJ (n.tdiv d - 1) (by omega) (by omega), ← tdiv_floor hd]
  by_cases hc : n.tmod d < 0
  · rw [if_pos hc, if_pos hc]
  · rw [if_neg hc, if_neg hc]
theorem floor_bound {n d : Int} (hd : 0 < d) (h1 : -(1000000 * d) ≤ n) (h2 : n ≤ 1000000 * d) : -1000000 ≤ n / d ∧ n / d ≤ 1000000 := by
  refine ⟨(Int.le_ediv_iff_mul_le hd).2 (by omega), ?_⟩
  have := (Int.ediv_lt_iff_lt_mul hd (a := n) (b := 1000001)).2 (by omega)
  omega
/-- What is chopped, all in all. -/
def chopY (l : List (Int × Int)) (p : Nat) (tm fl : Int) : List (Int × Int) := l.take (p + 1) ++ [(tm, numP l p tm / denP l p), (tm + fl, 0)]
abbrev bad (e : Int) : D := .tup [.agg [.list 0 []], iD e]
theorem take_one (h : 0 < l.length) : l.take 1 = [(ta l 0, va l 0)] := by
  have := pt_drop h
  rw [List.drop_zero] at this
  rw [this]; rfl
theorem take_more {i : Nat} (h : i < l.length) : l.take (i + 1) = l.take i ++ [(ta l i, va l i)] := by
  rw [List.take_add_one, pt_get h]; rfl
theorem chop_loop (h : Imp l) {p : Nat} {tm : Int} (hp : p + 1 < l.length) (ha : ∀ i, i ≤ p → ta l i < tm) (hb : ∀ i, p < i → i < l.length → tm ≤ ta l i) (S : Rd → Option Rd) (fl x2 x3 x4 x5 x6 x7 : Int)
    (h0 : ∀ ds, S (.next 0 ds) = chopped_L10_3_S0 l.length (cP l) tm fl l.length (cP l) x2 x3 x4 x5 x6 x7 ds) (h1 : ∀ ds, S (.next 1 ds) = chopped_L10_3_S1 l.length (cP l) tm fl l.length (cP l) x2 x3 x4 x5 x6 x7 ds) :
    runR S (.next 1 [.one (.tuple #[]), iD 0]) = some (.out 0 [lP (l.take (p + 1))]) := by
  have hle := h.le
  have s0 : S (.next 1 [.one (.tuple #[]), iD 0]) = some (.next 0 [lP (l.take (min 1 (p + 1))), iD ((1 : Nat) : Int)]) := by
    rw [h1]
    unfold chopped_L10_3_S1
    rw [pullD_some (0 : Int) (by rfl) (by rfl), if_pos (by omega), guardP_pos ⟨Int.le_refl _, by show 0 < l.length; omega⟩, show (0 : Int).toNat * 2 = 0 * 2 from rfl, readP (by omega), pullD_some (ta l 0, va l 0) (by rfl) (by rfl)]
    dsimp only
    rw [if_pos (ha 0 (by omega)), show min 1 (p + 1) = 1 by omega, take_one (by omega)]
    rfl
  have s1 : runR S (.next 0 [lP (l.take (min 1 (p + 1))), iD ((1 : Nat) : Int)]) = _ := runR_scan (S := S) (fun _ => 0) (fun i => [lP (l.take (min i (p + 1))), iD (i : Int)]) (show 1 ≤ l.length by omega) (fun i _ hi => by
    show S (.next 0 _) = _
    rw [h0]
    unfold chopped_L10_3_S0
    rw [pullD_some ((l.take (min i (p + 1))).length, cP (l.take (min i (p + 1))), (i : Int)) (by rfl) (by rfl)]
    dsimp only
    have e2 : IntKind.i64.wrap ((i : Int) + 1) = ((i + 1 : Nat) : Int) := natI' (by omega)
    simp only [e2, Int.toNat_natCast]
    rw [if_pos (by omega), guardP_pos (by omega), readP hi, pullD_some (ta l i, va l i) (by rfl) (by rfl)]
    dsimp only
    by_cases hc : i ≤ p
    · have hlen : (l.take (min i (p + 1))).length ≤ 12 := by rw [List.length_take]; omega
      rw [if_pos (ha i hc), guardP_pos ⟨cellP2 _ _, by rw [cP_len]; exact Nat.le_refl _, by omega, by omega⟩, growP, show min i (p + 1) = i by omega, show min (i + 1) (p + 1) = i + 1 by omega, ← take_more hi]
    · have := hb i (by omega) hi
      rw [if_neg (by omega), show min i (p + 1) = p + 1 by omega, show min (i + 1) (p + 1) = p + 1 by omega])
  have s2 : runR S (.next 0 [lP (l.take (min l.length (p + 1))), iD (l.length : Int)]) = some (.out 0 [lP (l.take (p + 1))]) := runR_exit (by
    rw [h0]
    unfold chopped_L10_3_S0
    rw [pullD_some ((l.take (min l.length (p + 1))).length, cP (l.take (min l.length (p + 1))), (l.length : Int)) (by rfl) (by rfl)]
    dsimp only
    rw [if_neg (by omega), show min l.length (p + 1) = p + 1 by omega])
  rw [runR_next s0]
  exact s1.trans s2
theorem chop_bad (h : Imp l) {tm fl : Int} (hb : tm < ta l 0 + 1 ∨ tm > ta l (l.length - 1) ∨ fl < 1 ∨ fl > 100000) : m_19 [.agg [lP l], iD tm, iD fl] = some (bad 2) := by
  have h2 := h.two
  have b0 := h.ok 0 (by omega)
  rw [m_19_eq]
  unfold chopped_M
  rw [show [D.agg [D.list l.length (cP l)]] = [.agg [lP l]] from rfl, chkd36, impX_of h, if_neg (by decide), pullD_some (l.length, cP l, 0) (by rfl) (by rfl)]
  dsimp only
  rw [if_neg (by decide), show [D.agg [D.list l.length (cP l)]] = [.agg [lP l]] from rfl, first47 h, pullD_some (ta l 0, va l 0) (by rfl) (by rfl)]
  dsimp only
  rw [last48 h, pullD_some (ta l (l.length - 1), va l (l.length - 1)) (by rfl) (by rfl)]
  dsimp only
  rw [wrapJ (ta l 0 + 1) (by omega) (by omega)]
  by_cases c1 : tm < ta l 0 + 1
  · rw [if_pos c1]
    unfold chopped_M_s0
    by_cases c2 : fl < 1
    · rw [if_pos c2, first22, pullI, if_pos (by decide)]
    · rw [if_neg c2]
      by_cases c3 : fl > 100000
      · rw [if_pos c3, first22, pullI, if_pos (by decide)]
      · rw [if_neg c3, first20, pullI, if_pos (by decide)]
  · rw [if_neg c1]
    by_cases c4 : tm > ta l (l.length - 1)
    · rw [if_pos c4]
      unfold chopped_M_s1
      by_cases c2 : fl < 1
      · rw [if_pos c2, first22, pullI, if_pos (by decide)]
      · rw [if_neg c2]
        by_cases c3 : fl > 100000
        · rw [if_pos c3, first22, pullI, if_pos (by decide)]
        · rw [if_neg c3, first20, pullI, if_pos (by decide)]
    · rw [if_neg c4]
      unfold chopped_M_s2
      by_cases c2 : fl < 1
      · rw [if_pos c2, first02, pullI, if_pos (by decide)]
      · rw [if_neg c2, if_pos (by omega), first02, pullI, if_pos (by decide)]
theorem chop_eq (h : Imp l) {tm fl : Int} (c1 : ta l 0 + 1 ≤ tm) (f1 : 1 ≤ fl) (f2 : fl ≤ 100000) {p : Nat} (hp : p + 1 < l.length) (hlo : ta l p < tm) (hhi : tm ≤ ta l (p + 1)) :
    m_19 [.agg [lP l], iD tm, iD fl] = some (if tm + fl > 1000000 ∨ p + 3 > 12 then bad 8 else .tup [.agg [lP (chopY l p tm fl)], iD 0]) := by
  have h2 := h.two
  have hle := h.le
  have b0 := h.ok 0 (by omega)
  have bp := h.ok (p + 1) hp
  have ha : ∀ i, i ≤ p → ta l i < tm := fun i hi => by
    rcases Nat.lt_or_ge i p with h3 | h3
    · have := h.mono h3 (by omega); omega
    · have : i = p := by omega
      rw [this]; exact hlo
  have hb : ∀ i, p < i → i < l.length → tm ≤ ta l i := fun i hi hl => by
    rcases Nat.lt_or_ge (p + 1) i with h3 | h3
    · have := h.mono h3 hl; omega
    · have : i = p + 1 := by omega
      rw [this]; exact hhi
  have hlast := hb (l.length - 1) (by omega) (by omega)
  have nb := num_bound h hp (tm := tm) (by omega) (fun _ => hlo) hhi
  rw [m_19_eq]
  unfold chopped_M
  rw [show [D.agg [D.list l.length (cP l)]] = [.agg [lP l]] from rfl, chkd36, impX_of h, if_neg (by decide), pullD_some (l.length, cP l, 0) (by rfl) (by rfl)]
  dsimp only
  rw [if_neg (by decide), show [D.agg [D.list l.length (cP l)]] = [.agg [lP l]] from rfl, first47 h, pullD_some (ta l 0, va l 0) (by rfl) (by rfl)]
  dsimp only
  rw [last48 h, pullD_some (ta l (l.length - 1), va l (l.length - 1)) (by rfl) (by rfl)]
  dsimp only
  rw [wrapJ (ta l 0 + 1) (by omega) (by omega), if_neg (by omega), if_neg (by omega)]
  unfold chopped_M_s2
  rw [if_neg (by omega), if_neg (by omega), first00, pullI, if_neg (by decide), bindL_some (chop_loop h hp ha hb (chopped_L10_3_S l.length (cP l) tm fl l.length (cP l) 0 (ta l 0) (va l 0) (ta l (l.length - 1)) (va l (l.length - 1)) 0) fl 0 (ta l 0) (va l 0) (ta l (l.length - 1)) (va l (l.length - 1)) 0 (fun _ => rfl) (fun _ => rfl)), if_pos rfl,
    pullD_some ((l.take (p + 1)).length, cP (l.take (p + 1))) (by rfl) (by rfl)]
  dsimp only
  have hlen : (l.take (p + 1)).length = p + 1 := by rw [List.length_take]; omega
  rw [show [D.agg [D.list l.length (cP l)], iD tm] = [.agg [lP l], iD tm] from rfl, value_piece h hp (by omega) (fun _ => hlo) hhi, pullD_some (numP l p tm, denP l p) (by rfl) (by rfl)]
  dsimp only
  rw [rdown_eq nb.2.2.1 (by omega) (by omega), pullI, wrapJ (tm + fl) (by omega) (by omega),
    guardP_pos ⟨cellP [(tm, numP l p tm / denP l p), (tm + fl, 0)], by rw [cP_len]; exact Nat.le_refl _, by omega, by omega⟩]
  by_cases e1 : tm + fl > 1000000
  · rw [if_pos e1, if_pos (.inl e1)]
  · rw [if_neg e1]
    by_cases e2 : p + 3 > 12
    · rw [if_pos (by omega), if_pos (.inr e2)]
    · have et : List.take ((l.take (p + 1)).length * 2) (cP (l.take (p + 1))) = cP (l.take (p + 1)) := by rw [← cP_len]; exact List.take_length
      rw [if_neg (by omega), if_neg (by omega), guardP_pos ⟨by rw [et, List.length_append, cP_len]; simp; omega, by omega⟩, et]
      have ey : lP (chopY l p tm fl) = D.list ((l.take (p + 1)).length + (1 + 1)) (List.append (cP (l.take (p + 1))) [dCell (.int .i64 tm), dCell (.int .i64 (numP l p tm / denP l p)), dCell (.int .i64 (tm + fl)), dCell (.int .i64 0)]) := by
        unfold lP chopY
        rw [cP_app, List.length_append]
        rfl
      rw [ey]
theorem chop_imp (h : Imp l) {tm fl : Int} (c1 : ta l 0 + 1 ≤ tm) (f1 : 1 ≤ fl) {p : Nat} (hp : p + 1 < l.length) (hlo : ta l p < tm) (hhi : tm ≤ ta l (p + 1)) (e1 : tm + fl ≤ 1000000) (e2 : p + 3 ≤ 12) :
    Imp (chopY l p tm fl) ∧ (chopY l p tm fl).length = p + 3 ∧ (∀ i, i ≤ p → ta (chopY l p tm fl) i = ta l i ∧ va (chopY l p tm fl) i = va l i) ∧ ta (chopY l p tm fl) (p + 2) = tm + fl ∧ va (chopY l p tm fl) (p + 2) = 0 := by
  have h2 := h.two
  have b0 := h.ok 0 (by omega)
  have nb := num_bound h hp (tm := tm) (by omega) (fun _ => hlo) hhi
  have fb := floor_bound nb.2.2.1 nb.1 nb.2.1
  have hlen : (l.take (p + 1)).length = p + 1 := by rw [List.length_take]; omega
  have hL : (chopY l p tm fl).length = p + 3 := by unfold chopY; rw [List.length_append, hlen]; rfl
  have q0 : ∀ i, i ≤ p → ta (chopY l p tm fl) i = ta l i ∧ va (chopY l p tm fl) i = va l i := fun i hi => by
    unfold chopY
    obtain ⟨a1, a2⟩ := ta_app (a := l.take (p + 1)) (b := [(tm, numP l p tm / denP l p), (tm + fl, 0)]) (i := i) (by omega)
    obtain ⟨b1, b2⟩ := ta_take (l := l) (i := i) (k := p + 1) (by omega)
    exact ⟨a1.trans b1, a2.trans b2⟩
  have q1 : ta (chopY l p tm fl) (p + 1) = tm ∧ va (chopY l p tm fl) (p + 1) = numP l p tm / denP l p := by
    have := ta_app2 (a := l.take (p + 1)) (b := [(tm, numP l p tm / denP l p), (tm + fl, 0)]) 0
    rw [hlen] at this
    exact this
  have q2 : ta (chopY l p tm fl) (p + 2) = tm + fl ∧ va (chopY l p tm fl) (p + 2) = 0 := by
    have := ta_app2 (a := l.take (p + 1)) (b := [(tm, numP l p tm / denP l p), (tm + fl, 0)]) 1
    rw [hlen] at this
    exact this
  refine ⟨⟨by omega, by omega, fun i hi => ?_, fun i hi => ?_⟩, hL, q0, q2.1, q2.2⟩
  · rcases Nat.lt_or_ge i (p + 1) with h3 | h3
    · obtain ⟨a1, a2⟩ := q0 i (by omega)
      rw [a1, a2]; exact h.ok i (by omega)
    · rcases Nat.lt_or_ge i (p + 2) with h4 | h4
      · have : i = p + 1 := by omega
        rw [this, q1.1, q1.2]; omega
      · have : i = p + 2 := by omega
        rw [this, q2.1, q2.2]; omega
  · rcases Nat.lt_or_ge i p with h3 | h3
    · rw [(q0 i (by omega)).1, (q0 (i + 1) (by omega)).1]; exact h.asc i (by omega)
    · rcases Nat.lt_or_ge i (p + 1) with h4 | h4
      · have : i = p := by omega
        rw [this, (q0 p (Nat.le_refl _)).1, q1.1]; exact hlo
      · have : i = p + 1 := by omega
        rw [this, q1.1, q2.1]; omega
/-! Lowest terms of what is whole. -/
theorem divisor_whole {v d : Int} (hd : 0 < d) (h2 : d ≤ 1000000) : m_61 [iD (v * d), iD d] = some (iD d) := by
  rw [m_61_eq]
  unfold divisor_M
  have s1 : divisor_L1_S (v * d) d (.next 0 [iD (v * d), iD d]) = some (.next 0 [iD d, iD 0]) := by
    show divisor_L1_S0 (v * d) d _ = _
    unfold divisor_L1_S0
    rw [pullD_some (v * d, d) (by rfl) (by rfl)]
    dsimp only
    rw [if_pos (by omega), Int.mul_tmod_left]
  have s2 : divisor_L1_S (v * d) d (.next 0 [iD d, iD 0]) = some (.out 0 [iD d]) := by
    show divisor_L1_S0 (v * d) d _ = _
    unfold divisor_L1_S0
    rw [pullD_some (d, 0) (by rfl) (by rfl)]
    dsimp only
    rw [if_neg (by decide)]
  rw [bindL_some ((runR_next s1).trans (runR_exit s2)), if_pos rfl, pullD_some d (by rfl) (by rfl), wrapJ (0 - d) (by omega) (by omega), if_neg (by omega)]
theorem reduced_whole {v d : Int} (hd : 0 < d) (h2 : d ≤ 1000000) (h3 : -1000000 ≤ v) (h4 : v ≤ 1000000) : m_38 [iD (v * d), iD d] = some (.agg [iD v, iD 1]) := by
  rw [m_38_eq]
  unfold reduced_M
  rw [divisor_whole hd h2, pullI, guardP_pos (by omega), Int.mul_tdiv_cancel v (by omega), Int.tdiv_self (by omega), wrapJ v (by omega) (by omega), wrapJ 1 (by omega) (by omega)]
theorem size42 {v : Int} (h1 : -1000000000000 ≤ v) (h2 : v ≤ 1000000000000) : m_42 [iD v] = some (iD (max v (-v))) := by
  rw [m_42_eq]
  unfold sizeOf_M
  rw [wrapJ (0 - v) (by omega) (by omega), Int.zero_sub]
  congr 2
  split <;> omega
theorem limited_whole {v : Int} (h3 : -1000000 ≤ v) (h4 : v ≤ 1000000) : m_37 [.agg [iD v, iD 1]] = some (.tup [.agg [iD v, iD 1], iD 0]) := by
  rw [m_37_eq]
  unfold limited_M
  rw [size42 (by omega) (by omega), pullI, if_neg (by split <;> omega)]
theorem value10 (h : Imp l) {tm v d : Int} (t0 : 0 ≤ tm) (t1 : tm ≤ 1000000) (hd : 0 < d) (hd2 : d ≤ 1000000) (h3 : -1000000 ≤ v) (h4 : v ≤ 1000000) (hm : m_39 [.agg [lP l], iD tm] = some (.tup [iD (v * d), iD d])) :
    m_10 [.agg [lP l], iD tm] = some (.tup [.agg [iD v, iD 1], iD 0]) := by
  rw [m_10_eq]
  unfold valueAtC_M
  rw [show [D.agg [D.list l.length (cP l)]] = [.agg [lP l]] from rfl, chkd36, impX_of h, if_neg (by decide), pullD_some (l.length, cP l, 0) (by rfl) (by rfl)]
  dsimp only
  rw [if_neg (by omega), if_neg (by omega), first00, pullI, if_neg (by decide), show [D.agg [D.list l.length (cP l)], iD tm] = [.agg [lP l], iD tm] from rfl, hm, pullD_some (v * d, d) (by rfl) (by rfl)]
  dsimp only
  rw [reduced_whole hd hd2 h3 h4, pullD_some (v, 1) (by rfl) (by rfl)]
  dsimp only
  rw [limited_whole h3 h4, pullD_some (v, 1, 0) (by rfl) (by rfl)]
theorem value10_own (h : Imp l) {i : Nat} (hi : i < l.length) : m_10 [.agg [lP l], iD (ta l i)] = some (.tup [.agg [iD (va l i), iD 1], iD 0]) := by
  obtain ⟨d, h1, h2, h3⟩ := value_own h hi
  have b := h.ok i hi
  exact value10 h b.1 b.2.1 h1 h2 b.2.2.1 b.2.2.2 h3
theorem value10_end (h : Imp l) {tm : Int} (t1 : tm ≤ 1000000) (hlo : ta l (l.length - 1) < tm) : m_10 [.agg [lP l], iD tm] = some (.tup [.agg [iD (va l (l.length - 1)), iD 1], iD 0]) := by
  have h2 := h.two
  have b := h.ok (l.length - 1) (by omega)
  refine value10 h (by omega) t1 (d := 1) (by omega) (by omega) b.2.2.1 b.2.2.2 ?_
  rw [value_end h (by omega) hlo, Int.mul_one]
end
end Go.Proofs.Ytaabapmggkkmeaa
