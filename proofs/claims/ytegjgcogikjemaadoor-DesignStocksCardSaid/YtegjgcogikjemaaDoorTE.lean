import Derived.Test.YtegjgcogikjemaaDoorTD
import Derived.Laws.Strings
import Derived.Test.YtegjgcogikjemaaDoorTC
set_option linter.unusedVariables false
set_option linter.unusedSimpArgs false
set_option linter.unusedSectionVars false
set_option linter.unnecessarySimpa false
/- Loops that go through a list. -/
namespace Go.Proofs.YtegjgcogikjemaaDoor
open Go.Ev Go.RowKit
set_option maxRecDepth 100000
theorem wrapI (x : Int) (h1 : -9223372036854775808 ≤ x) (h2 : x < 9223372036854775808) : IntKind.i64.wrap x = x := by
  have hb : IntKind.i64.bits = 64 := rfl
  have hs : IntKind.i64.signed = true := rfl
  unfold IntKind.wrap
  simp only [hb, hs, Bool.true_and, decide_eq_true_eq]
  split <;> omega
theorem wrap_id {n : Int} (h1 : -9223372036854775808 ≤ n) (h2 : n ≤ 9223372036854775807) : IntKind.i64.wrap n = n := wrapI n h1 (by omega)
theorem wrap_succ {i k : Nat} (h : i < k) (hk : k ≤ 4611686018427387904) : IntKind.i64.wrap ((i : Int) + 1) = ((i + 1 : Nat) : Int) := by
  rw [wrap_id (by omega) (by omega)]; omega
theorem scan {C : Ctx} (hg : Good' C Tabs) {l : LoopAt} (hl : l.OK) {H : Int → List AV × AHeap} {T : List AV × AHeap} {x : AX} (stop : Nat) (hb : stop ≤ 4611686018427387904)
    (h1 : ∀ i : Nat, i < stop → Step C Tabs l (H (i : Int)) (H (IntKind.i64.wrap ((i : Int) + 1))) .normal) (h2 : Step C Tabs l (H (stop : Int)) T x) (hx : isVal x = false ∧ x ≠ .normal) (hT : AV.okL l.nx T.1 = true) : Runs C Tabs l (H 0) T x := by
  have key : ∀ m i : Nat, i + m = stop → Runs C Tabs l (H (i : Int)) T x := by
    intro m
    induction m with
    | zero => intro i hi; have : i = stop := by omega
              subst this; exact Step.runs hg hl h2 hx hT
    | succ m ih =>
      intro i hi
      have h := h1 i (by omega)
      rw [wrap_succ (show i < stop by omega) hb] at h
      exact Step.more hg hl h (ih (i + 1) (by omega))
  exact key stop 0 (by omega)
/-- The first element of a kind, or none. -/
theorem first_of {α : Type} (p : α → Bool) (xs : List α) : (∀ x ∈ xs, p x = false) ∨ ∃ (i : Nat) (x : α), xs[i]? = some x ∧ p x = true ∧ ∀ (j : Nat) (y : α), j < i → xs[j]? = some y → p y = false := by
  induction xs with
  | nil => exact .inl fun x h => by cases h
  | cons a xs ih =>
    cases ha : p a with
    | true => exact .inr ⟨0, a, rfl, ha, fun j y h => by omega⟩
    | false =>
      rcases ih with h | ⟨i, x, h1, h2, h3⟩
      · refine .inl fun x hx => ?_
        rcases List.mem_cons.1 hx with rfl | hx
        · exact ha
        · exact h x hx
      · refine .inr ⟨i + 1, x, by simpa using h1, h2, fun j y hj hy => ?_⟩
        cases j with
        | zero => simp at hy; subst hy; exact ha
        | succ j => exact h3 j y (by omega) (by simpa using hy)
def ID (x : Int) : D := .one (.int .i64 x)
def bad (lo hi x : Int) : Bool := decide (x < lo) || decide (x > hi)
def rangeE (lo hi : Int) (xs : List Int) : Int := if xs.any (bad lo hi) then 2 else 0
theorem reads1 {xs : List Int} {i : Nat} {v : Int} (h : xs[i]? = some v) : readsAs (xs.map ID) ((i : Int).toNat * 1) 1 false (.one (.int .i64 v)) := by
  show (xs.map ID)[(i : Int).toNat * 1]? = _
  simp [h, ID]
theorem chkRange_all (lo hi : Int) (xs : List Int) (hl : xs.length ≤ 4611686018427387904) : Con 91 [.one (.int .i64 lo), .one (.int .i64 hi), .list xs.length (xs.map ID)] (.one (.int .i64 (rangeE lo hi xs))) := by
  have step : ∀ (i : Nat) (v : Int), xs[i]? = some v → bad lo hi v = false → Step (ctx [91] chkRange_sp) Tabs chkRange_L2_A (chkRange_L2_H lo hi xs.length (xs.map ID) (i : Int)) (chkRange_L2_H lo hi xs.length (xs.map ID) (IntKind.i64.wrap ((i : Int) + 1))) .normal := fun i v hv hb => by
    have hix := (List.getElem?_eq_some_iff.1 hv).1
    simp only [bad, Bool.or_eq_false_iff, decide_eq_false_iff_not] at hb
    exact chkRange_L2_2 lo hi xs.length (xs.map ID) i v (by omega) (by omega) (reads1 hv) hb.1 hb.2
  rcases first_of (bad lo hi) xs with h | ⟨i, v, h1, h2, h3⟩
  · have e : rangeE lo hi xs = 0 := by
      unfold rangeE; rw [if_neg]; simpa using h
    rw [e]
    refine chkRange_0 lo hi xs.length (xs.map ID) (chkRange_L2_in lo hi _ _ (scan (good true _ _) chkRange_L2_ok xs.length hl (fun i hi => step i xs[i] (List.getElem?_eq_getElem hi) (h _ (List.getElem_mem hi))) (chkRange_L2_3 lo hi _ _ _ (by omega)) ⟨rfl, by simp [axOf]⟩ (by kernel_rfl)) (by kernel_rfl))
  · have hix := (List.getElem?_eq_some_iff.1 h1).1
    have e : rangeE lo hi xs = 2 := by
      unfold rangeE; rw [if_pos]; rw [List.any_eq_true]; exact ⟨v, List.mem_of_getElem? h1, h2⟩
    rw [e]
    refine chkRange_1 lo hi xs.length (xs.map ID) 2 (chkRange_L2_in lo hi _ _ (scan (good true _ _) chkRange_L2_ok i (by omega) (fun j hj => step j (xs[j]'(by omega)) (List.getElem?_eq_getElem _) (h3 j _ hj (List.getElem?_eq_getElem _))) ?_ ⟨rfl, by simp [axOf]⟩ (by kernel_rfl)) (by kernel_rfl))
    simp only [bad, Bool.or_eq_true, decide_eq_true_eq] at h2
    by_cases hlo : v < lo
    · exact chkRange_L2_0 lo hi _ _ _ v (by omega) (by omega) (reads1 h1) hlo
    · exact chkRange_L2_1 lo hi _ _ _ v (by omega) (by omega) (reads1 h1) hlo (by rcases h2 with h | h; exact absurd h hlo; exact h)
def firstNZ (xs : List Int) : Int := (xs.find? (fun x => x != 0)).getD 0
theorem firstOf_all (xs : List Int) (hl : xs.length ≤ 4611686018427387904) : Con 92 [.list xs.length (xs.map ID)] (.one (.int .i64 (firstNZ xs))) := by
  have step : ∀ (i : Nat) (v : Int), xs[i]? = some v → (v != 0) = false → Step (ctx [92] firstOf_sp) Tabs firstOf_L2_A (firstOf_L2_H xs.length (xs.map ID) (i : Int)) (firstOf_L2_H xs.length (xs.map ID) (IntKind.i64.wrap ((i : Int) + 1))) .normal := fun i v hv hb => by
    have hix := (List.getElem?_eq_some_iff.1 hv).1
    exact firstOf_L2_1 xs.length (xs.map ID) i v (by omega) (by omega) (reads1 hv) (by simpa using hb)
  rcases first_of (fun x => x != 0) xs with h | ⟨i, v, h1, h2, h3⟩
  · have e : firstNZ xs = 0 := by
      unfold firstNZ
      rw [List.find?_eq_none.2 fun x hx => by simpa using h x hx]; rfl
    rw [e]
    exact firstOf_0 _ _ (firstOf_L2_in _ _ (scan (good true _ _) firstOf_L2_ok xs.length hl (fun i hi => step i xs[i] (List.getElem?_eq_getElem hi) (h _ (List.getElem_mem hi))) (firstOf_L2_2 _ _ _ (by omega)) ⟨rfl, by simp [axOf]⟩ (by kernel_rfl)) (by kernel_rfl))
  · have hix := (List.getElem?_eq_some_iff.1 h1).1
    have e : firstNZ xs = v := by
      unfold firstNZ
      have : xs.find? (fun x => x != 0) = some v := by
        rw [List.find?_eq_some_iff_getElem]
        exact ⟨h2, i, hix, (List.getElem?_eq_some_iff.1 h1).2, fun j hj => by have := h3 j _ hj (List.getElem?_eq_getElem (by omega)); simpa using this⟩
      rw [this]; rfl
    rw [e]
    exact firstOf_1 _ _ v (firstOf_L2_in _ _ (scan (good true _ _) firstOf_L2_ok i (by omega) (fun j hj => step j (xs[j]'(by omega)) (List.getElem?_eq_getElem _) (h3 j _ hj (List.getElem?_eq_getElem _))) (firstOf_L2_0 _ _ _ v (by omega) (by omega) (reads1 h1) (by simpa using h2)) ⟨rfl, by simp [axOf]⟩ (by kernel_rfl)) (by kernel_rfl))
/-- How a round ends: at its end, by which head; or at an exit. -/
inductive Rd where
  | next (q : Nat) (ds : List D)
  | out (j : Nat) (ds : List D)
end Go.Proofs.YtegjgcogikjemaaDoor
namespace Go.Proofs.YtegjgcogikjemaaDoor
open Go.Ev Go.RowKit
set_option maxRecDepth 100000
noncomputable section
def chkCount_f (n m : Int)  : Int := (if n = (0 : Int) then (10 : Int) else (if n > m then (8 : Int) else (0 : Int)))
theorem chkCount_t (n m : Int)  : Con 93 [.one (.int .i64 n), .one (.int .i64 m)] (.one (.int .i64 (chkCount_f n m))) := by
  unfold chkCount_f
  by_cases b0 : n = (0 : Int)
  · simp only [if_pos b0]
    exact chkCount_0 n m (by first | exact b0 | simpa using b0)
  · simp only [if_neg b0]
    by_cases b1 : n > m
    · simp only [if_pos b1]
      exact chkCount_1 n m (by first | exact b0 | simpa using b0) (by first | exact b1 | simpa using b1)
    · simp only [if_neg b1]
      exact chkCount_2 n m (by first | exact b0 | simpa using b0) (by first | exact b1 | simpa using b1)
def isLetter_f (x : Int)  : Bool := (if x ≥ (97 : Int) then (if x ≤ (122 : Int) then true else (if x ≥ (65 : Int) then (decide (x ≤ (90 : Int))) else false)) else (if x ≥ (65 : Int) then (decide (x ≤ (90 : Int))) else false))
theorem isLetter_t (x : Int)  : Con 217 [.one (.int .u8 x)] (.one (.bool (isLetter_f x))) := by
  unfold isLetter_f
  by_cases b0 : x ≥ (97 : Int)
  · simp only [if_pos b0]
    by_cases b1 : x ≤ (122 : Int)
    · simp only [if_pos b1]
      exact isLetter_0 x (by first | exact b0 | simpa using b0) (by first | exact b1 | simpa using b1)
    · simp only [if_neg b1]
      by_cases b2 : x ≥ (65 : Int)
      · simp only [if_pos b2]
        exact isLetter_1 x (by first | exact b0 | simpa using b0) (by first | exact b1 | simpa using b1) (by first | exact b2 | simpa using b2)
      · simp only [if_neg b2]
        exact isLetter_2 x (by first | exact b0 | simpa using b0) (by first | exact b1 | simpa using b1) (by first | exact b2 | simpa using b2)
  · simp only [if_neg b0]
    by_cases b1 : x ≥ (65 : Int)
    · simp only [if_pos b1]
      exact isLetter_3 x (by first | exact b0 | simpa using b0) (by first | exact b1 | simpa using b1)
    · simp only [if_neg b1]
      exact isLetter_4 x (by first | exact b0 | simpa using b0) (by first | exact b1 | simpa using b1)
def isDigit_f (x : Int)  : Bool := (if x ≥ (48 : Int) then (decide (x ≤ (57 : Int))) else false)
theorem isDigit_t (x : Int)  : Con 218 [.one (.int .u8 x)] (.one (.bool (isDigit_f x))) := by
  unfold isDigit_f
  by_cases b0 : x ≥ (48 : Int)
  · simp only [if_pos b0]
    exact isDigit_0 x (by first | exact b0 | simpa using b0)
  · simp only [if_neg b0]
    exact isDigit_1 x (by first | exact b0 | simpa using b0)
def chkPart_e0_f (pn : ByteArray) (pp p0 p1 p2 p3 p4 p5 p6 p7 p8 p9 p10 p11 : Int) (k : Nat) (c : List D) (r0 : Bool) (r1 : Int) (r2 : Int) (r3 : Int) (r4 : Int) (r5 : Int) (r6 : Int) (r7 : Int) : Int := (if r0 = false then (4 : Int) else (if r1 ≠ (0 : Int) then r1 else (if r2 ≠ (0 : Int) then r2 else (if p0 > p1 then (9 : Int) else (if r3 ≠ (0 : Int) then r3 else (if p2 > p3 then (9 : Int) else (if r4 ≠ (0 : Int) then r4 else (if p4 > p5 then (9 : Int) else (if r5 ≠ (0 : Int) then r5 else (if p6 > p7 then (9 : Int) else (if r6 ≠ (0 : Int) then r6 else (if p8 > p9 then (9 : Int) else (if r7 ≠ (0 : Int) then r7 else (if p10 > p11 then (9 : Int) else (0 : Int)))))))))))))))
theorem chkPart_e0_t (pn : ByteArray) (pp p0 p1 p2 p3 p4 p5 p6 p7 p8 p9 p10 p11 : Int) (k : Nat) (c : List D) (r0 : Bool) (r1 : Int) (r2 : Int) (r3 : Int) (r4 : Int) (r5 : Int) (r6 : Int) (r7 : Int) (hc0 : Con 191 [.one (.string pn)] (.one (.bool r0))) (hc1 : ¬ (r0 = false) → LoopC (loopAt Tryd.prog 151 0) (chkPart_L4_E pn pp p0 p1 p2 p3 p4 p5 p6 p7 p8 p9 p10 p11 k c r0) 2 noFrame ⟨some 0, [], [4, 6, 17, 18, 19, 20, 21, 22, 23, 24, 25, 26]⟩ []) (hc2 : ¬ (r0 = false) → Con 91 [.one (.int .i64 (0 : Int)), .one (.int .i64 (1000000 : Int)), .list 1 [.one (.int .i64 pp)]] (.one (.int .i64 r1))) (hc3 : ¬ (r0 = false) → ¬ (r1 ≠ (0 : Int)) → Con 91 [.one (.int .i64 (0 : Int)), .one (.int .i64 (1000000 : Int)), .list 2 [.one (.int .i64 p0), .one (.int .i64 p1)]] (.one (.int .i64 r2))) (hc4 : ¬ (r0 = false) → ¬ (r1 ≠ (0 : Int)) → ¬ (r2 ≠ (0 : Int)) → ¬ (p0 > p1) → Con 91 [.one (.int .i64 (0 : Int)), .one (.int .i64 (1000000 : Int)), .list 2 [.one (.int .i64 p2), .one (.int .i64 p3)]] (.one (.int .i64 r3))) (hc5 : ¬ (r0 = false) → ¬ (r1 ≠ (0 : Int)) → ¬ (r2 ≠ (0 : Int)) → ¬ (p0 > p1) → ¬ (r3 ≠ (0 : Int)) → ¬ (p2 > p3) → Con 91 [.one (.int .i64 (0 : Int)), .one (.int .i64 (1000000 : Int)), .list 2 [.one (.int .i64 p4), .one (.int .i64 p5)]] (.one (.int .i64 r4))) (hc6 : ¬ (r0 = false) → ¬ (r1 ≠ (0 : Int)) → ¬ (r2 ≠ (0 : Int)) → ¬ (p0 > p1) → ¬ (r3 ≠ (0 : Int)) → ¬ (p2 > p3) → ¬ (r4 ≠ (0 : Int)) → ¬ (p4 > p5) → Con 91 [.one (.int .i64 (0 : Int)), .one (.int .i64 (1000000 : Int)), .list 2 [.one (.int .i64 p6), .one (.int .i64 p7)]] (.one (.int .i64 r5))) (hc7 : ¬ (r0 = false) → ¬ (r1 ≠ (0 : Int)) → ¬ (r2 ≠ (0 : Int)) → ¬ (p0 > p1) → ¬ (r3 ≠ (0 : Int)) → ¬ (p2 > p3) → ¬ (r4 ≠ (0 : Int)) → ¬ (p4 > p5) → ¬ (r5 ≠ (0 : Int)) → ¬ (p6 > p7) → Con 91 [.one (.int .i64 (0 : Int)), .one (.int .i64 (1000000 : Int)), .list 2 [.one (.int .i64 p8), .one (.int .i64 p9)]] (.one (.int .i64 r6))) (hc8 : ¬ (r0 = false) → ¬ (r1 ≠ (0 : Int)) → ¬ (r2 ≠ (0 : Int)) → ¬ (p0 > p1) → ¬ (r3 ≠ (0 : Int)) → ¬ (p2 > p3) → ¬ (r4 ≠ (0 : Int)) → ¬ (p4 > p5) → ¬ (r5 ≠ (0 : Int)) → ¬ (p6 > p7) → ¬ (r6 ≠ (0 : Int)) → ¬ (p8 > p9) → Con 91 [.one (.int .i64 (0 : Int)), .one (.int .i64 (1000000 : Int)), .list 2 [.one (.int .i64 p10), .one (.int .i64 p11)]] (.one (.int .i64 r7))) : Con 151 [.agg [.one (.string pn), .one (.int .i64 pp), .one (.int .i64 p0), .one (.int .i64 p1), .one (.int .i64 p2), .one (.int .i64 p3), .one (.int .i64 p4), .one (.int .i64 p5), .one (.int .i64 p6), .one (.int .i64 p7), .one (.int .i64 p8), .one (.int .i64 p9), .one (.int .i64 p10), .one (.int .i64 p11)], .list k c] (.one (.int .i64 (chkPart_e0_f pn pp p0 p1 p2 p3 p4 p5 p6 p7 p8 p9 p10 p11 k c r0 r1 r2 r3 r4 r5 r6 r7))) := by
  unfold chkPart_e0_f
  by_cases b0 : r0 = false
  · simp only [if_pos b0]
    exact chkPart_0 pn pp p0 p1 p2 p3 p4 p5 p6 p7 p8 p9 p10 p11 k c r0 (by first | exact b0 | simpa using b0) (hc0)
  · simp only [if_neg b0]
    by_cases b1 : r1 ≠ (0 : Int)
    · simp only [if_pos b1]
      exact chkPart_1 pn pp p0 p1 p2 p3 p4 p5 p6 p7 p8 p9 p10 p11 k c r0 r1 (by first | exact b0 | simpa using b0) (by first | exact b1 | simpa using b1) (hc0) (hc1 b0) (hc2 b0)
    · simp only [if_neg b1]
      by_cases b2 : r2 ≠ (0 : Int)
      · simp only [if_pos b2]
        exact chkPart_2 pn pp p0 p1 p2 p3 p4 p5 p6 p7 p8 p9 p10 p11 k c r0 r1 r2 (by first | exact b0 | simpa using b0) (by first | exact b1 | simpa using b1) (by first | exact b2 | simpa using b2) (hc0) (hc1 b0) (hc2 b0) (hc3 b0 b1)
      · simp only [if_neg b2]
        by_cases b3 : p0 > p1
        · simp only [if_pos b3]
          exact chkPart_3 pn pp p0 p1 p2 p3 p4 p5 p6 p7 p8 p9 p10 p11 k c r0 r1 r2 (by first | exact b0 | simpa using b0) (by first | exact b1 | simpa using b1) (by first | exact b2 | simpa using b2) (by first | exact b3 | simpa using b3) (hc0) (hc1 b0) (hc2 b0) (hc3 b0 b1)
        · simp only [if_neg b3]
          by_cases b4 : r3 ≠ (0 : Int)
          · simp only [if_pos b4]
            exact chkPart_4 pn pp p0 p1 p2 p3 p4 p5 p6 p7 p8 p9 p10 p11 k c r0 r1 r2 r3 (by first | exact b0 | simpa using b0) (by first | exact b1 | simpa using b1) (by first | exact b2 | simpa using b2) (by first | exact b3 | simpa using b3) (by first | exact b4 | simpa using b4) (hc0) (hc1 b0) (hc2 b0) (hc3 b0 b1) (hc4 b0 b1 b2 b3)
          · simp only [if_neg b4]
            by_cases b5 : p2 > p3
            · simp only [if_pos b5]
              exact chkPart_5 pn pp p0 p1 p2 p3 p4 p5 p6 p7 p8 p9 p10 p11 k c r0 r1 r2 r3 (by first | exact b0 | simpa using b0) (by first | exact b1 | simpa using b1) (by first | exact b2 | simpa using b2) (by first | exact b3 | simpa using b3) (by first | exact b4 | simpa using b4) (by first | exact b5 | simpa using b5) (hc0) (hc1 b0) (hc2 b0) (hc3 b0 b1) (hc4 b0 b1 b2 b3)
            · simp only [if_neg b5]
              by_cases b6 : r4 ≠ (0 : Int)
              · simp only [if_pos b6]
                exact chkPart_6 pn pp p0 p1 p2 p3 p4 p5 p6 p7 p8 p9 p10 p11 k c r0 r1 r2 r3 r4 (by first | exact b0 | simpa using b0) (by first | exact b1 | simpa using b1) (by first | exact b2 | simpa using b2) (by first | exact b3 | simpa using b3) (by first | exact b4 | simpa using b4) (by first | exact b5 | simpa using b5) (by first | exact b6 | simpa using b6) (hc0) (hc1 b0) (hc2 b0) (hc3 b0 b1) (hc4 b0 b1 b2 b3) (hc5 b0 b1 b2 b3 b4 b5)
              · simp only [if_neg b6]
                by_cases b7 : p4 > p5
                · simp only [if_pos b7]
                  exact chkPart_7 pn pp p0 p1 p2 p3 p4 p5 p6 p7 p8 p9 p10 p11 k c r0 r1 r2 r3 r4 (by first | exact b0 | simpa using b0) (by first | exact b1 | simpa using b1) (by first | exact b2 | simpa using b2) (by first | exact b3 | simpa using b3) (by first | exact b4 | simpa using b4) (by first | exact b5 | simpa using b5) (by first | exact b6 | simpa using b6) (by first | exact b7 | simpa using b7) (hc0) (hc1 b0) (hc2 b0) (hc3 b0 b1) (hc4 b0 b1 b2 b3) (hc5 b0 b1 b2 b3 b4 b5)
                · simp only [if_neg b7]
                  by_cases b8 : r5 ≠ (0 : Int)
                  · simp only [if_pos b8]
                    exact chkPart_8 pn pp p0 p1 p2 p3 p4 p5 p6 p7 p8 p9 p10 p11 k c r0 r1 r2 r3 r4 r5 (by first | exact b0 | simpa using b0) (by first | exact b1 | simpa using b1) (by first | exact b2 | simpa using b2) (by first | exact b3 | simpa using b3) (by first | exact b4 | simpa using b4) (by first | exact b5 | simpa using b5) (by first | exact b6 | simpa using b6) (by first | exact b7 | simpa using b7) (by first | exact b8 | simpa using b8) (hc0) (hc1 b0) (hc2 b0) (hc3 b0 b1) (hc4 b0 b1 b2 b3) (hc5 b0 b1 b2 b3 b4 b5) (hc6 b0 b1 b2 b3 b4 b5 b6 b7)
                  · simp only [if_neg b8]
                    by_cases b9 : p6 > p7
                    · simp only [if_pos b9]
                      exact chkPart_9 pn pp p0 p1 p2 p3 p4 p5 p6 p7 p8 p9 p10 p11 k c r0 r1 r2 r3 r4 r5 (by first | exact b0 | simpa using b0) (by first | exact b1 | simpa using b1) (by first | exact b2 | simpa using b2) (by first | exact b3 | simpa using b3) (by first | exact b4 | simpa using b4) (by first | exact b5 | simpa using b5) (by first | exact b6 | simpa using b6) (by first | exact b7 | simpa using b7) (by first | exact b8 | simpa using b8) (by first | exact b9 | simpa using b9) (hc0) (hc1 b0) (hc2 b0) (hc3 b0 b1) (hc4 b0 b1 b2 b3) (hc5 b0 b1 b2 b3 b4 b5) (hc6 b0 b1 b2 b3 b4 b5 b6 b7)
                    · simp only [if_neg b9]
                      by_cases b10 : r6 ≠ (0 : Int)
                      · simp only [if_pos b10]
                        exact chkPart_10 pn pp p0 p1 p2 p3 p4 p5 p6 p7 p8 p9 p10 p11 k c r0 r1 r2 r3 r4 r5 r6 (by first | exact b0 | simpa using b0) (by first | exact b1 | simpa using b1) (by first | exact b2 | simpa using b2) (by first | exact b3 | simpa using b3) (by first | exact b4 | simpa using b4) (by first | exact b5 | simpa using b5) (by first | exact b6 | simpa using b6) (by first | exact b7 | simpa using b7) (by first | exact b8 | simpa using b8) (by first | exact b9 | simpa using b9) (by first | exact b10 | simpa using b10) (hc0) (hc1 b0) (hc2 b0) (hc3 b0 b1) (hc4 b0 b1 b2 b3) (hc5 b0 b1 b2 b3 b4 b5) (hc6 b0 b1 b2 b3 b4 b5 b6 b7) (hc7 b0 b1 b2 b3 b4 b5 b6 b7 b8 b9)
                      · simp only [if_neg b10]
                        by_cases b11 : p8 > p9
                        · simp only [if_pos b11]
                          exact chkPart_11 pn pp p0 p1 p2 p3 p4 p5 p6 p7 p8 p9 p10 p11 k c r0 r1 r2 r3 r4 r5 r6 (by first | exact b0 | simpa using b0) (by first | exact b1 | simpa using b1) (by first | exact b2 | simpa using b2) (by first | exact b3 | simpa using b3) (by first | exact b4 | simpa using b4) (by first | exact b5 | simpa using b5) (by first | exact b6 | simpa using b6) (by first | exact b7 | simpa using b7) (by first | exact b8 | simpa using b8) (by first | exact b9 | simpa using b9) (by first | exact b10 | simpa using b10) (by first | exact b11 | simpa using b11) (hc0) (hc1 b0) (hc2 b0) (hc3 b0 b1) (hc4 b0 b1 b2 b3) (hc5 b0 b1 b2 b3 b4 b5) (hc6 b0 b1 b2 b3 b4 b5 b6 b7) (hc7 b0 b1 b2 b3 b4 b5 b6 b7 b8 b9)
                        · simp only [if_neg b11]
                          by_cases b12 : r7 ≠ (0 : Int)
                          · simp only [if_pos b12]
                            exact chkPart_12 pn pp p0 p1 p2 p3 p4 p5 p6 p7 p8 p9 p10 p11 k c r0 r1 r2 r3 r4 r5 r6 r7 (by first | exact b0 | simpa using b0) (by first | exact b1 | simpa using b1) (by first | exact b2 | simpa using b2) (by first | exact b3 | simpa using b3) (by first | exact b4 | simpa using b4) (by first | exact b5 | simpa using b5) (by first | exact b6 | simpa using b6) (by first | exact b7 | simpa using b7) (by first | exact b8 | simpa using b8) (by first | exact b9 | simpa using b9) (by first | exact b10 | simpa using b10) (by first | exact b11 | simpa using b11) (by first | exact b12 | simpa using b12) (hc0) (hc1 b0) (hc2 b0) (hc3 b0 b1) (hc4 b0 b1 b2 b3) (hc5 b0 b1 b2 b3 b4 b5) (hc6 b0 b1 b2 b3 b4 b5 b6 b7) (hc7 b0 b1 b2 b3 b4 b5 b6 b7 b8 b9) (hc8 b0 b1 b2 b3 b4 b5 b6 b7 b8 b9 b10 b11)
                          · simp only [if_neg b12]
                            by_cases b13 : p10 > p11
                            · simp only [if_pos b13]
                              exact chkPart_13 pn pp p0 p1 p2 p3 p4 p5 p6 p7 p8 p9 p10 p11 k c r0 r1 r2 r3 r4 r5 r6 r7 (by first | exact b0 | simpa using b0) (by first | exact b1 | simpa using b1) (by first | exact b2 | simpa using b2) (by first | exact b3 | simpa using b3) (by first | exact b4 | simpa using b4) (by first | exact b5 | simpa using b5) (by first | exact b6 | simpa using b6) (by first | exact b7 | simpa using b7) (by first | exact b8 | simpa using b8) (by first | exact b9 | simpa using b9) (by first | exact b10 | simpa using b10) (by first | exact b11 | simpa using b11) (by first | exact b12 | simpa using b12) (by first | exact b13 | simpa using b13) (hc0) (hc1 b0) (hc2 b0) (hc3 b0 b1) (hc4 b0 b1 b2 b3) (hc5 b0 b1 b2 b3 b4 b5) (hc6 b0 b1 b2 b3 b4 b5 b6 b7) (hc7 b0 b1 b2 b3 b4 b5 b6 b7 b8 b9) (hc8 b0 b1 b2 b3 b4 b5 b6 b7 b8 b9 b10 b11)
                            · simp only [if_neg b13]
                              exact chkPart_14 pn pp p0 p1 p2 p3 p4 p5 p6 p7 p8 p9 p10 p11 k c r0 r1 r2 r3 r4 r5 r6 r7 (by first | exact b0 | simpa using b0) (by first | exact b1 | simpa using b1) (by first | exact b2 | simpa using b2) (by first | exact b3 | simpa using b3) (by first | exact b4 | simpa using b4) (by first | exact b5 | simpa using b5) (by first | exact b6 | simpa using b6) (by first | exact b7 | simpa using b7) (by first | exact b8 | simpa using b8) (by first | exact b9 | simpa using b9) (by first | exact b10 | simpa using b10) (by first | exact b11 | simpa using b11) (by first | exact b12 | simpa using b12) (by first | exact b13 | simpa using b13) (hc0) (hc1 b0) (hc2 b0) (hc3 b0 b1) (hc4 b0 b1 b2 b3) (hc5 b0 b1 b2 b3 b4 b5) (hc6 b0 b1 b2 b3 b4 b5 b6 b7) (hc7 b0 b1 b2 b3 b4 b5 b6 b7 b8 b9) (hc8 b0 b1 b2 b3 b4 b5 b6 b7 b8 b9 b10 b11)
def numErr_f (pn : ByteArray) (pp p0 p1 p2 p3 p4 p5 p6 p7 p8 p9 p10 p11 : Int) (r0 : Bool) (r1 : Bool) (r2 : Bool) (r3 : Bool) (r4 : Bool) (r5 : Bool) (r6 : Bool) (r7 : Bool) (r8 : Bool) (r9 : Bool) (r10 : Bool) (r11 : Bool) (r12 : Bool) : Int := (if r0 = false then (2 : Int) else (if r1 = false then (2 : Int) else (if r2 = false then (2 : Int) else (if p0 > p1 then (9 : Int) else (if r3 = false then (2 : Int) else (if r4 = false then (2 : Int) else (if p2 > p3 then (9 : Int) else (if r5 = false then (2 : Int) else (if r6 = false then (2 : Int) else (if p4 > p5 then (9 : Int) else (if r7 = false then (2 : Int) else (if r8 = false then (2 : Int) else (if p6 > p7 then (9 : Int) else (if r9 = false then (2 : Int) else (if r10 = false then (2 : Int) else (if p8 > p9 then (9 : Int) else (if r11 = false then (2 : Int) else (if r12 = false then (2 : Int) else (if p10 > p11 then (9 : Int) else (0 : Int))))))))))))))))))))
theorem numErr_t (pn : ByteArray) (pp p0 p1 p2 p3 p4 p5 p6 p7 p8 p9 p10 p11 : Int) (r0 : Bool) (r1 : Bool) (r2 : Bool) (r3 : Bool) (r4 : Bool) (r5 : Bool) (r6 : Bool) (r7 : Bool) (r8 : Bool) (r9 : Bool) (r10 : Bool) (r11 : Bool) (r12 : Bool) (hc0 : Con 22 [.one (.int .i64 pp), .one (.int .i64 (0 : Int)), .one (.int .i64 (1000000 : Int))] (.one (.bool r0))) (hc1 : ¬ (r0 = false) → Con 22 [.one (.int .i64 p0), .one (.int .i64 (0 : Int)), .one (.int .i64 (1000000 : Int))] (.one (.bool r1))) (hc2 : ¬ (r0 = false) → ¬ (r1 = false) → Con 22 [.one (.int .i64 p1), .one (.int .i64 (0 : Int)), .one (.int .i64 (1000000 : Int))] (.one (.bool r2))) (hc3 : ¬ (r0 = false) → ¬ (r1 = false) → ¬ (r2 = false) → ¬ (p0 > p1) → Con 22 [.one (.int .i64 p2), .one (.int .i64 (0 : Int)), .one (.int .i64 (1000000 : Int))] (.one (.bool r3))) (hc4 : ¬ (r0 = false) → ¬ (r1 = false) → ¬ (r2 = false) → ¬ (p0 > p1) → ¬ (r3 = false) → Con 22 [.one (.int .i64 p3), .one (.int .i64 (0 : Int)), .one (.int .i64 (1000000 : Int))] (.one (.bool r4))) (hc5 : ¬ (r0 = false) → ¬ (r1 = false) → ¬ (r2 = false) → ¬ (p0 > p1) → ¬ (r3 = false) → ¬ (r4 = false) → ¬ (p2 > p3) → Con 22 [.one (.int .i64 p4), .one (.int .i64 (0 : Int)), .one (.int .i64 (1000000 : Int))] (.one (.bool r5))) (hc6 : ¬ (r0 = false) → ¬ (r1 = false) → ¬ (r2 = false) → ¬ (p0 > p1) → ¬ (r3 = false) → ¬ (r4 = false) → ¬ (p2 > p3) → ¬ (r5 = false) → Con 22 [.one (.int .i64 p5), .one (.int .i64 (0 : Int)), .one (.int .i64 (1000000 : Int))] (.one (.bool r6))) (hc7 : ¬ (r0 = false) → ¬ (r1 = false) → ¬ (r2 = false) → ¬ (p0 > p1) → ¬ (r3 = false) → ¬ (r4 = false) → ¬ (p2 > p3) → ¬ (r5 = false) → ¬ (r6 = false) → ¬ (p4 > p5) → Con 22 [.one (.int .i64 p6), .one (.int .i64 (0 : Int)), .one (.int .i64 (1000000 : Int))] (.one (.bool r7))) (hc8 : ¬ (r0 = false) → ¬ (r1 = false) → ¬ (r2 = false) → ¬ (p0 > p1) → ¬ (r3 = false) → ¬ (r4 = false) → ¬ (p2 > p3) → ¬ (r5 = false) → ¬ (r6 = false) → ¬ (p4 > p5) → ¬ (r7 = false) → Con 22 [.one (.int .i64 p7), .one (.int .i64 (0 : Int)), .one (.int .i64 (1000000 : Int))] (.one (.bool r8))) (hc9 : ¬ (r0 = false) → ¬ (r1 = false) → ¬ (r2 = false) → ¬ (p0 > p1) → ¬ (r3 = false) → ¬ (r4 = false) → ¬ (p2 > p3) → ¬ (r5 = false) → ¬ (r6 = false) → ¬ (p4 > p5) → ¬ (r7 = false) → ¬ (r8 = false) → ¬ (p6 > p7) → Con 22 [.one (.int .i64 p8), .one (.int .i64 (0 : Int)), .one (.int .i64 (1000000 : Int))] (.one (.bool r9))) (hc10 : ¬ (r0 = false) → ¬ (r1 = false) → ¬ (r2 = false) → ¬ (p0 > p1) → ¬ (r3 = false) → ¬ (r4 = false) → ¬ (p2 > p3) → ¬ (r5 = false) → ¬ (r6 = false) → ¬ (p4 > p5) → ¬ (r7 = false) → ¬ (r8 = false) → ¬ (p6 > p7) → ¬ (r9 = false) → Con 22 [.one (.int .i64 p9), .one (.int .i64 (0 : Int)), .one (.int .i64 (1000000 : Int))] (.one (.bool r10))) (hc11 : ¬ (r0 = false) → ¬ (r1 = false) → ¬ (r2 = false) → ¬ (p0 > p1) → ¬ (r3 = false) → ¬ (r4 = false) → ¬ (p2 > p3) → ¬ (r5 = false) → ¬ (r6 = false) → ¬ (p4 > p5) → ¬ (r7 = false) → ¬ (r8 = false) → ¬ (p6 > p7) → ¬ (r9 = false) → ¬ (r10 = false) → ¬ (p8 > p9) → Con 22 [.one (.int .i64 p10), .one (.int .i64 (0 : Int)), .one (.int .i64 (1000000 : Int))] (.one (.bool r11))) (hc12 : ¬ (r0 = false) → ¬ (r1 = false) → ¬ (r2 = false) → ¬ (p0 > p1) → ¬ (r3 = false) → ¬ (r4 = false) → ¬ (p2 > p3) → ¬ (r5 = false) → ¬ (r6 = false) → ¬ (p4 > p5) → ¬ (r7 = false) → ¬ (r8 = false) → ¬ (p6 > p7) → ¬ (r9 = false) → ¬ (r10 = false) → ¬ (p8 > p9) → ¬ (r11 = false) → Con 22 [.one (.int .i64 p11), .one (.int .i64 (0 : Int)), .one (.int .i64 (1000000 : Int))] (.one (.bool r12))) : Con 154 [.agg [.one (.string pn), .one (.int .i64 pp), .one (.int .i64 p0), .one (.int .i64 p1), .one (.int .i64 p2), .one (.int .i64 p3), .one (.int .i64 p4), .one (.int .i64 p5), .one (.int .i64 p6), .one (.int .i64 p7), .one (.int .i64 p8), .one (.int .i64 p9), .one (.int .i64 p10), .one (.int .i64 p11)]] (.one (.int .i64 (numErr_f pn pp p0 p1 p2 p3 p4 p5 p6 p7 p8 p9 p10 p11 r0 r1 r2 r3 r4 r5 r6 r7 r8 r9 r10 r11 r12))) := by
  unfold numErr_f
  by_cases b0 : r0 = false
  · simp only [if_pos b0]
    exact numErr_0 pn pp p0 p1 p2 p3 p4 p5 p6 p7 p8 p9 p10 p11 r0 (by first | exact b0 | simpa using b0) (hc0)
  · simp only [if_neg b0]
    by_cases b1 : r1 = false
    · simp only [if_pos b1]
      exact numErr_1 pn pp p0 p1 p2 p3 p4 p5 p6 p7 p8 p9 p10 p11 r0 r1 (by first | exact b0 | simpa using b0) (by first | exact b1 | simpa using b1) (hc0) (hc1 b0)
    · simp only [if_neg b1]
      by_cases b2 : r2 = false
      · simp only [if_pos b2]
        exact numErr_2 pn pp p0 p1 p2 p3 p4 p5 p6 p7 p8 p9 p10 p11 r0 r1 r2 (by first | exact b0 | simpa using b0) (by first | exact b1 | simpa using b1) (by first | exact b2 | simpa using b2) (hc0) (hc1 b0) (hc2 b0 b1)
      · simp only [if_neg b2]
        by_cases b3 : p0 > p1
        · simp only [if_pos b3]
          exact numErr_3 pn pp p0 p1 p2 p3 p4 p5 p6 p7 p8 p9 p10 p11 r0 r1 r2 (by first | exact b0 | simpa using b0) (by first | exact b1 | simpa using b1) (by first | exact b2 | simpa using b2) (by first | exact b3 | simpa using b3) (hc0) (hc1 b0) (hc2 b0 b1)
        · simp only [if_neg b3]
          by_cases b4 : r3 = false
          · simp only [if_pos b4]
            exact numErr_4 pn pp p0 p1 p2 p3 p4 p5 p6 p7 p8 p9 p10 p11 r0 r1 r2 r3 (by first | exact b0 | simpa using b0) (by first | exact b1 | simpa using b1) (by first | exact b2 | simpa using b2) (by first | exact b3 | simpa using b3) (by first | exact b4 | simpa using b4) (hc0) (hc1 b0) (hc2 b0 b1) (hc3 b0 b1 b2 b3)
          · simp only [if_neg b4]
            by_cases b5 : r4 = false
            · simp only [if_pos b5]
              exact numErr_5 pn pp p0 p1 p2 p3 p4 p5 p6 p7 p8 p9 p10 p11 r0 r1 r2 r3 r4 (by first | exact b0 | simpa using b0) (by first | exact b1 | simpa using b1) (by first | exact b2 | simpa using b2) (by first | exact b3 | simpa using b3) (by first | exact b4 | simpa using b4) (by first | exact b5 | simpa using b5) (hc0) (hc1 b0) (hc2 b0 b1) (hc3 b0 b1 b2 b3) (hc4 b0 b1 b2 b3 b4)
            · simp only [if_neg b5]
              by_cases b6 : p2 > p3
              · simp only [if_pos b6]
                exact numErr_6 pn pp p0 p1 p2 p3 p4 p5 p6 p7 p8 p9 p10 p11 r0 r1 r2 r3 r4 (by first | exact b0 | simpa using b0) (by first | exact b1 | simpa using b1) (by first | exact b2 | simpa using b2) (by first | exact b3 | simpa using b3) (by first | exact b4 | simpa using b4) (by first | exact b5 | simpa using b5) (by first | exact b6 | simpa using b6) (hc0) (hc1 b0) (hc2 b0 b1) (hc3 b0 b1 b2 b3) (hc4 b0 b1 b2 b3 b4)
              · simp only [if_neg b6]
                by_cases b7 : r5 = false
                · simp only [if_pos b7]
                  exact numErr_7 pn pp p0 p1 p2 p3 p4 p5 p6 p7 p8 p9 p10 p11 r0 r1 r2 r3 r4 r5 (by first | exact b0 | simpa using b0) (by first | exact b1 | simpa using b1) (by first | exact b2 | simpa using b2) (by first | exact b3 | simpa using b3) (by first | exact b4 | simpa using b4) (by first | exact b5 | simpa using b5) (by first | exact b6 | simpa using b6) (by first | exact b7 | simpa using b7) (hc0) (hc1 b0) (hc2 b0 b1) (hc3 b0 b1 b2 b3) (hc4 b0 b1 b2 b3 b4) (hc5 b0 b1 b2 b3 b4 b5 b6)
                · simp only [if_neg b7]
                  by_cases b8 : r6 = false
                  · simp only [if_pos b8]
                    exact numErr_8 pn pp p0 p1 p2 p3 p4 p5 p6 p7 p8 p9 p10 p11 r0 r1 r2 r3 r4 r5 r6 (by first | exact b0 | simpa using b0) (by first | exact b1 | simpa using b1) (by first | exact b2 | simpa using b2) (by first | exact b3 | simpa using b3) (by first | exact b4 | simpa using b4) (by first | exact b5 | simpa using b5) (by first | exact b6 | simpa using b6) (by first | exact b7 | simpa using b7) (by first | exact b8 | simpa using b8) (hc0) (hc1 b0) (hc2 b0 b1) (hc3 b0 b1 b2 b3) (hc4 b0 b1 b2 b3 b4) (hc5 b0 b1 b2 b3 b4 b5 b6) (hc6 b0 b1 b2 b3 b4 b5 b6 b7)
                  · simp only [if_neg b8]
                    by_cases b9 : p4 > p5
                    · simp only [if_pos b9]
                      exact numErr_9 pn pp p0 p1 p2 p3 p4 p5 p6 p7 p8 p9 p10 p11 r0 r1 r2 r3 r4 r5 r6 (by first | exact b0 | simpa using b0) (by first | exact b1 | simpa using b1) (by first | exact b2 | simpa using b2) (by first | exact b3 | simpa using b3) (by first | exact b4 | simpa using b4) (by first | exact b5 | simpa using b5) (by first | exact b6 | simpa using b6) (by first | exact b7 | simpa using b7) (by first | exact b8 | simpa using b8) (by first | exact b9 | simpa using b9) (hc0) (hc1 b0) (hc2 b0 b1) (hc3 b0 b1 b2 b3) (hc4 b0 b1 b2 b3 b4) (hc5 b0 b1 b2 b3 b4 b5 b6) (hc6 b0 b1 b2 b3 b4 b5 b6 b7)
                    · simp only [if_neg b9]
                      by_cases b10 : r7 = false
                      · simp only [if_pos b10]
                        exact numErr_10 pn pp p0 p1 p2 p3 p4 p5 p6 p7 p8 p9 p10 p11 r0 r1 r2 r3 r4 r5 r6 r7 (by first | exact b0 | simpa using b0) (by first | exact b1 | simpa using b1) (by first | exact b2 | simpa using b2) (by first | exact b3 | simpa using b3) (by first | exact b4 | simpa using b4) (by first | exact b5 | simpa using b5) (by first | exact b6 | simpa using b6) (by first | exact b7 | simpa using b7) (by first | exact b8 | simpa using b8) (by first | exact b9 | simpa using b9) (by first | exact b10 | simpa using b10) (hc0) (hc1 b0) (hc2 b0 b1) (hc3 b0 b1 b2 b3) (hc4 b0 b1 b2 b3 b4) (hc5 b0 b1 b2 b3 b4 b5 b6) (hc6 b0 b1 b2 b3 b4 b5 b6 b7) (hc7 b0 b1 b2 b3 b4 b5 b6 b7 b8 b9)
                      · simp only [if_neg b10]
                        by_cases b11 : r8 = false
                        · simp only [if_pos b11]
                          exact numErr_11 pn pp p0 p1 p2 p3 p4 p5 p6 p7 p8 p9 p10 p11 r0 r1 r2 r3 r4 r5 r6 r7 r8 (by first | exact b0 | simpa using b0) (by first | exact b1 | simpa using b1) (by first | exact b2 | simpa using b2) (by first | exact b3 | simpa using b3) (by first | exact b4 | simpa using b4) (by first | exact b5 | simpa using b5) (by first | exact b6 | simpa using b6) (by first | exact b7 | simpa using b7) (by first | exact b8 | simpa using b8) (by first | exact b9 | simpa using b9) (by first | exact b10 | simpa using b10) (by first | exact b11 | simpa using b11) (hc0) (hc1 b0) (hc2 b0 b1) (hc3 b0 b1 b2 b3) (hc4 b0 b1 b2 b3 b4) (hc5 b0 b1 b2 b3 b4 b5 b6) (hc6 b0 b1 b2 b3 b4 b5 b6 b7) (hc7 b0 b1 b2 b3 b4 b5 b6 b7 b8 b9) (hc8 b0 b1 b2 b3 b4 b5 b6 b7 b8 b9 b10)
                        · simp only [if_neg b11]
                          by_cases b12 : p6 > p7
                          · simp only [if_pos b12]
                            exact numErr_12 pn pp p0 p1 p2 p3 p4 p5 p6 p7 p8 p9 p10 p11 r0 r1 r2 r3 r4 r5 r6 r7 r8 (by first | exact b0 | simpa using b0) (by first | exact b1 | simpa using b1) (by first | exact b2 | simpa using b2) (by first | exact b3 | simpa using b3) (by first | exact b4 | simpa using b4) (by first | exact b5 | simpa using b5) (by first | exact b6 | simpa using b6) (by first | exact b7 | simpa using b7) (by first | exact b8 | simpa using b8) (by first | exact b9 | simpa using b9) (by first | exact b10 | simpa using b10) (by first | exact b11 | simpa using b11) (by first | exact b12 | simpa using b12) (hc0) (hc1 b0) (hc2 b0 b1) (hc3 b0 b1 b2 b3) (hc4 b0 b1 b2 b3 b4) (hc5 b0 b1 b2 b3 b4 b5 b6) (hc6 b0 b1 b2 b3 b4 b5 b6 b7) (hc7 b0 b1 b2 b3 b4 b5 b6 b7 b8 b9) (hc8 b0 b1 b2 b3 b4 b5 b6 b7 b8 b9 b10)
                          · simp only [if_neg b12]
                            by_cases b13 : r9 = false
                            · simp only [if_pos b13]
                              exact numErr_13 pn pp p0 p1 p2 p3 p4 p5 p6 p7 p8 p9 p10 p11 r0 r1 r2 r3 r4 r5 r6 r7 r8 r9 (by first | exact b0 | simpa using b0) (by first | exact b1 | simpa using b1) (by first | exact b2 | simpa using b2) (by first | exact b3 | simpa using b3) (by first | exact b4 | simpa using b4) (by first | exact b5 | simpa using b5) (by first | exact b6 | simpa using b6) (by first | exact b7 | simpa using b7) (by first | exact b8 | simpa using b8) (by first | exact b9 | simpa using b9) (by first | exact b10 | simpa using b10) (by first | exact b11 | simpa using b11) (by first | exact b12 | simpa using b12) (by first | exact b13 | simpa using b13) (hc0) (hc1 b0) (hc2 b0 b1) (hc3 b0 b1 b2 b3) (hc4 b0 b1 b2 b3 b4) (hc5 b0 b1 b2 b3 b4 b5 b6) (hc6 b0 b1 b2 b3 b4 b5 b6 b7) (hc7 b0 b1 b2 b3 b4 b5 b6 b7 b8 b9) (hc8 b0 b1 b2 b3 b4 b5 b6 b7 b8 b9 b10) (hc9 b0 b1 b2 b3 b4 b5 b6 b7 b8 b9 b10 b11 b12)
                            · simp only [if_neg b13]
                              by_cases b14 : r10 = false
                              · simp only [if_pos b14]
                                exact numErr_14 pn pp p0 p1 p2 p3 p4 p5 p6 p7 p8 p9 p10 p11 r0 r1 r2 r3 r4 r5 r6 r7 r8 r9 r10 (by first | exact b0 | simpa using b0) (by first | exact b1 | simpa using b1) (by first | exact b2 | simpa using b2) (by first | exact b3 | simpa using b3) (by first | exact b4 | simpa using b4) (by first | exact b5 | simpa using b5) (by first | exact b6 | simpa using b6) (by first | exact b7 | simpa using b7) (by first | exact b8 | simpa using b8) (by first | exact b9 | simpa using b9) (by first | exact b10 | simpa using b10) (by first | exact b11 | simpa using b11) (by first | exact b12 | simpa using b12) (by first | exact b13 | simpa using b13) (by first | exact b14 | simpa using b14) (hc0) (hc1 b0) (hc2 b0 b1) (hc3 b0 b1 b2 b3) (hc4 b0 b1 b2 b3 b4) (hc5 b0 b1 b2 b3 b4 b5 b6) (hc6 b0 b1 b2 b3 b4 b5 b6 b7) (hc7 b0 b1 b2 b3 b4 b5 b6 b7 b8 b9) (hc8 b0 b1 b2 b3 b4 b5 b6 b7 b8 b9 b10) (hc9 b0 b1 b2 b3 b4 b5 b6 b7 b8 b9 b10 b11 b12) (hc10 b0 b1 b2 b3 b4 b5 b6 b7 b8 b9 b10 b11 b12 b13)
                              · simp only [if_neg b14]
                                by_cases b15 : p8 > p9
                                · simp only [if_pos b15]
                                  exact numErr_15 pn pp p0 p1 p2 p3 p4 p5 p6 p7 p8 p9 p10 p11 r0 r1 r2 r3 r4 r5 r6 r7 r8 r9 r10 (by first | exact b0 | simpa using b0) (by first | exact b1 | simpa using b1) (by first | exact b2 | simpa using b2) (by first | exact b3 | simpa using b3) (by first | exact b4 | simpa using b4) (by first | exact b5 | simpa using b5) (by first | exact b6 | simpa using b6) (by first | exact b7 | simpa using b7) (by first | exact b8 | simpa using b8) (by first | exact b9 | simpa using b9) (by first | exact b10 | simpa using b10) (by first | exact b11 | simpa using b11) (by first | exact b12 | simpa using b12) (by first | exact b13 | simpa using b13) (by first | exact b14 | simpa using b14) (by first | exact b15 | simpa using b15) (hc0) (hc1 b0) (hc2 b0 b1) (hc3 b0 b1 b2 b3) (hc4 b0 b1 b2 b3 b4) (hc5 b0 b1 b2 b3 b4 b5 b6) (hc6 b0 b1 b2 b3 b4 b5 b6 b7) (hc7 b0 b1 b2 b3 b4 b5 b6 b7 b8 b9) (hc8 b0 b1 b2 b3 b4 b5 b6 b7 b8 b9 b10) (hc9 b0 b1 b2 b3 b4 b5 b6 b7 b8 b9 b10 b11 b12) (hc10 b0 b1 b2 b3 b4 b5 b6 b7 b8 b9 b10 b11 b12 b13)
                                · simp only [if_neg b15]
                                  by_cases b16 : r11 = false
                                  · simp only [if_pos b16]
                                    exact numErr_16 pn pp p0 p1 p2 p3 p4 p5 p6 p7 p8 p9 p10 p11 r0 r1 r2 r3 r4 r5 r6 r7 r8 r9 r10 r11 (by first | exact b0 | simpa using b0) (by first | exact b1 | simpa using b1) (by first | exact b2 | simpa using b2) (by first | exact b3 | simpa using b3) (by first | exact b4 | simpa using b4) (by first | exact b5 | simpa using b5) (by first | exact b6 | simpa using b6) (by first | exact b7 | simpa using b7) (by first | exact b8 | simpa using b8) (by first | exact b9 | simpa using b9) (by first | exact b10 | simpa using b10) (by first | exact b11 | simpa using b11) (by first | exact b12 | simpa using b12) (by first | exact b13 | simpa using b13) (by first | exact b14 | simpa using b14) (by first | exact b15 | simpa using b15) (by first | exact b16 | simpa using b16) (hc0) (hc1 b0) (hc2 b0 b1) (hc3 b0 b1 b2 b3) (hc4 b0 b1 b2 b3 b4) (hc5 b0 b1 b2 b3 b4 b5 b6) (hc6 b0 b1 b2 b3 b4 b5 b6 b7) (hc7 b0 b1 b2 b3 b4 b5 b6 b7 b8 b9) (hc8 b0 b1 b2 b3 b4 b5 b6 b7 b8 b9 b10) (hc9 b0 b1 b2 b3 b4 b5 b6 b7 b8 b9 b10 b11 b12) (hc10 b0 b1 b2 b3 b4 b5 b6 b7 b8 b9 b10 b11 b12 b13) (hc11 b0 b1 b2 b3 b4 b5 b6 b7 b8 b9 b10 b11 b12 b13 b14 b15)
                                  · simp only [if_neg b16]
                                    by_cases b17 : r12 = false
                                    · simp only [if_pos b17]
                                      exact numErr_17 pn pp p0 p1 p2 p3 p4 p5 p6 p7 p8 p9 p10 p11 r0 r1 r2 r3 r4 r5 r6 r7 r8 r9 r10 r11 r12 (by first | exact b0 | simpa using b0) (by first | exact b1 | simpa using b1) (by first | exact b2 | simpa using b2) (by first | exact b3 | simpa using b3) (by first | exact b4 | simpa using b4) (by first | exact b5 | simpa using b5) (by first | exact b6 | simpa using b6) (by first | exact b7 | simpa using b7) (by first | exact b8 | simpa using b8) (by first | exact b9 | simpa using b9) (by first | exact b10 | simpa using b10) (by first | exact b11 | simpa using b11) (by first | exact b12 | simpa using b12) (by first | exact b13 | simpa using b13) (by first | exact b14 | simpa using b14) (by first | exact b15 | simpa using b15) (by first | exact b16 | simpa using b16) (by first | exact b17 | simpa using b17) (hc0) (hc1 b0) (hc2 b0 b1) (hc3 b0 b1 b2 b3) (hc4 b0 b1 b2 b3 b4) (hc5 b0 b1 b2 b3 b4 b5 b6) (hc6 b0 b1 b2 b3 b4 b5 b6 b7) (hc7 b0 b1 b2 b3 b4 b5 b6 b7 b8 b9) (hc8 b0 b1 b2 b3 b4 b5 b6 b7 b8 b9 b10) (hc9 b0 b1 b2 b3 b4 b5 b6 b7 b8 b9 b10 b11 b12) (hc10 b0 b1 b2 b3 b4 b5 b6 b7 b8 b9 b10 b11 b12 b13) (hc11 b0 b1 b2 b3 b4 b5 b6 b7 b8 b9 b10 b11 b12 b13 b14 b15) (hc12 b0 b1 b2 b3 b4 b5 b6 b7 b8 b9 b10 b11 b12 b13 b14 b15 b16)
                                    · simp only [if_neg b17]
                                      by_cases b18 : p10 > p11
                                      · simp only [if_pos b18]
                                        exact numErr_18 pn pp p0 p1 p2 p3 p4 p5 p6 p7 p8 p9 p10 p11 r0 r1 r2 r3 r4 r5 r6 r7 r8 r9 r10 r11 r12 (by first | exact b0 | simpa using b0) (by first | exact b1 | simpa using b1) (by first | exact b2 | simpa using b2) (by first | exact b3 | simpa using b3) (by first | exact b4 | simpa using b4) (by first | exact b5 | simpa using b5) (by first | exact b6 | simpa using b6) (by first | exact b7 | simpa using b7) (by first | exact b8 | simpa using b8) (by first | exact b9 | simpa using b9) (by first | exact b10 | simpa using b10) (by first | exact b11 | simpa using b11) (by first | exact b12 | simpa using b12) (by first | exact b13 | simpa using b13) (by first | exact b14 | simpa using b14) (by first | exact b15 | simpa using b15) (by first | exact b16 | simpa using b16) (by first | exact b17 | simpa using b17) (by first | exact b18 | simpa using b18) (hc0) (hc1 b0) (hc2 b0 b1) (hc3 b0 b1 b2 b3) (hc4 b0 b1 b2 b3 b4) (hc5 b0 b1 b2 b3 b4 b5 b6) (hc6 b0 b1 b2 b3 b4 b5 b6 b7) (hc7 b0 b1 b2 b3 b4 b5 b6 b7 b8 b9) (hc8 b0 b1 b2 b3 b4 b5 b6 b7 b8 b9 b10) (hc9 b0 b1 b2 b3 b4 b5 b6 b7 b8 b9 b10 b11 b12) (hc10 b0 b1 b2 b3 b4 b5 b6 b7 b8 b9 b10 b11 b12 b13) (hc11 b0 b1 b2 b3 b4 b5 b6 b7 b8 b9 b10 b11 b12 b13 b14 b15) (hc12 b0 b1 b2 b3 b4 b5 b6 b7 b8 b9 b10 b11 b12 b13 b14 b15 b16)
                                      · simp only [if_neg b18]
                                        exact numErr_19 pn pp p0 p1 p2 p3 p4 p5 p6 p7 p8 p9 p10 p11 r0 r1 r2 r3 r4 r5 r6 r7 r8 r9 r10 r11 r12 (by first | exact b0 | simpa using b0) (by first | exact b1 | simpa using b1) (by first | exact b2 | simpa using b2) (by first | exact b3 | simpa using b3) (by first | exact b4 | simpa using b4) (by first | exact b5 | simpa using b5) (by first | exact b6 | simpa using b6) (by first | exact b7 | simpa using b7) (by first | exact b8 | simpa using b8) (by first | exact b9 | simpa using b9) (by first | exact b10 | simpa using b10) (by first | exact b11 | simpa using b11) (by first | exact b12 | simpa using b12) (by first | exact b13 | simpa using b13) (by first | exact b14 | simpa using b14) (by first | exact b15 | simpa using b15) (by first | exact b16 | simpa using b16) (by first | exact b17 | simpa using b17) (by first | exact b18 | simpa using b18) (hc0) (hc1 b0) (hc2 b0 b1) (hc3 b0 b1 b2 b3) (hc4 b0 b1 b2 b3 b4) (hc5 b0 b1 b2 b3 b4 b5 b6) (hc6 b0 b1 b2 b3 b4 b5 b6 b7) (hc7 b0 b1 b2 b3 b4 b5 b6 b7 b8 b9) (hc8 b0 b1 b2 b3 b4 b5 b6 b7 b8 b9 b10) (hc9 b0 b1 b2 b3 b4 b5 b6 b7 b8 b9 b10 b11 b12) (hc10 b0 b1 b2 b3 b4 b5 b6 b7 b8 b9 b10 b11 b12 b13) (hc11 b0 b1 b2 b3 b4 b5 b6 b7 b8 b9 b10 b11 b12 b13 b14 b15) (hc12 b0 b1 b2 b3 b4 b5 b6 b7 b8 b9 b10 b11 b12 b13 b14 b15 b16)
def isName_L4_to (s : ByteArray) (x0 : Bool) : Rd → AX × (List AV × AHeap)
  | .next 0 ds => (.normal, stateOf (ghost [.val 19] [2, 3, 20, 21, 22, 23, 24, 25, 26, 27, 28, 29, 30, 31, 32, 33, 34, 35, 36, 37, 38, 39, 40] (isName_L4_E s x0).1 (isName_L4_E s x0).2 0 ds))
  | .out 0 ds => (axOf (some 0), stateOf (ghost [] [2, 3, 19, 20, 21, 22, 23, 24, 25, 26, 27, 28, 29, 30, 31, 32, 33, 34, 35, 36, 37, 38, 39, 40] (isName_L4_E s x0).1 (isName_L4_E s x0).2 0 ds))
  | .out 1 ds => (axOf (none), stateOf (ghost [.val 2] [3, 19, 20, 21, 22, 23, 24, 25, 26, 27, 28, 29, 30, 31, 32, 33, 34, 35, 36, 37, 38, 39, 40] (isName_L4_E s x0).1 (isName_L4_E s x0).2 0 ds))
  | _ => (.normal, ([], []))
def isName_L4_r (s : ByteArray) (x0 : Bool) (s19 : Int) (r0 : Bool) (r1 : Bool) : Rd := (if s19 < (s.size : Int) then (if r0 = false then (if r1 = false then (if byteAt s s19.toNat ≠ (45 : Int) then (Rd.out 1 [.one (.bool false)]) else (Rd.next 0 [.one (.int .i64 (IntKind.i64.wrap (s19 + (1 : Int))))])) else (Rd.next 0 [.one (.int .i64 (IntKind.i64.wrap (s19 + (1 : Int))))])) else (Rd.next 0 [.one (.int .i64 (IntKind.i64.wrap (s19 + (1 : Int))))])) else (Rd.out 0 []))
theorem isName_L4_t (s : ByteArray) (x0 : Bool) (s19 : Int) (r0 : Bool) (r1 : Bool) (hf0 : s19 < (s.size : Int) → (0 : Int) ≤ s19 ∧ s19.toNat < s.size) (hc0 : s19 < (s.size : Int) → Con 217 [.one (.int .u8 (byteAt s s19.toNat))] (.one (.bool r0))) (hc1 : s19 < (s.size : Int) → r0 = false → Con 218 [.one (.int .u8 (byteAt s s19.toNat))] (.one (.bool r1))) : Step (ctx [191] isName_sp) Tabs isName_L4_A (isName_L4_H s x0 s19) (isName_L4_to s x0 (isName_L4_r s x0 s19 r0 r1)).2 (isName_L4_to s x0 (isName_L4_r s x0 s19 r0 r1)).1 := by
  unfold isName_L4_r
  by_cases b0 : s19 < (s.size : Int)
  · simp only [if_pos b0]
    by_cases b1 : r0 = false
    · simp only [if_pos b1]
      by_cases b2 : r1 = false
      · simp only [if_pos b2]
        by_cases b3 : byteAt s s19.toNat ≠ (45 : Int)
        · simp only [if_pos b3]
          exact isName_L4_0 s x0 s19 r0 r1 (by first | exact b0 | simpa using b0) (hf0 b0) (by first | exact b1 | simpa using b1) (by first | exact b2 | simpa using b2) (by first | exact b3 | simpa using b3) (hc0 b0) (hc1 b0 b1)
        · simp only [if_neg b3]
          exact isName_L4_1 s x0 s19 r0 r1 (by first | exact b0 | simpa using b0) (hf0 b0) (by first | exact b1 | simpa using b1) (by first | exact b2 | simpa using b2) (by first | exact b3 | simpa using b3) (hc0 b0) (hc1 b0 b1)
      · simp only [if_neg b2]
        exact isName_L4_2 s x0 s19 r0 r1 (by first | exact b0 | simpa using b0) (hf0 b0) (by first | exact b1 | simpa using b1) (by first | exact b2 | simpa using b2) (hc0 b0) (hc1 b0 b1)
    · simp only [if_neg b1]
      exact isName_L4_3 s x0 s19 r0 (by first | exact b0 | simpa using b0) (hf0 b0) (by first | exact b1 | simpa using b1) (hc0 b0)
  · simp only [if_neg b0]
    exact isName_L4_4 s x0 s19 (by first | exact b0 | simpa using b0)
def isNameR_L4_to (s : ByteArray)  : Rd → AX × (List AV × AHeap)
  | .next 0 ds => (.normal, stateOf (ghost [.val 3] [2, 4, 5, 14, 15, 16, 17, 18, 19, 20, 21, 22, 23, 24, 25, 26, 27, 28, 29, 30, 31, 32, 33, 34, 35, 36, 37, 38, 39, 40, 41, 42, 43, 44, 45, 46, 47, 48, 49, 50, 51, 52, 53, 54] (isNameR_L4_E s).1 (isNameR_L4_E s).2 0 ds))
  | .out 0 ds => (axOf (some 0), stateOf (ghost [] [2, 3, 4, 5, 14, 15, 16, 17, 18, 19, 20, 21, 22, 23, 24, 25, 26, 27, 28, 29, 30, 31, 32, 33, 34, 35, 36, 37, 38, 39, 40, 41, 42, 43, 44, 45, 46, 47, 48, 49, 50, 51, 52, 53, 54] (isNameR_L4_E s).1 (isNameR_L4_E s).2 0 ds))
  | .out 1 ds => (axOf (none), stateOf (ghost [.val 2] [3, 4, 5, 14, 15, 16, 17, 18, 19, 20, 21, 22, 23, 24, 25, 26, 27, 28, 29, 30, 31, 32, 33, 34, 35, 36, 37, 38, 39, 40, 41, 42, 43, 44, 45, 46, 47, 48, 49, 50, 51, 52, 53, 54] (isNameR_L4_E s).1 (isNameR_L4_E s).2 0 ds))
  | _ => (.normal, ([], []))
def isNameR_L4_r (s : ByteArray)  (s3 : Int)  : Rd := (if s3 < (s.size : Int) then (if byteAt s s3.toNat ≥ (97 : Int) then (if byteAt s s3.toNat ≤ (122 : Int) then (Rd.next 0 [.one (.int .i64 (IntKind.i64.wrap (s3 + (1 : Int))))]) else (if byteAt s s3.toNat ≥ (65 : Int) then (if (!decide (byteAt s s3.toNat ≤ (90 : Int))) = true then (if s3 = (0 : Int) then (Rd.out 1 [.one (.bool false)]) else (if byteAt s s3.toNat ≠ (45 : Int) then (if byteAt s s3.toNat < (48 : Int) then (Rd.out 1 [.one (.bool false)]) else (if byteAt s s3.toNat > (57 : Int) then (Rd.out 1 [.one (.bool false)]) else (Rd.next 0 [.one (.int .i64 (IntKind.i64.wrap (s3 + (1 : Int))))]))) else (Rd.next 0 [.one (.int .i64 (IntKind.i64.wrap (s3 + (1 : Int))))]))) else (Rd.next 0 [.one (.int .i64 (IntKind.i64.wrap (s3 + (1 : Int))))])) else (if s3 = (0 : Int) then (Rd.out 1 [.one (.bool false)]) else (if byteAt s s3.toNat ≠ (45 : Int) then (if byteAt s s3.toNat < (48 : Int) then (Rd.out 1 [.one (.bool false)]) else (if byteAt s s3.toNat > (57 : Int) then (Rd.out 1 [.one (.bool false)]) else (Rd.next 0 [.one (.int .i64 (IntKind.i64.wrap (s3 + (1 : Int))))]))) else (Rd.next 0 [.one (.int .i64 (IntKind.i64.wrap (s3 + (1 : Int))))]))))) else (if byteAt s s3.toNat ≥ (65 : Int) then (if (!decide (byteAt s s3.toNat ≤ (90 : Int))) = true then (if s3 = (0 : Int) then (Rd.out 1 [.one (.bool false)]) else (if byteAt s s3.toNat ≠ (45 : Int) then (if byteAt s s3.toNat < (48 : Int) then (Rd.out 1 [.one (.bool false)]) else (if byteAt s s3.toNat > (57 : Int) then (Rd.out 1 [.one (.bool false)]) else (Rd.next 0 [.one (.int .i64 (IntKind.i64.wrap (s3 + (1 : Int))))]))) else (Rd.next 0 [.one (.int .i64 (IntKind.i64.wrap (s3 + (1 : Int))))]))) else (Rd.next 0 [.one (.int .i64 (IntKind.i64.wrap (s3 + (1 : Int))))])) else (if s3 = (0 : Int) then (Rd.out 1 [.one (.bool false)]) else (if byteAt s s3.toNat ≠ (45 : Int) then (if byteAt s s3.toNat < (48 : Int) then (Rd.out 1 [.one (.bool false)]) else (if byteAt s s3.toNat > (57 : Int) then (Rd.out 1 [.one (.bool false)]) else (Rd.next 0 [.one (.int .i64 (IntKind.i64.wrap (s3 + (1 : Int))))]))) else (Rd.next 0 [.one (.int .i64 (IntKind.i64.wrap (s3 + (1 : Int))))]))))) else (Rd.out 0 []))
theorem isNameR_L4_t (s : ByteArray)  (s3 : Int)  (hf0 : s3 < (s.size : Int) → (0 : Int) ≤ s3 ∧ s3.toNat < s.size) : Step (ctx [153] isNameR_sp) Tabs isNameR_L4_A (isNameR_L4_H s s3) (isNameR_L4_to s (isNameR_L4_r s s3)).2 (isNameR_L4_to s (isNameR_L4_r s s3)).1 := by
  unfold isNameR_L4_r
  by_cases b0 : s3 < (s.size : Int)
  · simp only [if_pos b0]
    by_cases b1 : byteAt s s3.toNat ≥ (97 : Int)
    · simp only [if_pos b1]
      by_cases b2 : byteAt s s3.toNat ≤ (122 : Int)
      · simp only [if_pos b2]
        exact isNameR_L4_0 s s3 (by first | exact b0 | simpa using b0) (hf0 b0) (by first | exact b1 | simpa using b1) (by first | exact b2 | simpa using b2)
      · simp only [if_neg b2]
        by_cases b3 : byteAt s s3.toNat ≥ (65 : Int)
        · simp only [if_pos b3]
          by_cases b4 : (!decide (byteAt s s3.toNat ≤ (90 : Int))) = true
          · simp only [if_pos b4]
            by_cases b5 : s3 = (0 : Int)
            · simp only [if_pos b5]
              exact isNameR_L4_1 s s3 (by first | exact b0 | simpa using b0) (hf0 b0) (by first | exact b1 | simpa using b1) (by first | exact b2 | simpa using b2) (by first | exact b3 | simpa using b3) (by first | exact b4 | simpa using b4) (by first | exact b5 | simpa using b5)
            · simp only [if_neg b5]
              by_cases b6 : byteAt s s3.toNat ≠ (45 : Int)
              · simp only [if_pos b6]
                by_cases b7 : byteAt s s3.toNat < (48 : Int)
                · simp only [if_pos b7]
                  exact isNameR_L4_2 s s3 (by first | exact b0 | simpa using b0) (hf0 b0) (by first | exact b1 | simpa using b1) (by first | exact b2 | simpa using b2) (by first | exact b3 | simpa using b3) (by first | exact b4 | simpa using b4) (by first | exact b5 | simpa using b5) (by first | exact b6 | simpa using b6) (by first | exact b7 | simpa using b7)
                · simp only [if_neg b7]
                  by_cases b8 : byteAt s s3.toNat > (57 : Int)
                  · simp only [if_pos b8]
                    exact isNameR_L4_3 s s3 (by first | exact b0 | simpa using b0) (hf0 b0) (by first | exact b1 | simpa using b1) (by first | exact b2 | simpa using b2) (by first | exact b3 | simpa using b3) (by first | exact b4 | simpa using b4) (by first | exact b5 | simpa using b5) (by first | exact b6 | simpa using b6) (by first | exact b7 | simpa using b7) (by first | exact b8 | simpa using b8)
                  · simp only [if_neg b8]
                    exact isNameR_L4_4 s s3 (by first | exact b0 | simpa using b0) (hf0 b0) (by first | exact b1 | simpa using b1) (by first | exact b2 | simpa using b2) (by first | exact b3 | simpa using b3) (by first | exact b4 | simpa using b4) (by first | exact b5 | simpa using b5) (by first | exact b6 | simpa using b6) (by first | exact b7 | simpa using b7) (by first | exact b8 | simpa using b8)
              · simp only [if_neg b6]
                exact isNameR_L4_5 s s3 (by first | exact b0 | simpa using b0) (hf0 b0) (by first | exact b1 | simpa using b1) (by first | exact b2 | simpa using b2) (by first | exact b3 | simpa using b3) (by first | exact b4 | simpa using b4) (by first | exact b5 | simpa using b5) (by first | exact b6 | simpa using b6)
          · simp only [if_neg b4]
            exact isNameR_L4_6 s s3 (by first | exact b0 | simpa using b0) (hf0 b0) (by first | exact b1 | simpa using b1) (by first | exact b2 | simpa using b2) (by first | exact b3 | simpa using b3) (by first | exact b4 | simpa using b4)
        · simp only [if_neg b3]
          by_cases b4 : s3 = (0 : Int)
          · simp only [if_pos b4]
            exact isNameR_L4_7 s s3 (by first | exact b0 | simpa using b0) (hf0 b0) (by first | exact b1 | simpa using b1) (by first | exact b2 | simpa using b2) (by first | exact b3 | simpa using b3) (by first | exact b4 | simpa using b4)
          · simp only [if_neg b4]
            by_cases b5 : byteAt s s3.toNat ≠ (45 : Int)
            · simp only [if_pos b5]
              by_cases b6 : byteAt s s3.toNat < (48 : Int)
              · simp only [if_pos b6]
                exact isNameR_L4_8 s s3 (by first | exact b0 | simpa using b0) (hf0 b0) (by first | exact b1 | simpa using b1) (by first | exact b2 | simpa using b2) (by first | exact b3 | simpa using b3) (by first | exact b4 | simpa using b4) (by first | exact b5 | simpa using b5) (by first | exact b6 | simpa using b6)
              · simp only [if_neg b6]
                by_cases b7 : byteAt s s3.toNat > (57 : Int)
                · simp only [if_pos b7]
                  exact isNameR_L4_9 s s3 (by first | exact b0 | simpa using b0) (hf0 b0) (by first | exact b1 | simpa using b1) (by first | exact b2 | simpa using b2) (by first | exact b3 | simpa using b3) (by first | exact b4 | simpa using b4) (by first | exact b5 | simpa using b5) (by first | exact b6 | simpa using b6) (by first | exact b7 | simpa using b7)
                · simp only [if_neg b7]
                  exact isNameR_L4_10 s s3 (by first | exact b0 | simpa using b0) (hf0 b0) (by first | exact b1 | simpa using b1) (by first | exact b2 | simpa using b2) (by first | exact b3 | simpa using b3) (by first | exact b4 | simpa using b4) (by first | exact b5 | simpa using b5) (by first | exact b6 | simpa using b6) (by first | exact b7 | simpa using b7)
            · simp only [if_neg b5]
              exact isNameR_L4_11 s s3 (by first | exact b0 | simpa using b0) (hf0 b0) (by first | exact b1 | simpa using b1) (by first | exact b2 | simpa using b2) (by first | exact b3 | simpa using b3) (by first | exact b4 | simpa using b4) (by first | exact b5 | simpa using b5)
    · simp only [if_neg b1]
      by_cases b2 : byteAt s s3.toNat ≥ (65 : Int)
      · simp only [if_pos b2]
        by_cases b3 : (!decide (byteAt s s3.toNat ≤ (90 : Int))) = true
        · simp only [if_pos b3]
          by_cases b4 : s3 = (0 : Int)
          · simp only [if_pos b4]
            exact isNameR_L4_12 s s3 (by first | exact b0 | simpa using b0) (hf0 b0) (by first | exact b1 | simpa using b1) (by first | exact b2 | simpa using b2) (by first | exact b3 | simpa using b3) (by first | exact b4 | simpa using b4)
          · simp only [if_neg b4]
            by_cases b5 : byteAt s s3.toNat ≠ (45 : Int)
            · simp only [if_pos b5]
              by_cases b6 : byteAt s s3.toNat < (48 : Int)
              · simp only [if_pos b6]
                exact isNameR_L4_13 s s3 (by first | exact b0 | simpa using b0) (hf0 b0) (by first | exact b1 | simpa using b1) (by first | exact b2 | simpa using b2) (by first | exact b3 | simpa using b3) (by first | exact b4 | simpa using b4) (by first | exact b5 | simpa using b5) (by first | exact b6 | simpa using b6)
              · simp only [if_neg b6]
                by_cases b7 : byteAt s s3.toNat > (57 : Int)
                · simp only [if_pos b7]
                  exact isNameR_L4_14 s s3 (by first | exact b0 | simpa using b0) (hf0 b0) (by first | exact b1 | simpa using b1) (by first | exact b2 | simpa using b2) (by first | exact b3 | simpa using b3) (by first | exact b4 | simpa using b4) (by first | exact b5 | simpa using b5) (by first | exact b6 | simpa using b6) (by first | exact b7 | simpa using b7)
                · simp only [if_neg b7]
                  exact isNameR_L4_15 s s3 (by first | exact b0 | simpa using b0) (hf0 b0) (by first | exact b1 | simpa using b1) (by first | exact b2 | simpa using b2) (by first | exact b3 | simpa using b3) (by first | exact b4 | simpa using b4) (by first | exact b5 | simpa using b5) (by first | exact b6 | simpa using b6) (by first | exact b7 | simpa using b7)
            · simp only [if_neg b5]
              exact isNameR_L4_16 s s3 (by first | exact b0 | simpa using b0) (hf0 b0) (by first | exact b1 | simpa using b1) (by first | exact b2 | simpa using b2) (by first | exact b3 | simpa using b3) (by first | exact b4 | simpa using b4) (by first | exact b5 | simpa using b5)
        · simp only [if_neg b3]
          exact isNameR_L4_17 s s3 (by first | exact b0 | simpa using b0) (hf0 b0) (by first | exact b1 | simpa using b1) (by first | exact b2 | simpa using b2) (by first | exact b3 | simpa using b3)
      · simp only [if_neg b2]
        by_cases b3 : s3 = (0 : Int)
        · simp only [if_pos b3]
          exact isNameR_L4_18 s s3 (by first | exact b0 | simpa using b0) (hf0 b0) (by first | exact b1 | simpa using b1) (by first | exact b2 | simpa using b2) (by first | exact b3 | simpa using b3)
        · simp only [if_neg b3]
          by_cases b4 : byteAt s s3.toNat ≠ (45 : Int)
          · simp only [if_pos b4]
            by_cases b5 : byteAt s s3.toNat < (48 : Int)
            · simp only [if_pos b5]
              exact isNameR_L4_19 s s3 (by first | exact b0 | simpa using b0) (hf0 b0) (by first | exact b1 | simpa using b1) (by first | exact b2 | simpa using b2) (by first | exact b3 | simpa using b3) (by first | exact b4 | simpa using b4) (by first | exact b5 | simpa using b5)
            · simp only [if_neg b5]
              by_cases b6 : byteAt s s3.toNat > (57 : Int)
              · simp only [if_pos b6]
                exact isNameR_L4_20 s s3 (by first | exact b0 | simpa using b0) (hf0 b0) (by first | exact b1 | simpa using b1) (by first | exact b2 | simpa using b2) (by first | exact b3 | simpa using b3) (by first | exact b4 | simpa using b4) (by first | exact b5 | simpa using b5) (by first | exact b6 | simpa using b6)
              · simp only [if_neg b6]
                exact isNameR_L4_21 s s3 (by first | exact b0 | simpa using b0) (hf0 b0) (by first | exact b1 | simpa using b1) (by first | exact b2 | simpa using b2) (by first | exact b3 | simpa using b3) (by first | exact b4 | simpa using b4) (by first | exact b5 | simpa using b5) (by first | exact b6 | simpa using b6)
          · simp only [if_neg b4]
            exact isNameR_L4_22 s s3 (by first | exact b0 | simpa using b0) (hf0 b0) (by first | exact b1 | simpa using b1) (by first | exact b2 | simpa using b2) (by first | exact b3 | simpa using b3) (by first | exact b4 | simpa using b4)
  · simp only [if_neg b0]
    exact isNameR_L4_23 s s3 (by first | exact b0 | simpa using b0)
end
end Go.Proofs.YtegjgcogikjemaaDoor
/- Names. -/
namespace Go.Proofs.YtegjgcogikjemaaDoor
open Go.Ev Go.RowKit
set_option maxRecDepth 100000
theorem isLetter_eq (x : Int) : isLetter_f x = decide ((97 ≤ x ∧ x ≤ 122) ∨ (65 ≤ x ∧ x ≤ 90)) := by
  unfold isLetter_f
  rw [eq_comm]
  repeat' split
  all_goals first | (rw [decide_eq_decide]; omega) | (rw [decide_eq_true_eq]; omega) | (rw [decide_eq_false_iff_not]; omega)
theorem isDigit_eq (x : Int) : isDigit_f x = decide (48 ≤ x ∧ x ≤ 57) := by
  unfold isDigit_f
  rw [eq_comm]
  repeat' split
  all_goals first | (rw [decide_eq_decide]; omega) | (rw [decide_eq_true_eq]; omega) | (rw [decide_eq_false_iff_not]; omega)
/-- A letter may stand anywhere in a name, a digit or a hyphen not first. -/
def okAt (s : ByteArray) (i : Nat) : Bool := isLetter_f (byteAt s i) || (i != 0 && (byteAt s i == 45 || isDigit_f (byteAt s i)))
def nameV (s : ByteArray) : Bool := decide (1 ≤ s.size) && decide (s.size ≤ 12) && (List.range s.size).all (okAt s)
theorem roundR (s : ByteArray) (i : Nat) (h : i < s.size) : isNameR_L4_r s (i : Int) = if okAt s i then .next 0 [.one (.int .i64 (IntKind.i64.wrap ((i : Int) + 1)))] else .out 1 [.one (.bool false)] := by
  unfold okAt
  rw [isLetter_eq, isDigit_eq]
  unfold isNameR_L4_r
  simp only [Int.toNat_natCast]
  have e0 : ((i : Int) = 0) ↔ i = 0 := by omega
  repeat' split
  all_goals first | rfl | (exfalso; simp only [Bool.or_eq_true, Bool.and_eq_true, decide_eq_true_eq, beq_iff_eq, bne_iff_ne, ne_eq, Bool.not_eq_true', decide_eq_false_iff_not, not_or, not_and] at *; omega)
theorem isNameR_all (s : ByteArray) : Con 153 [.one (.string s)] (.one (.bool (nameV s))) := by
  unfold nameV
  by_cases h1 : (s.size : Int) < 1
  · rw [show decide (1 ≤ s.size) = false from decide_eq_false (by omega)]
    exact isNameR_0 s h1
  rw [show decide (1 ≤ s.size) = true from decide_eq_true (by omega)]
  by_cases h2 : (s.size : Int) > 12
  · rw [show decide (s.size ≤ 12) = false from decide_eq_false (by omega)]
    exact isNameR_1 s h1 h2
  rw [show decide (s.size ≤ 12) = true from decide_eq_true (by omega)]
  have step : ∀ i : Nat, i < s.size → okAt s i = true → Step (ctx [153] isNameR_sp) Tabs isNameR_L4_A (isNameR_L4_H s (i : Int)) (isNameR_L4_H s (IntKind.i64.wrap ((i : Int) + 1))) .normal := fun i hi hk => by
    have := isNameR_L4_t s (i : Int) (fun _ => by omega)
    rw [roundR s i hi, if_pos hk] at this
    exact this
  rcases first_of (fun i => !okAt s i) (List.range s.size) with h | ⟨i, v, h3, h4, h5⟩
  · have ha : (List.range s.size).all (okAt s) = true := List.all_eq_true.2 fun i hi => by simpa using h i hi
    rw [ha]
    exact isNameR_2 s h1 h2 (isNameR_L4_in s (scan (good true _ _) isNameR_L4_ok s.size (by omega) (fun i hi => step i hi (by simpa using h i (List.mem_range.2 hi))) (by
      have := isNameR_L4_t s (s.size : Int) (fun _ => by omega)
      rw [show isNameR_L4_r s (s.size : Int) = .out 0 [] from by unfold isNameR_L4_r; rw [if_neg (by omega)]] at this
      exact this) ⟨rfl, by simp [axOf]⟩ (by kernel_rfl)) (by kernel_rfl))
  · have hi : i < s.size := by have := (List.getElem?_eq_some_iff.1 h3).1; simpa using this
    have hv : v = i := by
      rw [List.getElem?_range hi] at h3; simpa using h3.symm
    subst hv
    have ha : (List.range s.size).all (okAt s) = false := List.all_eq_false.2 ⟨v, List.mem_range.2 hi, by simpa using h4⟩
    rw [ha]
    exact isNameR_3 s false h1 h2 (isNameR_L4_in s (scan (good true _ _) isNameR_L4_ok v (by omega) (fun j hj => step j (by omega) (by have := h5 j j hj (List.getElem?_range (by omega)); simpa using this)) (by
      have := isNameR_L4_t s (v : Int) (fun _ => by omega)
      rw [roundR s v hi, if_neg (by simpa using h4)] at this
      exact this) ⟨rfl, by simp [axOf]⟩ (by kernel_rfl)) (by kernel_rfl))
end Go.Proofs.YtegjgcogikjemaaDoor
/- Names, as the program checks them. -/
namespace Go.Proofs.YtegjgcogikjemaaDoor
open Go.Ev Go.RowKit
set_option maxRecDepth 100000
theorem round191 (s : ByteArray) (x0 : Bool) (i : Nat) (h : i < s.size) : isName_L4_r s x0 (i : Int) (isLetter_f (byteAt s i)) (isDigit_f (byteAt s i)) = if isLetter_f (byteAt s i) || (byteAt s i == 45 || isDigit_f (byteAt s i)) then .next 0 [.one (.int .i64 (IntKind.i64.wrap ((i : Int) + 1)))] else .out 1 [.one (.bool false)] := by
  unfold isName_L4_r
  simp only [Int.toNat_natCast]
  have h' : (i : Int) < (s.size : Int) := by omega
  rw [if_pos h']
  cases isLetter_f (byteAt s i) <;> cases isDigit_f (byteAt s i) <;> by_cases h45 : byteAt s i = 45 <;> simp [h45]
theorem bytes_nil (s : ByteArray) : s.toList = (bytesOf []).toList ↔ s.size = 0 := by
  rw [ByteArray.toList_eq, ByteArray.toList_eq]
  show s.data.toList = [] ↔ s.data.size = 0
  rw [← Array.length_toList]
  exact List.length_eq_zero_iff.symm
theorem isName_all (s : ByteArray) : Con 191 [.one (.string s)] (.one (.bool (nameV s))) := by
  unfold nameV
  by_cases h1 : s.size = 0
  · rw [show decide (1 ≤ s.size) = false from decide_eq_false (by omega)]
    exact isName_0 s ((bytes_nil s).2 h1)
  have hn : s.toList ≠ (bytesOf []).toList := fun e => h1 ((bytes_nil s).1 e)
  rw [show decide (1 ≤ s.size) = true from decide_eq_true (by omega)]
  by_cases h2 : (s.size : Int) > 12
  · rw [show decide (s.size ≤ 12) = false from decide_eq_false (by omega)]
    exact isName_1 s hn h2
  rw [show decide (s.size ≤ 12) = true from decide_eq_true (by omega)]
  have hz : (0 : Int) ≤ (0 : Int) ∧ Int.toNat (0 : Int) < s.size := ⟨Int.le_refl _, by show 0 < s.size; omega⟩
  have hL : Con 217 [.one (.int .u8 (byteAt s (Int.toNat (0 : Int))))] (.one (.bool (isLetter_f (byteAt s 0)))) := isLetter_t _
  by_cases h3 : isLetter_f (byteAt s 0) = true
  rotate_left
  · have h3 : isLetter_f (byteAt s 0) = false := by simpa using h3
    have ha : (List.range s.size).all (okAt s) = false := List.all_eq_false.2 ⟨0, List.mem_range.2 (by omega), by simp [okAt, h3]⟩
    rw [ha]
    rw [h3] at hL
    exact isName_2 s false hn h2 hz rfl hL
  rw [h3] at hL
  have eqv : ∀ i, (isLetter_f (byteAt s i) || (byteAt s i == 45 || isDigit_f (byteAt s i))) = okAt s i := fun i => by
    unfold okAt
    cases i with
    | zero => rw [h3]; rfl
    | succ i => simp
  have round : ∀ i : Nat, i < s.size → Step (ctx [191] isName_sp) Tabs isName_L4_A (isName_L4_H s true (i : Int)) (isName_L4_to s true (if okAt s i then .next 0 [.one (.int .i64 (IntKind.i64.wrap ((i : Int) + 1)))] else .out 1 [.one (.bool false)])).2 (isName_L4_to s true (if okAt s i then .next 0 [.one (.int .i64 (IntKind.i64.wrap ((i : Int) + 1)))] else .out 1 [.one (.bool false)])).1 := fun i hi => by
    have := isName_L4_t s true (i : Int) (isLetter_f (byteAt s i)) (isDigit_f (byteAt s i)) (fun _ => by omega) (fun _ => isLetter_t _) (fun _ _ => isDigit_t _)
    rw [round191 s true i hi, eqv] at this
    exact this
  have step : ∀ i : Nat, i < s.size → okAt s i = true → Step (ctx [191] isName_sp) Tabs isName_L4_A (isName_L4_H s true (i : Int)) (isName_L4_H s true (IntKind.i64.wrap ((i : Int) + 1))) .normal := fun i hi hk => by
    have := round i hi
    rw [if_pos hk] at this
    exact this
  rcases first_of (fun i => !okAt s i) (List.range s.size) with h | ⟨i, v, h4, h5, h6⟩
  · have ha : (List.range s.size).all (okAt s) = true := List.all_eq_true.2 fun i hi => by simpa using h i hi
    rw [ha]
    exact isName_3 s true hn h2 hz rfl hL (isName_L4_in s true (scan (good true _ _) isName_L4_ok s.size (by omega) (fun i hi => step i hi (by simpa using h i (List.mem_range.2 hi))) (isName_L4_4 s true (s.size : Int) (by omega)) ⟨rfl, by simp [axOf]⟩ (by kernel_rfl)) (by kernel_rfl))
  · have hi : i < s.size := by have := (List.getElem?_eq_some_iff.1 h4).1; simpa using this
    have hv : v = i := by
      rw [List.getElem?_range hi] at h4; simpa using h4.symm
    subst hv
    have ha : (List.range s.size).all (okAt s) = false := List.all_eq_false.2 ⟨v, List.mem_range.2 hi, by simpa using h5⟩
    rw [ha]
    exact isName_4 s true false hn h2 hz rfl hL (isName_L4_in s true (scan (good true _ _) isName_L4_ok v (by omega) (fun j hj => step j (by omega) (by have := h6 j j hj (List.getElem?_range (by omega)); simpa using this)) (by
      have := round v hi
      rw [if_neg (by simpa using h5)] at this
      exact this) ⟨rfl, by simp [axOf]⟩ (by kernel_rfl)) (by kernel_rfl))
end Go.Proofs.YtegjgcogikjemaaDoor
/- Parts. -/
namespace Go.Proofs.YtegjgcogikjemaaDoor
open Go.Ev Go.RowKit
set_option maxRecDepth 100000
structure Part where
  n : ByteArray
  p : Int
  a0 : Int
  a1 : Int
  a2 : Int
  a3 : Int
  a4 : Int
  a5 : Int
  a6 : Int
  a7 : Int
  a8 : Int
  a9 : Int
  a10 : Int
  a11 : Int
def Part.cells (q : Part) : List D := [.one (.string q.n), .one (.int .i64 q.p), .one (.int .i64 q.a0), .one (.int .i64 q.a1), .one (.int .i64 q.a2), .one (.int .i64 q.a3), .one (.int .i64 q.a4), .one (.int .i64 q.a5), .one (.int .i64 q.a6), .one (.int .i64 q.a7), .one (.int .i64 q.a8), .one (.int .i64 q.a9), .one (.int .i64 q.a10), .one (.int .i64 q.a11)]
/-- The cells of parts. -/
def slotC : List Part → List D
  | [] => []
  | q :: qs => q.cells ++ slotC qs
theorem slotC_len : ∀ ps : List Part, (slotC ps).length = ps.length * 14
  | [] => rfl
  | q :: qs => by simp [slotC, slotC_len qs, Part.cells]; omega
theorem slotC_take : ∀ (ps : List Part) (i : Nat), i ≤ ps.length → (slotC ps).take (i * 14) = slotC (ps.take i)
  | [], i, h => by simp at h; subst h; rfl
  | q :: qs, 0, h => by simp [slotC]
  | q :: qs, i + 1, h => by
    have h14 : q.cells.length = 14 := rfl
    rw [slotC, List.take_append, List.take_of_length_le (by rw [h14]; omega), h14, show (i + 1) * 14 - 14 = i * 14 by omega, slotC_take qs i (by simpa using h)]
    rfl
theorem slotC_drop : ∀ (ps : List Part) (i : Nat), (slotC ps).drop (i * 14) = slotC (ps.drop i)
  | [], i => by simp [slotC]
  | q :: qs, 0 => by simp
  | q :: qs, i + 1 => by
    have h14 : q.cells.length = 14 := rfl
    rw [slotC, List.drop_append, List.drop_of_length_le (by rw [h14]; omega), h14, show (i + 1) * 14 - 14 = i * 14 by omega, slotC_drop qs i]
    rfl
theorem reads14 {ps : List Part} {i : Nat} {q : Part} (h : ps[i]? = some q) : readsAs (slotC ps) ((i : Int).toNat * 14) 14 true (.agg q.cells) := by
  refine ⟨q.cells, rfl, rfl, by omega, ?_⟩
  have hi := (List.getElem?_eq_some_iff.1 h).1
  rw [Int.toNat_natCast, slotC_drop, List.drop_eq_getElem_cons hi, show ps[i] = q from (List.getElem?_eq_some_iff.1 h).2]
  rw [slotC, List.take_append, List.take_of_length_le (by show 14 ≤ 14; omega)]
  have : q.cells.length = 14 := rfl
  simp [this]
end Go.Proofs.YtegjgcogikjemaaDoor
/- stage 2: a first contract -/
namespace Go.Proofs.YtegjgcogikjemaaDoor
open Go.Ev Go.RowKit
set_option maxRecDepth 100000
noncomputable section
def within_sp : List LSpec := []
theorem within_0 (n lo hi : Int)  (hh0 : lo ≤ n) : Con 22 [.one (.int .i64 n), .one (.int .i64 lo), .one (.int .i64 hi)] (.one (.bool (decide (n ≤ hi)))) :=
  con_of (op := true) (I := [22]) (sp := within_sp) (n := 3000) (ora := [true, true, true, true]) (res := [])
    (conds := [(decide (lo ≤ n), true), (decide (lo ≤ n), true), (decide (lo ≤ n), true), (decide (lo ≤ n), true)]) (cls := [])
    (by kernel_rfl) ⟨decide_eq_true hh0, decide_eq_true hh0, decide_eq_true hh0, decide_eq_true hh0, trivial⟩ trivial
theorem within_1 (n lo hi : Int)  (hh0 : ¬ (lo ≤ n)) : Con 22 [.one (.int .i64 n), .one (.int .i64 lo), .one (.int .i64 hi)] (.one (.bool false)) :=
  con_of (op := true) (I := [22]) (sp := within_sp) (n := 3000) (ora := [false, false, false, false]) (res := [])
    (conds := [(decide (lo ≤ n), false), (decide (lo ≤ n), false), (decide (lo ≤ n), false), (decide (lo ≤ n), false)]) (cls := [])
    (by kernel_rfl) ⟨decide_eq_false hh0, decide_eq_false hh0, decide_eq_false hh0, decide_eq_false hh0, trivial⟩ trivial
end
end Go.Proofs.YtegjgcogikjemaaDoor
/- The numbers of a part. -/
namespace Go.Proofs.YtegjgcogikjemaaDoor
open Go.Ev Go.RowKit
set_option maxRecDepth 100000
def wide (x : Int) : Bool := bad 0 1000000 x
theorem within_all (n lo hi : Int) : Con 22 [.one (.int .i64 n), .one (.int .i64 lo), .one (.int .i64 hi)] (.one (.bool (!bad lo hi n))) := by
  by_cases h : lo ≤ n
  · have := within_0 n lo hi h
    rwa [show (!bad lo hi n) = decide (n ≤ hi) from by unfold bad; rw [decide_eq_false (by omega : ¬ n < lo)]; by_cases h2 : n ≤ hi <;> simp [h2] <;> omega]
  · have := within_1 n lo hi h
    rwa [show (!bad lo hi n) = false from by unfold bad; rw [decide_eq_true (by omega : n < lo)]; rfl]
def lohi (l h k : Int) : Int := if (wide l || wide h) = true then 2 else if l > h then 9 else k
/-- The error of a part's numbers. -/
def Part.numE (q : Part) : Int := if wide q.p = true then 2 else lohi q.a0 q.a1 (lohi q.a2 q.a3 (lohi q.a4 q.a5 (lohi q.a6 q.a7 (lohi q.a8 q.a9 (lohi q.a10 q.a11 0)))))
theorem two_wide (a b : Bool) (X : Int) : (if (!a) = false then (2 : Int) else if (!b) = false then 2 else X) = if (a || b) = true then 2 else X := by cases a <;> cases b <;> rfl
theorem one_wide (a : Bool) (X : Int) : (if (!a) = false then (2 : Int) else X) = if a = true then 2 else X := by cases a <;> rfl
theorem numErr_all (q : Part) : Con 154 [.agg q.cells] (.one (.int .i64 q.numE)) := by
  have W := fun x => within_all x 0 1000000
  have := numErr_t q.n q.p q.a0 q.a1 q.a2 q.a3 q.a4 q.a5 q.a6 q.a7 q.a8 q.a9 q.a10 q.a11 _ _ _ _ _ _ _ _ _ _ _ _ _ (W q.p) (fun _ => W q.a0) (fun _ _ => W q.a1) (fun _ _ _ _ => W q.a2) (fun _ _ _ _ _ => W q.a3) (fun _ _ _ _ _ _ _ => W q.a4) (fun _ _ _ _ _ _ _ _ => W q.a5) (fun _ _ _ _ _ _ _ _ _ _ => W q.a6) (fun _ _ _ _ _ _ _ _ _ _ _ => W q.a7) (fun _ _ _ _ _ _ _ _ _ _ _ _ _ => W q.a8) (fun _ _ _ _ _ _ _ _ _ _ _ _ _ _ => W q.a9) (fun _ _ _ _ _ _ _ _ _ _ _ _ _ _ _ _ => W q.a10) (fun _ _ _ _ _ _ _ _ _ _ _ _ _ _ _ _ _ => W q.a11)
  refine con_val this ?_
  unfold numErr_f Part.numE lohi wide
  simp only [two_wide]
  rw [one_wide]
theorem rangeE1 (a : Int) : rangeE 0 1000000 [a] = if wide a = true then 2 else 0 := by
  simp only [rangeE, List.any_cons, List.any_nil, Bool.or_false, wide]
  congr
theorem rangeE2 (a b : Int) : rangeE 0 1000000 [a, b] = if (wide a || wide b) = true then 2 else 0 := by
  simp only [rangeE, List.any_cons, List.any_nil, Bool.or_false, wide]
  congr
theorem nz_ite (b : Bool) (X : Int) : (if (if b = true then (2 : Int) else 0) ≠ 0 then (if b = true then (2 : Int) else 0) else X) = if b = true then 2 else X := by cases b <;> rfl
def sameName (q r : Part) : Bool := q.n.toList == r.n.toList
/-- The error of a part behind others. -/
def partE (q : Part) (qs : List Part) : Int := if nameV q.n = false then 4 else if qs.any (sameName q) = true then 5 else q.numE
theorem chkPart_all (q : Part) (qs : List Part) (hl : qs.length ≤ 4611686018427387904) : Con 151 [.agg q.cells, .list qs.length (slotC qs)] (.one (.int .i64 (partE q qs))) := by
  unfold partE
  have hN := isName_all q.n
  by_cases h1 : nameV q.n = false
  · rw [if_pos h1]
    rw [h1] at hN
    exact chkPart_0 q.n q.p q.a0 q.a1 q.a2 q.a3 q.a4 q.a5 q.a6 q.a7 q.a8 q.a9 q.a10 q.a11 qs.length (slotC qs) false rfl hN
  rw [if_neg h1]
  have h1' : nameV q.n = true := by simpa using h1
  rw [h1'] at hN
  have step : ∀ (i : Nat) (r : Part), qs[i]? = some r → sameName q r = false → Step (ctx [151] chkPart_sp) Tabs chkPart_L4_A (chkPart_L4_H q.n q.p q.a0 q.a1 q.a2 q.a3 q.a4 q.a5 q.a6 q.a7 q.a8 q.a9 q.a10 q.a11 qs.length (slotC qs) true (i : Int)) (chkPart_L4_H q.n q.p q.a0 q.a1 q.a2 q.a3 q.a4 q.a5 q.a6 q.a7 q.a8 q.a9 q.a10 q.a11 qs.length (slotC qs) true (IntKind.i64.wrap ((i : Int) + 1))) .normal := fun i r hr hs => by
    have hix := (List.getElem?_eq_some_iff.1 hr).1
    exact chkPart_L4_1 q.n q.p q.a0 q.a1 q.a2 q.a3 q.a4 q.a5 q.a6 q.a7 q.a8 q.a9 q.a10 q.a11 qs.length (slotC qs) true i _ _ _ _ _ _ _ _ _ _ _ _ _ _ (by omega) (by omega) (reads14 hr) (by simpa [sameName] using hs)
  rcases first_of (sameName q) qs with h | ⟨i, r, h2, h3, h4⟩
  · have ha : ¬ (qs.any (sameName q) = true) := by simpa using h
    rw [if_neg ha]
    have L := chkPart_L4_in q.n q.p q.a0 q.a1 q.a2 q.a3 q.a4 q.a5 q.a6 q.a7 q.a8 q.a9 q.a10 q.a11 qs.length (slotC qs) true (x := ⟨some 0, [], [4, 6, 17, 18, 19, 20, 21, 22, 23, 24, 25, 26]⟩) (ds := []) (scan (good true _ _) chkPart_L4_ok qs.length hl (fun i hi => step i qs[i] (List.getElem?_eq_getElem hi) (h _ (List.getElem_mem hi))) (chkPart_L4_2 q.n q.p q.a0 q.a1 q.a2 q.a3 q.a4 q.a5 q.a6 q.a7 q.a8 q.a9 q.a10 q.a11 qs.length (slotC qs) true qs.length (by omega)) ⟨rfl, by simp [axOf]⟩ (by kernel_rfl)) (by kernel_rfl)
    have K1 := fun x => chkRange_all 0 1000000 [x] (by show 1 ≤ _; decide)
    have K2 := fun x y => chkRange_all 0 1000000 [x, y] (by show 2 ≤ _; decide)
    have := chkPart_e0_t q.n q.p q.a0 q.a1 q.a2 q.a3 q.a4 q.a5 q.a6 q.a7 q.a8 q.a9 q.a10 q.a11 qs.length (slotC qs) true _ _ _ _ _ _ _ hN (fun _ => L) (fun _ => K1 q.p) (fun _ _ => K2 q.a0 q.a1) (fun _ _ _ _ => K2 q.a2 q.a3) (fun _ _ _ _ _ _ => K2 q.a4 q.a5) (fun _ _ _ _ _ _ _ _ => K2 q.a6 q.a7) (fun _ _ _ _ _ _ _ _ _ _ => K2 q.a8 q.a9) (fun _ _ _ _ _ _ _ _ _ _ _ _ => K2 q.a10 q.a11)
    refine con_val this ?_
    unfold chkPart_e0_f Part.numE lohi
    simp only [rangeE1, rangeE2, nz_ite]
    rfl
  · have hi := (List.getElem?_eq_some_iff.1 h2).1
    have ha : qs.any (sameName q) = true := List.any_eq_true.2 ⟨r, List.mem_of_getElem? h2, h3⟩
    rw [if_pos ha]
    have L := chkPart_L4_in q.n q.p q.a0 q.a1 q.a2 q.a3 q.a4 q.a5 q.a6 q.a7 q.a8 q.a9 q.a10 q.a11 qs.length (slotC qs) true (x := ⟨none, [.val 4], [6, 17, 18, 19, 20, 21, 22, 23, 24, 25, 26]⟩) (ds := [.one (.int .i64 5)]) (scan (good true _ _) chkPart_L4_ok i (by omega) (fun j hj => step j (qs[j]'(by omega)) (List.getElem?_eq_getElem _) (h4 j _ hj (List.getElem?_eq_getElem _))) (chkPart_L4_0 q.n q.p q.a0 q.a1 q.a2 q.a3 q.a4 q.a5 q.a6 q.a7 q.a8 q.a9 q.a10 q.a11 qs.length (slotC qs) true i _ _ _ _ _ _ _ _ _ _ _ _ _ _ (by omega) (by omega) (reads14 h2) (by simpa [sameName] using h3)) ⟨rfl, by simp [axOf]⟩ (by kernel_rfl)) (by kernel_rfl)
    exact chkPart_15 q.n q.p q.a0 q.a1 q.a2 q.a3 q.a4 q.a5 q.a6 q.a7 q.a8 q.a9 q.a10 q.a11 qs.length (slotC qs) true 5 rfl hN L
end Go.Proofs.YtegjgcogikjemaaDoor
/- The program's check of a slot. -/
namespace Go.Proofs.YtegjgcogikjemaaDoor
open Go.Ev Go.RowKit
set_option maxRecDepth 100000
def partAt (ps : List Part) (i : Nat) : Int := match ps[i]? with
  | some q => partE q (ps.take i)
  | none => 0
/-- The error of a slot. -/
def slotE (ps : List Part) : Int := if ps.length = 0 then 10 else if 6 < ps.length then 8 else firstNZ ((List.range ps.length).map (partAt ps))
theorem firstNZ_none {xs : List Int} (h : ∀ x ∈ xs, x = 0) : firstNZ xs = 0 := by
  unfold firstNZ
  rw [List.find?_eq_none.2 fun x hx => by simp [h x hx]]; rfl
theorem firstNZ_at {xs : List Int} {i : Nat} {v : Int} (h1 : xs[i]? = some v) (h2 : v ≠ 0) (h3 : ∀ (j : Nat) (y : Int), j < i → xs[j]? = some y → y = 0) : firstNZ xs = v := by
  unfold firstNZ
  have hix := (List.getElem?_eq_some_iff.1 h1).1
  have : xs.find? (fun x => x != 0) = some v := by
    rw [List.find?_eq_some_iff_getElem]
    exact ⟨by simpa using h2, i, hix, (List.getElem?_eq_some_iff.1 h1).2, fun j hj => by have := h3 j _ hj (List.getElem?_eq_getElem (by omega)); simpa using this⟩
  rw [this]; rfl
theorem chkSlot_all (ps : List Part) (hl : ps.length ≤ 4611686018427387904) : Con 94 [.list ps.length (slotC ps)] (.one (.int .i64 (slotE ps))) := by
  have hc := chkCount_t (ps.length : Int) 6
  unfold slotE
  by_cases h0 : ps.length = 0
  · rw [if_pos h0]
    rw [show chkCount_f (ps.length : Int) 6 = 10 from by unfold chkCount_f; rw [if_pos (by omega)]] at hc
    exact chkSlot_0 _ _ 10 (by decide) hc
  rw [if_neg h0]
  by_cases h6 : 6 < ps.length
  · rw [if_pos h6]
    rw [show chkCount_f (ps.length : Int) 6 = 8 from by unfold chkCount_f; rw [if_neg (by omega), if_pos (by omega)]] at hc
    exact chkSlot_0 _ _ 8 (by decide) hc
  rw [if_neg h6]
  rw [show chkCount_f (ps.length : Int) 6 = 0 from by unfold chkCount_f; rw [if_neg (by omega), if_neg (by omega)]] at hc
  have part : ∀ (i : Nat) (q : Part), ps[i]? = some q → Con 151 [.agg q.cells, .list ((i : Int).toNat - Int.toNat (0 : Int)) (List.take (((i : Int).toNat - Int.toNat (0 : Int)) * 14) (List.drop (Int.toNat (0 : Int) * 14) (slotC ps)))] (.one (.int .i64 (partAt ps i))) := fun i q hq => by
    have hix := (List.getElem?_eq_some_iff.1 hq).1
    have := chkPart_all q (ps.take i) (by rw [List.length_take]; omega)
    rw [show partE q (ps.take i) = partAt ps i from by unfold partAt; rw [hq]] at this
    refine con_arg this ?_
    rw [List.length_take, Nat.min_eq_left (by omega)]
    simp only [Int.toNat_natCast, Int.toNat_zero, Nat.sub_zero, Nat.zero_mul, List.drop_zero]
    rw [slotC_take ps i (by omega)]
  have fact3 : ∀ i : Nat, i < ps.length → (0 : Int) ≤ (0 : Int) ∧ (0 : Int) ≤ (i : Int) ∧ (i : Int) ≤ (ps.length : Int) ∧ (slotC ps).length = ps.length * 14 := fun i hi => ⟨by omega, by omega, by omega, slotC_len ps⟩
  have step : ∀ i : Nat, i < ps.length → partAt ps i = 0 → Step (ctx [94] chkSlot_sp) Tabs chkSlot_L5_A (chkSlot_L5_H ps.length (slotC ps) 0 (i : Int)) (chkSlot_L5_H ps.length (slotC ps) 0 (IntKind.i64.wrap ((i : Int) + 1))) .normal := fun i hi he => by
    exact chkSlot_L5_1 ps.length (slotC ps) 0 i _ _ _ _ _ _ _ _ _ _ _ _ _ _ (partAt ps i) (by omega) (by omega) (reads14 (List.getElem?_eq_getElem hi)) (fact3 i hi) he (part i _ (List.getElem?_eq_getElem hi))
  rcases first_of (fun i => partAt ps i != 0) (List.range ps.length) with h | ⟨i, v, h2, h3, h4⟩
  · have e : firstNZ ((List.range ps.length).map (partAt ps)) = 0 := firstNZ_none fun x hx => by
      obtain ⟨i, hi, rfl⟩ := List.mem_map.1 hx
      simpa using h i hi
    rw [e]
    exact chkSlot_1 _ _ 0 rfl hc (chkSlot_L5_in ps.length (slotC ps) 0 (x := ⟨some 0, [], [2, 4, 5, 6, 15, 16, 17, 18, 19, 20, 21, 22, 23, 24, 25, 26, 27, 28]⟩) (ds := []) (scan (good true _ _) chkSlot_L5_ok ps.length hl (fun i hi => step i hi (by simpa using h i (List.mem_range.2 hi))) (chkSlot_L5_2 ps.length (slotC ps) 0 ps.length (by omega)) ⟨rfl, by simp [axOf]⟩ (by kernel_rfl)) (by kernel_rfl))
  · have hi : i < ps.length := by have := (List.getElem?_eq_some_iff.1 h2).1; simpa using this
    have hv : v = i := by rw [List.getElem?_range hi] at h2; simpa using h2.symm
    subst hv
    have hne : partAt ps v ≠ 0 := by simpa using h3
    have e : firstNZ ((List.range ps.length).map (partAt ps)) = partAt ps v := firstNZ_at (i := v) (by rw [List.getElem?_map, List.getElem?_range hi]; rfl) hne fun j y hj hy => by
      rw [List.getElem?_map, List.getElem?_range (by omega)] at hy
      have := h4 j j hj (List.getElem?_range (by omega))
      simp at hy this
      rw [← hy]; exact this
    rw [e]
    exact chkSlot_2 _ _ 0 (partAt ps v) rfl hc (chkSlot_L5_in ps.length (slotC ps) 0 (x := ⟨none, [.val 2], [4, 5, 6, 15, 16, 17, 18, 19, 20, 21, 22, 23, 24, 25, 26, 27, 28]⟩) (ds := [.one (.int .i64 (partAt ps v))]) (scan (good true _ _) chkSlot_L5_ok v (by omega) (fun j hj => step j (by omega) (by have := h4 j j hj (List.getElem?_range (by omega)); simpa using this)) (chkSlot_L5_0 ps.length (slotC ps) 0 v _ _ _ _ _ _ _ _ _ _ _ _ _ _ (partAt ps v) (by omega) (by omega) (reads14 (List.getElem?_eq_getElem hi)) (fact3 v hi) hne (part v _ (List.getElem?_eq_getElem hi))) ⟨rfl, by simp [axOf]⟩ (by kernel_rfl)) (by kernel_rfl))
end Go.Proofs.YtegjgcogikjemaaDoor
/- The program's check of a stock. -/
namespace Go.Proofs.YtegjgcogikjemaaDoor
open Go.Ev Go.RowKit
set_option maxRecDepth 100000
def slotD (ps : List Part) : D := .list ps.length (slotC ps)
theorem readsS {ss : List (List Part)} {i : Nat} {ps : List Part} (h : ss[i]? = some ps) : readsAs (ss.map slotD) ((i : Int).toNat * 1) 1 false (.list ps.length (slotC ps)) := by
  show (ss.map slotD)[(i : Int).toNat * 1]? = _
  simp [h, slotD]
def slotAt (ss : List (List Part)) (i : Nat) : Int := match ss[i]? with
  | some ps => slotE ps
  | none => 0
/-- The error of a stock, with the slot that is wrong. -/
def headE (n : Nat) (ip pr : Int) : Int := if (bad 0 1000 ip || bad 0 1000 pr) = true then 2 else if n = 0 then 10 else if 5 < n then 8 else 0
def stockE (ss : List (List Part)) (ip pr : Int) : Int × Int := if headE ss.length ip pr ≠ 0 then (0, headE ss.length ip pr) else
  match (List.range ss.length).find? (fun i => slotAt ss i != 0) with
  | some i => ((i : Int), slotAt ss i)
  | none => (0, 0)
theorem headE_eq (n : Nat) (ip pr : Int) : firstNZ [rangeE 0 1000 [ip, pr], chkCount_f (n : Int) 5] = headE n ip pr := by
  unfold headE rangeE chkCount_f
  simp only [List.any_cons, List.any_nil, Bool.or_false]
  have e0 : ((n : Int) = 0) = (n = 0) := propext (by omega)
  have e5 : ((n : Int) > 5) = (5 < n) := propext (by omega)
  by_cases hb : (bad 0 1000 ip || bad 0 1000 pr) = true
  · rw [if_pos hb, if_pos hb]; rfl
  · rw [if_neg hb, if_neg hb]
    by_cases h0 : n = 0
    · rw [if_pos h0, if_pos (by omega)]; rfl
    · rw [if_neg h0, if_neg (by omega)]
      by_cases h5 : 5 < n
      · rw [if_pos h5, if_pos (by omega)]; rfl
      · rw [if_neg h5, if_neg (by omega)]; rfl
theorem chkStock_all (ss : List (List Part)) (ip pr : Int) (hl : ss.length ≤ 4611686018427387904) (hs : ∀ ps ∈ ss, ps.length ≤ 4611686018427387904) :
    Con 32 [.agg [.list ss.length (ss.map slotD), .one (.int .i64 ip), .one (.int .i64 pr)]] (.tup [.one (.int .i64 (stockE ss ip pr).1), .one (.int .i64 (stockE ss ip pr).2)]) := by
  have hr := chkRange_all 0 1000 [ip, pr] (by show 2 ≤ _; decide)
  have hc := chkCount_t (ss.length : Int) 5
  have hf := firstOf_all [rangeE 0 1000 [ip, pr], chkCount_f (ss.length : Int) 5] (by show 2 ≤ _; decide)
  rw [headE_eq] at hf
  unfold stockE
  by_cases h0 : headE ss.length ip pr ≠ 0
  · rw [if_pos h0]
    exact chkStock_0 _ _ ip pr _ _ _ h0 hr hc hf
  rw [if_neg h0]
  have h0' : headE ss.length ip pr = 0 := by simpa using h0
  have slot : ∀ (i : Nat) (ps : List Part), ss[i]? = some ps → Con 94 [.list ps.length (slotC ps)] (.one (.int .i64 (slotAt ss i))) := fun i ps h => by
    have := chkSlot_all ps (hs ps (List.mem_of_getElem? h))
    rwa [show slotE ps = slotAt ss i from by unfold slotAt; rw [h]] at this
  have step : ∀ i : Nat, i < ss.length → slotAt ss i = 0 → Step (ctx [32] chkStock_sp) Tabs chkStock_L6_A (chkStock_L6_H ss.length (ss.map slotD) ip pr (rangeE 0 1000 [ip, pr]) (chkCount_f (ss.length : Int) 5) (headE ss.length ip pr) (i : Int)) (chkStock_L6_H ss.length (ss.map slotD) ip pr (rangeE 0 1000 [ip, pr]) (chkCount_f (ss.length : Int) 5) (headE ss.length ip pr) (IntKind.i64.wrap ((i : Int) + 1))) .normal := fun i hi he =>
    chkStock_L6_1 ss.length (ss.map slotD) ip pr _ _ _ i _ _ (slotAt ss i) (by omega) (by omega) (readsS (List.getElem?_eq_getElem hi)) he (slot i _ (List.getElem?_eq_getElem hi))
  rcases first_of (fun i => slotAt ss i != 0) (List.range ss.length) with h | ⟨i, v, h2, h3, h4⟩
  · rw [List.find?_eq_none.2 fun i hi => by simpa using h i hi]
    exact chkStock_1 _ _ ip pr _ _ _ h0' hr hc hf (chkStock_L6_in ss.length (ss.map slotD) ip pr _ _ _ (x := ⟨some 0, [], [2, 3, 6, 7, 8, 28, 29, 30, 31, 32, 33, 34, 35, 36, 37, 38, 39]⟩) (ds := []) (scan (good true _ _) chkStock_L6_ok ss.length hl (fun i hi => step i hi (by simpa using h i (List.mem_range.2 hi))) (chkStock_L6_2 ss.length (ss.map slotD) ip pr _ _ _ ss.length (by omega)) ⟨rfl, by simp [axOf]⟩ (by kernel_rfl)) (by kernel_rfl))
  · have hi : i < ss.length := by have := (List.getElem?_eq_some_iff.1 h2).1; simpa using this
    have hv : v = i := by rw [List.getElem?_range hi] at h2; simpa using h2.symm
    subst hv
    have hne : slotAt ss v ≠ 0 := by simpa using h3
    have e : (List.range ss.length).find? (fun i => slotAt ss i != 0) = some v := by
      rw [List.find?_eq_some_iff_getElem]
      exact ⟨by simpa using hne, v, by simpa using hi, by simp, fun j hj => by have := h4 j j hj (List.getElem?_range (by omega)); simpa using this⟩
    rw [e]
    exact chkStock_2 _ _ ip pr _ _ _ (v : Int) (slotAt ss v) h0' hr hc hf (chkStock_L6_in ss.length (ss.map slotD) ip pr _ _ _ (x := ⟨none, [.val 2, .val 3], [6, 7, 8, 28, 29, 30, 31, 32, 33, 34, 35, 36, 37, 38, 39]⟩) (ds := [.one (.int .i64 (v : Int)), .one (.int .i64 (slotAt ss v))]) (scan (good true _ _) chkStock_L6_ok v (by omega) (fun j hj => step j (by omega) (by have := h4 j j hj (List.getElem?_range (by omega)); simpa using this)) (chkStock_L6_0 ss.length (ss.map slotD) ip pr _ _ _ v _ _ (slotAt ss v) (by omega) (by omega) (readsS (List.getElem?_eq_getElem hi)) hne (slot v _ (List.getElem?_eq_getElem hi))) ⟨rfl, by simp [axOf]⟩ (by kernel_rfl)) (by kernel_rfl))
end Go.Proofs.YtegjgcogikjemaaDoor
/- stocks: the copy -/
namespace Go.Proofs.YtegjgcogikjemaaDoor
open Go.Ev Go.RowKit
set_option maxRecDepth 100000
noncomputable section
def copyStock_sp : List LSpec := [⟨33, 3, [⟨some 0, [.cgrow 3 0 1], [4, 10, 11, 12, 13, 14, 15, 16, 17, 18, 19, 20, 21, 22, 23, 24, 25, 26, 27, 28]⟩, ⟨some 0, [.cnil 3 0], [4, 10, 11, 12, 13, 14, 15, 16, 17, 18, 19, 20, 21, 22, 23, 24, 25, 26, 27, 28]⟩]⟩]
/-- The state in which the loop is entered. -/
def copyStock_L3_E (k : Nat) (c : List D) (ip pr : Int)  : List AV × AHeap := ([.agg [.dsl 0, .pure (.int .i64 ip), .pure (.int .i64 pr)], .ptr 1 0, .ptr 2 0, .ptr 3 0, .pure (.int .i64 (0 : Int)), .ptr 1 1, .pure (.int .i64 ip), .ptr 1 2, .pure (.int .i64 pr), .pure (.agg #[.slice none 0 0, .int .i64 ip, .int .i64 pr]), .pure (.tuple #[]), .pure (.tuple #[]), .pure (.tuple #[]), .pure (.tuple #[]), .pure (.tuple #[]), .pure (.tuple #[]), .pure (.tuple #[]), .pure (.tuple #[]), .pure (.tuple #[]), .pure (.tuple #[]), .pure (.tuple #[]), .pure (.tuple #[]), .pure (.tuple #[]), .pure (.tuple #[]), .pure (.tuple #[]), .pure (.tuple #[]), .pure (.tuple #[]), .pure (.tuple #[]), .pure (.tuple #[]), .pure (.tuple #[])], [(3, { cells := [.pure (.slice none 0 0), .pure (.int .i64 ip), .pure (.int .i64 pr)], opn := none, kind := .cells }), (2, { cells := [.pure (.slice none 0 0), .pure (.int .i64 (0 : Int)), .pure (.int .i64 (0 : Int))], opn := none, kind := .cells }), (1, { cells := [.dsl 0, .pure (.int .i64 ip), .pure (.int .i64 pr)], opn := none, kind := .cells }), (0, { cells := [], opn := none, kind := .deep k c })])
/-- At the beginning of a round. -/
def copyStock_L3_H (k : Nat) (c : List D) (ip pr : Int)  (s4 : Int) (s3_0n : Nat) (s3_0c : List D) : List AV × AHeap := stateOf (ghost [.val 4, .cgrow 3 0 1] [10, 11, 12, 13, 14, 15, 16, 17, 18, 19, 20, 21, 22, 23, 24, 25, 26, 27, 28] (copyStock_L3_E k c ip pr).1 (copyStock_L3_E k c ip pr).2 4 [.one (.int .i64 s4), .list s3_0n s3_0c])
def copyStock_L3_HN1 (k : Nat) (c : List D) (ip pr : Int)  (s4 : Int) : List AV × AHeap := stateOf (ghost [.val 4, .cnil 3 0] [10, 11, 12, 13, 14, 15, 16, 17, 18, 19, 20, 21, 22, 23, 24, 25, 26, 27, 28] (copyStock_L3_E k c ip pr).1 (copyStock_L3_E k c ip pr).2 4 [.one (.int .i64 s4), .one (.tuple #[])])
def copyStock_L3_A : LoopAt := ⟨33, loopAt Tryd.prog 33 0, 4, 25, 3, noFrame⟩
theorem copyStock_L3_ok : (copyStock_L3_A).OK := ⟨by show 4 ≤ 25; decide, by show 3 ≤ 4; decide, by kernel_rfl, rfl⟩
theorem copyStock_L3_0 (k : Nat) (c : List D) (ip pr : Int)  (s4 : Int) (s3_0n : Nat) (s3_0c : List D) (k0 : Nat) (c1 : List D) (hh0 : s4 < (k : Int)) (hh1 : (0 : Int) ≤ s4 ∧ s4.toNat < k) (hh2 : readsAs c (s4.toNat * 1) 1 false (.list k0 c1)) (hh3 : k0 * 120 ≤ 140737488355328 ∧ k0 ≤ 4611686018427387904) (hh4 : c1.length = k0 * 14) (hh5 : (∀ (u : D), u ∈ [.list k0 c1] → cellD u) ∧ s3_0n * 1 ≤ s3_0c.length ∧ (s3_0n + (0 + 1)) * 24 ≤ 140737488355328 ∧ s3_0n + (0 + 1) ≤ 4611686018427387904) : Step (ctx [33] copyStock_sp) Tabs copyStock_L3_A (copyStock_L3_H k c ip pr s4 s3_0n s3_0c) (stateOf (ghost [.val 4, .cgrow 3 0 1] [10, 11, 12, 13, 14, 15, 16, 17, 18, 19, 20, 21, 22, 23, 24, 25, 26, 27, 28] (copyStock_L3_E k c ip pr).1 (copyStock_L3_E k c ip pr).2 4 [.one (.int .i64 (IntKind.i64.wrap (s4 + (1 : Int)))), .list (s3_0n + (0 + 1)) (List.append (List.take (s3_0n * 1) s3_0c) [.list k0 c1])])) .normal :=
  step_of (I := [33]) (sp := copyStock_sp) (fuel := 3000) (ora := [true]) (vals := [.list k0 c1]) (ns := nsOf (ghost [.val 4, .cgrow 3 0 1] [10, 11, 12, 13, 14, 15, 16, 17, 18, 19, 20, 21, 22, 23, 24, 25, 26, 27, 28] (copyStock_L3_E k c ip pr).1 (copyStock_L3_E k c ip pr).2 4 [.one (.int .i64 (IntKind.i64.wrap (s4 + (1 : Int)))), .list (s3_0n + (0 + 1)) (List.append (List.take (s3_0n * 1) s3_0c) [.list k0 c1])])) (S2' := (stateOf (ghost [.val 4, .cgrow 3 0 1] [10, 11, 12, 13, 14, 15, 16, 17, 18, 19, 20, 21, 22, 23, 24, 25, 26, 27, 28] (copyStock_L3_E k c ip pr).1 (copyStock_L3_E k c ip pr).2 4 [.one (.int .i64 (IntKind.i64.wrap (s4 + (1 : Int)))), .list (s3_0n + (0 + 1)) (List.append (List.take (s3_0n * 1) s3_0c) [.list k0 c1])])))
    (conds := [(decide (s4 < (k : Int)), true), (fact ((0 : Int) ≤ s4 ∧ s4.toNat < k), true), (fact (readsAs c (s4.toNat * 1) 1 false (.list k0 c1)), true), (fact (k0 * 120 ≤ 140737488355328 ∧ k0 ≤ 4611686018427387904), true), (fact (c1.length = k0 * 14), true), (fact ((∀ (u : D), u ∈ [.list k0 c1] → cellD u) ∧ s3_0n * 1 ≤ s3_0c.length ∧ (s3_0n + (0 + 1)) * 24 ≤ 140737488355328 ∧ s3_0n + (0 + 1) ≤ 4611686018427387904), true)]) (calls := [])
    _ rfl (by kernel_rfl) (by kernel_rfl) (by kernel_rfl) (by kernel_rfl) (by kernel_rfl) (by kernel_rfl) rfl ⟨decide_eq_true hh0, fact_mk hh1, fact_mk hh2, fact_mk hh3, fact_mk hh4, fact_mk hh5, trivial⟩ trivial
theorem copyStock_L3_1 (k : Nat) (c : List D) (ip pr : Int)  (s4 : Int) (s3_0n : Nat) (s3_0c : List D)  (hh0 : ¬ (s4 < (k : Int))) : Step (ctx [33] copyStock_sp) Tabs copyStock_L3_A (copyStock_L3_H k c ip pr s4 s3_0n s3_0c) (stateOf (ghost [.cgrow 3 0 1] [4, 10, 11, 12, 13, 14, 15, 16, 17, 18, 19, 20, 21, 22, 23, 24, 25, 26, 27, 28] (copyStock_L3_E k c ip pr).1 (copyStock_L3_E k c ip pr).2 4 [.list s3_0n s3_0c])) (axOf (some 0)) :=
  step_of (I := [33]) (sp := copyStock_sp) (fuel := 3000) (ora := [false]) (vals := []) (ns := nsOf (ghost [.cgrow 3 0 1] [4, 10, 11, 12, 13, 14, 15, 16, 17, 18, 19, 20, 21, 22, 23, 24, 25, 26, 27, 28] (copyStock_L3_E k c ip pr).1 (copyStock_L3_E k c ip pr).2 4 [.list s3_0n s3_0c])) (S2' := (stateOf (ghost [.cgrow 3 0 1] [4, 10, 11, 12, 13, 14, 15, 16, 17, 18, 19, 20, 21, 22, 23, 24, 25, 26, 27, 28] (copyStock_L3_E k c ip pr).1 (copyStock_L3_E k c ip pr).2 4 [.list s3_0n s3_0c])))
    (conds := [(decide (s4 < (k : Int)), false)]) (calls := [])
    _ rfl (by kernel_rfl) (by kernel_rfl) (by kernel_rfl) (by kernel_rfl) (by kernel_rfl) (by kernel_rfl) rfl ⟨decide_eq_false hh0, trivial⟩ trivial
theorem copyStock_L3_2 (k : Nat) (c : List D) (ip pr : Int)  (s4 : Int) (k0 : Nat) (c1 : List D) (hh0 : s4 < (k : Int)) (hh1 : (0 : Int) ≤ s4 ∧ s4.toNat < k) (hh2 : readsAs c (s4.toNat * 1) 1 false (.list k0 c1)) (hh3 : k0 * 120 ≤ 140737488355328 ∧ k0 ≤ 4611686018427387904) (hh4 : c1.length = k0 * 14) : Step (ctx [33] copyStock_sp) Tabs copyStock_L3_A (copyStock_L3_HN1 k c ip pr s4) (stateOf (ghost [.val 4, .cgrow 3 0 1] [10, 11, 12, 13, 14, 15, 16, 17, 18, 19, 20, 21, 22, 23, 24, 25, 26, 27, 28] (copyStock_L3_E k c ip pr).1 (copyStock_L3_E k c ip pr).2 4 [.one (.int .i64 (IntKind.i64.wrap (s4 + (1 : Int)))), .list 1 [.list k0 c1]])) .normal :=
  step_of (I := [33]) (sp := copyStock_sp) (fuel := 3000) (ora := [true]) (vals := [.list k0 c1]) (ns := nsOf (ghost [.val 4, .cgrow 3 0 1] [10, 11, 12, 13, 14, 15, 16, 17, 18, 19, 20, 21, 22, 23, 24, 25, 26, 27, 28] (copyStock_L3_E k c ip pr).1 (copyStock_L3_E k c ip pr).2 4 [.one (.int .i64 (IntKind.i64.wrap (s4 + (1 : Int)))), .list 1 [.list k0 c1]])) (S2' := (stateOf (ghost [.val 4, .cgrow 3 0 1] [10, 11, 12, 13, 14, 15, 16, 17, 18, 19, 20, 21, 22, 23, 24, 25, 26, 27, 28] (copyStock_L3_E k c ip pr).1 (copyStock_L3_E k c ip pr).2 4 [.one (.int .i64 (IntKind.i64.wrap (s4 + (1 : Int)))), .list 1 [.list k0 c1]])))
    (conds := [(decide (s4 < (k : Int)), true), (fact ((0 : Int) ≤ s4 ∧ s4.toNat < k), true), (fact (readsAs c (s4.toNat * 1) 1 false (.list k0 c1)), true), (fact (k0 * 120 ≤ 140737488355328 ∧ k0 ≤ 4611686018427387904), true), (fact (c1.length = k0 * 14), true), (fact (0 < 0 + 1 ∧ (0 + 1) * 24 ≤ 140737488355328 ∧ 0 + 1 ≤ 4611686018427387904), true)]) (calls := [])
    _ rfl (by kernel_rfl) (by kernel_rfl) (by kernel_rfl) (by kernel_rfl) (by kernel_rfl) (by kernel_rfl) rfl ⟨decide_eq_true hh0, fact_mk hh1, fact_mk hh2, fact_mk hh3, fact_mk hh4, fact_mk (by decide), trivial⟩ trivial
theorem copyStock_L3_3 (k : Nat) (c : List D) (ip pr : Int)  (s4 : Int)  (hh0 : ¬ (s4 < (k : Int))) : Step (ctx [33] copyStock_sp) Tabs copyStock_L3_A (copyStock_L3_HN1 k c ip pr s4) (stateOf (ghost [.cnil 3 0] [4, 10, 11, 12, 13, 14, 15, 16, 17, 18, 19, 20, 21, 22, 23, 24, 25, 26, 27, 28] (copyStock_L3_E k c ip pr).1 (copyStock_L3_E k c ip pr).2 4 [.one (.tuple #[])])) (axOf (some 0)) :=
  step_of (I := [33]) (sp := copyStock_sp) (fuel := 3000) (ora := [false]) (vals := []) (ns := nsOf (ghost [.cnil 3 0] [4, 10, 11, 12, 13, 14, 15, 16, 17, 18, 19, 20, 21, 22, 23, 24, 25, 26, 27, 28] (copyStock_L3_E k c ip pr).1 (copyStock_L3_E k c ip pr).2 4 [.one (.tuple #[])])) (S2' := (stateOf (ghost [.cnil 3 0] [4, 10, 11, 12, 13, 14, 15, 16, 17, 18, 19, 20, 21, 22, 23, 24, 25, 26, 27, 28] (copyStock_L3_E k c ip pr).1 (copyStock_L3_E k c ip pr).2 4 [.one (.tuple #[])])))
    (conds := [(decide (s4 < (k : Int)), false)]) (calls := [])
    _ rfl (by kernel_rfl) (by kernel_rfl) (by kernel_rfl) (by kernel_rfl) (by kernel_rfl) (by kernel_rfl) rfl ⟨decide_eq_false hh0, trivial⟩ trivial
theorem copyStock_L3_in (k : Nat) (c : List D) (ip pr : Int)  {x : LExit} {ds : List D} (hr : Runs (ctx [33] copyStock_sp) Tabs copyStock_L3_A (copyStock_L3_HN1 k c ip pr ((0 : Int))) (stateOf (ghost x.live x.junk (copyStock_L3_E k c ip pr).1 (copyStock_L3_E k c ip pr).2 4 ds)) (axOf x.ex))
    (hn : (nxtOf (ghost x.live x.junk (copyStock_L3_E k c ip pr).1 (copyStock_L3_E k c ip pr).2 4 ds), lowGS (ghost x.live x.junk (copyStock_L3_E k c ip pr).1 (copyStock_L3_E k c ip pr).2 4 ds)) = (25, 3)) : LoopC (loopAt Tryd.prog 33 0) (copyStock_L3_E k c ip pr) 4 noFrame x ds :=
  loopin_as rfl (loop_in (l := copyStock_L3_A) (E := (copyStock_L3_E k c ip pr)) (S := (copyStock_L3_HN1 k c ip pr ((0 : Int)))) (ns := nsOf (ghost [.val 4, .cnil 3 0] [10, 11, 12, 13, 14, 15, 16, 17, 18, 19, 20, 21, 22, 23, 24, 25, 26, 27, 28] (copyStock_L3_E k c ip pr).1 (copyStock_L3_E k c ip pr).2 4 [.one (.int .i64 ((0 : Int))), .one (.tuple #[])])) copyStock_L3_ok hr hn (by kernel_rfl) (by kernel_rfl) (by kernel_rfl) (by kernel_rfl))
theorem copyStock_0 (k : Nat) (c : List D) (ip pr : Int) (k0 : Nat) (c1 : List D) (hh0 : (0 + k0) * 1 ≤ c1.length ∧ 0 < 1) (hk0 : LoopC (loopAt Tryd.prog 33 0) (copyStock_L3_E k c ip pr) 4 noFrame ⟨some 0, [.cgrow 3 0 1], [4, 10, 11, 12, 13, 14, 15, 16, 17, 18, 19, 20, 21, 22, 23, 24, 25, 26, 27, 28]⟩ [.list k0 c1]) : Con 33 [.agg [.list k c, .one (.int .i64 ip), .one (.int .i64 pr)]] (.agg [.list k0 c1, .one (.int .i64 ip), .one (.int .i64 pr)]) :=
  con_of (op := true) (I := [33]) (sp := copyStock_sp) (n := 3000) (ora := []) (res := [.tup [.one (.int .i64 (Int.ofNat 0)), .list k0 c1]])
    (conds := [(fact ((0 + k0) * 1 ≤ c1.length ∧ 0 < 1), true)]) (cls := [loopAsk (loopAt Tryd.prog 33 0) (copyStock_L3_E k c ip pr) 4 noFrame ⟨some 0, [.cgrow 3 0 1], [4, 10, 11, 12, 13, 14, 15, 16, 17, 18, 19, 20, 21, 22, 23, 24, 25, 26, 27, 28]⟩ [.list k0 c1] [] [.tup [.one (.int .i64 (Int.ofNat 0)), .list k0 c1]] []])
    (by kernel_rfl) ⟨fact_mk hh0, trivial⟩ ⟨hk0 _ _ _ _, trivial⟩
theorem copyStock_1 (k : Nat) (c : List D) (ip pr : Int)  (hk0 : LoopC (loopAt Tryd.prog 33 0) (copyStock_L3_E k c ip pr) 4 noFrame ⟨some 0, [.cnil 3 0], [4, 10, 11, 12, 13, 14, 15, 16, 17, 18, 19, 20, 21, 22, 23, 24, 25, 26, 27, 28]⟩ [.one (.tuple #[])]) : Con 33 [.agg [.list k c, .one (.int .i64 ip), .one (.int .i64 pr)]] (.agg [.list 0 [], .one (.int .i64 ip), .one (.int .i64 pr)]) :=
  con_of (op := true) (I := [33]) (sp := copyStock_sp) (n := 3000) (ora := []) (res := [.tup [.one (.int .i64 (Int.ofNat 1)), .one (.tuple #[])]])
    (conds := []) (cls := [loopAsk (loopAt Tryd.prog 33 0) (copyStock_L3_E k c ip pr) 4 noFrame ⟨some 0, [.cnil 3 0], [4, 10, 11, 12, 13, 14, 15, 16, 17, 18, 19, 20, 21, 22, 23, 24, 25, 26, 27, 28]⟩ [.one (.tuple #[])] [] [.tup [.one (.int .i64 (Int.ofNat 1)), .one (.tuple #[])]] []])
    (by kernel_rfl) trivial ⟨hk0 _ _ _ _, trivial⟩
end
end Go.Proofs.YtegjgcogikjemaaDoor
/- A stock's copy. -/
namespace Go.Proofs.YtegjgcogikjemaaDoor
open Go.Ev Go.RowKit
set_option maxRecDepth 100000
/-- A loop that counts, by states that each number has. -/
theorem scanN {C : Ctx} (hg : Good' C Tabs) {l : LoopAt} (hl : l.OK) {H : Nat → List AV × AHeap} {T : List AV × AHeap} {x : AX} (start stop : Nat) (hle : start ≤ stop)
    (h1 : ∀ i : Nat, start ≤ i → i < stop → Step C Tabs l (H i) (H (i + 1)) .normal) (h2 : Step C Tabs l (H stop) T x) (hx : isVal x = false ∧ x ≠ .normal) (hT : AV.okL l.nx T.1 = true) : Runs C Tabs l (H start) T x := by
  have key : ∀ m i : Nat, start ≤ i → i + m = stop → Runs C Tabs l (H i) T x := by
    intro m
    induction m with
    | zero => intro i _ hi; have : i = stop := by omega
              subst this; exact Step.runs hg hl h2 hx hT
    | succ m ih => intro i hs hi; exact Step.more hg hl (h1 i hs (by omega)) (ih (i + 1) (by omega) (by omega))
  exact key (stop - start) start (Nat.le_refl _) (by omega)
theorem copyStock_all (ss : List (List Part)) (ip pr : Int) (hl : ss.length ≤ 1000000) (hs : ∀ ps ∈ ss, ps.length ≤ 1000000) :
    Con 33 [.agg [.list ss.length (ss.map slotD), .one (.int .i64 ip), .one (.int .i64 pr)]] (.agg [.list ss.length (ss.map slotD), .one (.int .i64 ip), .one (.int .i64 pr)]) := by
  rcases Nat.eq_zero_or_pos ss.length with h0 | h0
  · have e : ss = [] := List.length_eq_zero_iff.1 h0
    subst e
    exact copyStock_1 0 [] ip pr (copyStock_L3_in 0 [] ip pr (x := ⟨some 0, [.cnil 3 0], [4, 10, 11, 12, 13, 14, 15, 16, 17, 18, 19, 20, 21, 22, 23, 24, 25, 26, 27, 28]⟩) (ds := [.one (.tuple #[])])
      (Step.runs (good true _ _) copyStock_L3_ok (copyStock_L3_3 0 [] ip pr 0 (by omega)) ⟨rfl, by simp [axOf]⟩ (by kernel_rfl)) (by kernel_rfl))
  have sm : ∀ i : Nat, (hi : i < ss.length) → (ss[i]).length * 120 ≤ 140737488355328 ∧ (ss[i]).length ≤ 4611686018427387904 := fun i hi => by
    have := hs _ (List.getElem_mem hi); omega
  let H : Nat → List AV × AHeap := fun i => copyStock_L3_H ss.length (ss.map slotD) ip pr (i : Int) i ((ss.take i).map slotD)
  have first : Step (ctx [33] copyStock_sp) Tabs copyStock_L3_A (copyStock_L3_HN1 ss.length (ss.map slotD) ip pr 0) (H 1) .normal := by
    have := copyStock_L3_2 ss.length (ss.map slotD) ip pr 0 _ _ (by omega) (by constructor; omega; simpa using h0) (readsS (i := 0) (List.getElem?_eq_getElem h0)) (sm 0 h0) (slotC_len _)
    have e1 : (ss.take 1).map slotD = [.list ss[0].length (slotC ss[0])] := by
      rw [List.take_one, List.head?_eq_getElem?, List.getElem?_eq_getElem h0]; rfl
    show Step _ _ _ _ (copyStock_L3_H ss.length (ss.map slotD) ip pr ((1 : Nat) : Int) 1 ((ss.take 1).map slotD)) _
    rw [e1]
    exact this
  have step : ∀ i : Nat, 1 ≤ i → i < ss.length → Step (ctx [33] copyStock_sp) Tabs copyStock_L3_A (H i) (H (i + 1)) .normal := fun i _ hi => by
    have := copyStock_L3_0 ss.length (ss.map slotD) ip pr i i ((ss.take i).map slotD) _ _ (by omega) (by omega) (readsS (List.getElem?_eq_getElem hi)) (sm i hi) (slotC_len _) ⟨fun u hu => by rw [List.mem_singleton] at hu; subst hu; trivial, by simp; omega, by omega, by omega⟩
    rw [wrap_succ hi (by omega)] at this
    have e1 : List.append (List.take (i * 1) ((ss.take i).map slotD)) [.list (ss[i]).length (slotC ss[i])] = (ss.take (i + 1)).map slotD := by
      rw [List.take_of_length_le (by simp; omega), List.take_succ_eq_append_getElem hi, List.map_append]; rfl
    rw [e1] at this
    exact this
  have hrun := Step.more (good true _ _) copyStock_L3_ok first (scanN (good true _ _) copyStock_L3_ok (H := H) 1 ss.length h0 step (copyStock_L3_1 ss.length (ss.map slotD) ip pr ss.length ss.length ((ss.take ss.length).map slotD) (by omega)) ⟨rfl, by simp [axOf]⟩ (by kernel_rfl))
  rw [List.take_length] at hrun
  exact copyStock_0 ss.length (ss.map slotD) ip pr ss.length (ss.map slotD) ⟨by simp, by omega⟩ (copyStock_L3_in ss.length (ss.map slotD) ip pr (x := ⟨some 0, [.cgrow 3 0 1], [4, 10, 11, 12, 13, 14, 15, 16, 17, 18, 19, 20, 21, 22, 23, 24, 25, 26, 27, 28]⟩) (ds := [.list ss.length (ss.map slotD)]) hrun (by kernel_rfl))
end Go.Proofs.YtegjgcogikjemaaDoor
/- Functions of stage 2 whose contracts are known: their models. -/
namespace Go.Proofs.YtegjgcogikjemaaDoor
open Go.Ev Go.RowKit
set_option maxRecDepth 100000
noncomputable section
theorem Part.cells_inj {p q : Part} (h : p.cells = q.cells) : p = q := by
  cases p; cases q
  simp only [Part.cells, List.cons.injEq, D.one.injEq, Value.string.injEq, Value.int.injEq, true_and, and_true] at h
  simp only [Part.mk.injEq]
  exact h
theorem slotC_inj : ∀ {ps qs : List Part}, slotC ps = slotC qs → ps = qs
  | [], [], _ => rfl
  | [], q :: qs, h => by simp [slotC, Part.cells] at h
  | p :: ps, [], h => by simp [slotC, Part.cells] at h
  | p :: ps, q :: qs, h => by
    simp only [slotC] at h
    obtain ⟨h1, h2⟩ := List.append_inj h rfl
    rw [Part.cells_inj h1, slotC_inj h2]
theorem slotD_inj {ps qs : List Part} (h : slotD ps = slotD qs) : ps = qs := by
  simp only [slotD, D.list.injEq] at h
  exact slotC_inj h.2
theorem map_slotD_inj : ∀ {a b : List (List Part)}, a.map slotD = b.map slotD → a = b
  | [], [], _ => rfl
  | [], _ :: _, h => by cases h
  | _ :: _, [], h => by cases h
  | x :: a, y :: b, h => by
    simp only [List.map_cons, List.cons.injEq] at h
    rw [slotD_inj h.1, map_slotD_inj h.2]
structure Stk where
  ss : List (List Part)
  ip : Int
  pr : Int
def Stk.d (k : Stk) : D := .agg [.list k.ss.length (k.ss.map slotD), .one (.int .i64 k.ip), .one (.int .i64 k.pr)]
theorem Stk.inj {a b : Stk} (h : a.d = b.d) : a = b := by
  cases a; cases b
  simp only [Stk.d, D.agg.injEq, List.cons.injEq, D.list.injEq, D.one.injEq, Value.int.injEq, true_and, and_true] at h
  rw [map_slotD_inj h.1.2, h.2.1, h.2.2]
def Stk.small (k : Stk) : Prop := k.ss.length ≤ 1000000 ∧ ∀ ps ∈ k.ss, ps.length ≤ 1000000
def m_22 (ds : List D) : Option D := viaD (fun _ => True) (fun (x : Int × Int × Int) => [ID x.1, ID x.2.1, ID x.2.2]) (fun x => .one (.bool (!bad x.2.1 x.2.2 x.1))) ds
theorem m_22_ok {ds : List D} {r : D} (h : m_22 ds = some r) : Con 22 ds r := by
  obtain ⟨a, -, rfl, rfl⟩ := viaD_elim h
  exact within_all a.1 a.2.1 a.2.2
theorem m_22_eq (n lo hi : Int) : m_22 [.one (.int .i64 n), .one (.int .i64 lo), .one (.int .i64 hi)] = some (.one (.bool (!bad lo hi n))) :=
  viaD_eq (a := (n, lo, hi)) (fun a b h => by
    simp only [ID, List.cons.injEq, D.one.injEq, Value.int.injEq, true_and, and_true] at h
    exact Prod.ext h.1 (Prod.ext h.2.1 h.2.2)) trivial
def m_153 (ds : List D) : Option D := viaD (fun _ => True) (fun (s : ByteArray) => [.one (.string s)]) (fun s => .one (.bool (nameV s))) ds
theorem m_153_ok {ds : List D} {r : D} (h : m_153 ds = some r) : Con 153 ds r := by
  obtain ⟨a, -, rfl, rfl⟩ := viaD_elim h
  exact isNameR_all a
theorem m_153_eq (s : ByteArray) : m_153 [.one (.string s)] = some (.one (.bool (nameV s))) :=
  viaD_eq (a := s) (fun a b h => by simpa using h) trivial
def m_154 (ds : List D) : Option D := viaD (fun _ => True) (fun (q : Part) => [.agg q.cells]) (fun q => .one (.int .i64 q.numE)) ds
theorem m_154_ok {ds : List D} {r : D} (h : m_154 ds = some r) : Con 154 ds r := by
  obtain ⟨a, -, rfl, rfl⟩ := viaD_elim h
  exact numErr_all a
theorem m_154_eq (q : Part) : m_154 [.agg q.cells] = some (.one (.int .i64 q.numE)) :=
  viaD_eq (a := q) (fun a b h => Part.cells_inj (by simpa using h)) trivial
def m_32 (ds : List D) : Option D := viaD Stk.small (fun k => [k.d]) (fun k => .tup [.one (.int .i64 (stockE k.ss k.ip k.pr).1), .one (.int .i64 (stockE k.ss k.ip k.pr).2)]) ds
theorem m_32_ok {ds : List D} {r : D} (h : m_32 ds = some r) : Con 32 ds r := by
  obtain ⟨a, hs, rfl, rfl⟩ := viaD_elim h
  exact chkStock_all a.ss a.ip a.pr (by have := hs.1; omega) (fun ps hp => by have := hs.2 ps hp; omega)
theorem m_32_eq (k : Stk) (h : k.small) : m_32 [k.d] = some (.tup [.one (.int .i64 (stockE k.ss k.ip k.pr).1), .one (.int .i64 (stockE k.ss k.ip k.pr).2)]) :=
  viaD_eq (a := k) (fun a b h => Stk.inj (by simpa using h)) h
def m_33 (ds : List D) : Option D := viaD Stk.small (fun k => [k.d]) (fun k => k.d) ds
theorem m_33_ok {ds : List D} {r : D} (h : m_33 ds = some r) : Con 33 ds r := by
  obtain ⟨a, hs, rfl, rfl⟩ := viaD_elim h
  exact copyStock_all a.ss a.ip a.pr hs.1 hs.2
theorem m_33_eq (k : Stk) (h : k.small) : m_33 [k.d] = some k.d :=
  viaD_eq (a := k) (fun a b h => Stk.inj (by simpa using h)) h
end
end Go.Proofs.YtegjgcogikjemaaDoor
