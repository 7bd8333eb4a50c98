/- For any line, state and source, valid or not, the law SurgeSteps of the program answers true, and its arguments read as they did. CONDITIONS: none. -/
import Derived.Test.YtfdehaafbkhclaaTD
import Derived.Test.YtfdehaafbkhclaaTA
set_option linter.unusedVariables false
set_option linter.unusedSimpArgs false
set_option linter.unusedSectionVars false
set_option linter.unnecessarySimpa false
/- Lines and states: a step. -/
namespace Go.Proofs.Ytfdehaafbkhclaa
open Go.Ev Go.RowKit
set_option maxRecDepth 100000
/-- A valid state of a valid line. -/
structure Ok (y a b : List Int) : Prop where
  pos : 0 < y.length
  le : y.length ≤ 10
  la : a.length = y.length
  lb : b.length = y.length
  ry : ∀ i, i < y.length → 1 ≤ at' y i ∧ at' y i ≤ 20
  ra : ∀ i, i < y.length → -1000000 ≤ at' a i ∧ at' a i ≤ 1000000
  rb : ∀ i, i < y.length → -1000000 ≤ at' b i ∧ at' b i ≤ 1000000
theorem ok_of {y a b : List Int} (h : stE y a b = 0) : Ok y a b := by
  obtain ⟨e1, e2⟩ := stE_len h
  obtain ⟨la, lb, wa, wb⟩ := ckE_len e2
  unfold lineE at e1
  by_cases h0 : y.length = 0
  · rw [if_pos h0] at e1; cases e1
  rw [if_neg h0] at e1
  by_cases h1 : 10 < y.length
  · rw [if_pos h1] at e1; cases e1
  rw [if_neg h1] at e1
  by_cases h2 : allIn 1 20 y = true
  · exact ⟨by omega, by omega, la, lb, fun i hi => allIn_at h2 hi, fun i hi => allIn_at wa (by omega), fun i hi => allIn_at wb (by omega)⟩
  · rw [if_neg h2] at e1; cases e1
def sm (y : List Int) (i : Nat) : Int := at' y i + at' y (i + 1)
def bkN (y a b : List Int) (i : Nat) : Int := at' a i * (at' y i - at' y (i + 1)) + 2 * at' b (i + 1) * at' y (i + 1)
def fwN (y a b : List Int) (i : Nat) : Int := at' b (i + 1) * (at' y (i + 1) - at' y i) + 2 * at' a i * at' y i
def vN (y a b : List Int) (i : Nat) : Int := 2 * (at' a i * at' y i + at' b (i + 1) * at' y (i + 1))
def refl (a : List Int) (er : Bool) (n : Nat) : Int := if er = true then -at' a (n - 1) else at' a (n - 1)
def fwF (y a b : List Int) (src : Int) (j : Nat) : Int := if j = 0 then src - at' b 0 else (fwN y a b (j - 1)).tdiv (sm y (j - 1))
def bkF (y a b : List Int) (er : Bool) (n j : Nat) : Int := if j < n - 1 then (bkN y a b j).tdiv (sm y j) else refl a er n
def vF (y a b : List Int) (src : Int) (er : Bool) (n j : Nat) : Int := if j = 0 then src else if j < n then (vN y a b (j - 1)).tdiv (sm y (j - 1)) else at' a (n - 1) + refl a er n
section
variable {y a b : List Int}
structure Bnd (y a b : List Int) (i : Nat) : Prop where
  s : 2 ≤ sm y i ∧ sm y i ≤ 40
  d : -20 ≤ at' y i - at' y (i + 1) ∧ at' y i - at' y (i + 1) ≤ 20
  p1 : -20000000 ≤ at' a i * (at' y i - at' y (i + 1)) ∧ at' a i * (at' y i - at' y (i + 1)) ≤ 20000000
  p2 : -40000000 ≤ 2 * at' b (i + 1) * at' y (i + 1) ∧ 2 * at' b (i + 1) * at' y (i + 1) ≤ 40000000
  p3 : -20000000 ≤ at' b (i + 1) * (at' y (i + 1) - at' y i) ∧ at' b (i + 1) * (at' y (i + 1) - at' y i) ≤ 20000000
  p4 : -40000000 ≤ 2 * at' a i * at' y i ∧ 2 * at' a i * at' y i ≤ 40000000
  p5 : -20000000 ≤ at' a i * at' y i ∧ at' a i * at' y i ≤ 20000000
  p6 : -20000000 ≤ at' b (i + 1) * at' y (i + 1) ∧ at' b (i + 1) * at' y (i + 1) ≤ 20000000
theorem bnd (h : Ok y a b) {i : Nat} (hi : i + 1 < y.length) : Bnd y a b i := by
  have y1 := h.ry i (by omega)
  have y2 := h.ry (i + 1) hi
  have a1 := h.ra i (by omega)
  have b2 := h.rb (i + 1) hi
  have m1 := mulB (x := at' a i) (y := at' y i - at' y (i + 1)) (A := 1000000) (B := 20) (by omega) (by omega) (by omega) (by omega)
  have m2 := mulB (x := 2 * at' b (i + 1)) (y := at' y (i + 1)) (A := 2000000) (B := 20) (by omega) (by omega) (by omega) (by omega)
  have m3 := mulB (x := at' b (i + 1)) (y := at' y (i + 1) - at' y i) (A := 1000000) (B := 20) (by omega) (by omega) (by omega) (by omega)
  have m4 := mulB (x := 2 * at' a i) (y := at' y i) (A := 2000000) (B := 20) (by omega) (by omega) (by omega) (by omega)
  have m5 := mulB (x := at' a i) (y := at' y i) (A := 1000000) (B := 20) (by omega) (by omega) (by omega) (by omega)
  have m6 := mulB (x := at' b (i + 1)) (y := at' y (i + 1)) (A := 1000000) (B := 20) (by omega) (by omega) (by omega) (by omega)
  unfold sm at *
  exact ⟨by unfold sm; omega, by omega, by omega, by omega, by omega, by omega, by omega, by omega⟩
theorem wr {x : Int} (h : -1000000000000 ≤ x ∧ x ≤ 1000000000000) : IntKind.i64.wrap x = x := wrapJ x (by omega) (by omega)
theorem wraps (h : Ok y a b) {i : Nat} (hi : i + 1 < y.length) :
    IntKind.i64.wrap (at' y i + at' y (i + 1)) = sm y i ∧
    IntKind.i64.wrap (IntKind.i64.wrap (at' a i * IntKind.i64.wrap (at' y i - at' y (i + 1))) + IntKind.i64.wrap (IntKind.i64.wrap (2 * at' b (i + 1)) * at' y (i + 1))) = bkN y a b i ∧
    IntKind.i64.wrap (IntKind.i64.wrap (at' b (i + 1) * IntKind.i64.wrap (at' y (i + 1) - at' y i)) + IntKind.i64.wrap (IntKind.i64.wrap (2 * at' a i) * at' y i)) = fwN y a b i ∧
    IntKind.i64.wrap (2 * IntKind.i64.wrap (IntKind.i64.wrap (at' a i * at' y i) + IntKind.i64.wrap (at' b (i + 1) * at' y (i + 1)))) = vN y a b i := by
  have q := bnd h hi
  have a1 := h.ra i (by omega)
  have b2 := h.rb (i + 1) hi
  obtain ⟨s, d, p1, p2, p3, p4, p5, p6⟩ := q
  refine ⟨wr (by unfold sm at s; omega), ?_, ?_, ?_⟩
  · rw [wr (x := at' y i - at' y (i + 1)) (by omega), wr (x := 2 * at' b (i + 1)) (by omega), wr (x := at' a i * (at' y i - at' y (i + 1))) (by omega), wr (x := 2 * at' b (i + 1) * at' y (i + 1)) (by omega), wr (by omega)]; rfl
  · rw [wr (x := at' y (i + 1) - at' y i) (by omega), wr (x := 2 * at' a i) (by omega), wr (x := at' b (i + 1) * (at' y (i + 1) - at' y i)) (by omega), wr (x := 2 * at' a i * at' y i) (by omega), wr (by omega)]; rfl
  · rw [wr (x := at' a i * at' y i) (by omega), wr (x := at' b (i + 1) * at' y (i + 1)) (by omega), wr (x := at' a i * at' y i + at' b (i + 1) * at' y (i + 1)) (by omega), wr (by omega)]; rfl
theorem nums (h : Ok y a b) {i : Nat} (hi : i + 1 < y.length) : (-100000000 ≤ bkN y a b i ∧ bkN y a b i ≤ 100000000) ∧ (-100000000 ≤ fwN y a b i ∧ fwN y a b i ≤ 100000000) ∧ (-100000000 ≤ vN y a b i ∧ vN y a b i ≤ 100000000) ∧ 2 ≤ sm y i ∧ sm y i ≤ 40 := by
  obtain ⟨s, d, p1, p2, p3, p4, p5, p6⟩ := bnd h hi
  unfold bkN fwN vN
  omega
theorem quo {N : Int} {y : List Int} {i : Nat} (hN : -100000000 ≤ N ∧ N ≤ 100000000) : IntKind.i64.wrap (N.tdiv (sm y i)) = N.tdiv (sm y i) := by
  have := tdiv_bound (s := sm y i) hN.1 hN.2
  exact wr (by omega)
theorem floor_eq {N s : Int} (h0 : 0 ≤ N) (h1 : N ≤ 1000000000) (hs : 0 < s) : m_57 [iD N, iD s] = some (iD (N.tdiv s)) := by
  have := tdiv_bound (s := s) (B := 1000000000) (show -1000000000 ≤ N by omega) h1
  rw [m_57_eq]
  unfold floor_M
  rw [guardP_pos (by omega), if_neg (by have := Int.tmod_nonneg s h0; omega), wr (by omega)]
theorem toZero_eq {N s : Int} (h0 : -1000000000 ≤ N) (h1 : N ≤ 1000000000) (hs : 0 < s) : m_41 [iD N, iD s] = some (iD (N.tdiv s)) := by
  rw [m_41_eq]
  unfold toZero_M
  by_cases q : N < 0
  · have b := tdiv_bound (N := -N) (s := s) (B := 1000000000) (by omega) (by omega)
    rw [if_pos q, wr (x := 0 - N) (by omega), Int.zero_sub, floor_eq (by omega) (by omega) hs, pullI, Int.zero_sub, wr (by omega), Int.neg_tdiv, Int.neg_neg]
  · rw [if_neg q, floor_eq (by omega) (by omega) hs, pullI]
/-- Tables that grow by a place. -/
theorem set_fw (n i : Nat) (src : Int) : ((tab n fun j => if j = 0 then src - at' b 0 else if j ≤ i then (fwN y a b (j - 1)).tdiv (sm y (j - 1)) else 0).set (i + 1) ((fwN y a b i).tdiv (sm y i))) = tab n fun j => if j = 0 then src - at' b 0 else if j ≤ i + 1 then (fwN y a b (j - 1)).tdiv (sm y (j - 1)) else 0 := by
  rw [tab_set]
  refine tab_congr fun j _ => ?_
  by_cases h : j = i + 1
  · subst h; simp
  · simp only [h, if_false]
    by_cases h0 : j = 0
    · simp [h0]
    · simp only [h0, if_false]
      by_cases h1 : j ≤ i
      · rw [if_pos h1, if_pos (by omega)]
      · rw [if_neg h1, if_neg (by omega)]
theorem set_bk (n i : Nat) : ((tab n fun j => if j < i then (bkN y a b j).tdiv (sm y j) else 0).set i ((bkN y a b i).tdiv (sm y i))) = tab n fun j => if j < i + 1 then (bkN y a b j).tdiv (sm y j) else 0 := by
  rw [tab_set]
  refine tab_congr fun j _ => ?_
  by_cases h : j = i
  · subst h; simp
  · simp only [h, if_false]
    by_cases h1 : j < i
    · rw [if_pos h1, if_pos (by omega)]
    · rw [if_neg h1, if_neg (by omega)]
theorem set_v (n i : Nat) (src : Int) : ((tab n fun j => if j = 0 then src else if j ≤ i then (vN y a b (j - 1)).tdiv (sm y (j - 1)) else 0).set (i + 1) ((vN y a b i).tdiv (sm y i))) = tab n fun j => if j = 0 then src else if j ≤ i + 1 then (vN y a b (j - 1)).tdiv (sm y (j - 1)) else 0 := by
  rw [tab_set]
  refine tab_congr fun j _ => ?_
  by_cases h : j = i + 1
  · subst h; simp
  · simp only [h, if_false]
    by_cases h0 : j = 0
    · simp [h0]
    · simp only [h0, if_false]
      by_cases h1 : j ≤ i
      · rw [if_pos h1, if_pos (by omega)]
      · rw [if_neg h1, if_neg (by omega)]
theorem fw_end (n : Nat) (hn : 0 < n) (src : Int) : (tab n fun j => if j = 0 then src - at' b 0 else if j ≤ n - 1 then (fwN y a b (j - 1)).tdiv (sm y (j - 1)) else 0) = tab n (fwF y a b src) := tab_congr fun j hj => by
  unfold fwF
  by_cases h0 : j = 0
  · rw [if_pos h0, if_pos h0]
  · rw [if_neg h0, if_neg h0, if_pos (by omega)]
theorem bk_end (n : Nat) (hn : 0 < n) (er : Bool) : (tab n fun j => if j < n - 1 then (bkN y a b j).tdiv (sm y j) else 0).set (n - 1) (refl a er n) = tab n (bkF y a b er n) := by
  rw [tab_set]
  refine tab_congr fun j hj => ?_
  unfold bkF
  by_cases h : j = n - 1
  · rw [if_pos h, if_neg (by omega)]
  · rw [if_neg h, if_pos (by omega), if_pos (by omega)]
abbrev fwT (n i : Nat) (y a b : List Int) (src : Int) : List Int := tab n fun j => if j = 0 then src - at' b 0 else if j ≤ i then (fwN y a b (j - 1)).tdiv (sm y (j - 1)) else 0
abbrev bkT (n i : Nat) (y a b : List Int) : List Int := tab n fun j => if j < i then (bkN y a b j).tdiv (sm y j) else 0
abbrev vvT (n i : Nat) (y a b : List Int) (src : Int) : List Int := tab n fun j => if j = 0 then src else if j ≤ i then (vN y a b (j - 1)).tdiv (sm y (j - 1)) else 0
abbrev gvT (i : Nat) (y a b : List Int) (src : Int) : List Int := tab i fun j => if j = 0 then src else (vN y a b (j - 1)).tdiv (sm y (j - 1))
theorem fw_fin (n : Nat) (hn : 0 < n) (src : Int) : fwT n (n - 1) y a b src = tab n (fwF y a b src) := fw_end n hn src
theorem after_go (h : Ok y a b) (er : Bool) (src x0 : Int) : runR (after_L7_S y.length (y.map iD) er a.length (a.map iD) b.length (b.map iD) src x0) (.next 0 [lD (gvT 1 y a b src), iD 0, .list y.length ((fwT y.length 0 y a b src).map iD), .list y.length ((bkT y.length 0 y a b).map iD)]) =
    some (.out 0 [lD (gvT y.length y a b src), .list y.length ((fwT y.length (y.length - 1) y a b src).map iD), .list y.length ((bkT y.length (y.length - 1) y a b).map iD)]) := by
  have hp := h.pos
  have hle := h.le
  have la := h.la
  have lb := h.lb
  have em : IntKind.i64.wrap ((y.length : Int) - 1) = ((y.length - 1 : Nat) : Int) := by rw [wr (by omega)]; omega
  have h1 : runR (after_L7_S y.length (y.map iD) er a.length (a.map iD) b.length (b.map iD) src x0) (.next 0 [lD (gvT 1 y a b src), iD 0, .list y.length ((fwT y.length 0 y a b src).map iD), .list y.length ((bkT y.length 0 y a b).map iD)]) = _ :=
    runR_scan (S := after_L7_S y.length (y.map iD) er a.length (a.map iD) b.length (b.map iD) src x0) (fun _ => 0) (fun i => [lD (gvT (i + 1) y a b src), iD (i : Int), .list y.length ((fwT y.length i y a b src).map iD), .list y.length ((bkT y.length i y a b).map iD)]) (Nat.zero_le (y.length - 1)) (fun i _ hi => by
    obtain ⟨w1, w2, w3, w4⟩ := wraps h (i := i) (by omega)
    obtain ⟨n1, n2, n3, n4, n5⟩ := nums h (i := i) (by omega)
    show after_L7_S0 y.length (y.map iD) er a.length (a.map iD) b.length (b.map iD) src x0 _ = _
    unfold after_L7_S0
    rw [pullD_some ((gvT (i + 1) y a b src).length, (gvT (i + 1) y a b src).map iD, (i : Int), y.length, (fwT y.length i y a b src).map iD, y.length, (bkT y.length i y a b).map iD) (by rfl) (by rfl)]
    dsimp only
    have e2 : IntKind.i64.wrap ((i : Int) + 1) = ((i + 1 : Nat) : Int) := natI (by omega)
    simp only [e2, em, Int.toNat_natCast]
    rw [if_pos (by omega), guardP_pos (by omega), readN (by omega), pullD_some (at' y i) (by rfl) (by rfl), guardP_pos (by omega), readN (by omega), pullD_some (at' y (i + 1)) (by rfl) (by rfl), guardP_pos (by omega), readN (by omega), pullD_some (at' a i) (by rfl) (by rfl), pullD_some (at' y i) (by rfl) (by rfl), pullD_some (at' y (i + 1)) (by rfl) (by rfl), guardP_pos (by omega), readN (by omega), pullD_some (at' b (i + 1)) (by rfl) (by rfl), pullD_some (at' y (i + 1)) (by rfl) (by rfl)]
    simp only [w1, w2, quo n1]
    rw [guardP_pos (by omega), guardP_pos (by omega), guardP_pos ⟨by simp only [List.length_map, tab_len]; omega, cellD_int _⟩, pullD_some (at' b (i + 1)) (by rfl) (by rfl), pullD_some (at' y (i + 1)) (by rfl) (by rfl), pullD_some (at' y i) (by rfl) (by rfl), pullD_some (at' a i) (by rfl) (by rfl), pullD_some (at' y i) (by rfl) (by rfl)]
    simp only [w3, quo n2]
    rw [guardP_pos (by omega), guardP_pos ⟨by simp only [List.length_map, tab_len]; omega, cellD_int _⟩, pullD_some (at' a i) (by rfl) (by rfl), pullD_some (at' y i) (by rfl) (by rfl), pullD_some (at' b (i + 1)) (by rfl) (by rfl), pullD_some (at' y (i + 1)) (by rfl) (by rfl)]
    simp only [w4, quo n3]
    rw [guardP_pos ⟨cellD_int _, by simp, by simp only [tab_len]; omega, by simp only [tab_len]; omega⟩, grow_list, set_list _ _ _ (by rw [tab_len]; omega), set_list _ _ _ (by rw [tab_len]; omega), set_fw, set_bk]
    have e5 : gvT (i + 1) y a b src ++ [(vN y a b i).tdiv (sm y i)] = gvT (i + 1 + 1) y a b src := by
      show tab (i + 1) _ ++ _ = tab (i + 1 + 1) _
      rw [tab_succ (i + 1)]
      simp
    rw [e5])
  have hm : y.length - 1 + 1 = y.length := by omega
  have h2 : runR (after_L7_S y.length (y.map iD) er a.length (a.map iD) b.length (b.map iD) src x0) (.next 0 [lD (gvT (y.length - 1 + 1) y a b src), iD ((y.length - 1 : Nat) : Int), .list y.length ((fwT y.length (y.length - 1) y a b src).map iD), .list y.length ((bkT y.length (y.length - 1) y a b).map iD)]) =
      some (.out 0 [lD (gvT y.length y a b src), .list y.length ((fwT y.length (y.length - 1) y a b src).map iD), .list y.length ((bkT y.length (y.length - 1) y a b).map iD)]) := runR_exit (by
    show after_L7_S0 y.length (y.map iD) er a.length (a.map iD) b.length (b.map iD) src x0 _ = _
    unfold after_L7_S0
    rw [hm, pullD_some ((gvT y.length y a b src).length, (gvT y.length y a b src).map iD, ((y.length - 1 : Nat) : Int), y.length, (fwT y.length (y.length - 1) y a b src).map iD, y.length, (bkT y.length (y.length - 1) y a b).map iD) (by rfl) (by rfl)]
    dsimp only
    rw [em, if_neg (by omega), Int.toNat_natCast])
  exact h1.trans h2
theorem reflected_eq (y : List Int) (er : Bool) (n : Nat) (h : -1000000 ≤ at' a (n - 1) ∧ at' a (n - 1) ≤ 1000000) : m_55 [lnD y er, iD (at' a (n - 1))] = some (iD (refl a er n)) := by
  rw [m_55_eq]
  unfold reflected_M refl
  cases er with
  | true => rw [if_pos rfl, if_pos rfl, Int.zero_sub, wr (by omega)]
  | false => rw [if_neg (by decide), if_neg (by decide)]
theorem refl_bound {er : Bool} {n : Nat} (h : -1000000 ≤ at' a (n - 1) ∧ at' a (n - 1) ≤ 1000000) : -1000000 ≤ refl a er n ∧ refl a er n ≤ 1000000 := by
  unfold refl
  split <;> omega
theorem after_eq (h : Ok y a b) (er : Bool) {src : Int} (hs : -1000000 ≤ src ∧ src ≤ 1000000) : m_37 [lnD y er, stD a b, iD src] = some (.tup [stD (tab y.length (fwF y a b src)) (tab y.length (bkF y a b er y.length)), lD (tab (y.length + 1) (vF y a b src er y.length))]) := by
  have hp := h.pos
  have hle := h.le
  have la := h.la
  have lb := h.lb
  have b0 := h.rb 0 hp
  have an := h.ra (y.length - 1) (by omega)
  have rb := refl_bound (a := a) (er := er) (n := y.length) an
  have em : IntKind.i64.wrap ((y.length : Int) - 1) = ((y.length - 1 : Nat) : Int) := by rw [wr (by omega)]; omega
  rw [m_37_eq]
  unfold after_M
  simp only [em, Int.toNat_natCast]
  rw [guardP_pos ⟨by omega, by omega, by omega, by omega⟩, guardP_pos ⟨by omega, by show 0 < _; omega⟩, show Int.toNat 0 * 1 = 0 * 1 from rfl, readN (by omega), pullD_some (at' b 0) (by rfl) (by rfl), zerosD, guardP_pos ⟨by omega, by show 0 < _; omega⟩, guardP_pos ⟨by simp only [List.length_map, tab_len]; show 0 + 0 * 1 + 1 ≤ _; omega, cellD_int _⟩, guardP_pos ⟨by omega, by omega⟩, wr (x := src - at' b 0) (by omega), consD _ _ hp, zeros_list, tab_zeros]
  have f0 : (tab y.length fun j => if j = 0 then src - at' b 0 else 0) = fwT y.length 0 y a b src := tab_congr fun j _ => by
    by_cases q : j = 0
    · rw [if_pos q, if_pos q]
    · rw [if_neg q, if_neg q, if_neg (by omega)]
  have g0 : (tab y.length fun _ => (0 : Int)) = bkT y.length 0 y a b := tab_congr fun j _ => by rw [if_neg (by omega)]
  rw [f0, g0]
  have hgo := after_go h er src (at' b 0)
  rw [show D.list 1 [iD src] = lD (gvT 1 y a b src) from rfl, bindL_some hgo, if_pos rfl, pullD_some ((gvT y.length y a b src).length, (gvT y.length y a b src).map iD, y.length, (fwT y.length (y.length - 1) y a b src).map iD, y.length, (bkT y.length (y.length - 1) y a b).map iD) (by rfl) (by rfl)]
  dsimp only
  rw [readN (by omega), pullD_some (at' a (y.length - 1)) (by rfl) (by rfl), guardP_pos ⟨by omega, by omega⟩, show [D.agg [D.list y.length (y.map iD), D.one (.bool er)], iD (at' a (y.length - 1))] = [lnD y er, iD (at' a (y.length - 1))] from rfl, reflected_eq y er y.length an, pullI, guardP_pos ⟨by simp only [List.length_map, tab_len]; omega, cellD_int _⟩, pullD_some (at' a (y.length - 1)) (by rfl) (by rfl), splice_list _ _ _ (by rw [tab_len]; omega), bk_end _ hp, readM0 _ (by omega), pullD_some (bkF y a b er y.length (y.length - 1)) (by rfl) (by rfl)]
  have e1 : bkF y a b er y.length (y.length - 1) = refl a er y.length := by unfold bkF; rw [if_neg (by omega)]
  rw [e1, wr (x := at' a (y.length - 1) + refl a er y.length) (by omega), guardP_pos ⟨cellD_int _, by simp, by simp only [tab_len]; omega, by simp only [tab_len]; omega⟩, guardP_pos (Nat.le_refl _), guardP_pos ⟨by simp only [List.length_append, List.length_take, List.length_map, tab_len, List.length_cons, List.length_nil]; omega, by omega⟩, grow_list, set_list _ _ _ (by rw [tab_len]; omega), bk_end _ hp, fw_fin _ hp]
  have e2 : gvT y.length y a b src ++ [at' a (y.length - 1) + refl a er y.length] = tab (y.length + 1) (vF y a b src er y.length) := by
    rw [tab_succ]
    have e3 : vF y a b src er y.length y.length = at' a (y.length - 1) + refl a er y.length := by unfold vF; rw [if_neg (by omega), if_neg (by omega)]
    rw [e3]
    congr 1
    refine tab_congr fun j hj => ?_
    unfold vF
    by_cases q : j = 0
    · rw [if_pos q, if_pos q]
    · rw [if_neg q, if_neg q, if_pos hj]
  rw [e2]
  simp only [stD, lD, tab_len]
theorem stepR_go (h : Ok y a b) (er : Bool) (src x1 : Int) (x0 : Bool) : runR (stepR_L9_S y.length (y.map iD) er a.length (a.map iD) b.length (b.map iD) src x0 x1) (.next 0 [iD 0, .list (y.length + 1) ((vvT (y.length + 1) 0 y a b src).map iD), .list y.length ((fwT y.length 0 y a b src).map iD), .list y.length ((bkT y.length 0 y a b).map iD)]) =
    some (.out 0 [.list (y.length + 1) ((vvT (y.length + 1) (y.length - 1) y a b src).map iD), .list y.length ((fwT y.length (y.length - 1) y a b src).map iD), .list y.length ((bkT y.length (y.length - 1) y a b).map iD)]) := by
  have hp := h.pos
  have hle := h.le
  have la := h.la
  have lb := h.lb
  have ep : IntKind.i64.wrap ((y.length : Int) + 1) = ((y.length + 1 : Nat) : Int) := natI (by omega)
  have h1 : runR (stepR_L9_S y.length (y.map iD) er a.length (a.map iD) b.length (b.map iD) src x0 x1) (.next 0 [iD 0, .list (y.length + 1) ((vvT (y.length + 1) 0 y a b src).map iD), .list y.length ((fwT y.length 0 y a b src).map iD), .list y.length ((bkT y.length 0 y a b).map iD)]) = _ :=
    runR_scan (S := stepR_L9_S y.length (y.map iD) er a.length (a.map iD) b.length (b.map iD) src x0 x1) (fun _ => 0) (fun i => [iD (i : Int), .list (y.length + 1) ((vvT (y.length + 1) i y a b src).map iD), .list y.length ((fwT y.length i y a b src).map iD), .list y.length ((bkT y.length i y a b).map iD)]) (Nat.zero_le (y.length - 1)) (fun i _ hi => by
    obtain ⟨w1, w2, w3, w4⟩ := wraps h (i := i) (by omega)
    obtain ⟨n1, n2, n3, n4, n5⟩ := nums h (i := i) (by omega)
    show stepR_L9_S0 y.length (y.map iD) er a.length (a.map iD) b.length (b.map iD) src x0 x1 _ = _
    unfold stepR_L9_S0
    rw [pullD_some ((i : Int), y.length + 1, (vvT (y.length + 1) i y a b src).map iD, y.length, (fwT y.length i y a b src).map iD, y.length, (bkT y.length i y a b).map iD) (by rfl) (by rfl)]
    dsimp only
    have e2 : IntKind.i64.wrap ((i : Int) + 1) = ((i + 1 : Nat) : Int) := natI (by omega)
    simp only [e2, ep, Int.toNat_natCast]
    rw [if_pos (by omega), guardP_pos (by omega), readN (by omega), pullD_some (at' y i) (by rfl) (by rfl), guardP_pos (by omega), readN (by omega), pullD_some (at' y (i + 1)) (by rfl) (by rfl), guardP_pos (by omega), readN (by omega), pullD_some (at' a i) (by rfl) (by rfl), pullD_some (at' y i) (by rfl) (by rfl), pullD_some (at' y (i + 1)) (by rfl) (by rfl), guardP_pos (by omega), readN (by omega), pullD_some (at' b (i + 1)) (by rfl) (by rfl), pullD_some (at' y (i + 1)) (by rfl) (by rfl)]
    simp only [w1, w2]
    rw [guardP_pos (by omega), toZero_eq (by omega) (by omega) (by omega), pullI, guardP_pos ⟨by simp only [List.length_map, tab_len]; omega, cellD_int _⟩, pullD_some (at' b (i + 1)) (by rfl) (by rfl), pullD_some (at' y (i + 1)) (by rfl) (by rfl), pullD_some (at' y i) (by rfl) (by rfl), pullD_some (at' a i) (by rfl) (by rfl), pullD_some (at' y i) (by rfl) (by rfl)]
    simp only [w3]
    rw [guardP_pos (by omega), toZero_eq (by omega) (by omega) (by omega), pullI, guardP_pos ⟨by simp only [List.length_map, tab_len]; omega, cellD_int _⟩, pullD_some (at' a i) (by rfl) (by rfl), pullD_some (at' y i) (by rfl) (by rfl), pullD_some (at' b (i + 1)) (by rfl) (by rfl), pullD_some (at' y (i + 1)) (by rfl) (by rfl)]
    simp only [w4]
    rw [guardP_pos (by omega), toZero_eq (by omega) (by omega) (by omega), pullI, guardP_pos ⟨by simp only [List.length_map, tab_len]; omega, cellD_int _⟩, set_list _ _ _ (by rw [tab_len]; omega), set_list _ _ _ (by rw [tab_len]; omega), set_list _ _ _ (by rw [tab_len]; omega), set_fw, set_bk, set_v])
  refine h1.trans (runR_exit ?_)
  show stepR_L9_S0 y.length (y.map iD) er a.length (a.map iD) b.length (b.map iD) src x0 x1 _ = _
  unfold stepR_L9_S0
  rw [pullD_some (((y.length - 1 : Nat) : Int), y.length + 1, (vvT (y.length + 1) (y.length - 1) y a b src).map iD, y.length, (fwT y.length (y.length - 1) y a b src).map iD, y.length, (bkT y.length (y.length - 1) y a b).map iD) (by rfl) (by rfl)]
  dsimp only
  rw [ep, natI (by omega), if_neg (by omega), Int.toNat_natCast, Int.toNat_natCast]
abbrev noSt (e : Int) : D := .tup [stD [] [], lD [], iD e]
def stepV (y a b : List Int) (er : Bool) (src : Int) : D :=
  if wavE (tab y.length (fwF y a b src)) ≠ 0 then noSt 22 else if wavE (tab y.length (bkF y a b er y.length)) ≠ 0 then noSt 22 else .tup [stD (tab y.length (fwF y a b src)) (tab y.length (bkF y a b er y.length)), lD (tab (y.length + 1) (vF y a b src er y.length)), iD 0]
theorem v_true (n : Nat) (hn : 0 < n) (src : Int) : vvT (n + 1) (n - 1) y a b src = tab (n + 1) (vF y a b src true n) := tab_congr fun j hj => by
  unfold vF refl
  by_cases h0 : j = 0
  · rw [if_pos h0, if_pos h0]
  · rw [if_neg h0, if_neg h0]
    by_cases h1 : j < n
    · rw [if_pos (by omega), if_pos h1]
    · rw [if_neg (by omega), if_neg h1, if_pos rfl]; omega
theorem v_false (n : Nat) (hn : 0 < n) (src : Int) : (vvT (n + 1) (n - 1) y a b src).set n (2 * at' a (n - 1)) = tab (n + 1) (vF y a b src false n) := by
  rw [tab_set]
  refine tab_congr fun j hj => ?_
  unfold vF refl
  by_cases h : j = n
  · rw [if_pos h, if_neg (by omega), if_neg (by omega), if_neg (by decide)]; omega
  · rw [if_neg h]
    by_cases h0 : j = 0
    · rw [if_pos h0, if_pos h0]
    · rw [if_neg h0, if_neg h0, if_pos (by omega), if_pos (by omega)]
theorem stepR_eq (h : Ok y a b) (er : Bool) (src : Int) : m_18 [lnD y er, stD a b, iD src] = some (if -1000000 ≤ src ∧ src ≤ 1000000 then stepV y a b er src else noSt 2) := by
  have hp := h.pos
  have hle := h.le
  have la := h.la
  have lb := h.lb
  have b0 := h.rb 0 hp
  have an := h.ra (y.length - 1) (by omega)
  rw [m_18_eq]
  unfold stepR_M
  rw [within_eq, pullB]
  by_cases hs : -1000000 ≤ src ∧ src ≤ 1000000
  rotate_left
  · rw [if_pos (by simpa using hs), if_neg hs]; rfl
  rw [if_neg (by simpa using hs), if_pos hs]
  have em : IntKind.i64.wrap ((y.length : Int) - 1) = ((y.length - 1 : Nat) : Int) := by rw [wr (by omega)]; omega
  have ep : IntKind.i64.wrap ((y.length : Int) + 1) = ((y.length + 1 : Nat) : Int) := natI (by omega)
  simp only [em, ep, Int.toNat_natCast]
  rw [guardP_pos ⟨by omega, by omega, by omega, by omega⟩, guardP_pos ⟨by omega, by omega, by omega, by omega⟩, guardP_pos ⟨by omega, by show 0 < _; omega⟩, zerosD, guardP_pos ⟨by simp only [List.length_map, tab_len]; show 0 + 0 * 1 + 1 ≤ _; omega, cellD_int _⟩, guardP_pos ⟨by omega, by show 0 < _; omega⟩, show Int.toNat 0 * 1 = 0 * 1 from rfl, readN (by omega), pullD_some (at' b 0) (by rfl) (by rfl), guardP_pos ⟨by omega, by show 0 < _; omega⟩, zerosD, guardP_pos ⟨by simp only [List.length_map, tab_len]; show 0 + 0 * 1 + 1 ≤ _; omega, cellD_int _⟩, wr (x := src - at' b 0) (by omega), consD _ _ (by omega), consD _ _ hp, zeros_list, tab_zeros]
  have f0 : (tab y.length fun j => if j = 0 then src - at' b 0 else 0) = fwT y.length 0 y a b src := tab_congr fun j _ => by
    by_cases q : j = 0
    · rw [if_pos q, if_pos q]
    · rw [if_neg q, if_neg q, if_neg (by omega)]
  have v0 : (tab (y.length + 1) fun j => if j = 0 then src else 0) = vvT (y.length + 1) 0 y a b src := tab_congr fun j _ => by
    by_cases q : j = 0
    · rw [if_pos q, if_pos q]
    · rw [if_neg q, if_neg q, if_neg (by omega)]
  have g0 : (tab y.length fun _ => (0 : Int)) = bkT y.length 0 y a b := tab_congr fun j _ => by rw [if_neg (by omega)]
  rw [f0, v0, g0, bindL_some (stepR_go h er src (at' b 0) _), if_pos rfl, pullD_some (y.length + 1, (vvT (y.length + 1) (y.length - 1) y a b src).map iD, y.length, (fwT y.length (y.length - 1) y a b src).map iD, y.length, (bkT y.length (y.length - 1) y a b).map iD) (by rfl) (by rfl)]
  dsimp only
  have foldW : ∀ f : Nat → Int, [D.list y.length ((tab y.length f).map iD)] = [lD (tab y.length f)] := fun f => by simp only [lD, tab_len]
  have wv : ∀ f : Nat → Int, m_40 [lD (tab y.length f)] = some (iD (wavE (tab y.length f))) := fun f => wavesErr_eq _ (by rw [tab_len]; omega)
  unfold stepV
  cases er with
  | true =>
    have er1 : refl a true y.length = -at' a (y.length - 1) := if_pos rfl
    rw [if_pos rfl, guardP_pos ⟨by omega, by omega⟩, readN (by omega), pullD_some (at' a (y.length - 1)) (by rfl) (by rfl), guardP_pos ⟨by omega, by omega⟩, guardP_pos ⟨by simp only [List.length_map, tab_len]; omega, cellD_int _⟩, guardP_pos (Nat.le_refl _), wr (x := 0 - at' a (y.length - 1)) (by omega), Int.zero_sub, ← er1, set_list _ _ _ (by rw [tab_len]; omega), bk_end _ hp, fw_fin _ hp, v_true _ hp, foldW, wv, pullI]
    by_cases q : wavE (tab y.length (fwF y a b src)) ≠ 0
    · rw [if_pos q, if_pos q]; rfl
    rw [if_neg q, if_neg q, foldW, wv, pullI]
    by_cases p : wavE (tab y.length (bkF y a b true y.length)) ≠ 0
    · rw [if_pos p, if_pos p]; rfl
    rw [if_neg p, if_neg p, guardP_pos (Nat.le_refl _)]
    simp only [stD, lD, tab_len]
  | false =>
    have er1 : refl a false y.length = at' a (y.length - 1) := if_neg (by decide)
    rw [if_neg (by decide), guardP_pos ⟨by omega, by omega⟩, readN (by omega), pullD_some (at' a (y.length - 1)) (by rfl) (by rfl), pullD_some (at' a (y.length - 1)) (by rfl) (by rfl), guardP_pos ⟨by omega, by omega⟩, guardP_pos ⟨by simp only [List.length_map, tab_len]; omega, cellD_int _⟩, guardP_pos ⟨by omega, by omega⟩, guardP_pos ⟨by simp only [List.length_map, tab_len]; omega, cellD_int _⟩, guardP_pos (Nat.le_refl _), wr (x := 2 * at' a (y.length - 1)) (by omega), set_list (vvT (y.length + 1) (y.length - 1) y a b src) _ _ (by rw [tab_len]; omega), v_false _ hp, ← er1, set_list _ _ _ (by rw [tab_len]; omega), bk_end _ hp, fw_fin _ hp, foldW, wv, pullI]
    by_cases q : wavE (tab y.length (fwF y a b src)) ≠ 0
    · rw [if_pos q, if_pos q]; rfl
    rw [if_neg q, if_neg q, foldW, wv, pullI]
    by_cases p : wavE (tab y.length (bkF y a b false y.length)) ≠ 0
    · rw [if_pos p, if_pos p]; rfl
    rw [if_neg p, if_neg p, guardP_pos (Nat.le_refl _)]
    simp only [stD, lD, tab_len]
theorem step_eq (y a b : List Int) (er : Bool) (src : Int) (hl : y.length ≤ 1000) (ha : a.length ≤ 1000) (hb : b.length ≤ 1000) : m_10 [lnD y er, stD a b, iD src] = some (if stE y a b ≠ 0 then noSt (stE y a b) else if -1000000 ≤ src ∧ src ≤ 1000000 then stepV y a b er src else noSt 2) := by
  rw [m_10_eq]
  unfold step_M
  have em : IntKind.i64.wrap ((0 : Int) - 1000000) = -1000000 := wr (x := (0 : Int) - 1000000) (by decide)
  have foldS : ∀ n : Nat, [D.agg [D.list a.length (a.map iD), D.list b.length (b.map iD)], iD (n : Int)] = [stD a b, iD (n : Int)] := fun _ => rfl
  rw [foldS, chkState_eq a b _ ha hb, pullI, show [D.agg [D.list y.length (y.map iD), D.one (.bool er)]] = [lnD y er] from rfl, chkLine_eq y er hl, pullI, em]
  have e3 : ∀ z : Int, (if lineE y ≠ 0 then lineE y else if ckE a b y.length ≠ 0 then ckE a b y.length else z) = if stE y a b ≠ 0 then stE y a b else z := fun z => by
    unfold stE
    by_cases q : lineE y ≠ 0
    · simp [q]
    · simp only [q, if_false]
  have rest : stE y a b ≠ 0 ∨ stE y a b = 0 := by omega
  by_cases q1 : src < -1000000
  · rw [if_pos q1, first3, pullI, e3]
    rcases rest with q | q
    · rw [if_pos q, if_pos q, if_pos q]; rfl
    · have hq : ¬ (stE y a b ≠ 0) := by omega
      have hs : ¬ (-1000000 ≤ src ∧ src ≤ 1000000) := by omega
      simp only [if_neg hq, if_neg hs]
      rw [if_pos (show (2 : Int) ≠ 0 by decide)]
      rfl
  rw [if_neg q1]
  by_cases q2 : src > 1000000
  · rw [if_pos q2, first3, pullI, e3]
    rcases rest with q | q
    · rw [if_pos q, if_pos q, if_pos q]; rfl
    · have hq : ¬ (stE y a b ≠ 0) := by omega
      have hs : ¬ (-1000000 ≤ src ∧ src ≤ 1000000) := by omega
      simp only [if_neg hq, if_neg hs]
      rw [if_pos (show (2 : Int) ≠ 0 by decide)]
      rfl
  rw [if_neg q2, first3, pullI, e3]
  rcases rest with q | q
  · rw [if_pos q, if_pos q, if_pos q]; rfl
  have hq : ¬ (stE y a b ≠ 0) := by omega
  have hs : -1000000 ≤ src ∧ src ≤ 1000000 := by omega
  simp only [if_neg hq, if_pos hs]
  rw [if_neg (show ¬ ((0 : Int) ≠ 0) by decide)]
  have h := ok_of q
  have hp := h.pos
  have hle := h.le
  rw [show [D.agg [D.list y.length (y.map iD), D.one (.bool er)], D.agg [D.list a.length (a.map iD), D.list b.length (b.map iD)], iD src] = [lnD y er, stD a b, iD src] from rfl, after_eq h er (by omega), pullD_some ((tab y.length (fwF y a b src)).length, (tab y.length (fwF y a b src)).map iD, (tab y.length (bkF y a b er y.length)).length, (tab y.length (bkF y a b er y.length)).map iD, (tab (y.length + 1) (vF y a b src er y.length)).length, (tab (y.length + 1) (vF y a b src er y.length)).map iD) (by rfl) (by rfl)]
  dsimp only
  rw [show [D.agg [D.list (tab y.length (fwF y a b src)).length ((tab y.length (fwF y a b src)).map iD), D.list (tab y.length (bkF y a b er y.length)).length ((tab y.length (bkF y a b er y.length)).map iD)], iD (y.length : Int)] = [stD (tab y.length (fwF y a b src)) (tab y.length (bkF y a b er y.length)), iD (y.length : Int)] from rfl, chkState_eq _ _ _ (by rw [tab_len]; omega) (by rw [tab_len]; omega), pullI]
  have ec : ckE (tab y.length (fwF y a b src)) (tab y.length (bkF y a b er y.length)) y.length = if wavE (tab y.length (fwF y a b src)) ≠ 0 then wavE (tab y.length (fwF y a b src)) else wavE (tab y.length (bkF y a b er y.length)) := by
    unfold ckE
    rw [if_neg (by simp [tab_len]), if_neg (by simp [tab_len])]
  unfold stepV
  by_cases p : wavE (tab y.length (fwF y a b src)) ≠ 0
  · rw [if_pos p] at ec
    rw [ec, if_pos p, if_pos p]; rfl
  rw [if_neg p] at ec
  rw [ec, if_neg p]
  by_cases p2 : wavE (tab y.length (bkF y a b er y.length)) ≠ 0
  · rw [if_pos p2, if_pos p2]; rfl
  · rw [if_neg p2, if_neg p2]
end
end Go.Proofs.Ytfdehaafbkhclaa
/- The stage's examples hold. -/
namespace Go.Proofs.Ytfdehaafbkhclaa
open Go.Ev Go.RowKit
set_option maxRecDepth 100000
noncomputable section
theorem aw_all : Con 6 [] (.one (.bool true)) :=
  con_ofK (S := [(37, 3000171)]) (K := []) (sp := []) (n := 60000) (ora := []) (res := []) (conds := [(false, false), (false, false), (false, false), (false, false), (false, false), (false, false), (false, false), (false, false), (false, false), (false, false), (false, false), (false, false), (false, false), (false, false), (false, false), (false, false), (false, false), (false, false), (false, false), (false, false), (false, false), (false, false), (false, false), (false, false), (false, false), (false, false)]) (cls := [])
    (by kernel_rfl) ⟨rfl, rfl, rfl, rfl, rfl, rfl, rfl, rfl, rfl, rfl, rfl, rfl, rfl, rfl, rfl, rfl, rfl, rfl, rfl, rfl, rfl, rfl, rfl, rfl, rfl, rfl, trivial⟩ trivial
def m_6 (ds : List D) : Option D := pullD (some (.tup ds)) (fun _ => ()) (fun _ => .tup []) fun _ => some (.one (.bool true))
theorem m_6_ok {ds : List D} {r : D} (h : m_6 ds = some r) : Con 6 ds r := by
  unfold m_6 at h
  obtain ⟨⟨⟩, e0, h0⟩ := pullD_elim h
  obtain rfl := tup_inj e0
  obtain rfl := Option.some.inj h0
  exact aw_all
theorem m_6_eq : m_6 [] = some (.one (.bool true)) := pullD_some () rfl rfl
end
end Go.Proofs.Ytfdehaafbkhclaa
namespace Go.Proofs.Ytfdehaafbkhclaa
open Go.Ev Go.RowKit
set_option maxRecDepth 100000
set_option maxHeartbeats 8000000
set_option linter.all false
noncomputable section
def law3_sp : List LSpec := []
def law3_M_s0 (ky : Nat) (cy : List D) (er : Bool) (ka : Nat) (ca : List D) (kb : Nat) (cb : List D) (src : Int) (r0 : Bool) (r1 : Bool) (k2 : Nat) (c3 : List D) (r4 : Bool) (k5 : Nat) (c6 : List D) (k7 : Nat) (c8 : List D) (r9 : Int) (k10 : Nat) (c11 : List D) (r12 : Bool) (k13 : Nat) (c14 : List D) (k15 : Nat) (c16 : List D) (k17 : Nat) (c18 : List D) (k19 : Nat) (c20 : List D) (k21 : Nat) (c22 : List D) (r23 : Int) (k24 : Nat) (c25 : List D) (r26 : Bool) (k27 : Nat) (c28 : List D) (k29 : Nat) (c30 : List D) (r31 : Int) (r32 : Int) (r33 : Int) (k34 : Nat) (c35 : List D) (r36 : Bool) (r37 : Int) : Option D := (if r33 ≠ (0 : Int) then (if r9 ≠ r33 then some (.one (.bool false)) else pullD (α := Bool) (m_15 [.agg [.list k5 c6, .list k7 c8], .agg [.list 0 [], .list 0 []]]) (fun d => ((D.vb d))) (fun r38 => .one (.bool r38)) fun r38 => ((if r38 = false then some (.one (.bool false)) else pullD (α := Int) (m_17 [.agg [.list ky cy, .one (.bool er)], .agg [.list ka ca, .list kb cb]]) (fun d => ((D.vi d))) (fun r39 => iD r39) fun r39 => ((if r39 ≠ (0 : Int) then (if r23 = r39 then (if r32 = r39 then pullD (α := Bool) (m_15 [.agg [.list k17 c18, .list k19 c20], .agg [.list 0 [], .list 0 []]]) (fun d => ((D.vb d))) (fun r40 => .one (.bool r40)) fun r40 => ((if (r40) = true then (if (k21 : Int) = (0 : Int) then some (.one (.bool (r31 == (0 : Int)))) else some (.one (.bool false))) else some (.one (.bool false)))) else some (.one (.bool false))) else some (.one (.bool false))) else pullD (α := Nat × (List D) × Nat × (List D) × Nat × (List D) × Int) (m_18 [.agg [.list ky cy, .one (.bool er)], .agg [.list ka ca, .list kb cb], iD src]) (fun d => ((D.ln (D.at (D.at d 0) 0)), (D.lc (D.at (D.at d 0) 0)), (D.ln (D.at (D.at d 0) 1)), (D.lc (D.at (D.at d 0) 1)), (D.ln (D.at d 1)), (D.lc (D.at d 1)), (D.vi (D.at d 2)))) (fun (k41, c42, k43, c44, k45, c46, r47) => .tup [.agg [.list k41 c42, .list k43 c44], .list k45 c46, iD r47]) fun (k41, c42, k43, c44, k45, c46, r47) => ((if r23 = r47 then pullD (α := Bool) (m_15 [.agg [.list k17 c18, .list k19 c20], .agg [.list k41 c42, .list k43 c44]]) (fun d => ((D.vb d))) (fun r48 => .one (.bool r48)) fun r48 => ((if (r48) = true then pullD (α := Bool) (m_19 [.list k21 c22, .list k45 c46]) (fun d => ((D.vb d))) (fun r49 => .one (.bool r49)) fun r49 => ((if (r49) = true then (if r32 = (0 : Int) then pullD (α := Int) (m_20 [.agg [.list ky cy, .one (.bool er)], .agg [.list ka ca, .list kb cb]]) (fun d => ((D.vi d))) (fun r50 => iD r50) fun r50 => (some (.one (.bool (r31 == r50)))) else some (.one (.bool false))) else some (.one (.bool false)))) else some (.one (.bool false)))) else some (.one (.bool false))))))))) else (if r9 ≠ (0 : Int) then some (.one (.bool false)) else pullD (α := Nat × (List D) × Nat × (List D)) (m_16 [.agg [.list ky cy, .one (.bool er)]]) (fun d => ((D.ln (D.at d 0)), (D.lc (D.at d 0)), (D.ln (D.at d 1)), (D.lc (D.at d 1)))) (fun (k51, c52, k53, c54) => .agg [.list k51 c52, .list k53 c54]) fun (k51, c52, k53, c54) => (pullD (α := Bool) (m_15 [.agg [.list k5 c6, .list k7 c8], .agg [.list k51 c52, .list k53 c54]]) (fun d => ((D.vb d))) (fun r55 => .one (.bool r55)) fun r55 => ((if r55 = false then some (.one (.bool false)) else pullD (α := Int) (m_17 [.agg [.list ky cy, .one (.bool er)], .agg [.list ka ca, .list kb cb]]) (fun d => ((D.vi d))) (fun r56 => iD r56) fun r56 => ((if r56 ≠ (0 : Int) then (if r23 = r56 then (if r32 = r56 then pullD (α := Bool) (m_15 [.agg [.list k17 c18, .list k19 c20], .agg [.list 0 [], .list 0 []]]) (fun d => ((D.vb d))) (fun r57 => .one (.bool r57)) fun r57 => ((if (r57) = true then (if (k21 : Int) = (0 : Int) then some (.one (.bool (r31 == (0 : Int)))) else some (.one (.bool false))) else some (.one (.bool false)))) else some (.one (.bool false))) else some (.one (.bool false))) else pullD (α := Nat × (List D) × Nat × (List D) × Nat × (List D) × Int) (m_18 [.agg [.list ky cy, .one (.bool er)], .agg [.list ka ca, .list kb cb], iD src]) (fun d => ((D.ln (D.at (D.at d 0) 0)), (D.lc (D.at (D.at d 0) 0)), (D.ln (D.at (D.at d 0) 1)), (D.lc (D.at (D.at d 0) 1)), (D.ln (D.at d 1)), (D.lc (D.at d 1)), (D.vi (D.at d 2)))) (fun (k58, c59, k60, c61, k62, c63, r64) => .tup [.agg [.list k58 c59, .list k60 c61], .list k62 c63, iD r64]) fun (k58, c59, k60, c61, k62, c63, r64) => ((if r23 = r64 then pullD (α := Bool) (m_15 [.agg [.list k17 c18, .list k19 c20], .agg [.list k58 c59, .list k60 c61]]) (fun d => ((D.vb d))) (fun r65 => .one (.bool r65)) fun r65 => ((if (r65) = true then pullD (α := Bool) (m_19 [.list k21 c22, .list k62 c63]) (fun d => ((D.vb d))) (fun r66 => .one (.bool r66)) fun r66 => ((if (r66) = true then (if r32 = (0 : Int) then pullD (α := Int) (m_20 [.agg [.list ky cy, .one (.bool er)], .agg [.list ka ca, .list kb cb]]) (fun d => ((D.vi d))) (fun r67 => iD r67) fun r67 => (some (.one (.bool (r31 == r67)))) else some (.one (.bool false))) else some (.one (.bool false)))) else some (.one (.bool false)))) else some (.one (.bool false)))))))))))
def law3_M (ky : Nat) (cy : List D) (er : Bool) (ka : Nat) (ca : List D) (kb : Nat) (cb : List D) (src : Int) : Option D := pullD (α := Bool) (m_6 []) (fun d => ((D.vb d))) (fun r0 => .one (.bool r0)) fun r0 => ((if r0 = false then some (.one (.bool false)) else pullD (α := Bool) (m_7 [.agg [.list ky cy, .one (.bool er)]]) (fun d => ((D.vb d))) (fun r1 => .one (.bool r1)) fun r1 => ((if r1 = false then some (.one (.bool true)) else (if (ka : Int) > (12 : Int) then some (.one (.bool true)) else (if (kb : Int) > (12 : Int) then some (.one (.bool true)) else pullD (α := Nat × (List D) × Bool) (m_9 [.agg [.list ky cy, .one (.bool er)]]) (fun d => ((D.ln (D.at d 0)), (D.lc (D.at d 0)), (D.vb (D.at d 1)))) (fun (k2, c3, r4) => .agg [.list k2 c3, .one (.bool r4)]) fun (k2, c3, r4) => (pullD (α := Nat × (List D) × Nat × (List D) × Int) (m_8 [.agg [.list k2 c3, .one (.bool r4)]]) (fun d => ((D.ln (D.at (D.at d 0) 0)), (D.lc (D.at (D.at d 0) 0)), (D.ln (D.at (D.at d 0) 1)), (D.lc (D.at (D.at d 0) 1)), (D.vi (D.at d 1)))) (fun (k5, c6, k7, c8, r9) => .tup [.agg [.list k5 c6, .list k7 c8], iD r9]) fun (k5, c6, k7, c8, r9) => (pullD (α := Nat × (List D) × Bool) (m_9 [.agg [.list ky cy, .one (.bool er)]]) (fun d => ((D.ln (D.at d 0)), (D.lc (D.at d 0)), (D.vb (D.at d 1)))) (fun (k10, c11, r12) => .agg [.list k10 c11, .one (.bool r12)]) fun (k10, c11, r12) => (pullD (α := Nat × (List D) × Nat × (List D)) (m_11 [.agg [.list ka ca, .list kb cb]]) (fun d => ((D.ln (D.at d 0)), (D.lc (D.at d 0)), (D.ln (D.at d 1)), (D.lc (D.at d 1)))) (fun (k13, c14, k15, c16) => .agg [.list k13 c14, .list k15 c16]) fun (k13, c14, k15, c16) => (pullD (α := Nat × (List D) × Nat × (List D) × Nat × (List D) × Int) (m_10 [.agg [.list k10 c11, .one (.bool r12)], .agg [.list k13 c14, .list k15 c16], iD src]) (fun d => ((D.ln (D.at (D.at d 0) 0)), (D.lc (D.at (D.at d 0) 0)), (D.ln (D.at (D.at d 0) 1)), (D.lc (D.at (D.at d 0) 1)), (D.ln (D.at d 1)), (D.lc (D.at d 1)), (D.vi (D.at d 2)))) (fun (k17, c18, k19, c20, k21, c22, r23) => .tup [.agg [.list k17 c18, .list k19 c20], .list k21 c22, iD r23]) fun (k17, c18, k19, c20, k21, c22, r23) => (pullD (α := Nat × (List D) × Bool) (m_9 [.agg [.list ky cy, .one (.bool er)]]) (fun d => ((D.ln (D.at d 0)), (D.lc (D.at d 0)), (D.vb (D.at d 1)))) (fun (k24, c25, r26) => .agg [.list k24 c25, .one (.bool r26)]) fun (k24, c25, r26) => (pullD (α := Nat × (List D) × Nat × (List D)) (m_11 [.agg [.list ka ca, .list kb cb]]) (fun d => ((D.ln (D.at d 0)), (D.lc (D.at d 0)), (D.ln (D.at d 1)), (D.lc (D.at d 1)))) (fun (k27, c28, k29, c30) => .agg [.list k27 c28, .list k29 c30]) fun (k27, c28, k29, c30) => (pullD (α := Int × Int) (m_12 [.agg [.list k24 c25, .one (.bool r26)], .agg [.list k27 c28, .list k29 c30]]) (fun d => ((D.vi (D.at d 0)), (D.vi (D.at d 1)))) (fun (r31, r32) => .tup [iD r31, iD r32]) fun (r31, r32) => (pullD (α := Int) (m_13 [.agg [.list ky cy, .one (.bool er)]]) (fun d => ((D.vi d))) (fun r33 => iD r33) fun r33 => (pullD (α := Nat × (List D) × Bool) (m_9 [.agg [.list ky cy, .one (.bool er)]]) (fun d => ((D.ln (D.at d 0)), (D.lc (D.at d 0)), (D.vb (D.at d 1)))) (fun (k34, c35, r36) => .agg [.list k34 c35, .one (.bool r36)]) fun (k34, c35, r36) => (pullD (α := Int) (m_14 [.agg [.list k34 c35, .one (.bool r36)]]) (fun d => ((D.vi d))) (fun r37 => iD r37) fun r37 => ((if r37 ≠ r33 then some (.one (.bool false)) else law3_M_s0 ky cy er ka ca kb cb src r0 r1 k2 c3 r4 k5 c6 k7 c8 r9 k10 c11 r12 k13 c14 k15 c16 k17 c18 k19 c20 k21 c22 r23 k24 c25 r26 k27 c28 k29 c30 r31 r32 r33 k34 c35 r36 r37))))))))))))))))))
theorem law3_M_s0_ok (ky : Nat) (cy : List D) (er : Bool) (ka : Nat) (ca : List D) (kb : Nat) (cb : List D) (src : Int) (r0 : Bool) (r1 : Bool) (k2 : Nat) (c3 : List D) (r4 : Bool) (k5 : Nat) (c6 : List D) (k7 : Nat) (c8 : List D) (r9 : Int) (k10 : Nat) (c11 : List D) (r12 : Bool) (k13 : Nat) (c14 : List D) (k15 : Nat) (c16 : List D) (k17 : Nat) (c18 : List D) (k19 : Nat) (c20 : List D) (k21 : Nat) (c22 : List D) (r23 : Int) (k24 : Nat) (c25 : List D) (r26 : Bool) (k27 : Nat) (c28 : List D) (k29 : Nat) (c30 : List D) (r31 : Int) (r32 : Int) (r33 : Int) (k34 : Nat) (c35 : List D) (r36 : Bool) (r37 : Int) (f1_ : Con 6 [] (.one (.bool r0))) (b5_ : r0 = true) (f6_ : Con 7 [.agg [.list ky cy, .one (.bool er)]] (.one (.bool r1))) (b10_ : r1 = true) (b11_ : ¬ ((ka : Int) > (12 : Int))) (b13_ : ¬ ((kb : Int) > (12 : Int))) (f15_ : Con 9 [.agg [.list ky cy, .one (.bool er)]] (.agg [.list k2 c3, .one (.bool r4)])) (f17_ : Con 8 [.agg [.list k2 c3, .one (.bool r4)]] (.tup [.agg [.list k5 c6, .list k7 c8], iD r9])) (f19_ : Con 9 [.agg [.list ky cy, .one (.bool er)]] (.agg [.list k10 c11, .one (.bool r12)])) (f21_ : Con 11 [.agg [.list ka ca, .list kb cb]] (.agg [.list k13 c14, .list k15 c16])) (f23_ : Con 10 [.agg [.list k10 c11, .one (.bool r12)], .agg [.list k13 c14, .list k15 c16], iD src] (.tup [.agg [.list k17 c18, .list k19 c20], .list k21 c22, iD r23])) (f25_ : Con 9 [.agg [.list ky cy, .one (.bool er)]] (.agg [.list k24 c25, .one (.bool r26)])) (f27_ : Con 11 [.agg [.list ka ca, .list kb cb]] (.agg [.list k27 c28, .list k29 c30])) (f29_ : Con 12 [.agg [.list k24 c25, .one (.bool r26)], .agg [.list k27 c28, .list k29 c30]] (.tup [iD r31, iD r32])) (f31_ : Con 13 [.agg [.list ky cy, .one (.bool er)]] (iD r33)) (f33_ : Con 9 [.agg [.list ky cy, .one (.bool er)]] (.agg [.list k34 c35, .one (.bool r36)])) (f35_ : Con 14 [.agg [.list k34 c35, .one (.bool r36)]] (iD r37)) (b39_ : r37 = r33) {r : D} (h : law3_M_s0 ky cy er ka ca kb cb src r0 r1 k2 c3 r4 k5 c6 k7 c8 r9 k10 c11 r12 k13 c14 k15 c16 k17 c18 k19 c20 k21 c22 r23 k24 c25 r26 k27 c28 k29 c30 r31 r32 r33 k34 c35 r36 r37 = some r) : Con 3 [.agg [.list ky cy, .one (.bool er)], .agg [.list ka ca, .list kb cb], iD src] r := by
  unfold law3_M_s0 at h
  by_cases bq1_ : r33 ≠ (0 : Int)
  · have hq2_ := (if_pos bq1_).symm.trans h
    by_cases bq3_ : r9 ≠ r33
    · have hq4_ := (if_pos bq3_).symm.trans hq2_
      obtain rfl := Option.some.inj hq4_
      exact con_pc (op := true) (I := [3]) (sp := law3_sp) 3000 (bF 13 (bT 17 [])) [.one (.bool r0), .one (.bool r1), .agg [.list k2 c3, .one (.bool r4)], .tup [.agg [.list k5 c6, .list k7 c8], iD r9], .agg [.list k10 c11, .one (.bool r12)], .agg [.list k13 c14, .list k15 c16], .tup [.agg [.list k17 c18, .list k19 c20], .list k21 c22, iD r23], .agg [.list k24 c25, .one (.bool r26)], .agg [.list k27 c28, .list k29 c30], .tup [iD r31, iD r32], iD r33, .agg [.list k34 c35, .one (.bool r36)], iD r37] [c_nn b5_, c_nn b10_, c_nn b10_, c_nn b10_, c_nn b10_, c_nn b10_, c_n b11_, c_n b11_, c_n b11_, c_n b11_, c_n b11_, c_n b13_, c_bn b39_, c_b bq1_, c_b bq1_, c_b bq1_, c_b bq1_, c_b bq3_, c_b bq3_, c_b bq3_, c_b bq3_, c_b bq1_, c_b bq3_, c_b bq1_, c_T, c_T, c_T, c_T, c_T, c_T] [k_c f1_, k_c f6_, k_c f15_, k_c f17_, k_c f19_, k_c f21_, k_c f23_, k_c f25_, k_c f27_, k_c f29_, k_c f31_, k_c f33_, k_c f35_] (by kernel_rfl)
    have hq4_ := (if_neg bq3_).symm.trans hq2_
    have bq5_ : r9 = r33 := by first | exact bq3_ | simpa using bq3_
    obtain ⟨r38, fq6_, hq7_⟩ := pullD_elim hq4_
    replace fq6_ := m_15_ok fq6_
    by_cases bq8_ : r38 = false
    · have hq9_ := (if_pos bq8_).symm.trans hq7_
      obtain rfl := Option.some.inj hq9_
      exact con_pc (op := true) (I := [3]) (sp := law3_sp) 3000 (bF 13 (bT 4 (bF 4 (bT 1 (bF 1 (bT 7 [])))))) [.one (.bool r0), .one (.bool r1), .agg [.list k2 c3, .one (.bool r4)], .tup [.agg [.list k5 c6, .list k7 c8], iD r9], .agg [.list k10 c11, .one (.bool r12)], .agg [.list k13 c14, .list k15 c16], .tup [.agg [.list k17 c18, .list k19 c20], .list k21 c22, iD r23], .agg [.list k24 c25, .one (.bool r26)], .agg [.list k27 c28, .list k29 c30], .tup [iD r31, iD r32], iD r33, .agg [.list k34 c35, .one (.bool r36)], iD r37, .one (.bool r38)] [c_nn b5_, c_nn b10_, c_nn b10_, c_nn b10_, c_nn b10_, c_nn b10_, c_n b11_, c_n b11_, c_n b11_, c_n b11_, c_n b11_, c_n b13_, c_bn b39_, c_b bq1_, c_b bq1_, c_b bq1_, c_b bq1_, c_bn bq5_, c_bn bq5_, c_bn bq5_, c_bn bq5_, c_b bq1_, c_bn bq5_, c_b bq1_, c_no bq8_, c_no bq8_, c_no bq8_, c_no bq8_, c_no bq8_, c_T] [k_c f1_, k_c f6_, k_c f15_, k_c f17_, k_c f19_, k_c f21_, k_c f23_, k_c f25_, k_c f27_, k_c f29_, k_c f31_, k_c f33_, k_c f35_, k_c fq6_] (by kernel_rfl)
    have hq9_ := (if_neg bq8_).symm.trans hq7_
    have bq10_ : r38 = true := by first | exact bq8_ | simpa using bq8_
    obtain ⟨r39, fq11_, hq12_⟩ := pullD_elim hq9_
    replace fq11_ := m_17_ok fq11_
    by_cases bq13_ : r39 ≠ (0 : Int)
    · have hq14_ := (if_pos bq13_).symm.trans hq12_
      by_cases bq15_ : r23 = r39
      · have hq16_ := (if_pos bq15_).symm.trans hq14_
        by_cases bq17_ : r32 = r39
        · have hq18_ := (if_pos bq17_).symm.trans hq16_
          obtain ⟨r40, fq19_, hq20_⟩ := pullD_elim hq18_
          replace fq19_ := m_15_ok fq19_
          by_cases bq21_ : (r40) = true
          · have hq22_ := (if_pos bq21_).symm.trans hq20_
            by_cases bq23_ : (k21 : Int) = (0 : Int)
            · have hq24_ := (if_pos bq23_).symm.trans hq22_
              obtain rfl := Option.some.inj hq24_
              exact con_pc (op := true) (I := [3]) (sp := law3_sp) 3000 (bF 13 (bT 4 (bF 4 (bT 1 (bF 1 (bT 1 (bF 11 (bT 16 [])))))))) [.one (.bool r0), .one (.bool r1), .agg [.list k2 c3, .one (.bool r4)], .tup [.agg [.list k5 c6, .list k7 c8], iD r9], .agg [.list k10 c11, .one (.bool r12)], .agg [.list k13 c14, .list k15 c16], .tup [.agg [.list k17 c18, .list k19 c20], .list k21 c22, iD r23], .agg [.list k24 c25, .one (.bool r26)], .agg [.list k27 c28, .list k29 c30], .tup [iD r31, iD r32], iD r33, .agg [.list k34 c35, .one (.bool r36)], iD r37, .one (.bool r38), iD r39, .one (.bool r40)] [c_nn b5_, c_nn b10_, c_nn b10_, c_nn b10_, c_nn b10_, c_nn b10_, c_n b11_, c_n b11_, c_n b11_, c_n b11_, c_n b11_, c_n b13_, c_bn b39_, c_b bq1_, c_b bq1_, c_b bq1_, c_b bq1_, c_bn bq5_, c_bn bq5_, c_bn bq5_, c_bn bq5_, c_b bq1_, c_bn bq5_, c_b bq1_, c_nn bq10_, c_nn bq10_, c_nn bq10_, c_en bq1_, c_en bq1_, c_en bq1_, c_en bq1_, c_nn bq10_, c_en bq1_, c_nn bq10_, c_F, c_b bq13_, c_e bq15_, c_e bq15_, c_e bq15_, c_e bq15_, c_e bq17_, c_e bq17_, c_e bq17_, c_e bq17_, c_q bq21_, c_q bq21_, c_q bq21_, c_q bq21_, c_e bq23_, c_e bq23_, c_e bq23_] [k_c f1_, k_c f6_, k_c f15_, k_c f17_, k_c f19_, k_c f21_, k_c f23_, k_c f25_, k_c f27_, k_c f29_, k_c f31_, k_c f33_, k_c f35_, k_c fq6_, k_c fq11_, k_c fq19_] (by kernel_rfl)
            have hq24_ := (if_neg bq23_).symm.trans hq22_
            have bq25_ : (k21 : Int) ≠ (0 : Int) := by first | exact bq23_ | simpa using bq23_
            obtain rfl := Option.some.inj hq24_
            exact con_pc (op := true) (I := [3]) (sp := law3_sp) 3000 (bF 13 (bT 4 (bF 4 (bT 1 (bF 1 (bT 1 (bF 11 (bT 13 (bF 3 []))))))))) [.one (.bool r0), .one (.bool r1), .agg [.list k2 c3, .one (.bool r4)], .tup [.agg [.list k5 c6, .list k7 c8], iD r9], .agg [.list k10 c11, .one (.bool r12)], .agg [.list k13 c14, .list k15 c16], .tup [.agg [.list k17 c18, .list k19 c20], .list k21 c22, iD r23], .agg [.list k24 c25, .one (.bool r26)], .agg [.list k27 c28, .list k29 c30], .tup [iD r31, iD r32], iD r33, .agg [.list k34 c35, .one (.bool r36)], iD r37, .one (.bool r38), iD r39, .one (.bool r40)] [c_nn b5_, c_nn b10_, c_nn b10_, c_nn b10_, c_nn b10_, c_nn b10_, c_n b11_, c_n b11_, c_n b11_, c_n b11_, c_n b11_, c_n b13_, c_bn b39_, c_b bq1_, c_b bq1_, c_b bq1_, c_b bq1_, c_bn bq5_, c_bn bq5_, c_bn bq5_, c_bn bq5_, c_b bq1_, c_bn bq5_, c_b bq1_, c_nn bq10_, c_nn bq10_, c_nn bq10_, c_en bq1_, c_en bq1_, c_en bq1_, c_en bq1_, c_nn bq10_, c_en bq1_, c_nn bq10_, c_F, c_b bq13_, c_e bq15_, c_e bq15_, c_e bq15_, c_e bq15_, c_e bq17_, c_e bq17_, c_e bq17_, c_e bq17_, c_q bq21_, c_q bq21_, c_q bq21_, c_q bq21_, c_en bq25_, c_en bq25_, c_en bq25_] [k_c f1_, k_c f6_, k_c f15_, k_c f17_, k_c f19_, k_c f21_, k_c f23_, k_c f25_, k_c f27_, k_c f29_, k_c f31_, k_c f33_, k_c f35_, k_c fq6_, k_c fq11_, k_c fq19_] (by kernel_rfl)
          have hq22_ := (if_neg bq21_).symm.trans hq20_
          have bq26_ : (r40) = false := by first | exact bq21_ | simpa using bq21_
          obtain rfl := Option.some.inj hq22_
          exact con_pc (op := true) (I := [3]) (sp := law3_sp) 3000 (bF 13 (bT 4 (bF 4 (bT 1 (bF 1 (bT 1 (bF 11 (bT 9 (bF 7 []))))))))) [.one (.bool r0), .one (.bool r1), .agg [.list k2 c3, .one (.bool r4)], .tup [.agg [.list k5 c6, .list k7 c8], iD r9], .agg [.list k10 c11, .one (.bool r12)], .agg [.list k13 c14, .list k15 c16], .tup [.agg [.list k17 c18, .list k19 c20], .list k21 c22, iD r23], .agg [.list k24 c25, .one (.bool r26)], .agg [.list k27 c28, .list k29 c30], .tup [iD r31, iD r32], iD r33, .agg [.list k34 c35, .one (.bool r36)], iD r37, .one (.bool r38), iD r39, .one (.bool r40)] [c_nn b5_, c_nn b10_, c_nn b10_, c_nn b10_, c_nn b10_, c_nn b10_, c_n b11_, c_n b11_, c_n b11_, c_n b11_, c_n b11_, c_n b13_, c_bn b39_, c_b bq1_, c_b bq1_, c_b bq1_, c_b bq1_, c_bn bq5_, c_bn bq5_, c_bn bq5_, c_bn bq5_, c_b bq1_, c_bn bq5_, c_b bq1_, c_nn bq10_, c_nn bq10_, c_nn bq10_, c_en bq1_, c_en bq1_, c_en bq1_, c_en bq1_, c_nn bq10_, c_en bq1_, c_nn bq10_, c_F, c_b bq13_, c_e bq15_, c_e bq15_, c_e bq15_, c_e bq15_, c_e bq17_, c_e bq17_, c_e bq17_, c_e bq17_, c_q bq26_, c_q bq26_, c_q bq26_, c_q bq26_, c_F, c_F, c_F] [k_c f1_, k_c f6_, k_c f15_, k_c f17_, k_c f19_, k_c f21_, k_c f23_, k_c f25_, k_c f27_, k_c f29_, k_c f31_, k_c f33_, k_c f35_, k_c fq6_, k_c fq11_, k_c fq19_] (by kernel_rfl)
        have hq18_ := (if_neg bq17_).symm.trans hq16_
        have bq27_ : r32 ≠ r39 := by first | exact bq17_ | simpa using bq17_
        obtain rfl := Option.some.inj hq18_
        exact con_pc (op := true) (I := [3]) (sp := law3_sp) 3000 (bF 13 (bT 4 (bF 4 (bT 1 (bF 1 (bT 1 (bF 11 (bT 5 (bF 11 []))))))))) [.one (.bool r0), .one (.bool r1), .agg [.list k2 c3, .one (.bool r4)], .tup [.agg [.list k5 c6, .list k7 c8], iD r9], .agg [.list k10 c11, .one (.bool r12)], .agg [.list k13 c14, .list k15 c16], .tup [.agg [.list k17 c18, .list k19 c20], .list k21 c22, iD r23], .agg [.list k24 c25, .one (.bool r26)], .agg [.list k27 c28, .list k29 c30], .tup [iD r31, iD r32], iD r33, .agg [.list k34 c35, .one (.bool r36)], iD r37, .one (.bool r38), iD r39] [c_nn b5_, c_nn b10_, c_nn b10_, c_nn b10_, c_nn b10_, c_nn b10_, c_n b11_, c_n b11_, c_n b11_, c_n b11_, c_n b11_, c_n b13_, c_bn b39_, c_b bq1_, c_b bq1_, c_b bq1_, c_b bq1_, c_bn bq5_, c_bn bq5_, c_bn bq5_, c_bn bq5_, c_b bq1_, c_bn bq5_, c_b bq1_, c_nn bq10_, c_nn bq10_, c_nn bq10_, c_en bq1_, c_en bq1_, c_en bq1_, c_en bq1_, c_nn bq10_, c_en bq1_, c_nn bq10_, c_F, c_b bq13_, c_e bq15_, c_e bq15_, c_e bq15_, c_e bq15_, c_en bq27_, c_en bq27_, c_en bq27_, c_en bq27_, c_F, c_F, c_F, c_F, c_F, c_F, c_F] [k_c f1_, k_c f6_, k_c f15_, k_c f17_, k_c f19_, k_c f21_, k_c f23_, k_c f25_, k_c f27_, k_c f29_, k_c f31_, k_c f33_, k_c f35_, k_c fq6_, k_c fq11_] (by kernel_rfl)
      have hq16_ := (if_neg bq15_).symm.trans hq14_
      have bq28_ : r23 ≠ r39 := by first | exact bq15_ | simpa using bq15_
      obtain rfl := Option.some.inj hq16_
      exact con_pc (op := true) (I := [3]) (sp := law3_sp) 3000 (bF 13 (bT 4 (bF 4 (bT 1 (bF 1 (bT 1 (bF 11 (bT 1 (bF 15 []))))))))) [.one (.bool r0), .one (.bool r1), .agg [.list k2 c3, .one (.bool r4)], .tup [.agg [.list k5 c6, .list k7 c8], iD r9], .agg [.list k10 c11, .one (.bool r12)], .agg [.list k13 c14, .list k15 c16], .tup [.agg [.list k17 c18, .list k19 c20], .list k21 c22, iD r23], .agg [.list k24 c25, .one (.bool r26)], .agg [.list k27 c28, .list k29 c30], .tup [iD r31, iD r32], iD r33, .agg [.list k34 c35, .one (.bool r36)], iD r37, .one (.bool r38), iD r39] [c_nn b5_, c_nn b10_, c_nn b10_, c_nn b10_, c_nn b10_, c_nn b10_, c_n b11_, c_n b11_, c_n b11_, c_n b11_, c_n b11_, c_n b13_, c_bn b39_, c_b bq1_, c_b bq1_, c_b bq1_, c_b bq1_, c_bn bq5_, c_bn bq5_, c_bn bq5_, c_bn bq5_, c_b bq1_, c_bn bq5_, c_b bq1_, c_nn bq10_, c_nn bq10_, c_nn bq10_, c_en bq1_, c_en bq1_, c_en bq1_, c_en bq1_, c_nn bq10_, c_en bq1_, c_nn bq10_, c_F, c_b bq13_, c_en bq28_, c_en bq28_, c_en bq28_, c_en bq28_, c_F, c_F, c_F, c_F, c_F, c_F, c_F, c_F, c_F, c_F, c_F] [k_c f1_, k_c f6_, k_c f15_, k_c f17_, k_c f19_, k_c f21_, k_c f23_, k_c f25_, k_c f27_, k_c f29_, k_c f31_, k_c f33_, k_c f35_, k_c fq6_, k_c fq11_] (by kernel_rfl)
    have hq14_ := (if_neg bq13_).symm.trans hq12_
    have bq29_ : r39 = (0 : Int) := by first | exact bq13_ | simpa using bq13_
    obtain ⟨⟨k41, c42, k43, c44, k45, c46, r47⟩, fq30_, hq31_⟩ := pullD_elim hq14_
    replace fq30_ := m_18_ok fq30_
    by_cases bq32_ : r23 = r47
    · have hq33_ := (if_pos bq32_).symm.trans hq31_
      obtain ⟨r48, fq34_, hq35_⟩ := pullD_elim hq33_
      replace fq34_ := m_15_ok fq34_
      by_cases bq36_ : (r48) = true
      · have hq37_ := (if_pos bq36_).symm.trans hq35_
        obtain ⟨r49, fq38_, hq39_⟩ := pullD_elim hq37_
        replace fq38_ := m_19_ok fq38_
        by_cases bq40_ : (r49) = true
        · have hq41_ := (if_pos bq40_).symm.trans hq39_
          by_cases bq42_ : r32 = (0 : Int)
          · have hq43_ := (if_pos bq42_).symm.trans hq41_
            obtain ⟨r50, fq44_, hq45_⟩ := pullD_elim hq43_
            replace fq44_ := m_20_ok fq44_
            obtain rfl := Option.some.inj hq45_
            exact con_pc (op := true) (I := [3]) (sp := law3_sp) 3000 (bF 13 (bT 4 (bF 4 (bT 1 (bF 1 (bT 1 (bF 12 (bT 17 [])))))))) [.one (.bool r0), .one (.bool r1), .agg [.list k2 c3, .one (.bool r4)], .tup [.agg [.list k5 c6, .list k7 c8], iD r9], .agg [.list k10 c11, .one (.bool r12)], .agg [.list k13 c14, .list k15 c16], .tup [.agg [.list k17 c18, .list k19 c20], .list k21 c22, iD r23], .agg [.list k24 c25, .one (.bool r26)], .agg [.list k27 c28, .list k29 c30], .tup [iD r31, iD r32], iD r33, .agg [.list k34 c35, .one (.bool r36)], iD r37, .one (.bool r38), iD r39, .tup [.agg [.list k41 c42, .list k43 c44], .list k45 c46, iD r47], .one (.bool r48), .one (.bool r49), iD r50] [c_nn b5_, c_nn b10_, c_nn b10_, c_nn b10_, c_nn b10_, c_nn b10_, c_n b11_, c_n b11_, c_n b11_, c_n b11_, c_n b11_, c_n b13_, c_bn b39_, c_b bq1_, c_b bq1_, c_b bq1_, c_b bq1_, c_bn bq5_, c_bn bq5_, c_bn bq5_, c_bn bq5_, c_b bq1_, c_bn bq5_, c_b bq1_, c_nn bq10_, c_nn bq10_, c_nn bq10_, c_en bq1_, c_en bq1_, c_en bq1_, c_en bq1_, c_nn bq10_, c_en bq1_, c_nn bq10_, c_F, c_bn bq29_, c_e bq32_, c_e bq32_, c_e bq32_, c_e bq32_, c_q bq36_, c_q bq36_, c_q bq36_, c_q bq36_, c_q bq40_, c_q bq40_, c_q bq40_, c_e bq42_, c_e bq42_, c_e bq42_, c_e bq42_, c_e bq42_, c_e bq42_] [k_c f1_, k_c f6_, k_c f15_, k_c f17_, k_c f19_, k_c f21_, k_c f23_, k_c f25_, k_c f27_, k_c f29_, k_c f31_, k_c f33_, k_c f35_, k_c fq6_, k_c fq11_, k_c fq30_, k_c fq34_, k_c fq38_, k_c fq44_] (by kernel_rfl)
          have hq43_ := (if_neg bq42_).symm.trans hq41_
          have bq46_ : r32 ≠ (0 : Int) := by first | exact bq42_ | simpa using bq42_
          obtain rfl := Option.some.inj hq43_
          exact con_pc (op := true) (I := [3]) (sp := law3_sp) 3000 (bF 13 (bT 4 (bF 4 (bT 1 (bF 1 (bT 1 (bF 12 (bT 11 (bF 6 []))))))))) [.one (.bool r0), .one (.bool r1), .agg [.list k2 c3, .one (.bool r4)], .tup [.agg [.list k5 c6, .list k7 c8], iD r9], .agg [.list k10 c11, .one (.bool r12)], .agg [.list k13 c14, .list k15 c16], .tup [.agg [.list k17 c18, .list k19 c20], .list k21 c22, iD r23], .agg [.list k24 c25, .one (.bool r26)], .agg [.list k27 c28, .list k29 c30], .tup [iD r31, iD r32], iD r33, .agg [.list k34 c35, .one (.bool r36)], iD r37, .one (.bool r38), iD r39, .tup [.agg [.list k41 c42, .list k43 c44], .list k45 c46, iD r47], .one (.bool r48), .one (.bool r49)] [c_nn b5_, c_nn b10_, c_nn b10_, c_nn b10_, c_nn b10_, c_nn b10_, c_n b11_, c_n b11_, c_n b11_, c_n b11_, c_n b11_, c_n b13_, c_bn b39_, c_b bq1_, c_b bq1_, c_b bq1_, c_b bq1_, c_bn bq5_, c_bn bq5_, c_bn bq5_, c_bn bq5_, c_b bq1_, c_bn bq5_, c_b bq1_, c_nn bq10_, c_nn bq10_, c_nn bq10_, c_en bq1_, c_en bq1_, c_en bq1_, c_en bq1_, c_nn bq10_, c_en bq1_, c_nn bq10_, c_F, c_bn bq29_, c_e bq32_, c_e bq32_, c_e bq32_, c_e bq32_, c_q bq36_, c_q bq36_, c_q bq36_, c_q bq36_, c_q bq40_, c_q bq40_, c_q bq40_, c_en bq46_, c_en bq46_, c_en bq46_, c_en bq46_, c_en bq46_, c_en bq46_] [k_c f1_, k_c f6_, k_c f15_, k_c f17_, k_c f19_, k_c f21_, k_c f23_, k_c f25_, k_c f27_, k_c f29_, k_c f31_, k_c f33_, k_c f35_, k_c fq6_, k_c fq11_, k_c fq30_, k_c fq34_, k_c fq38_] (by kernel_rfl)
        have hq41_ := (if_neg bq40_).symm.trans hq39_
        have bq47_ : (r49) = false := by first | exact bq40_ | simpa using bq40_
        obtain rfl := Option.some.inj hq41_
        exact con_pc (op := true) (I := [3]) (sp := law3_sp) 3000 (bF 13 (bT 4 (bF 4 (bT 1 (bF 1 (bT 1 (bF 12 (bT 8 (bF 9 []))))))))) [.one (.bool r0), .one (.bool r1), .agg [.list k2 c3, .one (.bool r4)], .tup [.agg [.list k5 c6, .list k7 c8], iD r9], .agg [.list k10 c11, .one (.bool r12)], .agg [.list k13 c14, .list k15 c16], .tup [.agg [.list k17 c18, .list k19 c20], .list k21 c22, iD r23], .agg [.list k24 c25, .one (.bool r26)], .agg [.list k27 c28, .list k29 c30], .tup [iD r31, iD r32], iD r33, .agg [.list k34 c35, .one (.bool r36)], iD r37, .one (.bool r38), iD r39, .tup [.agg [.list k41 c42, .list k43 c44], .list k45 c46, iD r47], .one (.bool r48), .one (.bool r49)] [c_nn b5_, c_nn b10_, c_nn b10_, c_nn b10_, c_nn b10_, c_nn b10_, c_n b11_, c_n b11_, c_n b11_, c_n b11_, c_n b11_, c_n b13_, c_bn b39_, c_b bq1_, c_b bq1_, c_b bq1_, c_b bq1_, c_bn bq5_, c_bn bq5_, c_bn bq5_, c_bn bq5_, c_b bq1_, c_bn bq5_, c_b bq1_, c_nn bq10_, c_nn bq10_, c_nn bq10_, c_en bq1_, c_en bq1_, c_en bq1_, c_en bq1_, c_nn bq10_, c_en bq1_, c_nn bq10_, c_F, c_bn bq29_, c_e bq32_, c_e bq32_, c_e bq32_, c_e bq32_, c_q bq36_, c_q bq36_, c_q bq36_, c_q bq36_, c_q bq47_, c_q bq47_, c_q bq47_, c_F, c_F, c_F, c_F, c_F, c_F] [k_c f1_, k_c f6_, k_c f15_, k_c f17_, k_c f19_, k_c f21_, k_c f23_, k_c f25_, k_c f27_, k_c f29_, k_c f31_, k_c f33_, k_c f35_, k_c fq6_, k_c fq11_, k_c fq30_, k_c fq34_, k_c fq38_] (by kernel_rfl)
      have hq37_ := (if_neg bq36_).symm.trans hq35_
      have bq48_ : (r48) = false := by first | exact bq36_ | simpa using bq36_
      obtain rfl := Option.some.inj hq37_
      exact con_pc (op := true) (I := [3]) (sp := law3_sp) 3000 (bF 13 (bT 4 (bF 4 (bT 1 (bF 1 (bT 1 (bF 12 (bT 4 (bF 13 []))))))))) [.one (.bool r0), .one (.bool r1), .agg [.list k2 c3, .one (.bool r4)], .tup [.agg [.list k5 c6, .list k7 c8], iD r9], .agg [.list k10 c11, .one (.bool r12)], .agg [.list k13 c14, .list k15 c16], .tup [.agg [.list k17 c18, .list k19 c20], .list k21 c22, iD r23], .agg [.list k24 c25, .one (.bool r26)], .agg [.list k27 c28, .list k29 c30], .tup [iD r31, iD r32], iD r33, .agg [.list k34 c35, .one (.bool r36)], iD r37, .one (.bool r38), iD r39, .tup [.agg [.list k41 c42, .list k43 c44], .list k45 c46, iD r47], .one (.bool r48)] [c_nn b5_, c_nn b10_, c_nn b10_, c_nn b10_, c_nn b10_, c_nn b10_, c_n b11_, c_n b11_, c_n b11_, c_n b11_, c_n b11_, c_n b13_, c_bn b39_, c_b bq1_, c_b bq1_, c_b bq1_, c_b bq1_, c_bn bq5_, c_bn bq5_, c_bn bq5_, c_bn bq5_, c_b bq1_, c_bn bq5_, c_b bq1_, c_nn bq10_, c_nn bq10_, c_nn bq10_, c_en bq1_, c_en bq1_, c_en bq1_, c_en bq1_, c_nn bq10_, c_en bq1_, c_nn bq10_, c_F, c_bn bq29_, c_e bq32_, c_e bq32_, c_e bq32_, c_e bq32_, c_q bq48_, c_q bq48_, c_q bq48_, c_q bq48_, c_F, c_F, c_F, c_F, c_F, c_F, c_F, c_F, c_F] [k_c f1_, k_c f6_, k_c f15_, k_c f17_, k_c f19_, k_c f21_, k_c f23_, k_c f25_, k_c f27_, k_c f29_, k_c f31_, k_c f33_, k_c f35_, k_c fq6_, k_c fq11_, k_c fq30_, k_c fq34_] (by kernel_rfl)
    have hq33_ := (if_neg bq32_).symm.trans hq31_
    have bq49_ : r23 ≠ r47 := by first | exact bq32_ | simpa using bq32_
    obtain rfl := Option.some.inj hq33_
    exact con_pc (op := true) (I := [3]) (sp := law3_sp) 3000 (bF 13 (bT 4 (bF 4 (bT 1 (bF 1 (bT 1 (bF 29 []))))))) [.one (.bool r0), .one (.bool r1), .agg [.list k2 c3, .one (.bool r4)], .tup [.agg [.list k5 c6, .list k7 c8], iD r9], .agg [.list k10 c11, .one (.bool r12)], .agg [.list k13 c14, .list k15 c16], .tup [.agg [.list k17 c18, .list k19 c20], .list k21 c22, iD r23], .agg [.list k24 c25, .one (.bool r26)], .agg [.list k27 c28, .list k29 c30], .tup [iD r31, iD r32], iD r33, .agg [.list k34 c35, .one (.bool r36)], iD r37, .one (.bool r38), iD r39, .tup [.agg [.list k41 c42, .list k43 c44], .list k45 c46, iD r47]] [c_nn b5_, c_nn b10_, c_nn b10_, c_nn b10_, c_nn b10_, c_nn b10_, c_n b11_, c_n b11_, c_n b11_, c_n b11_, c_n b11_, c_n b13_, c_bn b39_, c_b bq1_, c_b bq1_, c_b bq1_, c_b bq1_, c_bn bq5_, c_bn bq5_, c_bn bq5_, c_bn bq5_, c_b bq1_, c_bn bq5_, c_b bq1_, c_nn bq10_, c_nn bq10_, c_nn bq10_, c_en bq1_, c_en bq1_, c_en bq1_, c_en bq1_, c_nn bq10_, c_en bq1_, c_nn bq10_, c_F, c_bn bq29_, c_en bq49_, c_en bq49_, c_en bq49_, c_en bq49_, c_F, c_F, c_F, c_F, c_F, c_F, c_F, c_F, c_F, c_F, c_F, c_F, c_F] [k_c f1_, k_c f6_, k_c f15_, k_c f17_, k_c f19_, k_c f21_, k_c f23_, k_c f25_, k_c f27_, k_c f29_, k_c f31_, k_c f33_, k_c f35_, k_c fq6_, k_c fq11_, k_c fq30_] (by kernel_rfl)
  have hq2_ := (if_neg bq1_).symm.trans h
  have bq50_ : r33 = (0 : Int) := by first | exact bq1_ | simpa using bq1_
  by_cases bq51_ : r9 ≠ (0 : Int)
  · have hq52_ := (if_pos bq51_).symm.trans hq2_
    obtain rfl := Option.some.inj hq52_
    exact con_pc (op := true) (I := [3]) (sp := law3_sp) 3000 (bF 22 (bT 10 (bF 1 (bT 1 (bF 1 (bT 1 [])))))) [.one (.bool r0), .one (.bool r1), .agg [.list k2 c3, .one (.bool r4)], .tup [.agg [.list k5 c6, .list k7 c8], iD r9], .agg [.list k10 c11, .one (.bool r12)], .agg [.list k13 c14, .list k15 c16], .tup [.agg [.list k17 c18, .list k19 c20], .list k21 c22, iD r23], .agg [.list k24 c25, .one (.bool r26)], .agg [.list k27 c28, .list k29 c30], .tup [iD r31, iD r32], iD r33, .agg [.list k34 c35, .one (.bool r36)], iD r37] [c_nn b5_, c_nn b10_, c_nn b10_, c_nn b10_, c_nn b10_, c_nn b10_, c_n b11_, c_n b11_, c_n b11_, c_n b11_, c_n b11_, c_n b13_, c_bn b39_, c_bn bq50_, c_bn bq50_, c_bn bq50_, c_bn bq50_, c_bn bq50_, c_bn bq50_, c_F, c_F, c_F, c_e bq50_, c_e bq50_, c_e bq50_, c_b bq51_, c_b bq51_, c_b bq51_, c_b bq51_, c_b bq51_, c_e bq50_, c_b bq51_, c_F, c_e bq50_, c_F, c_T] [k_c f1_, k_c f6_, k_c f15_, k_c f17_, k_c f19_, k_c f21_, k_c f23_, k_c f25_, k_c f27_, k_c f29_, k_c f31_, k_c f33_, k_c f35_] (by kernel_rfl)
  have hq52_ := (if_neg bq51_).symm.trans hq2_
  have bq53_ : r9 = (0 : Int) := by first | exact bq51_ | simpa using bq51_
  obtain ⟨⟨k51, c52, k53, c54⟩, fq54_, hq55_⟩ := pullD_elim hq52_
  replace fq54_ := m_16_ok fq54_
  obtain ⟨r55, fq56_, hq57_⟩ := pullD_elim hq55_
  replace fq56_ := m_15_ok fq56_
  by_cases bq58_ : r55 = false
  · have hq59_ := (if_pos bq58_).symm.trans hq57_
    obtain rfl := Option.some.inj hq59_
    exact con_pc (op := true) (I := [3]) (sp := law3_sp) 3000 (bF 22 (bT 3 (bF 5 (bT 1 (bF 2 (bT 1 (bF 1 (bT 1 [])))))))) [.one (.bool r0), .one (.bool r1), .agg [.list k2 c3, .one (.bool r4)], .tup [.agg [.list k5 c6, .list k7 c8], iD r9], .agg [.list k10 c11, .one (.bool r12)], .agg [.list k13 c14, .list k15 c16], .tup [.agg [.list k17 c18, .list k19 c20], .list k21 c22, iD r23], .agg [.list k24 c25, .one (.bool r26)], .agg [.list k27 c28, .list k29 c30], .tup [iD r31, iD r32], iD r33, .agg [.list k34 c35, .one (.bool r36)], iD r37, .agg [.list k51 c52, .list k53 c54], .one (.bool r55)] [c_nn b5_, c_nn b10_, c_nn b10_, c_nn b10_, c_nn b10_, c_nn b10_, c_n b11_, c_n b11_, c_n b11_, c_n b11_, c_n b11_, c_n b13_, c_bn b39_, c_bn bq50_, c_bn bq50_, c_bn bq50_, c_bn bq50_, c_bn bq50_, c_bn bq50_, c_F, c_F, c_F, c_e bq50_, c_e bq50_, c_e bq50_, c_bn bq53_, c_bn bq53_, c_bn bq53_, c_bn bq53_, c_bn bq53_, c_e bq50_, c_bn bq53_, c_F, c_e bq50_, c_F, c_no bq58_] [k_c f1_, k_c f6_, k_c f15_, k_c f17_, k_c f19_, k_c f21_, k_c f23_, k_c f25_, k_c f27_, k_c f29_, k_c f31_, k_c f33_, k_c f35_, k_c fq54_, k_c fq56_] (by kernel_rfl)
  have hq59_ := (if_neg bq58_).symm.trans hq57_
  have bq60_ : r55 = true := by first | exact bq58_ | simpa using bq58_
  obtain ⟨r56, fq61_, hq62_⟩ := pullD_elim hq59_
  replace fq61_ := m_17_ok fq61_
  by_cases bq63_ : r56 ≠ (0 : Int)
  · have hq64_ := (if_pos bq63_).symm.trans hq62_
    by_cases bq65_ : r23 = r56
    · have hq66_ := (if_pos bq65_).symm.trans hq64_
      by_cases bq67_ : r32 = r56
      · have hq68_ := (if_pos bq67_).symm.trans hq66_
        obtain ⟨r57, fq69_, hq70_⟩ := pullD_elim hq68_
        replace fq69_ := m_15_ok fq69_
        by_cases bq71_ : (r57) = true
        · have hq72_ := (if_pos bq71_).symm.trans hq70_
          by_cases bq73_ : (k21 : Int) = (0 : Int)
          · have hq74_ := (if_pos bq73_).symm.trans hq72_
            obtain rfl := Option.some.inj hq74_
            exact con_pc (op := true) (I := [3]) (sp := law3_sp) 3000 (bF 22 (bT 3 (bF 5 (bT 1 (bF 2 (bT 1 (bF 2 (bT 16 [])))))))) [.one (.bool r0), .one (.bool r1), .agg [.list k2 c3, .one (.bool r4)], .tup [.agg [.list k5 c6, .list k7 c8], iD r9], .agg [.list k10 c11, .one (.bool r12)], .agg [.list k13 c14, .list k15 c16], .tup [.agg [.list k17 c18, .list k19 c20], .list k21 c22, iD r23], .agg [.list k24 c25, .one (.bool r26)], .agg [.list k27 c28, .list k29 c30], .tup [iD r31, iD r32], iD r33, .agg [.list k34 c35, .one (.bool r36)], iD r37, .agg [.list k51 c52, .list k53 c54], .one (.bool r55), iD r56, .one (.bool r57)] [c_nn b5_, c_nn b10_, c_nn b10_, c_nn b10_, c_nn b10_, c_nn b10_, c_n b11_, c_n b11_, c_n b11_, c_n b11_, c_n b11_, c_n b13_, c_bn b39_, c_bn bq50_, c_bn bq50_, c_bn bq50_, c_bn bq50_, c_bn bq50_, c_bn bq50_, c_F, c_F, c_F, c_e bq50_, c_e bq50_, c_e bq50_, c_bn bq53_, c_bn bq53_, c_bn bq53_, c_bn bq53_, c_bn bq53_, c_e bq50_, c_bn bq53_, c_F, c_e bq50_, c_F, c_nn bq60_, c_b bq63_, c_e bq65_, c_e bq65_, c_e bq65_, c_e bq65_, c_e bq67_, c_e bq67_, c_e bq67_, c_e bq67_, c_q bq71_, c_q bq71_, c_q bq71_, c_q bq71_, c_e bq73_, c_e bq73_, c_e bq73_] [k_c f1_, k_c f6_, k_c f15_, k_c f17_, k_c f19_, k_c f21_, k_c f23_, k_c f25_, k_c f27_, k_c f29_, k_c f31_, k_c f33_, k_c f35_, k_c fq54_, k_c fq56_, k_c fq61_, k_c fq69_] (by kernel_rfl)
          have hq74_ := (if_neg bq73_).symm.trans hq72_
          have bq75_ : (k21 : Int) ≠ (0 : Int) := by first | exact bq73_ | simpa using bq73_
          obtain rfl := Option.some.inj hq74_
          exact con_pc (op := true) (I := [3]) (sp := law3_sp) 3000 (bF 22 (bT 3 (bF 5 (bT 1 (bF 2 (bT 1 (bF 2 (bT 13 (bF 3 []))))))))) [.one (.bool r0), .one (.bool r1), .agg [.list k2 c3, .one (.bool r4)], .tup [.agg [.list k5 c6, .list k7 c8], iD r9], .agg [.list k10 c11, .one (.bool r12)], .agg [.list k13 c14, .list k15 c16], .tup [.agg [.list k17 c18, .list k19 c20], .list k21 c22, iD r23], .agg [.list k24 c25, .one (.bool r26)], .agg [.list k27 c28, .list k29 c30], .tup [iD r31, iD r32], iD r33, .agg [.list k34 c35, .one (.bool r36)], iD r37, .agg [.list k51 c52, .list k53 c54], .one (.bool r55), iD r56, .one (.bool r57)] [c_nn b5_, c_nn b10_, c_nn b10_, c_nn b10_, c_nn b10_, c_nn b10_, c_n b11_, c_n b11_, c_n b11_, c_n b11_, c_n b11_, c_n b13_, c_bn b39_, c_bn bq50_, c_bn bq50_, c_bn bq50_, c_bn bq50_, c_bn bq50_, c_bn bq50_, c_F, c_F, c_F, c_e bq50_, c_e bq50_, c_e bq50_, c_bn bq53_, c_bn bq53_, c_bn bq53_, c_bn bq53_, c_bn bq53_, c_e bq50_, c_bn bq53_, c_F, c_e bq50_, c_F, c_nn bq60_, c_b bq63_, c_e bq65_, c_e bq65_, c_e bq65_, c_e bq65_, c_e bq67_, c_e bq67_, c_e bq67_, c_e bq67_, c_q bq71_, c_q bq71_, c_q bq71_, c_q bq71_, c_en bq75_, c_en bq75_, c_en bq75_] [k_c f1_, k_c f6_, k_c f15_, k_c f17_, k_c f19_, k_c f21_, k_c f23_, k_c f25_, k_c f27_, k_c f29_, k_c f31_, k_c f33_, k_c f35_, k_c fq54_, k_c fq56_, k_c fq61_, k_c fq69_] (by kernel_rfl)
        have hq72_ := (if_neg bq71_).symm.trans hq70_
        have bq76_ : (r57) = false := by first | exact bq71_ | simpa using bq71_
        obtain rfl := Option.some.inj hq72_
        exact con_pc (op := true) (I := [3]) (sp := law3_sp) 3000 (bF 22 (bT 3 (bF 5 (bT 1 (bF 2 (bT 1 (bF 2 (bT 9 (bF 7 []))))))))) [.one (.bool r0), .one (.bool r1), .agg [.list k2 c3, .one (.bool r4)], .tup [.agg [.list k5 c6, .list k7 c8], iD r9], .agg [.list k10 c11, .one (.bool r12)], .agg [.list k13 c14, .list k15 c16], .tup [.agg [.list k17 c18, .list k19 c20], .list k21 c22, iD r23], .agg [.list k24 c25, .one (.bool r26)], .agg [.list k27 c28, .list k29 c30], .tup [iD r31, iD r32], iD r33, .agg [.list k34 c35, .one (.bool r36)], iD r37, .agg [.list k51 c52, .list k53 c54], .one (.bool r55), iD r56, .one (.bool r57)] [c_nn b5_, c_nn b10_, c_nn b10_, c_nn b10_, c_nn b10_, c_nn b10_, c_n b11_, c_n b11_, c_n b11_, c_n b11_, c_n b11_, c_n b13_, c_bn b39_, c_bn bq50_, c_bn bq50_, c_bn bq50_, c_bn bq50_, c_bn bq50_, c_bn bq50_, c_F, c_F, c_F, c_e bq50_, c_e bq50_, c_e bq50_, c_bn bq53_, c_bn bq53_, c_bn bq53_, c_bn bq53_, c_bn bq53_, c_e bq50_, c_bn bq53_, c_F, c_e bq50_, c_F, c_nn bq60_, c_b bq63_, c_e bq65_, c_e bq65_, c_e bq65_, c_e bq65_, c_e bq67_, c_e bq67_, c_e bq67_, c_e bq67_, c_q bq76_, c_q bq76_, c_q bq76_, c_q bq76_, c_F, c_F, c_F] [k_c f1_, k_c f6_, k_c f15_, k_c f17_, k_c f19_, k_c f21_, k_c f23_, k_c f25_, k_c f27_, k_c f29_, k_c f31_, k_c f33_, k_c f35_, k_c fq54_, k_c fq56_, k_c fq61_, k_c fq69_] (by kernel_rfl)
      have hq68_ := (if_neg bq67_).symm.trans hq66_
      have bq77_ : r32 ≠ r56 := by first | exact bq67_ | simpa using bq67_
      obtain rfl := Option.some.inj hq68_
      exact con_pc (op := true) (I := [3]) (sp := law3_sp) 3000 (bF 22 (bT 3 (bF 5 (bT 1 (bF 2 (bT 1 (bF 2 (bT 5 (bF 11 []))))))))) [.one (.bool r0), .one (.bool r1), .agg [.list k2 c3, .one (.bool r4)], .tup [.agg [.list k5 c6, .list k7 c8], iD r9], .agg [.list k10 c11, .one (.bool r12)], .agg [.list k13 c14, .list k15 c16], .tup [.agg [.list k17 c18, .list k19 c20], .list k21 c22, iD r23], .agg [.list k24 c25, .one (.bool r26)], .agg [.list k27 c28, .list k29 c30], .tup [iD r31, iD r32], iD r33, .agg [.list k34 c35, .one (.bool r36)], iD r37, .agg [.list k51 c52, .list k53 c54], .one (.bool r55), iD r56] [c_nn b5_, c_nn b10_, c_nn b10_, c_nn b10_, c_nn b10_, c_nn b10_, c_n b11_, c_n b11_, c_n b11_, c_n b11_, c_n b11_, c_n b13_, c_bn b39_, c_bn bq50_, c_bn bq50_, c_bn bq50_, c_bn bq50_, c_bn bq50_, c_bn bq50_, c_F, c_F, c_F, c_e bq50_, c_e bq50_, c_e bq50_, c_bn bq53_, c_bn bq53_, c_bn bq53_, c_bn bq53_, c_bn bq53_, c_e bq50_, c_bn bq53_, c_F, c_e bq50_, c_F, c_nn bq60_, c_b bq63_, c_e bq65_, c_e bq65_, c_e bq65_, c_e bq65_, c_en bq77_, c_en bq77_, c_en bq77_, c_en bq77_, c_F, c_F, c_F, c_F, c_F, c_F, c_F] [k_c f1_, k_c f6_, k_c f15_, k_c f17_, k_c f19_, k_c f21_, k_c f23_, k_c f25_, k_c f27_, k_c f29_, k_c f31_, k_c f33_, k_c f35_, k_c fq54_, k_c fq56_, k_c fq61_] (by kernel_rfl)
    have hq66_ := (if_neg bq65_).symm.trans hq64_
    have bq78_ : r23 ≠ r56 := by first | exact bq65_ | simpa using bq65_
    obtain rfl := Option.some.inj hq66_
    exact con_pc (op := true) (I := [3]) (sp := law3_sp) 3000 (bF 22 (bT 3 (bF 5 (bT 1 (bF 2 (bT 1 (bF 2 (bT 1 (bF 15 []))))))))) [.one (.bool r0), .one (.bool r1), .agg [.list k2 c3, .one (.bool r4)], .tup [.agg [.list k5 c6, .list k7 c8], iD r9], .agg [.list k10 c11, .one (.bool r12)], .agg [.list k13 c14, .list k15 c16], .tup [.agg [.list k17 c18, .list k19 c20], .list k21 c22, iD r23], .agg [.list k24 c25, .one (.bool r26)], .agg [.list k27 c28, .list k29 c30], .tup [iD r31, iD r32], iD r33, .agg [.list k34 c35, .one (.bool r36)], iD r37, .agg [.list k51 c52, .list k53 c54], .one (.bool r55), iD r56] [c_nn b5_, c_nn b10_, c_nn b10_, c_nn b10_, c_nn b10_, c_nn b10_, c_n b11_, c_n b11_, c_n b11_, c_n b11_, c_n b11_, c_n b13_, c_bn b39_, c_bn bq50_, c_bn bq50_, c_bn bq50_, c_bn bq50_, c_bn bq50_, c_bn bq50_, c_F, c_F, c_F, c_e bq50_, c_e bq50_, c_e bq50_, c_bn bq53_, c_bn bq53_, c_bn bq53_, c_bn bq53_, c_bn bq53_, c_e bq50_, c_bn bq53_, c_F, c_e bq50_, c_F, c_nn bq60_, c_b bq63_, c_en bq78_, c_en bq78_, c_en bq78_, c_en bq78_, c_F, c_F, c_F, c_F, c_F, c_F, c_F, c_F, c_F, c_F, c_F] [k_c f1_, k_c f6_, k_c f15_, k_c f17_, k_c f19_, k_c f21_, k_c f23_, k_c f25_, k_c f27_, k_c f29_, k_c f31_, k_c f33_, k_c f35_, k_c fq54_, k_c fq56_, k_c fq61_] (by kernel_rfl)
  have hq64_ := (if_neg bq63_).symm.trans hq62_
  have bq79_ : r56 = (0 : Int) := by first | exact bq63_ | simpa using bq63_
  obtain ⟨⟨k58, c59, k60, c61, k62, c63, r64⟩, fq80_, hq81_⟩ := pullD_elim hq64_
  replace fq80_ := m_18_ok fq80_
  by_cases bq82_ : r23 = r64
  · have hq83_ := (if_pos bq82_).symm.trans hq81_
    obtain ⟨r65, fq84_, hq85_⟩ := pullD_elim hq83_
    replace fq84_ := m_15_ok fq84_
    by_cases bq86_ : (r65) = true
    · have hq87_ := (if_pos bq86_).symm.trans hq85_
      obtain ⟨r66, fq88_, hq89_⟩ := pullD_elim hq87_
      replace fq88_ := m_19_ok fq88_
      by_cases bq90_ : (r66) = true
      · have hq91_ := (if_pos bq90_).symm.trans hq89_
        by_cases bq92_ : r32 = (0 : Int)
        · have hq93_ := (if_pos bq92_).symm.trans hq91_
          obtain ⟨r67, fq94_, hq95_⟩ := pullD_elim hq93_
          replace fq94_ := m_20_ok fq94_
          obtain rfl := Option.some.inj hq95_
          exact con_pc (op := true) (I := [3]) (sp := law3_sp) 3000 (bF 22 (bT 3 (bF 5 (bT 1 (bF 2 (bT 1 (bF 3 (bT 17 [])))))))) [.one (.bool r0), .one (.bool r1), .agg [.list k2 c3, .one (.bool r4)], .tup [.agg [.list k5 c6, .list k7 c8], iD r9], .agg [.list k10 c11, .one (.bool r12)], .agg [.list k13 c14, .list k15 c16], .tup [.agg [.list k17 c18, .list k19 c20], .list k21 c22, iD r23], .agg [.list k24 c25, .one (.bool r26)], .agg [.list k27 c28, .list k29 c30], .tup [iD r31, iD r32], iD r33, .agg [.list k34 c35, .one (.bool r36)], iD r37, .agg [.list k51 c52, .list k53 c54], .one (.bool r55), iD r56, .tup [.agg [.list k58 c59, .list k60 c61], .list k62 c63, iD r64], .one (.bool r65), .one (.bool r66), iD r67] [c_nn b5_, c_nn b10_, c_nn b10_, c_nn b10_, c_nn b10_, c_nn b10_, c_n b11_, c_n b11_, c_n b11_, c_n b11_, c_n b11_, c_n b13_, c_bn b39_, c_bn bq50_, c_bn bq50_, c_bn bq50_, c_bn bq50_, c_bn bq50_, c_bn bq50_, c_F, c_F, c_F, c_e bq50_, c_e bq50_, c_e bq50_, c_bn bq53_, c_bn bq53_, c_bn bq53_, c_bn bq53_, c_bn bq53_, c_e bq50_, c_bn bq53_, c_F, c_e bq50_, c_F, c_nn bq60_, c_bn bq79_, c_e bq82_, c_e bq82_, c_e bq82_, c_e bq82_, c_q bq86_, c_q bq86_, c_q bq86_, c_q bq86_, c_q bq90_, c_q bq90_, c_q bq90_, c_e bq92_, c_e bq92_, c_e bq92_, c_e bq92_, c_e bq92_, c_e bq92_] [k_c f1_, k_c f6_, k_c f15_, k_c f17_, k_c f19_, k_c f21_, k_c f23_, k_c f25_, k_c f27_, k_c f29_, k_c f31_, k_c f33_, k_c f35_, k_c fq54_, k_c fq56_, k_c fq61_, k_c fq80_, k_c fq84_, k_c fq88_, k_c fq94_] (by kernel_rfl)
        have hq93_ := (if_neg bq92_).symm.trans hq91_
        have bq96_ : r32 ≠ (0 : Int) := by first | exact bq92_ | simpa using bq92_
        obtain rfl := Option.some.inj hq93_
        exact con_pc (op := true) (I := [3]) (sp := law3_sp) 3000 (bF 22 (bT 3 (bF 5 (bT 1 (bF 2 (bT 1 (bF 3 (bT 11 (bF 6 []))))))))) [.one (.bool r0), .one (.bool r1), .agg [.list k2 c3, .one (.bool r4)], .tup [.agg [.list k5 c6, .list k7 c8], iD r9], .agg [.list k10 c11, .one (.bool r12)], .agg [.list k13 c14, .list k15 c16], .tup [.agg [.list k17 c18, .list k19 c20], .list k21 c22, iD r23], .agg [.list k24 c25, .one (.bool r26)], .agg [.list k27 c28, .list k29 c30], .tup [iD r31, iD r32], iD r33, .agg [.list k34 c35, .one (.bool r36)], iD r37, .agg [.list k51 c52, .list k53 c54], .one (.bool r55), iD r56, .tup [.agg [.list k58 c59, .list k60 c61], .list k62 c63, iD r64], .one (.bool r65), .one (.bool r66)] [c_nn b5_, c_nn b10_, c_nn b10_, c_nn b10_, c_nn b10_, c_nn b10_, c_n b11_, c_n b11_, c_n b11_, c_n b11_, c_n b11_, c_n b13_, c_bn b39_, c_bn bq50_, c_bn bq50_, c_bn bq50_, c_bn bq50_, c_bn bq50_, c_bn bq50_, c_F, c_F, c_F, c_e bq50_, c_e bq50_, c_e bq50_, c_bn bq53_, c_bn bq53_, c_bn bq53_, c_bn bq53_, c_bn bq53_, c_e bq50_, c_bn bq53_, c_F, c_e bq50_, c_F, c_nn bq60_, c_bn bq79_, c_e bq82_, c_e bq82_, c_e bq82_, c_e bq82_, c_q bq86_, c_q bq86_, c_q bq86_, c_q bq86_, c_q bq90_, c_q bq90_, c_q bq90_, c_en bq96_, c_en bq96_, c_en bq96_, c_en bq96_, c_en bq96_, c_en bq96_] [k_c f1_, k_c f6_, k_c f15_, k_c f17_, k_c f19_, k_c f21_, k_c f23_, k_c f25_, k_c f27_, k_c f29_, k_c f31_, k_c f33_, k_c f35_, k_c fq54_, k_c fq56_, k_c fq61_, k_c fq80_, k_c fq84_, k_c fq88_] (by kernel_rfl)
      have hq91_ := (if_neg bq90_).symm.trans hq89_
      have bq97_ : (r66) = false := by first | exact bq90_ | simpa using bq90_
      obtain rfl := Option.some.inj hq91_
      exact con_pc (op := true) (I := [3]) (sp := law3_sp) 3000 (bF 22 (bT 3 (bF 5 (bT 1 (bF 2 (bT 1 (bF 3 (bT 8 (bF 9 []))))))))) [.one (.bool r0), .one (.bool r1), .agg [.list k2 c3, .one (.bool r4)], .tup [.agg [.list k5 c6, .list k7 c8], iD r9], .agg [.list k10 c11, .one (.bool r12)], .agg [.list k13 c14, .list k15 c16], .tup [.agg [.list k17 c18, .list k19 c20], .list k21 c22, iD r23], .agg [.list k24 c25, .one (.bool r26)], .agg [.list k27 c28, .list k29 c30], .tup [iD r31, iD r32], iD r33, .agg [.list k34 c35, .one (.bool r36)], iD r37, .agg [.list k51 c52, .list k53 c54], .one (.bool r55), iD r56, .tup [.agg [.list k58 c59, .list k60 c61], .list k62 c63, iD r64], .one (.bool r65), .one (.bool r66)] [c_nn b5_, c_nn b10_, c_nn b10_, c_nn b10_, c_nn b10_, c_nn b10_, c_n b11_, c_n b11_, c_n b11_, c_n b11_, c_n b11_, c_n b13_, c_bn b39_, c_bn bq50_, c_bn bq50_, c_bn bq50_, c_bn bq50_, c_bn bq50_, c_bn bq50_, c_F, c_F, c_F, c_e bq50_, c_e bq50_, c_e bq50_, c_bn bq53_, c_bn bq53_, c_bn bq53_, c_bn bq53_, c_bn bq53_, c_e bq50_, c_bn bq53_, c_F, c_e bq50_, c_F, c_nn bq60_, c_bn bq79_, c_e bq82_, c_e bq82_, c_e bq82_, c_e bq82_, c_q bq86_, c_q bq86_, c_q bq86_, c_q bq86_, c_q bq97_, c_q bq97_, c_q bq97_, c_F, c_F, c_F, c_F, c_F, c_F] [k_c f1_, k_c f6_, k_c f15_, k_c f17_, k_c f19_, k_c f21_, k_c f23_, k_c f25_, k_c f27_, k_c f29_, k_c f31_, k_c f33_, k_c f35_, k_c fq54_, k_c fq56_, k_c fq61_, k_c fq80_, k_c fq84_, k_c fq88_] (by kernel_rfl)
    have hq87_ := (if_neg bq86_).symm.trans hq85_
    have bq98_ : (r65) = false := by first | exact bq86_ | simpa using bq86_
    obtain rfl := Option.some.inj hq87_
    exact con_pc (op := true) (I := [3]) (sp := law3_sp) 3000 (bF 22 (bT 3 (bF 5 (bT 1 (bF 2 (bT 1 (bF 3 (bT 4 (bF 13 []))))))))) [.one (.bool r0), .one (.bool r1), .agg [.list k2 c3, .one (.bool r4)], .tup [.agg [.list k5 c6, .list k7 c8], iD r9], .agg [.list k10 c11, .one (.bool r12)], .agg [.list k13 c14, .list k15 c16], .tup [.agg [.list k17 c18, .list k19 c20], .list k21 c22, iD r23], .agg [.list k24 c25, .one (.bool r26)], .agg [.list k27 c28, .list k29 c30], .tup [iD r31, iD r32], iD r33, .agg [.list k34 c35, .one (.bool r36)], iD r37, .agg [.list k51 c52, .list k53 c54], .one (.bool r55), iD r56, .tup [.agg [.list k58 c59, .list k60 c61], .list k62 c63, iD r64], .one (.bool r65)] [c_nn b5_, c_nn b10_, c_nn b10_, c_nn b10_, c_nn b10_, c_nn b10_, c_n b11_, c_n b11_, c_n b11_, c_n b11_, c_n b11_, c_n b13_, c_bn b39_, c_bn bq50_, c_bn bq50_, c_bn bq50_, c_bn bq50_, c_bn bq50_, c_bn bq50_, c_F, c_F, c_F, c_e bq50_, c_e bq50_, c_e bq50_, c_bn bq53_, c_bn bq53_, c_bn bq53_, c_bn bq53_, c_bn bq53_, c_e bq50_, c_bn bq53_, c_F, c_e bq50_, c_F, c_nn bq60_, c_bn bq79_, c_e bq82_, c_e bq82_, c_e bq82_, c_e bq82_, c_q bq98_, c_q bq98_, c_q bq98_, c_q bq98_, c_F, c_F, c_F, c_F, c_F, c_F, c_F, c_F, c_F] [k_c f1_, k_c f6_, k_c f15_, k_c f17_, k_c f19_, k_c f21_, k_c f23_, k_c f25_, k_c f27_, k_c f29_, k_c f31_, k_c f33_, k_c f35_, k_c fq54_, k_c fq56_, k_c fq61_, k_c fq80_, k_c fq84_] (by kernel_rfl)
  have hq83_ := (if_neg bq82_).symm.trans hq81_
  have bq99_ : r23 ≠ r64 := by first | exact bq82_ | simpa using bq82_
  obtain rfl := Option.some.inj hq83_
  exact con_pc (op := true) (I := [3]) (sp := law3_sp) 3000 (bF 22 (bT 3 (bF 5 (bT 1 (bF 2 (bT 1 (bF 20 []))))))) [.one (.bool r0), .one (.bool r1), .agg [.list k2 c3, .one (.bool r4)], .tup [.agg [.list k5 c6, .list k7 c8], iD r9], .agg [.list k10 c11, .one (.bool r12)], .agg [.list k13 c14, .list k15 c16], .tup [.agg [.list k17 c18, .list k19 c20], .list k21 c22, iD r23], .agg [.list k24 c25, .one (.bool r26)], .agg [.list k27 c28, .list k29 c30], .tup [iD r31, iD r32], iD r33, .agg [.list k34 c35, .one (.bool r36)], iD r37, .agg [.list k51 c52, .list k53 c54], .one (.bool r55), iD r56, .tup [.agg [.list k58 c59, .list k60 c61], .list k62 c63, iD r64]] [c_nn b5_, c_nn b10_, c_nn b10_, c_nn b10_, c_nn b10_, c_nn b10_, c_n b11_, c_n b11_, c_n b11_, c_n b11_, c_n b11_, c_n b13_, c_bn b39_, c_bn bq50_, c_bn bq50_, c_bn bq50_, c_bn bq50_, c_bn bq50_, c_bn bq50_, c_F, c_F, c_F, c_e bq50_, c_e bq50_, c_e bq50_, c_bn bq53_, c_bn bq53_, c_bn bq53_, c_bn bq53_, c_bn bq53_, c_e bq50_, c_bn bq53_, c_F, c_e bq50_, c_F, c_nn bq60_, c_bn bq79_, c_en bq99_, c_en bq99_, c_en bq99_, c_en bq99_, c_F, c_F, c_F, c_F, c_F, c_F, c_F, c_F, c_F, c_F, c_F, c_F, c_F] [k_c f1_, k_c f6_, k_c f15_, k_c f17_, k_c f19_, k_c f21_, k_c f23_, k_c f25_, k_c f27_, k_c f29_, k_c f31_, k_c f33_, k_c f35_, k_c fq54_, k_c fq56_, k_c fq61_, k_c fq80_] (by kernel_rfl)
theorem law3_M_ok (ky : Nat) (cy : List D) (er : Bool) (ka : Nat) (ca : List D) (kb : Nat) (cb : List D) (src : Int) {r : D} (h : law3_M ky cy er ka ca kb cb src = some r) : Con 3 [.agg [.list ky cy, .one (.bool er)], .agg [.list ka ca, .list kb cb], iD src] r := by
  unfold law3_M at h
  obtain ⟨r0, f1_, h2_⟩ := pullD_elim h
  replace f1_ := m_6_ok f1_
  by_cases b3_ : r0 = false
  · have h4_ := (if_pos b3_).symm.trans h2_
    obtain rfl := Option.some.inj h4_
    exact con_pc (op := true) (I := [3]) (sp := law3_sp) 3000 (bT 1 []) [.one (.bool r0)] [c_no b3_] [k_c f1_] (by kernel_rfl)
  have h4_ := (if_neg b3_).symm.trans h2_
  have b5_ : r0 = true := by first | exact b3_ | simpa using b3_
  obtain ⟨r1, f6_, h7_⟩ := pullD_elim h4_
  replace f6_ := m_7_ok f6_
  by_cases b8_ : r1 = false
  · have h9_ := (if_pos b8_).symm.trans h7_
    obtain rfl := Option.some.inj h9_
    exact con_pc (op := true) (I := [3]) (sp := law3_sp) 3000 (bF 1 (bT 11 [])) [.one (.bool r0), .one (.bool r1)] [c_nn b5_, c_no b8_, c_no b8_, c_no b8_, c_no b8_, c_no b8_, c_T, c_T, c_T, c_T, c_T, c_T] [k_c f1_, k_c f6_] (by kernel_rfl)
  have h9_ := (if_neg b8_).symm.trans h7_
  have b10_ : r1 = true := by first | exact b8_ | simpa using b8_
  by_cases b11_ : (ka : Int) > (12 : Int)
  · have h12_ := (if_pos b11_).symm.trans h9_
    obtain rfl := Option.some.inj h12_
    exact con_pc (op := true) (I := [3]) (sp := law3_sp) 3000 (bF 6 (bT 6 [])) [.one (.bool r0), .one (.bool r1)] [c_nn b5_, c_nn b10_, c_nn b10_, c_nn b10_, c_nn b10_, c_nn b10_, c_d b11_, c_d b11_, c_d b11_, c_d b11_, c_d b11_, c_T] [k_c f1_, k_c f6_] (by kernel_rfl)
  have h12_ := (if_neg b11_).symm.trans h9_
  by_cases b13_ : (kb : Int) > (12 : Int)
  · have h14_ := (if_pos b13_).symm.trans h12_
    obtain rfl := Option.some.inj h14_
    exact con_pc (op := true) (I := [3]) (sp := law3_sp) 3000 (bF 11 (bT 1 [])) [.one (.bool r0), .one (.bool r1)] [c_nn b5_, c_nn b10_, c_nn b10_, c_nn b10_, c_nn b10_, c_nn b10_, c_n b11_, c_n b11_, c_n b11_, c_n b11_, c_n b11_, c_d b13_] [k_c f1_, k_c f6_] (by kernel_rfl)
  have h14_ := (if_neg b13_).symm.trans h12_
  obtain ⟨⟨k2, c3, r4⟩, f15_, h16_⟩ := pullD_elim h14_
  replace f15_ := m_9_ok f15_
  obtain ⟨⟨k5, c6, k7, c8, r9⟩, f17_, h18_⟩ := pullD_elim h16_
  replace f17_ := m_8_ok f17_
  obtain ⟨⟨k10, c11, r12⟩, f19_, h20_⟩ := pullD_elim h18_
  replace f19_ := m_9_ok f19_
  obtain ⟨⟨k13, c14, k15, c16⟩, f21_, h22_⟩ := pullD_elim h20_
  replace f21_ := m_11_ok f21_
  obtain ⟨⟨k17, c18, k19, c20, k21, c22, r23⟩, f23_, h24_⟩ := pullD_elim h22_
  replace f23_ := m_10_ok f23_
  obtain ⟨⟨k24, c25, r26⟩, f25_, h26_⟩ := pullD_elim h24_
  replace f25_ := m_9_ok f25_
  obtain ⟨⟨k27, c28, k29, c30⟩, f27_, h28_⟩ := pullD_elim h26_
  replace f27_ := m_11_ok f27_
  obtain ⟨⟨r31, r32⟩, f29_, h30_⟩ := pullD_elim h28_
  replace f29_ := m_12_ok f29_
  obtain ⟨r33, f31_, h32_⟩ := pullD_elim h30_
  replace f31_ := m_13_ok f31_
  obtain ⟨⟨k34, c35, r36⟩, f33_, h34_⟩ := pullD_elim h32_
  replace f33_ := m_9_ok f33_
  obtain ⟨r37, f35_, h36_⟩ := pullD_elim h34_
  replace f35_ := m_14_ok f35_
  by_cases b37_ : r37 ≠ r33
  · have h38_ := (if_pos b37_).symm.trans h36_
    obtain rfl := Option.some.inj h38_
    exact con_pc (op := true) (I := [3]) (sp := law3_sp) 3000 (bF 12 (bT 1 [])) [.one (.bool r0), .one (.bool r1), .agg [.list k2 c3, .one (.bool r4)], .tup [.agg [.list k5 c6, .list k7 c8], iD r9], .agg [.list k10 c11, .one (.bool r12)], .agg [.list k13 c14, .list k15 c16], .tup [.agg [.list k17 c18, .list k19 c20], .list k21 c22, iD r23], .agg [.list k24 c25, .one (.bool r26)], .agg [.list k27 c28, .list k29 c30], .tup [iD r31, iD r32], iD r33, .agg [.list k34 c35, .one (.bool r36)], iD r37] [c_nn b5_, c_nn b10_, c_nn b10_, c_nn b10_, c_nn b10_, c_nn b10_, c_n b11_, c_n b11_, c_n b11_, c_n b11_, c_n b11_, c_n b13_, c_b b37_] [k_c f1_, k_c f6_, k_c f15_, k_c f17_, k_c f19_, k_c f21_, k_c f23_, k_c f25_, k_c f27_, k_c f29_, k_c f31_, k_c f33_, k_c f35_] (by kernel_rfl)
  have h38_ := (if_neg b37_).symm.trans h36_
  have b39_ : r37 = r33 := by first | exact b37_ | simpa using b37_
  exact law3_M_s0_ok ky cy er ka ca kb cb src r0 r1 k2 c3 r4 k5 c6 k7 c8 r9 k10 c11 r12 k13 c14 k15 c16 k17 c18 k19 c20 k21 c22 r23 k24 c25 r26 k27 c28 k29 c30 r31 r32 r33 k34 c35 r36 r37 f1_ b5_ f6_ b10_ b11_ b13_ f15_ f17_ f19_ f21_ f23_ f25_ f27_ f29_ f31_ f33_ f35_ b39_ h38_
def m_3 (ds : List D) : Option D := pullD (α := Nat × (List D) × Bool × Nat × (List D) × Nat × (List D) × Int) (some (.tup ds)) (fun d => ((D.ln (D.at (D.at d 0) 0)), (D.lc (D.at (D.at d 0) 0)), (D.vb (D.at (D.at d 0) 1)), (D.ln (D.at (D.at d 1) 0)), (D.lc (D.at (D.at d 1) 0)), (D.ln (D.at (D.at d 1) 1)), (D.lc (D.at (D.at d 1) 1)), (D.vi (D.at d 2)))) (fun (ky, cy, er, ka, ca, kb, cb, src) => .tup [.agg [.list ky cy, .one (.bool er)], .agg [.list ka ca, .list kb cb], iD src]) fun (ky, cy, er, ka, ca, kb, cb, src) => law3_M ky cy er ka ca kb cb src
theorem m_3_ok {ds : List D} {r : D} (h : m_3 ds = some r) : Con 3 ds r := by
  unfold m_3 at h
  obtain ⟨⟨ky, cy, er, ka, ca, kb, cb, src⟩, e0, h0⟩ := pullD_elim h
  obtain rfl := tup_inj e0
  exact law3_M_ok ky cy er ka ca kb cb src h0
theorem m_3_eq (ky : Nat) (cy : List D) (er : Bool) (ka : Nat) (ca : List D) (kb : Nat) (cb : List D) (src : Int) : m_3 [.agg [.list ky cy, .one (.bool er)], .agg [.list ka ca, .list kb cb], iD src] = law3_M ky cy er ka ca kb cb src := pullD_some (ky, cy, er, ka, ca, kb, cb, src) rfl rfl
end
end Go.Proofs.Ytfdehaafbkhclaa
/- Lines and states: the law of steps. -/
namespace Go.Proofs.Ytfdehaafbkhclaa
open Go.Ev Go.RowKit
set_option maxRecDepth 100000
section
variable {y a b : List Int}
theorem same_nil : m_15 [stD [] [], stD [] []] = some (.one (.bool true)) := same_eq [] [] (by decide) (by decide)
theorem pullT {β : Type} (u v w : List Int) (e : Int) (kk : Nat × List D × Nat × List D × Nat × List D × Int → Option β) :
    pullD (some (.tup [stD u v, lD w, iD e])) (fun d => (D.ln (D.at (D.at d 0) 0), D.lc (D.at (D.at d 0) 0), D.ln (D.at (D.at d 0) 1), D.lc (D.at (D.at d 0) 1), D.ln (D.at d 1), D.lc (D.at d 1), D.vi (D.at d 2))) (fun (z : Nat × List D × Nat × List D × Nat × List D × Int) => match z with | (k1, c1, k2, c2, k3, c3, r) => D.tup [.agg [.list k1 c1, .list k2 c2], .list k3 c3, iD r]) kk = kk (u.length, u.map iD, v.length, v.map iD, w.length, w.map iD, e) :=
  pullD_some (u.length, u.map iD, v.length, v.map iD, w.length, w.map iD, e) rfl rfl
theorem stepV_tup (h : Ok y a b) (er : Bool) (src : Int) : ∃ (u v w : List Int) (e : Int), (if -1000000 ≤ src ∧ src ≤ 1000000 then stepV y a b er src else noSt 2) = .tup [stD u v, lD w, iD e] ∧ u.length ≤ 1000 ∧ v.length ≤ 1000 ∧ w.length ≤ 1000 := by
  have hle := h.le
  by_cases hs : -1000000 ≤ src ∧ src ≤ 1000000
  · rw [if_pos hs]
    unfold stepV
    by_cases p : wavE (tab y.length (fwF y a b src)) ≠ 0
    · rw [if_pos p]; exact ⟨[], [], [], 22, rfl, by decide, by decide, by decide⟩
    rw [if_neg p]
    by_cases p2 : wavE (tab y.length (bkF y a b er y.length)) ≠ 0
    · rw [if_pos p2]; exact ⟨[], [], [], 22, rfl, by decide, by decide, by decide⟩
    · rw [if_neg p2]; exact ⟨_, _, _, _, rfl, by rw [tab_len]; omega, by rw [tab_len]; omega, by rw [tab_len]; omega⟩
  · rw [if_neg hs]; exact ⟨[], [], [], 2, rfl, by decide, by decide, by decide⟩
theorem law3_eq (y a b : List Int) (er : Bool) (src : Int) : m_3 [lnD y er, stD a b, iD src] = some (.one (.bool true)) := by
  rw [m_3_eq]
  unfold law3_M
  have foldL : [D.agg [D.list y.length (y.map iD), D.one (.bool er)]] = [lnD y er] := rfl
  have foldS : [D.agg [D.list a.length (a.map iD), D.list b.length (b.map iD)]] = [stD a b] := rfl
  have foldLS : [D.agg [D.list y.length (y.map iD), D.one (.bool er)], D.agg [D.list a.length (a.map iD), D.list b.length (b.map iD)]] = [lnD y er, stD a b] := rfl
  have foldLSI : [D.agg [D.list y.length (y.map iD), D.one (.bool er)], D.agg [D.list a.length (a.map iD), D.list b.length (b.map iD)], iD src] = [lnD y er, stD a b, iD src] := rfl
  rw [m_6_eq, pullB, if_neg (by decide), foldL, few_eq, pullB]
  by_cases f1 : (y.length : Int) ≤ 12
  rotate_left
  · rw [if_pos (by simpa using f1)]
  rw [if_neg (by simpa using f1)]
  by_cases f2 : (a.length : Int) > 12
  · rw [if_pos f2]
  rw [if_neg f2]
  by_cases f3 : (b.length : Int) > 12
  · rw [if_pos f3]
  rw [if_neg f3]
  have hl : y.length ≤ 1000 := by omega
  have ha : a.length ≤ 1000 := by omega
  have hb : b.length ≤ 1000 := by omega
  have cL := copyLine_eq y er hl
  have cS := copyState_eq a b ha hb
  have pL : ∀ {β : Type} (kk : Nat × List D × Bool → Option β), pullD (some (lnD y er)) (fun d => (D.ln (D.at d 0), D.lc (D.at d 0), D.vb (D.at d 1))) (fun (z : Nat × List D × Bool) => match z with | (k2, c3, r4) => D.agg [.list k2 c3, .one (.bool r4)]) kk = kk (y.length, y.map iD, er) := fun kk => pullD_some (y.length, y.map iD, er) rfl rfl
  have pS : ∀ {β : Type} (kk : Nat × List D × Nat × List D → Option β), pullD (some (stD a b)) (fun d => (D.ln (D.at d 0), D.lc (D.at d 0), D.ln (D.at d 1), D.lc (D.at d 1))) (fun (z : Nat × List D × Nat × List D) => match z with | (k13, c14, k15, c16) => D.agg [.list k13 c14, .list k15 c16]) kk = kk (a.length, a.map iD, b.length, b.map iD) := fun kk => pullD_some (a.length, a.map iD, b.length, b.map iD) rfl rfl
  obtain ⟨bu, bv, be, hbg, hbl1, hbl2, hbe⟩ : ∃ (u v : List Int) (e : Int), m_8 [lnD y er] = some (.tup [stD u v, iD e]) ∧ u.length ≤ 1000 ∧ v.length ≤ 1000 ∧ ((lineE y ≠ 0 ∧ u = [] ∧ v = [] ∧ e = lineE y) ∨ (lineE y = 0 ∧ u = zs y.length ∧ v = zs y.length ∧ e = 0)) := by
    have := beginC_eq y er hl
    by_cases q : lineE y ≠ 0
    · rw [if_pos q] at this
      exact ⟨[], [], lineE y, this, by decide, by decide, .inl ⟨q, rfl, rfl, rfl⟩⟩
    · rw [if_neg q] at this
      exact ⟨zs y.length, zs y.length, 0, this, by rw [tab_len]; exact hl, by rw [tab_len]; exact hl, .inr ⟨by omega, rfl, rfl, rfl⟩⟩
  rw [cL, pL]
  dsimp only
  rw [foldL, hbg, pullD_some (bu.length, bu.map iD, bv.length, bv.map iD, be) (by rfl) (by rfl)]
  dsimp only
  rw [pL]
  dsimp only
  rw [foldS, cS, pS]
  dsimp only
  have hst := step_eq y a b er src hl ha hb
  obtain ⟨su, sv, sw, se, hsq, l1, l2, l3, hcase⟩ : ∃ (u v w : List Int) (e : Int), m_10 [lnD y er, stD a b, iD src] = some (.tup [stD u v, lD w, iD e]) ∧ u.length ≤ 1000 ∧ v.length ≤ 1000 ∧ w.length ≤ 1000 ∧ ((stE y a b ≠ 0 ∧ u = [] ∧ v = [] ∧ w = [] ∧ e = stE y a b) ∨ (stE y a b = 0 ∧ m_18 [lnD y er, stD a b, iD src] = some (.tup [stD u v, lD w, iD e]))) := by
    by_cases q : stE y a b ≠ 0
    · rw [if_pos q] at hst
      exact ⟨[], [], [], stE y a b, hst, by decide, by decide, by decide, .inl ⟨q, rfl, rfl, rfl, rfl⟩⟩
    · rw [if_neg q] at hst
      have h := ok_of (y := y) (a := a) (b := b) (by omega)
      obtain ⟨u, v, w, e, h1, g1, g2, g3⟩ := stepV_tup h er src
      rw [h1] at hst
      have h2 := stepR_eq h er src
      rw [h1] at h2
      exact ⟨u, v, w, e, hst, g1, g2, g3, .inr ⟨by omega, h2⟩⟩
  rw [foldLSI, hsq, pullT]
  dsimp only
  rw [pL]
  dsimp only
  rw [pS]
  dsimp only
  rw [foldLS, energyOf_eq y a b er hl ha hb, pullD_some (if stE y a b ≠ 0 then 0 else enW y a b y.length, stE y a b) (by rfl) (by rfl)]
  dsimp only
  rw [foldL, lineErr_eq, pullI, pL]
  dsimp only
  rw [foldL, chkLine_eq y er hl, pullI, if_neg (by simp)]
  unfold law3_M_s0
  have sm1 : m_15 [D.agg [D.list su.length (su.map iD), D.list sv.length (sv.map iD)], D.agg [D.list su.length (su.map iD), D.list sv.length (sv.map iD)]] = some (.one (.bool true)) := same_eq su sv l1 l2
  have sm2 : m_19 [D.list sw.length (sw.map iD), D.list sw.length (sw.map iD)] = some (.one (.bool true)) := ints_same sw l3
  have tail1 : ∀ q : Int, q = stE y a b → stE y a b ≠ 0 → (if q ≠ 0 then (if se = q then (if stE y a b = q then pullD (m_15 [.agg [.list su.length (su.map iD), .list sv.length (sv.map iD)], .agg [.list 0 [], .list 0 []]]) (fun d => D.vb d) (fun r40 => .one (.bool r40)) fun r40 => ((if (r40) = true then (if (sw.length : Int) = (0 : Int) then some (D.one (.bool ((if stE y a b ≠ 0 then 0 else enW y a b y.length) == (0 : Int)))) else some (.one (.bool false))) else some (.one (.bool false)))) else some (.one (.bool false))) else some (.one (.bool false))) else none) = some (.one (.bool true)) := fun q e1 e2 => by
    rcases hcase with ⟨g0, rfl, rfl, rfl, rfl⟩ | ⟨g0, _⟩
    · subst e1
      rw [if_pos g0, if_pos rfl, if_pos rfl, show [D.agg [D.list ([] : List Int).length (([] : List Int).map iD), D.list ([] : List Int).length (([] : List Int).map iD)], D.agg [D.list 0 [], D.list 0 []]] = [stD [] [], stD [] []] from rfl, same_nil, pullB, if_pos rfl, if_pos (by rfl), if_pos g0]
      rfl
    · exact absurd g0 e2
  rcases hbe with ⟨b0, rfl, rfl, rfl⟩ | ⟨b0, rfl, rfl, rfl⟩
  · rw [if_pos b0, if_neg (by simp), show [D.agg [D.list ([] : List Int).length (([] : List Int).map iD), D.list ([] : List Int).length (([] : List Int).map iD)], D.agg [D.list 0 [], D.list 0 []]] = [stD [] [], stD [] []] from rfl, same_nil, pullB, if_neg (by decide), foldLS, stateErr_eq y a b er ha hb, pullI]
    have q : stE y a b ≠ 0 := by unfold stE; rw [if_pos b0]; exact b0
    have := tail1 (stE y a b) rfl q
    rw [if_pos q] at this
    rw [if_pos q]
    exact this
  · rw [if_neg (by omega), if_neg (by decide), foldL, beginR_eq y er hl, pullD_some ((zs y.length).length, (zs y.length).map iD, (zs y.length).length, (zs y.length).map iD) (by rfl) (by rfl)]
    dsimp only
    rw [show [D.agg [D.list (zs y.length).length ((zs y.length).map iD), D.list (zs y.length).length ((zs y.length).map iD)], D.agg [D.list (zs y.length).length ((zs y.length).map iD), D.list (zs y.length).length ((zs y.length).map iD)]] = [stD (zs y.length) (zs y.length), stD (zs y.length) (zs y.length)] from rfl, same_eq _ _ hbl1 hbl2, pullB, if_neg (by decide), foldLS, stateErr_eq y a b er ha hb, pullI]
    rcases hcase with ⟨g0, rfl, rfl, rfl, rfl⟩ | ⟨g0, hR⟩
    · have := tail1 (stE y a b) rfl g0
      rw [if_pos g0] at this
      rw [if_pos g0]
      exact this
    · have hq : ¬ (stE y a b ≠ 0) := by omega
      have h := ok_of g0
      rw [if_neg hq, foldLSI, hR, pullT]
      dsimp only
      rw [if_pos rfl, sm1, pullB, if_pos rfl, sm2, pullB, if_pos rfl, if_pos g0, foldLS, energyR_eq y a b er hl h.la h.lb, pullI, if_neg hq]
      simp
theorem law3_con (y a b : List Int) (er : Bool) (src : Int) : Con 3 [.agg [lD y, .one (.bool er)], .agg [lD a, lD b], .one (.int .i64 src)] (.one (.bool true)) := m_3_ok (law3_eq y a b er src)
end
end Go.Proofs.Ytfdehaafbkhclaa
/- SurgeSteps: what the runs give, for every argument. -/
namespace Go.Proofs.Ytfdehaafbkhclaa.surgeSteps
open Go.ChangeShapes Go.WideShapes Go.ChangeAt Go.RowKit Go.Joins Go.Ev
set_option maxRecDepth 100000 in
/-- WHAT THE RUNS GIVE, FOR EVERY ARGUMENT AND EVERY WORLD THAT HOLDS THE TABLES. -/
theorem contract (H : Type) (enc : TypeId × Value → H) (W : World) (base : Nat) (args : Array Value) (ds gs : List (DataW H)) (before : List MemPlace)
    (hval : ∀ (j : Nat) t v, Try.f3.params[j]? = some t → args[j]? = some v → Value.okWide Try.prog W .any base t v)
    (hW : DataW.Whole enc Try.prog Try.f3.params.toList Rows.surgeStepsSpec.vars false W args.toList ds gs before) (hL : laidMetH Try.prog Rows.surgeStepsRow.laid W) :
    Calls Try.prog 3 args W fun e W' => ∃ v, e = .returned v ∧ Rows.surgeStepsSpec.post enc Try.prog Try.f3 false true false false W args v W' := by
  have hW' := hW
  have hlt := hW.lt
  obtain ⟨p, q, hA0, hV, rfl, hfz, hnd⟩ := hW
  have hA : DataW.TrodAll enc Try.prog W 0 (fun _ => true) true Try.f3.params.toList args.toList ds p := hA0
  rw [Try.params3] at hA hval
  obtain ⟨v0, vs0, d0, ds0, p0, q0, hargs, rfl, rfl, h0, r0⟩ := trodAll_cons hA
  obtain ⟨v1, vs1, d1, ds1, p1, q1, rfl, rfl, rfl, h1, r1⟩ := trodAll_cons r0
  obtain ⟨v2, vs2, d2, ds2, p2, q2, rfl, rfl, rfl, h2, r2⟩ := trodAll_cons r1
  obtain ⟨rfl, rfl, rfl⟩ := trodAll_nil r2
  obtain rfl : args = #[v0, v1, v2] := by cases args; simp_all
  obtain ⟨rfl, rfl⟩ := trodVars_none hV
  obtain ⟨e0, o0, k0⟩ := open_agg (ls := [.sl [.int .i64], .bool]) 8 (by kernel_rfl) (by kernel_rfl) (by kernel_rfl) (hval 0 24 v0 rfl rfl) h0
  obtain ⟨y, er, rfl⟩ := line_of o0
  obtain ⟨e1, o1, k1⟩ := open_agg (ls := [.sl [.int .i64], .sl [.int .i64]]) 8 (by kernel_rfl) (by kernel_rfl) (by kernel_rfl) (hval 1 26 v1 rfl rfl) h1
  obtain ⟨a, b, rfl⟩ := state_of o1
  obtain ⟨e2, o2, k2⟩ := open_cell (c := .int .i64) 8 (by kernel_rfl) (by kernel_rfl) (by kernel_rfl) (hval 2 3 v2 rfl rfl) h2
  obtain ⟨src, rfl, -⟩ := int_of o2
  have hr : RpL (fun _ => True) W [.agg [lD y, .one (.bool er)], .agg [lD a, lD b], .one (.int .i64 src)] [v0, v1, v2] := by
    simp only [RpL]
    exact ⟨v0, _, rfl, k0, ⟨v1, _, rfl, k1, ⟨v2, _, rfl, k2, rfl⟩⟩⟩
  refine (law3_con y a b er src W (fun _ => True) _ tabs0 hr).mono fun e W' ⟨v, he, hv, hg⟩ => ?_
  simp only [Rp] at hv
  subst he
  subst hv
  have hlaid : laidOutB Try.prog = true := by kernel_rfl
  exact ⟨_, rfl, post_below (pa := (p0 ++ (p1 ++ (p2 ++ [])))) (pv := []) hW' (fun _ _ _ => trodAll_cons_mk (shut_bool Try.underlying4 _) trodAll_mk0) (fun sp hsp => by
    rw [Try.params3]
    exact trodAll_cons_mk (stays hlaid (by kernel_rfl) (of_decide_eq_true (by kernel_rfl)) h0 hg (fun x hx => hlt x (by simp only [List.mem_append]; left; left; exact hx)) (fun x hx => hsp x (by simp only [List.mem_append]; left; left; exact hx))) (trodAll_cons_mk (stays hlaid (by kernel_rfl) (of_decide_eq_true (by kernel_rfl)) h1 hg (fun x hx => hlt x (by simp only [List.mem_append]; left; right; left; exact hx)) (fun x hx => hsp x (by simp only [List.mem_append]; left; right; left; exact hx))) (trodAll_cons_mk (stays hlaid (by kernel_rfl) (of_decide_eq_true (by kernel_rfl)) h2 hg (fun x hx => hlt x (by simp only [List.mem_append]; left; right; right; left; exact hx)) (fun x hx => hsp x (by simp only [List.mem_append]; left; right; right; left; exact hx))) (trodAll_mk0)))) (fun _ _ => rfl) rfl
    hg (ok_one (by kernel_rfl) rfl (okWide_bool_mk Try.underlying4 _))⟩
end Go.Proofs.Ytfdehaafbkhclaa.surgeSteps
/- SurgeSteps: closed facts of the witness. -/
namespace Go.Proofs.Ytfdehaafbkhclaa.surgeSteps
open Go.ChangeShapes Go.WideShapes Go.ChangeAt Go.RowKit Go.Joins
/-- THE WITNESS's ARGUMENTS. -/
noncomputable def args0 : Array Value := #[.agg #[.slice none 0 0, .bool false], .agg #[.slice none 0 0, .slice none 0 0], .int .i64 0]
/-- A WORLD FOR THE WITNESS: the heap that the program's own initialisers leave. -/
noncomputable def start (os : Os) : World := World.doorLaid Try.prog 400 os
theorem laid_met (os : Os) : laidMet Try.prog Rows.surgeStepsRow.laid ((start os).forCall (fun _ _ => 0) ⟨#[], args0, []⟩).memory := ⟨[], rfl, List.nodup_nil, fun _ _ h => by cases h⟩
theorem reads (os : Os) {H : Type} (enc : TypeId × Value → H) : ∃ places, DataW.whole enc Try.prog ((start os).forCall (fun _ _ => 0) ⟨#[], args0, []⟩).memory Try.f3.params.toList Rows.surgeStepsSpec.vars false args0.toList 8 = some ([.agg [.nil, .lit (.bool false)], .agg [.nil, .nil], .lit (.int .i64 0)], [], places) :=
  ⟨[], by kernel_rfl⟩
theorem vB (os : Os) : ((start os).forCall (fun _ _ => 0) ⟨#[], args0, []⟩).variablesB Try.prog = true := by kernel_rfl
theorem rB (os : Os) : (((start os).forCall (fun _ _ => 0) ⟨#[], args0, []⟩).heap.toList.drop Try.prog.globals.size).take ((begin Try.prog (fun _ _ => 0) default).world.heap.size - Try.prog.globals.size) = (begin Try.prog (fun _ _ => 0) default).world.heap.toList.drop Try.prog.globals.size := by kernel_rfl
theorem oB (os : Os) : Input.okWideB Try.prog ((start os).forCall (fun _ _ => 0) ⟨#[], args0, []⟩) 3 ⟨#[], args0, []⟩ = true := by kernel_rfl
theorem hB (os : Os) : (start os).os = os := by kernel_rfl
end Go.Proofs.Ytfdehaafbkhclaa.surgeSteps
/- For any line, state and source, valid or not, the law SurgeSteps of the program answers true, and its arguments read as they did. CONDITIONS: none. -/
namespace Go.Proofs.Ytfdehaafbkhclaa.surgeSteps
open Go.ChangeShapes Go.WideShapes Go.ChangeAt Go.RowKit Go.Joins
set_option maxRecDepth 100000 in
theorem lifted (os : Os) (started : os.Started) (H : Type) (enc : TypeId × Value → H) (F : Stop.Interp) :
    ReturnsInHanded {} Try.checked os 3 .any ((OpenSpec.ofChange Rows.surgeStepsSpec).preRow enc Try.prog Try.f3 Rows.surgeStepsRow.domain false Rows.surgeStepsRow.laid) (((OpenSpec.ofChange Rows.surgeStepsSpec).at F).post enc Try.prog Try.f3 false true false false) := by
  obtain ⟨places, hx⟩ := reads os enc
  refine returnsInHanded_of_row (C := Try.checked) (s := OpenSpec.ofChange Rows.surgeStepsSpec) own started (by kernel_rfl) Try.func3
    (witness_row_at (enc := enc) (C := Try.checked) false (start os) args0 (hB os) (vB os) (rB os) (oB os)
      (OpenSpec.preRow_of_cond 8 hx (by kernel_rfl) (fun k hk => by cases hk) (by kernel_rfl) (laid_met os))) ?_
  intro W base args ds gs before hval hW _ _ _ hL _ _
  exact contract H enc W base args ds gs before hval hW hL
theorem said : Rows.SurgeStepsSaid :=
  OpenClaim.holds_of_cond 3 Try.f3 rfl rfl rfl rfl rfl rfl rfl ⟨rfl, rfl, rfl, rfl, rfl⟩ rfl rfl rfl rfl rfl (by kernel_rfl) Try.func3 (by kernel_rfl)
    (of_decide_eq_true (by kernel_rfl)) (by unfold Func.isWrapper; first | (rw [if_pos (by decide +kernel)]; kernel_rfl) | (rw [if_neg (by decide +kernel)]; exact ⟨rfl, rfl⟩))
    (fun os started H enc _ F => by rw [OpenClaim.pre_eq_preRow]; exact lifted os started H enc F)
end Go.Proofs.Ytfdehaafbkhclaa.surgeSteps
