import Derived.Test.YtmohaohdbklkeaaTE
set_option linter.unusedVariables false
set_option linter.unusedSimpArgs false
set_option linter.unusedSectionVars false
set_option linter.unnecessarySimpa false
/- Rules, records: what is checked. -/
namespace Go.Proofs.Ytmohaohdbklkeaa
open Go.Ev Go.RowKit
set_option maxRecDepth 100000
def firstV : List Int → Int
  | [] => 0
  | x :: l => if x = 0 then firstV l else x
theorem first_go (k : Nat) : ∀ (pre l : List Int), k = (pre ++ l).length → k ≤ 1000000 → (∀ x ∈ pre, x = 0) →
    runR (firstOf_L2_S k ((pre ++ l).map iD)) (.next 0 [iD (pre.length : Int)]) = some (if firstV l = 0 then .out 0 [] else .out 1 [iD (firstV l)]) := by
  intro pre l
  induction l generalizing pre with
  | nil =>
    intro hk _ _
    rw [List.append_nil] at hk ⊢
    refine runR_exit ?_
    show firstOf_L2_S0 _ _ _ = _
    unfold firstOf_L2_S0
    rw [pullD_some (pre.length : Int) (by rfl) (by rfl), if_neg (by omega)]
  | cons x l ih =>
    intro hk hs hp
    have hg : (pre ++ x :: l)[pre.length]? = some x := by simp
    have hlt : pre.length < k := by rw [hk, List.length_append, List.length_cons]; omega
    by_cases hx : x = 0
    · have st : firstOf_L2_S k ((pre ++ x :: l).map iD) (.next 0 [iD (pre.length : Int)]) = some (.next 0 [iD (((pre ++ [x]).length : Nat) : Int)]) := by
        show firstOf_L2_S0 _ _ _ = _
        unfold firstOf_L2_S0
        rw [pullD_some (pre.length : Int) (by rfl) (by rfl), if_pos (by omega), guardP_pos (by omega), readW hg, pullI, if_neg (by simp [hx]), wrapJ _ (by omega) (by omega), List.length_append, List.length_singleton]
        rfl
      have h2 := ih (pre ++ [x]) (by rw [hk]; simp) hs (fun y hy => by
        rcases List.mem_append.1 hy with h | h
        · exact hp y h
        · simp at h; rw [h]; exact hx)
      rw [List.append_assoc, List.singleton_append] at h2
      rw [runR_next st, h2]
      simp [firstV, hx]
    · refine (runR_exit (j := 1) (es := [iD x]) ?_).trans ?_
      · show firstOf_L2_S0 _ _ _ = _
        unfold firstOf_L2_S0
        rw [pullD_some (pre.length : Int) (by rfl) (by rfl), if_pos (by omega), guardP_pos (by omega), readW hg, pullI, if_pos hx]
      · simp [firstV, hx]
theorem firstOf_eq (l : List Int) (hl : l.length ≤ 1000000) : m_45 [lD l] = some (iD (firstV l)) := by
  have h := first_go l.length [] l rfl hl (fun _ h => by cases h)
  simp only [List.nil_append, List.length_nil] at h
  have h : runR (firstOf_L2_S l.length (l.map iD)) (.next 0 [.one (.int .i64 0)]) = some (if firstV l = 0 then .out 0 [] else .out 1 [iD (firstV l)]) := h
  rw [m_45_eq]
  unfold firstOf_M
  by_cases h0 : firstV l = 0
  · rw [if_pos h0] at h
    rw [bindL_some h, if_pos rfl, pullD_some () (by rfl) (by rfl), h0]
  · rw [if_neg h0] at h
    rw [bindL_some h, if_neg (by decide), if_pos rfl, pullD_some (firstV l) (by rfl) (by rfl)]
theorem f2 (x y : Int) : m_45 [.list 2 [iD x, iD y]] = some (iD (firstV [x, y])) := firstOf_eq [x, y] (by simp)
theorem f3 (x y z : Int) : m_45 [.list 3 [iD x, iD y, iD z]] = some (iD (firstV [x, y, z])) := firstOf_eq [x, y, z] (by simp)
theorem within_eq (n lo hi : Int) : m_33 [iD n, iD lo, iD hi] = some (.one (.bool (decide (lo ≤ n ∧ n ≤ hi)))) := by
  rw [m_33_eq]
  unfold within_M
  by_cases h : lo ≤ n
  · rw [if_pos h]; simp [h]
  · rw [if_neg h]; simp [h]
def stepE (n : Int) : Int := if 1 ≤ n ∧ n ≤ 1000000 then 0 else 2
theorem chkStep_eq (n : Int) : m_74 [iD n] = some (iD (stepE n)) := by
  rw [m_74_eq]
  unfold chkStep_M stepE
  repeat' split
  all_goals first | rfl | (exfalso; omega)
/-- Where the division with a remainder ends. -/
def eu (a b : Int) : Int := if h : b = 0 then a else eu b (a.tmod b)
termination_by b.natAbs
decreasing_by
  rw [Int.natAbs_tmod]
  exact Nat.mod_lt _ (by omega)
theorem eu_zero (a : Int) : eu a 0 = a := by unfold eu; simp
theorem eu_step {a b : Int} (h : b ≠ 0) : eu a b = eu b (a.tmod b) := by
  conv => lhs; unfold eu
  rw [dif_neg h]
theorem eu_gcd (a b : Int) : (eu a b).natAbs = Int.gcd a b := by
  generalize hk : b.natAbs = k
  induction k using Nat.strongRecOn generalizing a b with
  | ind k ih =>
    by_cases h : b = 0
    · subst h; rw [eu_zero]; simp
    · have hlt : (a.tmod b).natAbs < b.natAbs := by rw [Int.natAbs_tmod]; exact Nat.mod_lt _ (by omega)
      rw [eu_step h, ih _ (by omega) b (a.tmod b) rfl]
      show Nat.gcd b.natAbs (a.tmod b).natAbs = Nat.gcd a.natAbs b.natAbs
      rw [Int.natAbs_tmod, Nat.gcd_comm a.natAbs, Nat.gcd_rec b.natAbs a.natAbs, Nat.gcd_comm]
def absW (r : Int) : Int := if IntKind.i64.wrap (0 - r) > r then IntKind.i64.wrap (0 - r) else r
theorem absW_eq {r : Int} (h : r.natAbs < 9223372036854775808) : absW r = (r.natAbs : Int) := by
  unfold absW
  rw [wrapJ _ (by omega) (by omega)]
  split <;> omega
theorem div_go (x y : Int) : ∀ (k : Nat) (a b : Int), b.natAbs ≤ k → runR (divisor_L1_S x y) (.next 0 [iD a, iD b]) = some (.out 0 [iD (eu a b)]) := by
  intro k
  induction k with
  | zero =>
    intro a b h
    have hb : b = 0 := by omega
    subst hb
    refine runR_exit ?_
    show divisor_L1_S0 x y _ = _
    unfold divisor_L1_S0
    rw [pullD_some (a, (0 : Int)) (by rfl) (by rfl)]
    dsimp only
    rw [if_neg (by simp), eu_zero]
  | succ k ih =>
    intro a b h
    by_cases hb : b = 0
    · exact ih a b (by omega)
    · have st : divisor_L1_S x y (.next 0 [iD a, iD b]) = some (.next 0 [iD b, iD (a.tmod b)]) := by
        show divisor_L1_S0 x y _ = _
        unfold divisor_L1_S0
        rw [pullD_some (a, b) (by rfl) (by rfl)]
        dsimp only
        rw [if_pos hb]
      have hlt : (a.tmod b).natAbs < b.natAbs := by rw [Int.natAbs_tmod]; exact Nat.mod_lt _ (by omega)
      rw [runR_next st, ih b (a.tmod b) (by omega), ← eu_step hb]
theorem divisor_eq (a b : Int) : m_102 [iD a, iD b] = some (iD (absW (eu a b))) := by
  rw [m_102_eq]
  unfold divisor_M
  rw [div_go a b b.natAbs a b (Nat.le_refl _), bindL_some rfl, if_pos rfl, pullD_some (eu a b) (by rfl) (by rfl)]
  rfl
theorem gcd_loop (x y : Int) : ∀ (k : Nat) (a b : Int), b.natAbs ≤ k → runR (gcd_L1_S x y) (.next 0 [iD a, iD b]) = some (.out 0 [iD (eu a b)]) := by
  intro k
  induction k with
  | zero =>
    intro a b h
    have hb : b = 0 := by omega
    subst hb
    refine runR_exit ?_
    show gcd_L1_S0 x y _ = _
    unfold gcd_L1_S0
    rw [pullD_some (a, (0 : Int)) (by rfl) (by rfl)]
    dsimp only
    rw [if_neg (by simp), eu_zero]
  | succ k ih =>
    intro a b h
    by_cases hb : b = 0
    · exact ih a b (by omega)
    · have st : gcd_L1_S x y (.next 0 [iD a, iD b]) = some (.next 0 [iD b, iD (a.tmod b)]) := by
        show gcd_L1_S0 x y _ = _
        unfold gcd_L1_S0
        rw [pullD_some (a, b) (by rfl) (by rfl)]
        dsimp only
        rw [if_pos hb]
      have hlt : (a.tmod b).natAbs < b.natAbs := by rw [Int.natAbs_tmod]; exact Nat.mod_lt _ (by omega)
      rw [runR_next st, ih b (a.tmod b) (by omega), ← eu_step hb]
theorem gcdI_eq (a b : Int) : m_100 [iD a, iD b] = some (iD (absW (eu a b))) := by
  rw [m_100_eq]
  unfold gcd_M
  rw [gcd_loop a b b.natAbs a b (Nat.le_refl _), bindL_some rfl, if_pos rfl, pullD_some (eu a b) (by rfl) (by rfl), m_103_eq]
  unfold size_M
  rw [pullI]
  rfl
theorem absW_gcd {a b : Int} (h : 0 < b) (h2 : b < 9223372036854775808) : absW (eu a b) = ((Int.gcd a b : Nat) : Int) := by
  have h1 : Int.gcd a b ≤ b.natAbs := Nat.le_of_dvd (by omega) (Int.gcd_dvd_natAbs_right a b)
  rw [absW_eq (by rw [eu_gcd]; omega), eu_gcd]
theorem gv2 (x : Int) : firstV [2, x] = 2 := rfl
theorem gv0 (x : Int) : firstV [0, x] = x := by
  unfold firstV firstV
  simp only [if_true]
  split
  · rename_i h; rw [h]; rfl
  · rfl
theorem n2 : ((2 : Int) ≠ 0) = True := by decide
theorem n0 : ((0 : Int) ≠ 0) = False := by decide
def lowB (n d : Int) : Bool := decide (0 < d ∧ absW (eu n d) = 1)
theorem isLowest_eq (n d : Int) : m_97 [.agg [iD n, iD d]] = some (.one (.bool (lowB n d))) := by
  rw [m_97_eq]
  unfold isLowest_M lowB
  by_cases h : d > 0
  · rw [if_pos h, gcdI_eq, pullI]
    congr 3
    rw [Bool.eq_iff_iff]; simp [show 0 < d from h]
  · rw [if_neg h]
    congr 3
    rw [Bool.eq_iff_iff]; simp [show ¬ 0 < d from h]
theorem isReduced_eq (n d : Int) : m_94 [.agg [iD n, iD d]] = some (.one (.bool (lowB n d))) := by
  rw [m_94_eq]
  unfold isReduced_M lowB
  by_cases h : d > 0
  · rw [if_pos h, divisor_eq, pullI]
    congr 3
    rw [Bool.eq_iff_iff]; simp [show 0 < d from h]
  · rw [if_neg h]
    congr 3
    rw [Bool.eq_iff_iff]; simp [show ¬ 0 < d from h]
theorem lowB_pos {n d : Int} (h : lowB n d = true) : 0 < d := by
  unfold lowB at h
  simp only [decide_eq_true_eq] at h
  exact h.1
def facR (x : Q4) : Prop := 1 ≤ x.a ∧ x.a ≤ 1000 ∧ 1 ≤ x.b ∧ x.b ≤ 1000 ∧ 1 ≤ x.c ∧ x.c ≤ 1000 ∧ 1 ≤ x.d ∧ x.d ≤ 1000
instance (x : Q4) : Decidable (facR x) := by unfold facR; infer_instance
/-- Why a factor is refused. -/
def facE (x : Q4) : Int := if lowB x.a x.b = true ∧ lowB x.c x.d = true then (if facR x then (if x.a * x.d ≤ x.c * x.b then 0 else 9) else 2) else 3
theorem mulK {x y : Int} (h1 : 1 ≤ x) (h2 : x ≤ 1000) (h3 : 1 ≤ y) (h4 : y ≤ 1000) : 0 ≤ x * y ∧ x * y ≤ 1000000 := ⟨Int.mul_nonneg (by omega) (by omega), by
  have := Int.mul_le_mul h2 h4 (by omega) (by omega : (0 : Int) ≤ 1000)
  omega⟩
theorem isLess_eq {n d m e : Int} (h1 : 0 ≤ n * e) (h2 : n * e ≤ 1000000) (h3 : 0 ≤ m * d) (h4 : m * d ≤ 1000000) : m_95 [.agg [iD n, iD d], .agg [iD m, iD e]] = some (.one (.bool (decide (n * e < m * d)))) := by
  rw [m_95_eq]
  unfold isLess_M
  rw [wrapJ (n * e) (by omega) (by omega), wrapJ (m * d) (by omega) (by omega)]
theorem cmpI_eq {n d m e : Int} (h1 : 0 ≤ n * e) (h2 : n * e ≤ 1000000) (h3 : 0 ≤ m * d) (h4 : m * d ≤ 1000000) : m_39 [.agg [iD n, iD d], .agg [iD m, iD e]] = some (iD (if n * e < m * d then -1 else if n * e > m * d then 1 else 0)) := by
  rw [m_39_eq]
  unfold cmpI_M
  rw [wrapJ (n * e) (by omega) (by omega), wrapJ (m * d) (by omega) (by omega)]
  repeat' split
  all_goals rfl
theorem facE3 {x : Q4} (h : lowB x.a x.b = false ∨ lowB x.c x.d = false) : facE x = 3 := by
  unfold facE
  rw [if_neg]
  rcases h with h | h <;> simp [h]
theorem facE2 {x : Q4} (h1 : lowB x.a x.b = true) (h2 : lowB x.c x.d = true) (h : ¬ facR x) : facE x = 2 := by
  unfold facE
  rw [if_pos ⟨h1, h2⟩, if_neg h]
theorem chkFactor_eq (p q u v : Int) : m_73 [.agg [iD p, iD q, iD u, iD v]] = some (iD (facE ⟨p, q, u, v⟩)) := by
  rw [m_73_eq]
  unfold chkFactor_M
  rw [isReduced_eq, pullB, isReduced_eq, pullB]
  cases b1 : lowB p q with
  | false => rw [if_pos rfl, facE3 (.inl b1)]
  | true =>
    rw [if_neg (by decide)]
    cases b2 : lowB u v with
    | false => rw [if_pos rfl, facE3 (.inr b2)]
    | true =>
      rw [if_neg (by decide)]
      by_cases g : facR ⟨p, q, u, v⟩
      · have g' := g
        unfold facR at g'
        simp only at g'
        obtain ⟨k1, k2⟩ := mulK (x := p) (y := v) (by omega) (by omega) (by omega) (by omega)
        obtain ⟨k3, k4⟩ := mulK (x := u) (y := q) (by omega) (by omega) (by omega) (by omega)
        rw [if_neg (by omega), if_neg (by omega), if_neg (by omega), if_neg (by omega), if_neg (by omega), if_neg (by omega), if_neg (by omega), if_neg (by omega), isLess_eq k3 k4 k1 k2, pullB]
        have hE : facE ⟨p, q, u, v⟩ = if p * v ≤ u * q then 0 else 9 := by
          unfold facE
          rw [if_pos ⟨b1, b2⟩, if_pos g]
        rw [hE]
        by_cases o : p * v ≤ u * q
        · rw [if_pos o, if_neg (by simp; omega)]
        · rw [if_neg o, if_pos (by simp; omega)]
      · rw [facE2 b1 b2 g]
        unfold facR at g
        simp only at g
        by_cases q0 : p < 1
        · rw [if_pos q0]
        rw [if_neg q0]
        by_cases q1 : p > 1000
        · rw [if_pos q1]
        rw [if_neg q1]
        by_cases q2 : q < 1
        · rw [if_pos q2]
        rw [if_neg q2]
        by_cases q3 : q > 1000
        · rw [if_pos q3]
        rw [if_neg q3]
        by_cases q4 : u < 1
        · rw [if_pos q4]
        rw [if_neg q4]
        by_cases q5 : u > 1000
        · rw [if_pos q5]
        rw [if_neg q5]
        by_cases q6 : v < 1
        · rw [if_pos q6]
        rw [if_neg q6, if_pos (by omega)]
theorem facErr_eq (p q u v : Int) : m_83 [.agg [iD p, iD q, iD u, iD v]] = some (iD (facE ⟨p, q, u, v⟩)) := by
  rw [m_83_eq]
  unfold facErr_M
  rw [isLowest_eq, pullB, isLowest_eq, pullB, within_eq, pullB, within_eq, pullB]
  cases b1 : lowB p q with
  | false => rw [if_pos rfl, facE3 (.inl b1)]
  | true =>
    rw [if_neg (by decide)]
    cases b2 : lowB u v with
    | false => rw [if_pos rfl, facE3 (.inr b2)]
    | true =>
      have hq := lowB_pos b1
      have hv := lowB_pos b2
      rw [if_neg (by decide)]
      by_cases g : facR ⟨p, q, u, v⟩
      · have g' := g
        unfold facR at g'
        simp only at g'
        obtain ⟨k1, k2⟩ := mulK (x := p) (y := v) (by omega) (by omega) (by omega) (by omega)
        obtain ⟨k3, k4⟩ := mulK (x := u) (y := q) (by omega) (by omega) (by omega) (by omega)
        rw [if_neg (by simp; omega), if_neg (by simp; omega), if_neg (by omega), if_neg (by omega), cmpI_eq k1 k2 k3 k4, pullI]
        have hE : facE ⟨p, q, u, v⟩ = if p * v ≤ u * q then 0 else 9 := by
          unfold facE
          rw [if_pos ⟨b1, b2⟩, if_pos g]
        rw [hE]
        by_cases o : p * v ≤ u * q
        · rw [if_pos (c := p * v ≤ u * q) o, if_neg]
          split
          · decide
          · rw [if_neg (by omega)]; decide
        · rw [if_neg (c := p * v ≤ u * q) o, if_neg (c := p * v < u * q) (by omega), if_pos (c := p * v > u * q) (by omega), if_pos (by decide)]
      · rw [facE2 b1 b2 g]
        unfold facR at g
        simp only at g
        by_cases q0 : 1 ≤ p ∧ p ≤ 1000
        · rw [if_neg (by simp; omega)]
          by_cases q1 : 1 ≤ u ∧ u ≤ 1000
          · rw [if_neg (by simp; omega)]
            by_cases q2 : q > 1000
            · rw [if_pos q2]
            rw [if_neg q2, if_pos (by omega)]
          · rw [if_pos (by simp; omega)]
        · rw [if_pos (by simp; omega)]
def fstE (e : Nat → Int) : Nat → Nat → Int
  | 0, _ => 0
  | m + 1, i => if e i = 0 then fstE e m (i + 1) else e i
theorem scanF {n : Nat} {e : Nat → Int} {S : Rd → Option Rd} (hs : ∀ i, i < n → S (.next 0 [iD (i : Int)]) = if e i = 0 then some (.next 0 [iD ((i + 1 : Nat) : Int)]) else some (.out 1 [iD (e i)])) (he : S (.next 0 [iD (n : Int)]) = some (.out 0 [])) :
    ∀ m i, i + m = n → runR S (.next 0 [iD (i : Int)]) = if fstE e m i = 0 then some (.out 0 []) else some (.out 1 [iD (fstE e m i)]) := by
  intro m
  induction m with
  | zero =>
    intro i hi
    have : i = n := by omega
    subst this
    rw [runR_exit he]; rfl
  | succ m ih =>
    intro i hi
    have h1 := hs i (by omega)
    unfold fstE
    by_cases h0 : e i = 0
    · rw [if_pos h0] at h1
      rw [runR_next h1, ih (i + 1) (by omega), if_pos h0]
    · rw [if_neg h0] at h1
      rw [runR_exit h1, if_neg h0, if_neg h0]
abbrev ruD (re : Int) (f : Q4) (l : List Q4) : D := .agg [iD re, iD f.a, iD f.b, iD f.c, iD f.d, lQ l]
abbrev chE (l : List Q4) : Int := fstE (fun i => facE (qAt l i)) l.length 0
/-- Why rules are refused. -/
def rulE (re : Int) (f : Q4) (l : List Q4) : Int := if 0 ≤ re ∧ re ≤ 100 then (if facE f = 0 then (if 4 < l.length then 8 else chE l) else facE f) else 2
theorem chkError_eq (n : Int) : m_69 [iD n] = some (iD (if 0 ≤ n ∧ n ≤ 100 then 0 else 2)) := by
  rw [m_69_eq]
  unfold chkError_M
  repeat' split
  all_goals first | rfl | (exfalso; omega)
theorem chkRules_eq (re : Int) (f : Q4) (l : List Q4) (hl : l.length ≤ 1000) : m_46 [ruD re f l] = some (iD (rulE re f l)) := by
  rw [m_46_eq]
  unfold chkRules_M rulE
  have h1 : m_73 [shNL1_0 f.a f.b f.c f.d] = _ := chkFactor_eq f.a f.b f.c f.d
  rw [chkError_eq, pullI, h1, pullI, f2, pullI]
  by_cases g : 0 ≤ re ∧ re ≤ 100
  · rw [if_pos g, gv0, if_pos g]
    by_cases g2 : facE f = 0
    · have g2' : facE ⟨f.a, f.b, f.c, f.d⟩ = 0 := g2
      rw [if_pos g2, if_neg (fun h => h g2')]
      by_cases g3 : 4 < l.length
      · rw [if_pos g3, if_pos (by omega)]
      · rw [if_neg g3, if_neg (by omega)]
        have h := fun x0 x1 x2 => scanF (n := l.length) (e := fun i => facE (qAt l i)) (S := chkRules_L7_S re f.a f.b f.c f.d l.length (cQ l) x0 x1 x2) (fun i hi => by
          rw [chkRules_L7_S_0]
          unfold chkRules_L7_S0
          rw [pullD_some (i : Int) (by rfl) (by rfl), if_pos (by omega), guardP_pos (by omega), show ((i : Int).toNat) = i from rfl, readQ hi, pullD_some ((qAt l i).a, (qAt l i).b, (qAt l i).c, (qAt l i).d) (by rfl) (by rfl)]
          dsimp only
          have h2 : m_73 [shNL1_0 (qAt l i).a (qAt l i).b (qAt l i).c (qAt l i).d] = _ := chkFactor_eq (qAt l i).a (qAt l i).b (qAt l i).c (qAt l i).d
          rw [h2, pullI, natI (by omega)]
          by_cases q : facE (qAt l i) = 0
          · rw [if_pos q, if_neg (fun h => h q)]
          · rw [if_neg q, if_pos q]) (by
          rw [chkRules_L7_S_0]
          unfold chkRules_L7_S0
          rw [pullD_some (l.length : Int) (by rfl) (by rfl), if_neg (by omega)]) l.length 0 (by omega)
        simp only [Int.natCast_zero] at h
        by_cases q : chE l = 0
        · rw [bindL_some ((h _ _ _).trans (if_pos q)), if_pos rfl, pullD_some () (by rfl) (by rfl), q]
        · rw [bindL_some ((h _ _ _).trans (if_neg q)), if_neg (by decide), if_pos rfl, pullD_some (chE l) (by rfl) (by rfl)]
    · have g2' : facE ⟨f.a, f.b, f.c, f.d⟩ ≠ 0 := g2
      rw [if_neg g2, if_pos g2']
  · rw [if_neg g, gv2, if_neg g, if_pos (by decide)]
theorem rulesErr_eq (re : Int) (f : Q4) (l : List Q4) (hl : l.length ≤ 1000) : m_53 [ruD re f l] = some (iD (rulE re f l)) := by
  rw [m_53_eq]
  unfold rulesErr_M rulE
  have h1 : m_83 [shNL1_0 f.a f.b f.c f.d] = _ := facErr_eq f.a f.b f.c f.d
  rw [within_eq, pullB, h1, pullI]
  by_cases g : 0 ≤ re ∧ re ≤ 100
  · rw [if_neg (by simp; omega), if_pos g]
    by_cases g2 : facE f = 0
    · have g2' : facE ⟨f.a, f.b, f.c, f.d⟩ = 0 := g2
      rw [if_pos g2, if_neg (fun h => h g2')]
      by_cases g3 : 4 < l.length
      · rw [if_pos g3, if_pos (by omega)]
      · rw [if_neg g3, if_neg (by omega)]
        have h := fun x0 x1 => scanF (n := l.length) (e := fun i => facE (qAt l i)) (S := rulesErr_L9_S re f.a f.b f.c f.d l.length (cQ l) x0 x1) (fun i hi => by
          rw [rulesErr_L9_S_0]
          unfold rulesErr_L9_S0
          rw [pullD_some (i : Int) (by rfl) (by rfl), if_pos (by omega), guardP_pos (by omega), show ((i : Int).toNat) = i from rfl, readQ hi, pullD_some ((qAt l i).a, (qAt l i).b, (qAt l i).c, (qAt l i).d) (by rfl) (by rfl)]
          dsimp only
          have h2 : m_83 [shNL1_0 (qAt l i).a (qAt l i).b (qAt l i).c (qAt l i).d] = _ := facErr_eq (qAt l i).a (qAt l i).b (qAt l i).c (qAt l i).d
          rw [h2, pullI, natI (by omega)]
          by_cases q : facE (qAt l i) = 0
          · rw [if_pos q, if_neg (fun h => h q)]
          · rw [if_neg q, if_pos q]) (by
          rw [rulesErr_L9_S_0]
          unfold rulesErr_L9_S0
          rw [pullD_some (l.length : Int) (by rfl) (by rfl), if_neg (by omega)]) l.length 0 (by omega)
        simp only [Int.natCast_zero] at h
        by_cases q : chE l = 0
        · rw [bindL_some ((h _ _).trans (if_pos q)), if_pos rfl, pullD_some () (by rfl) (by rfl), q]
        · rw [bindL_some ((h _ _).trans (if_neg q)), if_neg (by decide), if_pos rfl, pullD_some (chE l) (by rfl) (by rfl)]
    · have g2' : facE ⟨f.a, f.b, f.c, f.d⟩ ≠ 0 := g2
      rw [if_neg g2, if_pos g2']
  · rw [if_pos (by simp; omega), if_neg g]
theorem copyRules_eq (re : Int) (f : Q4) (l : List Q4) (hl : l.length ≤ 1000) : m_13 [ruD re f l] = some (ruD re f l) := by
  rw [m_13_eq]
  unfold copyRules_M
  rw [guardP_pos (by omega), guardP_pos (cQ_len l)]
abbrev reD (st : Int) (l : List Int) : D := .agg [iD st, lD l]
/-- Why a record is refused. -/
def recE (st : Int) (l : List Int) : Int := if 1 ≤ st ∧ st ≤ 1000000 then (if l.length < 3 then 10 else if 64 < l.length then 8 else if allIn (-4096) 4096 l = true then 0 else 2) else 2
theorem copyInts_eq (l : List Int) (hl : l.length ≤ 1000) : m_27 [lD l] = some (lD l) := by
  rw [m_27_eq]
  unfold copyInts_M
  rw [guardP_pos ⟨cells_int l, by omega, by omega, by omega⟩, guardP_pos (by simp), guardP_pos ⟨by simp, by omega⟩, Nat.zero_add]
theorem copyRecord_eq (st : Int) (l : List Int) (hl : l.length ≤ 1000) : m_14 [reD st l] = some (reD st l) := by
  rw [m_14_eq]
  unfold copyRecord_M
  rw [copyInts_eq l hl, pullD_some (l.length, l.map iD) (by rfl) (by rfl)]
theorem chkCount_eq (n : Nat) : m_75 [iD (n : Int)] = some (iD (if n < 3 then 10 else if 64 < n then 8 else 0)) := by
  rw [m_75_eq]
  unfold chkCount_M
  by_cases h1 : n < 3
  · rw [if_pos h1, if_pos (by omega)]
  rw [if_neg h1, if_neg (by omega)]
  by_cases h2 : 64 < n
  · rw [if_pos h2, if_pos (by omega)]
  · rw [if_neg h2, if_neg (by omega)]
theorem chkRecord_eq (st : Int) (l : List Int) (hl : l.length ≤ 1000) : m_47 [reD st l] = some (iD (recE st l)) := by
  rw [m_47_eq]
  unfold chkRecord_M recE
  rw [chkStep_eq, pullI, chkCount_eq, pullI, f2, pullI]
  unfold stepE
  by_cases g : 1 ≤ st ∧ st ≤ 1000000
  · rw [if_pos g, if_pos g, gv0]
    by_cases g1 : l.length < 3
    · rw [if_pos g1, if_pos g1, if_pos (by decide)]
    rw [if_neg g1, if_neg g1]
    by_cases g2 : 64 < l.length
    · rw [if_pos g2, if_pos g2, if_pos (by decide)]
    rw [if_neg g2, if_neg g2, if_neg (by decide)]
    have h := fun x0 x1 => scanIn l (-4096) 4096 (chkRecord_L101_2_S st l.length (l.map iD) x0 x1) (.out 1 [iD 2]) (fun _ _ e => by cases e) (fun i hi => by
      rw [chkRecord_L101_2_S_0]
      unfold chkRecord_L101_2_S0
      rw [pullD_some (i : Int) (by rfl) (by rfl), if_pos (by omega), guardP_pos (by omega), readA hi, pullD_some (at' l i) (by rfl) (by rfl), natI (by omega)]
      by_cases q : -4096 ≤ at' l i ∧ at' l i ≤ 4096
      · rw [if_neg (by omega), if_neg (by omega), if_pos q]
      · rw [if_neg q]
        by_cases q1 : at' l i < -4096
        · rw [if_pos q1]
        · rw [if_neg q1, if_pos (by omega)]) (by
      rw [chkRecord_L101_2_S_0]
      unfold chkRecord_L101_2_S0
      rw [pullD_some (l.length : Int) (by rfl) (by rfl), if_neg (by omega)])
    by_cases q : allIn (-4096) 4096 l = true
    · rw [if_pos q, bindL_some ((h _ _).trans (if_pos q)), if_pos rfl, pullD_some () (by rfl) (by rfl)]
    · rw [if_neg q, bindL_some ((h _ _).trans (if_neg q)), if_neg (by decide), if_pos rfl, pullD_some (2 : Int) (by rfl) (by rfl)]
  · rw [if_neg g, if_neg g, gv2, if_pos (by decide)]
theorem recErr_eq (st : Int) (l : List Int) (hl : l.length ≤ 1000) : m_41 [reD st l] = some (iD (recE st l)) := by
  rw [m_41_eq]
  unfold recErr_M recE
  rw [within_eq, pullB]
  by_cases g : 1 ≤ st ∧ st ≤ 1000000
  · rw [if_neg (by simp; omega), if_pos g]
    by_cases g1 : l.length < 3
    · rw [if_pos g1, if_pos (by omega)]
    rw [if_neg g1, if_neg (by omega)]
    by_cases g2 : 64 < l.length
    · rw [if_pos g2, if_pos (by omega)]
    rw [if_neg g2, if_neg (by omega)]
    have h := fun x0 => scanIn l (-4096) 4096 (recErr_L8_S st l.length (l.map iD) x0) (.out 1 [iD 2]) (fun _ _ e => by cases e) (fun i hi => by
      rw [recErr_L8_S_0]
      unfold recErr_L8_S0
      rw [pullD_some (i : Int) (by rfl) (by rfl), if_pos (by omega), guardP_pos (by omega), readA hi, pullD_some (at' l i) (by rfl) (by rfl), within_eq, pullB, natI (by omega)]
      by_cases q : -4096 ≤ at' l i ∧ at' l i ≤ 4096
      · rw [if_neg (by simp [q]), if_pos q]
      · rw [if_pos (by simpa using q), if_neg q]) (by
      rw [recErr_L8_S_0]
      unfold recErr_L8_S0
      rw [pullD_some (l.length : Int) (by rfl) (by rfl), if_neg (by omega)])
    by_cases q : allIn (-4096) 4096 l = true
    · rw [if_pos q, bindL_some ((h _).trans (if_pos q)), if_pos rfl, pullD_some () (by rfl) (by rfl)]
    · rw [if_neg q, bindL_some ((h _).trans (if_neg q)), if_neg (by decide), if_pos rfl, pullD_some (2 : Int) (by rfl) (by rfl)]
  · rw [if_pos (by simp; omega), if_neg g]
theorem few_eq (st : Int) (l : List Int) : m_10 [reD st l] = some (.one (.bool (decide ((l.length : Int) ≤ 70)))) := by
  rw [m_10_eq]
  rfl
theorem fewF_eq (re : Int) (f : Q4) (l : List Q4) : m_11 [ruD re f l] = some (.one (.bool (decide ((l.length : Int) ≤ 6)))) := by
  rw [m_11_eq]
  rfl
end Go.Proofs.Ytmohaohdbklkeaa
/- Compatible factors: one sample. -/
namespace Go.Proofs.Ytmohaohdbklkeaa
open Go.Ev Go.RowKit
set_option maxRecDepth 100000
def rdN (n d : Int) : Int := IntKind.i64.wrap (n.tdiv (absW (eu n d)))
def rdD (n d : Int) : Int := IntKind.i64.wrap (d.tdiv (absW (eu n d)))
theorem absW_pos {n d : Int} (hd : 0 < d) (h2 : d < 9223372036854775808) : absW (eu n d) ≠ 0 := by
  rw [absW_gcd hd h2]
  have : 0 < Int.gcd n d := Int.gcd_pos_of_ne_zero_right _ (by omega)
  omega
theorem reduced_eq (n : Int) {d : Int} (hd : 0 < d) (h2 : d < 9223372036854775808) : m_93 [iD n, iD d] = some (.agg [iD (rdN n d), iD (rdD n d)]) := by
  rw [m_93_eq]
  unfold reduced_M
  rw [divisor_eq, pullI, guardP_pos (absW_pos hd h2)]
  rfl
theorem lowest_eq (n : Int) {d : Int} (hd : 0 < d) (h2 : d < 9223372036854775808) : m_87 [iD n, iD d] = some (.agg [iD (rdN n d), iD (rdD n d)]) := by
  rw [m_87_eq]
  unfold lowest_M
  rw [gcdI_eq, pullI, if_neg (by omega), guardP_pos (absW_pos hd h2)]
  rfl
/-- A fraction in lowest terms is what it was. -/
theorem rd_frac {n d : Int} (hd : 0 < d) (h1 : -1000000000000 ≤ n) (h2 : n ≤ 1000000000000) (h3 : d ≤ 1000000000000) : ∃ g : Int, 0 < g ∧ n = g * rdN n d ∧ d = g * rdD n d ∧ 0 < rdD n d ∧ rdD n d ≤ d ∧ (rdN n d).natAbs ≤ n.natAbs := by
  have hg0 : 0 < Int.gcd n d := Int.gcd_pos_of_ne_zero_right _ (by omega)
  refine ⟨((Int.gcd n d : Nat) : Int), by omega, ?_⟩
  unfold rdN rdD
  rw [absW_gcd hd (by omega)]
  have b1 : (n.tdiv ((Int.gcd n d : Nat) : Int)).natAbs ≤ n.natAbs := by rw [Int.natAbs_tdiv]; exact Nat.div_le_self _ _
  have b2 : (d.tdiv ((Int.gcd n d : Nat) : Int)).natAbs ≤ d.natAbs := by rw [Int.natAbs_tdiv]; exact Nat.div_le_self _ _
  rw [wrapJ _ (by omega) (by omega), wrapJ _ (by omega) (by omega)]
  have e1 := Int.mul_tdiv_cancel' (Int.gcd_dvd_left n d)
  have e2 := Int.mul_tdiv_cancel' (Int.gcd_dvd_right n d)
  refine ⟨e1.symm, e2.symm, ?_, by omega, b1⟩
  have : 0 < ((Int.gcd n d : Nat) : Int) * d.tdiv ((Int.gcd n d : Nat) : Int) := by rw [e2]; exact hd
  refine Classical.byContradiction fun hx => ?_
  have h9 := Int.mul_le_mul_of_nonneg_left (show d.tdiv ((Int.gcd n d : Nat) : Int) ≤ 0 by omega) (show (0 : Int) ≤ ((Int.gcd n d : Nat) : Int) by omega)
  rw [Int.mul_zero] at h9
  omega
/-- An error and samples that are valid. -/
structure RX (e : Int) (y : List Int) : Prop where
  e0 : 0 ≤ e
  e1 : e ≤ 100
  l3 : 3 ≤ y.length
  l64 : y.length ≤ 64
  bnd : ∀ i, i < y.length → -4096 ≤ at' y i ∧ at' y i ≤ 4096
theorem RX.of {re st : Int} {f : Q4} {l : List Q4} {y : List Int} (h1 : rulE re f l = 0) (h2 : recE st y = 0) : RX re y := by
  unfold rulE at h1
  unfold recE at h2
  split at h1
  · rename_i g
    split at h2
    · split at h2
      · cases h2
      · split at h2
        · cases h2
        · split at h2
          · rename_i g2 g3 g4
            exact ⟨g.1, g.2, by omega, by omega, fun i hi => allIn_at g4 hi⟩
          · cases h2
    · cases h2
  · cases h1
theorem around_eq {v e : Int} (h1 : -4096 ≤ v) (h2 : v ≤ 4096) (h3 : 0 ≤ e) (h4 : e ≤ 100) : m_77 [iD v, iD e] = some (.agg [iD (v - e), iD (v + e)]) := by
  rw [m_77_eq]
  unfold around_M
  rw [wrapJ (v - e) (by omega) (by omega), wrapJ (v + e) (by omega) (by omega)]
def botE (re : Int) (f : Q4) (l : List Q4) (st : Int) (y : List Int) : Int := if rulE re f l = 0 then recE st y else rulE re f l
theorem botE_ok {re : Int} {f : Q4} {l : List Q4} {st : Int} {y : List Int} (h : botE re f l st y = 0) : rulE re f l = 0 ∧ recE st y = 0 := by
  unfold botE at h
  split at h
  · rename_i g; exact ⟨g, h⟩
  · contradiction
theorem bothErr_eq (re : Int) (f : Q4) (l : List Q4) (st : Int) (y : List Int) (hl : l.length ≤ 1000) (hy : y.length ≤ 1000) : m_17 [ruD re f l, reD st y] = some (iD (botE re f l st y)) := by
  rw [m_17_eq]
  unfold bothErr_M botE
  have a1 : m_53 [.agg [iD re, iD f.a, iD f.b, iD f.c, iD f.d, .list l.length (cQ l)]] = _ := rulesErr_eq re f l hl
  have a2 : m_41 [.agg [iD st, .list y.length (y.map iD)]] = _ := recErr_eq st y hy
  rw [a1, pullI, a2, pullI]
  by_cases g : rulE re f l = 0
  · rw [if_neg (fun h => h g), if_pos g]
  · rw [if_pos g, if_neg g]
/-! ### Fractions of any sign -/
theorem lowest_neg {n d : Int} (hd : d < 0) (h1 : -100000 ≤ n) (h2 : n ≤ 100000) (h3 : -100000 ≤ d) : m_87 [iD n, iD d] = some (.agg [iD (rdN (-n) (-d)), iD (rdD (-n) (-d))]) := by
  have g0 : 0 < Int.gcd n d := Int.gcd_pos_of_ne_zero_right _ (by omega)
  have gle : Int.gcd n d ≤ d.natAbs := Nat.le_of_dvd (by omega) (Int.gcd_dvd_natAbs_right n d)
  have e1 : absW (eu n d) = ((Int.gcd n d : Nat) : Int) := by rw [absW_eq (by rw [eu_gcd]; omega), eu_gcd]
  have e2 : absW (eu (-n) (-d)) = ((Int.gcd n d : Nat) : Int) := by
    rw [absW_eq (by rw [eu_gcd, Int.gcd_neg, Int.neg_gcd]; omega), eu_gcd, Int.gcd_neg, Int.neg_gcd]
  rw [m_87_eq]
  unfold lowest_M rdN rdD
  rw [gcdI_eq, pullI, if_pos hd, e1, e2, wrapJ (0 - _) (by omega) (by omega), guardP_pos (by omega), show (0 : Int) - ((Int.gcd n d : Nat) : Int) = -((Int.gcd n d : Nat) : Int) by omega, Int.tdiv_neg, Int.tdiv_neg, Int.neg_tdiv, Int.neg_tdiv]
/-- Parts that are not too large. -/
def sm (x : Int) : Prop := -5000 ≤ x ∧ x ≤ 5000
def dn (x : Int) : Prop := 1 ≤ x ∧ x ≤ 5000
theorem pr {x z : Int} (hx : sm x) (hz : dn z) : -25000000 ≤ x * z ∧ x * z ≤ 25000000 := by
  have := mulB (x := x) (y := z) (A := 5000) (B := 5000) hx.1 hx.2 (by have := hz.1; omega) hz.2
  omega
theorem less_eq {n d m e : Int} (hn : sm n) (hd : dn d) (hm : sm m) (he : dn e) : m_95 [.agg [iD n, iD d], .agg [iD m, iD e]] = some (.one (.bool (decide (n * e < m * d)))) := by
  have := pr hn he
  have := pr hm hd
  rw [m_95_eq]
  unfold isLess_M
  rw [wrapJ (n * e) (by omega) (by omega), wrapJ (m * d) (by omega) (by omega)]
theorem cmp_eq' {n d m e : Int} (hn : sm n) (hd : dn d) (hm : sm m) (he : dn e) : m_39 [.agg [iD n, iD d], .agg [iD m, iD e]] = some (iD (if n * e < m * d then -1 else if n * e > m * d then 1 else 0)) := by
  have := pr hn he
  have := pr hm hd
  rw [m_39_eq]
  unfold cmpI_M
  rw [wrapJ (n * e) (by omega) (by omega), wrapJ (m * d) (by omega) (by omega)]
  repeat' split
  all_goals rfl
theorem lesser_eq {n d m e : Int} (hn : sm n) (hd : dn d) (hm : sm m) (he : dn e) : m_98 [.agg [iD n, iD d], .agg [iD m, iD e]] = some (if m * d < n * e then .agg [iD m, iD e] else .agg [iD n, iD d]) := by
  rw [m_98_eq]
  unfold lesser_M
  rw [less_eq hm he hn hd, pullB]
  by_cases h : m * d < n * e
  · rw [if_pos (by simpa using h), if_pos h]
  · rw [if_neg (by simpa using h), if_neg h]
theorem greater_eq {n d m e : Int} (hn : sm n) (hd : dn d) (hm : sm m) (he : dn e) : m_99 [.agg [iD n, iD d], .agg [iD m, iD e]] = some (if n * e < m * d then .agg [iD m, iD e] else .agg [iD n, iD d]) := by
  rw [m_99_eq]
  unfold greater_M
  rw [less_eq hn hd hm he, pullB]
  by_cases h : n * e < m * d
  · rw [if_pos (by simpa using h), if_pos h]
  · rw [if_neg (by simpa using h), if_neg h]
theorem rd_sm {n d : Int} (hd : 0 < d) (hd2 : d ≤ 5000) (h1 : -5000 ≤ n) (h2 : n ≤ 5000) : sm (rdN n d) ∧ dn (rdD n d) := by
  obtain ⟨g, g0, g1, g2, g3, g4, g5⟩ := rd_frac (n := n) hd (by omega) (by omega) (by omega)
  exact ⟨⟨by omega, by omega⟩, ⟨by omega, by omega⟩⟩
/-! ### Spans -/
abbrev spD (s : Q4) : D := .agg [iD s.a, iD s.b, iD s.c, iD s.d]
structure SP (s : Q4) : Prop where
  a : sm s.a
  b : dn s.b
  c : sm s.c
  d : dn s.d
  o : s.a * s.d ≤ s.c * s.b
/-- What a condition leaves of a span, and whether there is anything. -/
def nar (t b : Int) (s : Q4) : Q4 × Bool :=
  if t = 0 then (s, decide (b ≥ 0))
  else if t > 0 then (let h := if rdN b t * s.d < s.c * rdD b t then (rdN b t, rdD b t) else (s.c, s.d); (⟨s.a, s.b, h.1, h.2⟩, !decide (h.1 * s.b < s.a * h.2)))
  else (let h := if s.a * rdD (-b) (-t) < rdN (-b) (-t) * s.b then (rdN (-b) (-t), rdD (-b) (-t)) else (s.a, s.b); (⟨h.1, h.2, s.c, s.d⟩, !decide (s.c * h.2 < h.1 * s.d)))
theorem nar_ok {t b : Int} {s : Q4} (t1 : -5000 ≤ t) (t2 : t ≤ 5000) (b1 : -5000 ≤ b) (b2 : b ≤ 5000) (h : SP s) (ho : (nar t b s).2 = true) : SP (nar t b s).1 := by
  obtain ⟨ha, hb, hc, hd, hq⟩ := h
  unfold nar at ho ⊢
  by_cases h0 : t = 0
  · rw [if_pos h0] at ho ⊢
    exact ⟨ha, hb, hc, hd, hq⟩
  rw [if_neg h0] at ho ⊢
  by_cases h1 : t > 0
  · rw [if_pos h1] at ho ⊢
    obtain ⟨r1, r2⟩ := rd_sm (n := b) h1 t2 b1 b2
    dsimp only at ho ⊢
    by_cases q : rdN b t * s.d < s.c * rdD b t
    · rw [if_pos q] at ho ⊢
      dsimp only at ho ⊢
      simp only [Bool.not_eq_true', decide_eq_false_iff_not] at ho
      exact ⟨ha, hb, r1, r2, by show s.a * rdD b t ≤ rdN b t * s.b; omega⟩
    · rw [if_neg q] at ho ⊢
      exact ⟨ha, hb, hc, hd, hq⟩
  · rw [if_neg h1] at ho ⊢
    obtain ⟨r1, r2⟩ := rd_sm (n := -b) (d := -t) (by omega) (by omega) (by omega) (by omega)
    dsimp only at ho ⊢
    by_cases q : s.a * rdD (-b) (-t) < rdN (-b) (-t) * s.b
    · rw [if_pos q] at ho ⊢
      dsimp only at ho ⊢
      simp only [Bool.not_eq_true', decide_eq_false_iff_not] at ho
      exact ⟨r1, r2, hc, hd, by show rdN (-b) (-t) * s.d ≤ s.c * rdD (-b) (-t); omega⟩
    · rw [if_neg q] at ho ⊢
      exact ⟨ha, hb, hc, hd, hq⟩
theorem narrowed_eq {t b : Int} {s : Q4} (t1 : -5000 ≤ t) (t2 : t ≤ 5000) (b1 : -5000 ≤ b) (b2 : b ≤ 5000) (h : SP s) : m_86 [.agg [iD t, iD b], spD s] = some (.tup [spD (nar t b s).1, .one (.bool (nar t b s).2)]) := by
  obtain ⟨ha, hb, hc, hd, hq⟩ := h
  rw [m_86_eq]
  unfold narrowed_M nar
  by_cases h0 : t = 0
  · rw [if_pos h0, if_pos h0]
  rw [if_neg h0, if_neg h0]
  by_cases h1 : t > 0
  · obtain ⟨r1, r2⟩ := rd_sm (n := b) h1 t2 b1 b2
    rw [if_pos h1, if_pos h1, reduced_eq b h1 (by omega), pullD_some (rdN b t, rdD b t) (by rfl) (by rfl)]
    dsimp only
    rw [lesser_eq hc hd r1 r2]
    by_cases q : rdN b t * s.d < s.c * rdD b t
    · rw [if_pos q, if_pos q, pullD_some (rdN b t, rdD b t) (by rfl) (by rfl)]
      dsimp only
      rw [less_eq r1 r2 ha hb, pullB]
    · rw [if_neg q, if_neg q, pullD_some (s.c, s.d) (by rfl) (by rfl)]
      dsimp only
      rw [less_eq hc hd ha hb, pullB]
  · obtain ⟨r1, r2⟩ := rd_sm (n := -b) (d := -t) (by omega) (by omega) (by omega) (by omega)
    rw [if_neg h1, if_neg h1, wrapJ (0 - b) (by omega) (by omega), wrapJ (0 - t) (by omega) (by omega), show 0 - b = -b by omega, show 0 - t = -t by omega, reduced_eq (-b) (by omega) (by omega), pullD_some (rdN (-b) (-t), rdD (-b) (-t)) (by rfl) (by rfl)]
    dsimp only
    rw [greater_eq ha hb r1 r2]
    by_cases q : s.a * rdD (-b) (-t) < rdN (-b) (-t) * s.b
    · rw [if_pos q, if_pos q, pullD_some (rdN (-b) (-t), rdD (-b) (-t)) (by rfl) (by rfl)]
      dsimp only
      rw [less_eq hc hd r1 r2, pullB]
    · rw [if_neg q, if_neg q, pullD_some (s.a, s.b) (by rfl) (by rfl)]
      dsimp only
      rw [less_eq hc hd ha hb, pullB]
theorem le0 (x z : Int) : decide ((if x < z then (-1 : Int) else if x > z then 1 else 0) ≤ 0) = !decide (z < x) := by
  by_cases h1 : x < z
  · rw [if_pos h1]; simp; omega
  · rw [if_neg h1]
    by_cases h2 : x > z
    · rw [if_pos h2]; simp; omega
    · rw [if_neg h2]; simp; omega
theorem lt0 (x z : Int) : ((if x < z then (-1 : Int) else if x > z then 1 else 0) < 0) ↔ x < z := by
  by_cases h1 : x < z
  · rw [if_pos h1]; omega
  · rw [if_neg h1]
    by_cases h2 : x > z
    · rw [if_pos h2]; omega
    · rw [if_neg h2]; omega
theorem gt0 (x z : Int) : ((if x < z then (-1 : Int) else if x > z then 1 else 0) > 0) ↔ z < x := by
  by_cases h1 : x < z
  · rw [if_pos h1]; omega
  · rw [if_neg h1]
    by_cases h2 : x > z
    · rw [if_pos h2]; omega
    · rw [if_neg h2]; omega
theorem limit_eq {t b : Int} {s : Q4} (t1 : -5000 ≤ t) (t2 : t ≤ 5000) (b1 : -5000 ≤ b) (b2 : b ≤ 5000) (h : SP s) : m_58 [spD s, iD t, iD b] = some (.tup [spD (nar t b s).1, .one (.bool (nar t b s).2)]) := by
  obtain ⟨ha, hb, hc, hd, hq⟩ := h
  rw [m_58_eq]
  unfold limit_M nar
  by_cases h0 : t = 0
  · rw [if_neg (by omega), if_neg (by omega), if_pos h0]
    by_cases hb0 : b < 0
    · rw [if_pos hb0, decide_eq_false (by omega)]
    · rw [if_neg hb0, cmp_eq' ha hb hc hd, pullI, le0, decide_eq_true (show b ≥ 0 by omega), decide_eq_false (by omega)]
      rfl
  rw [if_neg h0]
  by_cases h1 : t > 0
  · obtain ⟨r1, r2⟩ := rd_sm (n := b) h1 t2 b1 b2
    rw [if_pos h1, if_pos h1, lowest_eq b h1 (by omega), pullD_some (rdN b t, rdD b t) (by rfl) (by rfl)]
    dsimp only
    rw [cmp_eq' r1 r2 hc hd, pullI]
    by_cases q : rdN b t * s.d < s.c * rdD b t
    · rw [if_pos ((lt0 _ _).2 q), if_pos q, cmp_eq' ha hb r1 r2, pullI, le0]
    · rw [if_neg (fun h => q ((lt0 _ _).1 h)), if_neg q, cmp_eq' ha hb hc hd, pullI, le0]
  · obtain ⟨r1, r2⟩ := rd_sm (n := -b) (d := -t) (by omega) (by omega) (by omega) (by omega)
    rw [if_neg h1, if_neg h1, if_pos (by omega), lowest_neg (by omega) (by omega) (by omega) (by omega), pullD_some (rdN (-b) (-t), rdD (-b) (-t)) (by rfl) (by rfl)]
    dsimp only
    rw [cmp_eq' r1 r2 ha hb, pullI]
    by_cases q : s.a * rdD (-b) (-t) < rdN (-b) (-t) * s.b
    · rw [if_pos ((gt0 _ _).2 q), if_pos q, cmp_eq' r1 r2 hc hd, pullI, le0]
    · rw [if_neg (fun h => q ((gt0 _ _).1 h)), if_neg q, cmp_eq' ha hb hc hd, pullI, le0]
end Go.Proofs.Ytmohaohdbklkeaa
/- Compatible factors: the loops, the law. -/
namespace Go.Proofs.Ytmohaohdbklkeaa
open Go.Ev Go.RowKit
set_option maxRecDepth 100000
/-! ### All indexes -/
def idx (i : Nat) : Int := i
abbrev xD (n : Nat) : D := .list n ((tab n idx).map iD)
theorem readI {n i : Nat} (h : i < n) : readD ((tab n idx).map iD) ((i : Int).toNat * 1) 1 false = some (iD (i : Int)) := readT idx h
theorem growI (i : Nat) : D.list (i + (0 + 1)) (List.append (List.take (i * 1) ((tab i idx).map iD)) [dCell (.int .i64 (i : Int))]) = xD (i + 1) := by
  have h := grow_list (tab i idx) (i : Int)
  rw [tab_len] at h
  rw [h]
  show D.list (tab i idx ++ [idx i]).length ((tab i idx ++ [idx i]).map iD) = _
  rw [← tab_succ, tab_len]
theorem idx_go {n : Nat} (h1 : 1 ≤ n) {S : Rd → Option Rd} (hs : ∀ i, i < n → S (.next 0 [xD i, iD (i : Int)]) = some (.next 0 [xD (i + 1), iD ((i + 1 : Nat) : Int)])) (he : S (.next 0 [xD n, iD (n : Int)]) = some (.out 0 [xD n])) :
    runR S (.next 0 [xD 1, iD ((1 : Nat) : Int)]) = some (.out 0 [xD n]) := by
  have a := runR_scan (S := S) (fun _ => 0) (fun i => [xD i, iD (i : Int)]) (a := 1) (b := n) h1 (fun i _ h => hs i h)
  exact a.trans (runR_exit he)
abbrev cmpD (re : Int) (f : Q4) (l : List Q4) (x y : List Int) : D := .agg [iD re, iD f.a, iD f.b, iD f.c, iD f.d, lQ l, lD x, lD y]
theorem indexes_eq (re : Int) (f : Q4) (l : List Q4) (x y : List Int) (h : RX re x) : m_56 [cmpD re f l x y] = some (xD x.length) := by
  obtain ⟨e0, e1, l3, l64, hb⟩ := h
  rw [m_56_eq]
  unfold indexes_M
  have s0 : indexes_L3_S re f.a f.b f.c f.d l.length (cQ l) x.length (x.map iD) y.length (y.map iD) (.next 1 [.one (.tuple #[]), iD 0]) = some (.next 0 [xD 1, iD ((1 : Nat) : Int)]) := by
    rw [indexes_L3_S_1]
    unfold indexes_L3_S1
    rw [pullD_some (0 : Int) (by rfl) (by rfl)]
    rw [if_pos (by omega), wrapJ (0 + 1) (by decide) (by decide)]
    rfl
  have hr := idx_go (n := x.length) (S := indexes_L3_S re f.a f.b f.c f.d l.length (cQ l) x.length (x.map iD) y.length (y.map iD)) (by omega) (fun i hi => by
    rw [indexes_L3_S_0]
    unfold indexes_L3_S0
    rw [pullD_some (i, (tab i idx).map iD, (i : Int)) (by rfl) (by rfl)]
    dsimp only
    rw [if_pos (by omega), guardP_pos ⟨cells_int [(i : Int)], by rw [List.length_map, tab_len]; omega, by omega, by omega⟩, growI, natI (by omega)]) (by
    rw [indexes_L3_S_0]
    unfold indexes_L3_S0
    rw [pullD_some (x.length, (tab x.length idx).map iD, (x.length : Int)) (by rfl) (by rfl)]
    dsimp only
    rw [if_neg (by omega)])
  rw [bindL_some ((runR_next s0).trans hr), if_pos rfl, pullD_some (x.length, (tab x.length idx).map iD) (by rfl) (by rfl)]
  dsimp only
  rw [guardP_pos ⟨by rw [List.length_map, tab_len]; omega, by decide⟩]
theorem all_eq (re st : Int) (x : List Int) (h : RX re x) : m_24 [reD st x] = some (xD x.length) := by
  obtain ⟨e0, e1, l3, l64, hb⟩ := h
  rw [m_24_eq]
  unfold allR_M
  have s0 : allR_L3_S st x.length (x.map iD) (.next 1 [.one (.tuple #[]), iD 0]) = some (.next 0 [xD 1, iD ((1 : Nat) : Int)]) := by
    rw [allR_L3_S_1]
    unfold allR_L3_S1
    rw [pullD_some (0 : Int) (by rfl) (by rfl)]
    rw [if_pos (by omega), wrapJ (0 + 1) (by decide) (by decide)]
    rfl
  have hr := idx_go (n := x.length) (S := allR_L3_S st x.length (x.map iD)) (by omega) (fun i hi => by
    rw [allR_L3_S_0]
    unfold allR_L3_S0
    rw [pullD_some (i, (tab i idx).map iD, (i : Int)) (by rfl) (by rfl)]
    dsimp only
    rw [if_pos (by omega), guardP_pos ⟨cells_int [(i : Int)], by rw [List.length_map, tab_len]; omega, by omega, by omega⟩, growI, natI (by omega)]) (by
    rw [allR_L3_S_0]
    unfold allR_L3_S0
    rw [pullD_some (x.length, (tab x.length idx).map iD, (x.length : Int)) (by rfl) (by rfl)]
    dsimp only
    rw [if_neg (by omega)])
  rw [bindL_some ((runR_next s0).trans hr), if_pos rfl, pullD_some (x.length, (tab x.length idx).map iD) (by rfl) (by rfl)]
  dsimp only
  rw [guardP_pos ⟨by rw [List.length_map, tab_len]; omega, by decide⟩]
/-! ### The factors -/
theorem conditions_eq {re : Int} {f : Q4} {l : List Q4} {x y : List Int} {i : Nat} (hx : RX re x) (hy : RX re y) (h1 : i < x.length) (h2 : i < y.length) : m_85 [cmpD re f l x y, iD (i : Int)] = some (.agg [iD (at' x i - re), iD (at' y i + re), iD (-at' x i - re), iD (re - at' y i)]) := by
  obtain ⟨b1, b2⟩ := hx.bnd i h1
  obtain ⟨b3, b4⟩ := hy.bnd i h2
  have e0 := hx.e0
  have e1 := hx.e1
  rw [m_85_eq]
  unfold conditions_M
  rw [guardP_pos (by omega), readA h1, pullI, guardP_pos (by omega), around_eq b1 b2 e0 e1, pullD_some (at' x i - re, at' x i + re) (by rfl) (by rfl)]
  dsimp only
  rw [readA h2, pullI, around_eq b3 b4 e0 e1, pullD_some (at' y i - re, at' y i + re) (by rfl) (by rfl)]
  dsimp only
  rw [wrapJ (0 - (at' x i + re)) (by omega) (by omega), wrapJ (0 - (at' y i - re)) (by omega) (by omega), show 0 - (at' x i + re) = -at' x i - re by omega, show 0 - (at' y i - re) = re - at' y i by omega]
abbrev Z4 : D := .agg [iD 0, iD 0, iD 0, iD 0]
def facD : Option Q4 → D
  | some r => .tup [spD r, .one (.bool true)]
  | none => .tup [Z4, .one (.bool false)]
end Go.Proofs.Ytmohaohdbklkeaa
/- Compatible factors over any indexes. -/
namespace Go.Proofs.Ytmohaohdbklkeaa
open Go.Ev Go.RowKit
set_option maxRecDepth 100000
def facL (e : Int) (x y : List Int) : List Int → Q4 → Option Q4
  | [], s => some s
  | v :: l, s => if (nar (at' x v.toNat - e) (at' y v.toNat + e) s).2 = true then (if (nar (-at' x v.toNat - e) (e - at' y v.toNat) (nar (at' x v.toNat - e) (at' y v.toNat + e) s).1).2 = true then facL e x y l (nar (-at' x v.toNat - e) (e - at' y v.toNat) (nar (at' x v.toNat - e) (at' y v.toNat + e) s).1).1 else none) else none
theorem facL_cons (e : Int) (x y : List Int) (v : Nat) (l : List Int) (s : Q4) : facL e x y ((v : Int) :: l) s = if (nar (at' x v - e) (at' y v + e) s).2 = true then (if (nar (-at' x v - e) (e - at' y v) (nar (at' x v - e) (at' y v + e) s).1).2 = true then facL e x y l (nar (-at' x v - e) (e - at' y v) (nar (at' x v - e) (at' y v + e) s).1).1 else none) else none := rfl
theorem dropC {w : List Int} {i : Nat} (h : i < w.length) : w.drop i = at' w i :: w.drop (i + 1) := by
  rw [List.drop_eq_getElem_cons h]
  unfold at'
  rw [List.getElem?_eq_getElem h]
  rfl
theorem gw_go {re : Int} (f : Q4) (l : List Q4) {x y : List Int} (hx : RX re x) (hy : RX re y) (hl : x.length = y.length) {ws : List Int} (hw : ∀ i, i < ws.length → 0 ≤ at' ws i ∧ at' ws i < x.length) (hw2 : ws.length ≤ 1000) : ∀ (m i : Nat) (s : Q4), i + m = ws.length → SP s →
    (∀ r, facL re x y (ws.drop i) s = some r → runR (factors_L3_S re f.a f.b f.c f.d l.length (cQ l) x.length (x.map iD) y.length (y.map iD) ws.length (ws.map iD)) (.next 0 [iD (i : Int), iD s.a, iD s.b, iD s.c, iD s.d, iD 0]) = some (.out 0 [iD r.a, iD r.b, iD r.c, iD r.d, iD 0])) ∧
    (facL re x y (ws.drop i) s = none → ∃ u v w z : Int, runR (factors_L3_S re f.a f.b f.c f.d l.length (cQ l) x.length (x.map iD) y.length (y.map iD) ws.length (ws.map iD)) (.next 0 [iD (i : Int), iD s.a, iD s.b, iD s.c, iD s.d, iD 0]) = some (.out 1 [.one (.bool false), iD u, iD v, iD w, iD z, iD 0])) := by
  have e0 := hx.e0
  have e1 := hx.e1
  intro m
  induction m with
  | zero =>
    intro i s hi _
    have : i = ws.length := by omega
    subst this
    rw [List.drop_length]
    refine ⟨fun r hr => ?_, fun h => by cases h⟩
    cases hr
    refine runR_exit ?_
    rw [factors_L3_S_0]
    unfold factors_L3_S0
    rw [pullD_some ((ws.length : Int), s.a, s.b, s.c, s.d, (0 : Int)) (by rfl) (by rfl)]
    dsimp only
    rw [if_neg (by omega)]
  | succ m ih =>
    intro i s hi hs
    have h0 : i < ws.length := by omega
    obtain ⟨w0, w1⟩ := hw i h0
    obtain ⟨v, hv⟩ : ∃ v : Nat, at' ws i = (v : Int) := ⟨(at' ws i).toNat, by omega⟩
    rw [hv] at w0 w1
    have h1 : v < x.length := by omega
    have rI : readD (ws.map iD) ((i : Int).toNat * 1) 1 false = some (iD (v : Int)) := by rw [← hv]; exact readA h0
    obtain ⟨b1, b2⟩ := hx.bnd v h1
    obtain ⟨b3, b4⟩ := hy.bnd v (by omega)
    have n1 := narrowed_eq (t := at' x v - re) (b := at' y v + re) (by omega) (by omega) (by omega) (by omega) hs
    have k1 := nar_ok (t := at' x v - re) (b := at' y v + re) (by omega) (by omega) (by omega) (by omega) hs
    rw [dropC h0, hv, facL_cons]
    generalize nar (at' x v - re) (at' y v + re) s = p at *
    obtain ⟨p, o⟩ := p
    cases o with
    | false =>
      refine ⟨fun r hr => (by cases hr), fun _ => ⟨s.a, s.b, s.c, s.d, runR_exit ?_⟩⟩
      rw [factors_L3_S_0]
      unfold factors_L3_S0
      rw [pullD_some ((i : Int), s.a, s.b, s.c, s.d, (0 : Int)) (by rfl) (by rfl)]
      dsimp only
      rw [if_pos (by omega), guardP_pos (by omega), rI, pullI, conditions_eq hx hy h1 (by omega), pullD_some (at' x v - re, at' y v + re, -at' x v - re, re - at' y v) (by rfl) (by rfl)]
      dsimp only
      rw [n1, pullD_some (p.a, p.b, p.c, p.d, false) (by rfl) (by rfl)]
      dsimp only
      rw [if_pos rfl]
    | true =>
      have hp : SP p := k1 rfl
      have n2 := narrowed_eq (t := -at' x v - re) (b := re - at' y v) (by omega) (by omega) (by omega) (by omega) hp
      have k2 := nar_ok (t := -at' x v - re) (b := re - at' y v) (by omega) (by omega) (by omega) (by omega) hp
      dsimp only
      rw [if_pos rfl]
      generalize nar (-at' x v - re) (re - at' y v) p = u at *
      obtain ⟨u, o⟩ := u
      cases o with
      | false =>
        refine ⟨fun r hr => (by cases hr), fun _ => ⟨p.a, p.b, p.c, p.d, runR_exit ?_⟩⟩
        rw [factors_L3_S_0]
        unfold factors_L3_S0
        rw [pullD_some ((i : Int), s.a, s.b, s.c, s.d, (0 : Int)) (by rfl) (by rfl)]
        dsimp only
        rw [if_pos (by omega), guardP_pos (by omega), rI, pullI, conditions_eq hx hy h1 (by omega), pullD_some (at' x v - re, at' y v + re, -at' x v - re, re - at' y v) (by rfl) (by rfl)]
        dsimp only
        rw [n1, pullD_some (p.a, p.b, p.c, p.d, true) (by rfl) (by rfl)]
        dsimp only
        rw [if_neg (by decide), n2, pullD_some (u.a, u.b, u.c, u.d, false) (by rfl) (by rfl)]
        dsimp only
        rw [if_pos rfl]
      | true =>
        dsimp only
        rw [if_pos rfl]
        have st : factors_L3_S re f.a f.b f.c f.d l.length (cQ l) x.length (x.map iD) y.length (y.map iD) ws.length (ws.map iD) (.next 0 [iD (i : Int), iD s.a, iD s.b, iD s.c, iD s.d, iD 0]) = some (.next 0 [iD ((i + 1 : Nat) : Int), iD u.a, iD u.b, iD u.c, iD u.d, iD 0]) := by
          rw [factors_L3_S_0]
          unfold factors_L3_S0
          rw [pullD_some ((i : Int), s.a, s.b, s.c, s.d, (0 : Int)) (by rfl) (by rfl)]
          dsimp only
          rw [if_pos (by omega), guardP_pos (by omega), rI, pullI, conditions_eq hx hy h1 (by omega), pullD_some (at' x v - re, at' y v + re, -at' x v - re, re - at' y v) (by rfl) (by rfl)]
          dsimp only
          rw [n1, pullD_some (p.a, p.b, p.c, p.d, true) (by rfl) (by rfl)]
          dsimp only
          rw [if_neg (by decide), n2, pullD_some (u.a, u.b, u.c, u.d, true) (by rfl) (by rfl)]
          dsimp only
          rw [if_neg (by decide), natI (by omega)]
        rw [runR_next st]
        exact ih (i + 1) u (by omega) (k2 rfl)
theorem factorsL_eq {re : Int} {f : Q4} {l : List Q4} {x y : List Int} (hx : RX re x) (hy : RX re y) (hl : x.length = y.length) {ws : List Int} (hw : ∀ i, i < ws.length → 0 ≤ at' ws i ∧ at' ws i < x.length) (hw2 : ws.length ≤ 1000) (hs : SP f) : m_55 [cmpD re f l x y, lD ws] = some (facD (facL re x y ws f)) := by
  rw [m_55_eq]
  unfold factors_M
  obtain ⟨h1, h2⟩ := gw_go f l hx hy hl hw hw2 ws.length 0 f (by omega) hs
  cases hf : facL re x y ws f with
  | some r =>
    have hr := h1 r hf
    have hr : runR (factors_L3_S re f.a f.b f.c f.d l.length (cQ l) x.length (x.map iD) y.length (y.map iD) ws.length (ws.map iD)) (.next 0 [iD 0, iD f.a, iD f.b, iD f.c, iD f.d, iD 0]) = _ := hr
    rw [bindL_some hr, if_pos rfl, pullD_some (r.a, r.b, r.c, r.d, (0 : Int)) (by rfl) (by rfl)]
    rfl
  | none =>
    obtain ⟨u, v, w, z, hr⟩ := h2 hf
    have hr : runR (factors_L3_S re f.a f.b f.c f.d l.length (cQ l) x.length (x.map iD) y.length (y.map iD) ws.length (ws.map iD)) (.next 0 [iD 0, iD f.a, iD f.b, iD f.c, iD f.d, iD 0]) = _ := hr
    rw [bindL_some hr, if_neg (by decide), if_pos rfl, pullD_some (false, u, v, w, z, (0 : Int)) (by rfl) (by rfl)]
    rfl
theorem gr_go {re : Int} (f : Q4) (l : List Q4) {st su : Int} {x y : List Int} (hx : RX re x) (hy : RX re y) (hl : x.length = y.length) {ws : List Int} (hw : ∀ i, i < ws.length → 0 ≤ at' ws i ∧ at' ws i < x.length) (hw2 : ws.length ≤ 1000) : ∀ (m i : Nat) (s : Q4), i + m = ws.length → SP s →
    (∀ r, facL re x y (ws.drop i) s = some r → runR (factorsR_L3_S re f.a f.b f.c f.d l.length (cQ l) st x.length (x.map iD) su y.length (y.map iD) ws.length (ws.map iD)) (.next 0 [.one (.bool true), iD (i : Int), iD s.a, iD s.b, iD s.c, iD s.d]) = some (.out 0 [.one (.bool true), iD r.a, iD r.b, iD r.c, iD r.d])) ∧
    (facL re x y (ws.drop i) s = none → ∃ u v w z : Int, runR (factorsR_L3_S re f.a f.b f.c f.d l.length (cQ l) st x.length (x.map iD) su y.length (y.map iD) ws.length (ws.map iD)) (.next 0 [.one (.bool true), iD (i : Int), iD s.a, iD s.b, iD s.c, iD s.d]) = some (.out 0 [.one (.bool false), iD u, iD v, iD w, iD z])) := by
  have e0 := hx.e0
  have e1 := hx.e1
  have bad : ∀ (j : Int) (u v w z : Int), runR (factorsR_L3_S re f.a f.b f.c f.d l.length (cQ l) st x.length (x.map iD) su y.length (y.map iD) ws.length (ws.map iD)) (.next 0 [.one (.bool false), iD j, iD u, iD v, iD w, iD z]) = some (.out 0 [.one (.bool false), iD u, iD v, iD w, iD z]) := by
    intro j u v w z
    refine runR_exit ?_
    rw [factorsR_L3_S_0]
    unfold factorsR_L3_S0
    rw [pullD_some (false, j, u, v, w, z) (by rfl) (by rfl)]
    dsimp only
    by_cases h : j < (ws.length : Int)
    · rw [if_pos h, if_neg (by decide)]
    · rw [if_neg h]
  intro m
  induction m with
  | zero =>
    intro i s hi _
    have : i = ws.length := by omega
    subst this
    rw [List.drop_length]
    refine ⟨fun r hr => ?_, fun h => by cases h⟩
    cases hr
    refine runR_exit ?_
    rw [factorsR_L3_S_0]
    unfold factorsR_L3_S0
    rw [pullD_some (true, (ws.length : Int), s.a, s.b, s.c, s.d) (by rfl) (by rfl)]
    dsimp only
    rw [if_neg (by omega)]
  | succ m ih =>
    intro i s hi hs
    have h0 : i < ws.length := by omega
    obtain ⟨w0, w1⟩ := hw i h0
    obtain ⟨v, hv⟩ : ∃ v : Nat, at' ws i = (v : Int) := ⟨(at' ws i).toNat, by omega⟩
    rw [hv] at w0 w1
    have h1 : v < x.length := by omega
    have rI : readD (ws.map iD) ((i : Int).toNat * 1) 1 false = some (iD (v : Int)) := by rw [← hv]; exact readA h0
    have h2 : v < y.length := by omega
    obtain ⟨b1, b2⟩ := hx.bnd v h1
    obtain ⟨b3, b4⟩ := hy.bnd v h2
    have n1 := limit_eq (t := at' x v - re) (b := at' y v + re) (by omega) (by omega) (by omega) (by omega) hs
    have k1 := nar_ok (t := at' x v - re) (b := at' y v + re) (by omega) (by omega) (by omega) (by omega) hs
    have pre : ∀ (p : Q4) (o : Bool), m_58 [spD s, iD (at' x v - re), iD (at' y v + re)] = some (.tup [spD p, .one (.bool o)]) →
        factorsR_L3_S re f.a f.b f.c f.d l.length (cQ l) st x.length (x.map iD) su y.length (y.map iD) ws.length (ws.map iD) (.next 0 [.one (.bool true), iD (i : Int), iD s.a, iD s.b, iD s.c, iD s.d]) =
        if o = true then pullD (α := Int × Int × Int × Int × Bool) (m_58 [spD p, iD (-at' x v - re), iD (re - at' y v)]) (fun d => ((D.vi (D.at (D.at d 0) 0)), (D.vi (D.at (D.at d 0) 1)), (D.vi (D.at (D.at d 0) 2)), (D.vi (D.at (D.at d 0) 3)), (D.vb (D.at d 1)))) (fun (r9, r10, r11, r12, r13) => .tup [.agg [iD r9, iD r10, iD r11, iD r12], .one (.bool r13)]) fun (r9, r10, r11, r12, r13) => (some (.next 0 [.one (.bool r13), iD ((i + 1 : Nat) : Int), iD r9, iD r10, iD r11, iD r12])) else some (.next 0 [.one (.bool o), iD ((i + 1 : Nat) : Int), iD p.a, iD p.b, iD p.c, iD p.d]) := by
      intro p o hn
      rw [factorsR_L3_S_0]
      unfold factorsR_L3_S0
      rw [pullD_some (true, (i : Int), s.a, s.b, s.c, s.d) (by rfl) (by rfl)]
      dsimp only
      rw [if_pos (by omega), if_pos rfl, guardP_pos (by omega), rI, pullI, guardP_pos (by omega), readA h1, pullI, pullI, guardP_pos (by omega), readA h2, pullI, wrapJ (at' x v - re) (by omega) (by omega), wrapJ (at' y v + re) (by omega) (by omega), hn, pullD_some (p.a, p.b, p.c, p.d, o) (by rfl) (by rfl)]
      dsimp only
      rw [wrapJ (0 - at' x v) (by omega) (by omega), wrapJ (0 - at' x v - re) (by omega) (by omega), wrapJ (re - at' y v) (by omega) (by omega), natI (by omega), show 0 - at' x v - re = -at' x v - re by omega]
    rw [dropC h0, hv, facL_cons]
    generalize nar (at' x v - re) (at' y v + re) s = p at *
    obtain ⟨p, o⟩ := p
    have q1 := pre p o n1
    cases o with
    | false =>
      refine ⟨fun r hr => (by cases hr), fun _ => ⟨p.a, p.b, p.c, p.d, ?_⟩⟩
      rw [if_neg (by decide)] at q1
      rw [runR_next q1, bad]
    | true =>
      have hp : SP p := k1 rfl
      have n2 := limit_eq (t := -at' x v - re) (b := re - at' y v) (by omega) (by omega) (by omega) (by omega) hp
      have k2 := nar_ok (t := -at' x v - re) (b := re - at' y v) (by omega) (by omega) (by omega) (by omega) hp
      dsimp only
      rw [if_pos rfl]
      rw [if_pos rfl] at q1
      generalize nar (-at' x v - re) (re - at' y v) p = u at *
      obtain ⟨u, o⟩ := u
      rw [n2, pullD_some (u.a, u.b, u.c, u.d, o) (by rfl) (by rfl)] at q1
      dsimp only at q1
      rw [runR_next q1]
      cases o with
      | false => exact ⟨fun r hr => (by cases hr), fun _ => ⟨u.a, u.b, u.c, u.d, bad _ _ _ _ _⟩⟩
      | true =>
        dsimp only
        rw [if_pos rfl]
        exact ih (i + 1) u (by omega) (k2 rfl)
theorem factorsRL_eq {re : Int} {f : Q4} {l : List Q4} {st su : Int} {x y : List Int} (hx : RX re x) (hy : RX re y) (hl : x.length = y.length) {ws : List Int} (hw : ∀ i, i < ws.length → 0 ≤ at' ws i ∧ at' ws i < x.length) (hw2 : ws.length ≤ 1000) (hs : SP f) : m_23 [ruD re f l, reD st x, reD su y, lD ws] = some (facD (facL re x y ws f)) := by
  rw [m_23_eq]
  unfold factorsR_M
  obtain ⟨h1, h2⟩ := gr_go f l (st := st) (su := su) hx hy hl hw hw2 ws.length 0 f (by omega) hs
  cases hf : facL re x y ws f with
  | some r =>
    have hr := h1 r hf
    have hr : runR (factorsR_L3_S re f.a f.b f.c f.d l.length (cQ l) st x.length (x.map iD) su y.length (y.map iD) ws.length (ws.map iD)) (.next 0 [.one (.bool true), iD 0, iD f.a, iD f.b, iD f.c, iD f.d]) = _ := hr
    rw [bindL_some hr, if_pos rfl, pullD_some (true, r.a, r.b, r.c, r.d) (by rfl) (by rfl)]
    rfl
  | none =>
    obtain ⟨u, v, w, z, hr⟩ := h2 hf
    have hr : runR (factorsR_L3_S re f.a f.b f.c f.d l.length (cQ l) st x.length (x.map iD) su y.length (y.map iD) ws.length (ws.map iD)) (.next 0 [.one (.bool true), iD 0, iD f.a, iD f.b, iD f.c, iD f.d]) = _ := hr
    rw [bindL_some hr, if_pos rfl, pullD_some (false, u, v, w, z) (by rfl) (by rfl)]
    rfl
end Go.Proofs.Ytmohaohdbklkeaa
/- Compatible factors: what they are. -/
namespace Go.Proofs.Ytmohaohdbklkeaa
open Go.Ev Go.RowKit
set_option maxRecDepth 100000
/-- Fractions a/b ≤ c/d ≤ e/f. -/
theorem cross {a b c d e f : Int} (hb : 0 < b) (hd : 0 < d) (hf : 0 < f) (h1 : a * d ≤ c * b) (h2 : c * f ≤ e * d) : a * f ≤ e * b := by
  have i1 := Int.mul_le_mul_of_nonneg_right h1 (Int.le_of_lt hf)
  have i2 := Int.mul_le_mul_of_nonneg_right h2 (Int.le_of_lt hb)
  have : (a * f) * d ≤ (e * b) * d := by
    have e1 : (a * f) * d = a * d * f := by grind
    have e2 : c * b * f = c * f * b := by grind
    have e3 : (e * b) * d = e * d * b := by grind
    rw [e1, e3]
    omega
  exact Int.le_of_mul_le_mul_right this hd
theorem rd_eq {n d : Int} (hd : 0 < d) (hd2 : d ≤ 5000) (h1 : -5000 ≤ n) (h2 : n ≤ 5000) : n * rdD n d = rdN n d * d ∧ 0 < rdD n d := by
  obtain ⟨g, g0, g1, g2, g3, g4, g5⟩ := rd_frac (n := n) hd (by omega) (by omega) (by omega)
  refine ⟨?_, g3⟩
  generalize rdN n d = a at *
  generalize rdD n d = b at *
  subst g1
  subst g2
  grind
def inS (s : Q4) (n d : Int) : Prop := s.a * d ≤ n * s.b ∧ n * s.d ≤ s.c * d
theorem nar_in {t b n d : Int} {s : Q4} (t1 : -5000 ≤ t) (t2 : t ≤ 5000) (b1 : -5000 ≤ b) (b2 : b ≤ 5000) (h : SP s) (hd : 0 < d) (hi : inS s n d) (hc : t * n ≤ b * d) : (nar t b s).2 = true ∧ inS (nar t b s).1 n d := by
  obtain ⟨ha, hb, hcc, hdd, hq⟩ := h
  obtain ⟨i1, i2⟩ := hi
  have hb' := hb.1
  have hd' := hdd.1
  unfold nar
  by_cases h0 : t = 0
  · rw [if_pos h0]
    subst h0
    refine ⟨?_, i1, i2⟩
    rw [Int.zero_mul] at hc
    rcases Int.lt_or_le b 0 with h | h
    · have := Int.mul_neg_of_neg_of_pos h hd
      omega
    · exact decide_eq_true h
  rw [if_neg h0]
  by_cases h1 : t > 0
  · rw [if_pos h1]
    obtain ⟨r1, r2⟩ := rd_eq (n := b) h1 t2 b1 b2
    have k : n * rdD b t ≤ rdN b t * d := cross (a := n) (b := d) (c := b) (d := t) (e := rdN b t) (f := rdD b t) hd h1 r2 (by rw [Int.mul_comm]; exact hc) (by omega)
    dsimp only
    by_cases g : rdN b t * s.d < s.c * rdD b t
    · rw [if_pos g]
      have := cross (a := s.a) (b := s.b) (c := n) (d := d) (e := rdN b t) (f := rdD b t) (by omega) hd r2 i1 k
      exact ⟨by simpa using this, i1, k⟩
    · rw [if_neg g]
      exact ⟨by simpa using hq, i1, i2⟩
  · rw [if_neg h1]
    obtain ⟨r1, r2⟩ := rd_eq (n := -b) (d := -t) (by omega) (by omega) (by omega) (by omega)
    have k : rdN (-b) (-t) * d ≤ n * rdD (-b) (-t) := cross (a := rdN (-b) (-t)) (b := rdD (-b) (-t)) (c := -b) (d := -t) (e := n) (f := d) r2 (by omega) hd (by omega) (by
      have e1 : -b * d = -(b * d) := Int.neg_mul ..
      have e2 : n * -t = -(t * n) := by rw [Int.mul_neg, Int.mul_comm]
      omega)
    dsimp only
    by_cases g : s.a * rdD (-b) (-t) < rdN (-b) (-t) * s.b
    · rw [if_pos g]
      have := cross (a := rdN (-b) (-t)) (b := rdD (-b) (-t)) (c := n) (d := d) (e := s.c) (f := s.d) r2 hd (by omega) k i2
      exact ⟨by simpa using this, k, i2⟩
    · rw [if_neg g]
      exact ⟨by simpa using hq, i1, i2⟩
theorem nar_of {t b n d : Int} {s : Q4} (t1 : -5000 ≤ t) (t2 : t ≤ 5000) (b1 : -5000 ≤ b) (b2 : b ≤ 5000) (h : SP s) (hd : 0 < d) (ho : (nar t b s).2 = true) (hi : inS (nar t b s).1 n d) : t * n ≤ b * d ∧ inS s n d := by
  obtain ⟨ha, hb, hcc, hdd, hq⟩ := h
  have hb' := hb.1
  have hd' := hdd.1
  unfold nar at hi ho
  by_cases h0 : t = 0
  · rw [if_pos h0] at hi ho
    subst h0
    refine ⟨?_, hi⟩
    have := Int.mul_nonneg (of_decide_eq_true ho) (Int.le_of_lt hd)
    rw [Int.zero_mul]
    exact this
  rw [if_neg h0] at hi ho
  by_cases h1 : t > 0
  · rw [if_pos h1] at hi ho
    obtain ⟨r1, r2⟩ := rd_eq (n := b) h1 t2 b1 b2
    dsimp only at hi
    have fin : n * rdD b t ≤ rdN b t * d → t * n ≤ b * d := fun k => by
      have := cross (a := n) (b := d) (c := rdN b t) (d := rdD b t) (e := b) (f := t) hd r2 h1 k (by omega)
      rw [Int.mul_comm]
      exact this
    by_cases g : rdN b t * s.d < s.c * rdD b t
    · rw [if_pos g] at hi
      obtain ⟨i1, i2⟩ := hi
      have i2 : n * rdD b t ≤ rdN b t * d := i2
      exact ⟨fin i2, i1, cross (a := n) (b := d) (c := rdN b t) (d := rdD b t) (e := s.c) (f := s.d) hd r2 (by omega) i2 (by omega)⟩
    · rw [if_neg g] at hi
      obtain ⟨i1, i2⟩ := hi
      have i2 : n * s.d ≤ s.c * d := i2
      exact ⟨fin (cross (a := n) (b := d) (c := s.c) (d := s.d) (e := rdN b t) (f := rdD b t) hd (by omega) r2 i2 (by omega)), i1, i2⟩
  · rw [if_neg h1] at hi ho
    obtain ⟨r1, r2⟩ := rd_eq (n := -b) (d := -t) (by omega) (by omega) (by omega) (by omega)
    dsimp only at hi
    have fin : rdN (-b) (-t) * d ≤ n * rdD (-b) (-t) → t * n ≤ b * d := fun k => by
      have := cross (a := -b) (b := -t) (c := rdN (-b) (-t)) (d := rdD (-b) (-t)) (e := n) (f := d) (by omega) r2 hd (by omega) k
      have e1 : -b * d = -(b * d) := Int.neg_mul ..
      have e2 : n * -t = -(t * n) := by rw [Int.mul_neg, Int.mul_comm]
      omega
    by_cases g : s.a * rdD (-b) (-t) < rdN (-b) (-t) * s.b
    · rw [if_pos g] at hi
      obtain ⟨i1, i2⟩ := hi
      have i1 : rdN (-b) (-t) * d ≤ n * rdD (-b) (-t) := i1
      exact ⟨fin i1, cross (a := s.a) (b := s.b) (c := rdN (-b) (-t)) (d := rdD (-b) (-t)) (e := n) (f := d) (by omega) r2 hd (by omega) i1, i2⟩
    · rw [if_neg g] at hi
      obtain ⟨i1, i2⟩ := hi
      have i1 : s.a * d ≤ n * s.b := i1
      exact ⟨fin (cross (a := rdN (-b) (-t)) (b := rdD (-b) (-t)) (c := s.a) (d := s.b) (e := n) (f := d) r2 (by omega) hd (by omega) i1), i1, i2⟩
/-- A factor n/d is compatible with the samples at an index. -/
def okP (e : Int) (x y : List Int) (n d : Int) (v : Nat) : Prop := (at' x v - e) * n ≤ (at' y v + e) * d ∧ (-at' x v - e) * n ≤ (e - at' y v) * d
theorem facL_of {e : Int} {x y : List Int} (hx : RX e x) (hy : RX e y) (hl : x.length = y.length) {n d : Int} (hd : 0 < d) : ∀ (w : List Nat) (s : Q4), SP s → (∀ v ∈ w, v < x.length) → inS s n d → (∀ v ∈ w, okP e x y n d v) → (facL e x y (w.map idx) s).isSome = true
  | [], s, _, _, _, _ => rfl
  | v :: w, s, hs, hv, hi, ho => by
    have h1 := hv v (by simp)
    obtain ⟨b1, b2⟩ := hx.bnd v h1
    obtain ⟨b3, b4⟩ := hy.bnd v (by omega)
    have e0 := hx.e0
    have e1 := hx.e1
    obtain ⟨o1, o2⟩ := ho v (by simp)
    have n1 := nar_in (t := at' x v - e) (b := at' y v + e) (by omega) (by omega) (by omega) (by omega) hs hd hi o1
    have k1 := nar_ok (t := at' x v - e) (b := at' y v + e) (by omega) (by omega) (by omega) (by omega) hs n1.1
    have n2 := nar_in (t := -at' x v - e) (b := e - at' y v) (by omega) (by omega) (by omega) (by omega) k1 hd n1.2 o2
    have k2 := nar_ok (t := -at' x v - e) (b := e - at' y v) (by omega) (by omega) (by omega) (by omega) k1 n2.1
    show (facL e x y ((v : Int) :: w.map idx) s).isSome = true
    rw [facL_cons, if_pos n1.1, if_pos n2.1]
    exact facL_of hx hy hl hd w _ k2 (fun u hu => hv u (by simp [hu])) n2.2 (fun u hu => ho u (by simp [hu]))
theorem facL_in {e : Int} {x y : List Int} (hx : RX e x) (hy : RX e y) (hl : x.length = y.length) : ∀ (w : List Nat) (s r : Q4), SP s → (∀ v ∈ w, v < x.length) → facL e x y (w.map idx) s = some r → SP r ∧ ∀ n d : Int, 0 < d → inS r n d → inS s n d ∧ ∀ v ∈ w, okP e x y n d v
  | [], s, r, hs, _, h => by
    cases h
    exact ⟨hs, fun n d _ hi => ⟨hi, fun v hv => by cases hv⟩⟩
  | v :: w, s, r, hs, hv, h => by
    have h1 := hv v (by simp)
    obtain ⟨b1, b2⟩ := hx.bnd v h1
    obtain ⟨b3, b4⟩ := hy.bnd v (by omega)
    have e0 := hx.e0
    have e1 := hx.e1
    have h : facL e x y ((v : Int) :: w.map idx) s = some r := h
    rw [facL_cons] at h
    by_cases g1 : (nar (at' x v - e) (at' y v + e) s).2 = true
    · rw [if_pos g1] at h
      have k1 := nar_ok (t := at' x v - e) (b := at' y v + e) (by omega) (by omega) (by omega) (by omega) hs g1
      by_cases g2 : (nar (-at' x v - e) (e - at' y v) (nar (at' x v - e) (at' y v + e) s).1).2 = true
      · rw [if_pos g2] at h
        have k2 := nar_ok (t := -at' x v - e) (b := e - at' y v) (by omega) (by omega) (by omega) (by omega) k1 g2
        obtain ⟨q1, q2⟩ := facL_in hx hy hl w _ r k2 (fun u hu => hv u (by simp [hu])) h
        refine ⟨q1, fun n d hd hi => ?_⟩
        obtain ⟨j1, j2⟩ := q2 n d hd hi
        obtain ⟨m1, m2⟩ := nar_of (t := -at' x v - e) (b := e - at' y v) (by omega) (by omega) (by omega) (by omega) k1 hd g2 j1
        obtain ⟨m3, m4⟩ := nar_of (t := at' x v - e) (b := at' y v + e) (by omega) (by omega) (by omega) (by omega) hs hd g1 m2
        refine ⟨m4, fun u hu => ?_⟩
        rcases List.mem_cons.1 hu with rfl | hu
        · exact ⟨m3, m1⟩
        · exact j2 u hu
      · rw [if_neg g2] at h
        cases h
    · rw [if_neg g1] at h
      cases h
/-- Some of the indexes leave a factor if all of them do. -/
theorem facL_sub {e : Int} {x y : List Int} (hx : RX e x) (hy : RX e y) (hl : x.length = y.length) {s : Q4} (hs : SP s) {all w : List Nat} (ha : ∀ v ∈ all, v < x.length) (hw : ∀ v ∈ w, v ∈ all) (h : (facL e x y (all.map idx) s).isSome = true) : (facL e x y (w.map idx) s).isSome = true := by
  obtain ⟨r, hr⟩ := Option.isSome_iff_exists.1 h
  obtain ⟨q1, q2⟩ := facL_in hx hy hl all s r hs ha hr
  have hb := q1.b.1
  obtain ⟨j1, j2⟩ := q2 r.a r.b (by omega) ⟨Int.le_refl _, q1.o⟩
  exact facL_of hx hy hl (by omega) w s hs (fun v hv => ha v (hw v hv)) j1 (fun v hv => j2 v (hw v hv))
end Go.Proofs.Ytmohaohdbklkeaa
/- Compatible factors: the law. -/
namespace Go.Proofs.Ytmohaohdbklkeaa
open Go.Ev Go.RowKit
set_option maxRecDepth 100000
def timE (st su : Int) (x y : List Int) : Int := if st ≠ su then 10 else if (x.length : Int) ≠ (y.length : Int) then 10 else 0
theorem times_eq (st su : Int) (x y : List Int) : m_84 [.agg [iD st, lD x, iD su, lD y]] = some (iD (timE st su x y)) := by
  rw [m_84_eq]
  unfold chkTimes_M timE
  by_cases h1 : st ≠ su
  · rw [if_pos h1, if_pos h1]
  · rw [if_neg h1, if_neg h1]
    by_cases h2 : (x.length : Int) ≠ (y.length : Int)
    · rw [if_pos h2, if_pos h2]
    · rw [if_neg h2, if_neg h2]
/-- Why a pair is refused. -/
def prE (re : Int) (f : Q4) (l : List Q4) (st su : Int) (x y : List Int) : Int := if botE re f l st x ≠ 0 then botE re f l st x else if recE su y ≠ 0 then recE su y else timE st su x y
theorem first4 (a b c d : Int) : firstV [a, b, c, d] = if (if a = 0 then b else a) ≠ 0 then (if a = 0 then b else a) else if c ≠ 0 then c else d := by
  unfold firstV firstV firstV firstV firstV
  by_cases h1 : a = 0
  · by_cases h2 : b = 0
    · by_cases h3 : c = 0
      · by_cases h4 : d = 0 <;> simp [h1, h2, h3, h4]
      · simp [h1, h2, h3]
    · simp [h1, h2]
  · simp [h1]
theorem pairErr_eq (re : Int) (f : Q4) (l : List Q4) (st su : Int) (x y : List Int) (hl : l.length ≤ 1000) (hx : x.length ≤ 1000) (hy : y.length ≤ 1000) : m_22 [ruD re f l, reD st x, reD su y] = some (iD (prE re f l st su x y)) := by
  rw [m_22_eq]
  unfold pairErr_M prE timE
  have a1 : m_17 [.agg [iD re, iD f.a, iD f.b, iD f.c, iD f.d, .list l.length (cQ l)], .agg [iD st, .list x.length (x.map iD)]] = _ := bothErr_eq re f l st x hl hx
  have a2 : m_41 [.agg [iD su, .list y.length (y.map iD)]] = _ := recErr_eq su y hy
  rw [a1, pullI, a2, pullI]
  by_cases g1 : botE re f l st x ≠ 0
  · rw [if_pos g1, if_pos g1]
  rw [if_neg g1, if_neg g1]
  by_cases g2 : recE su y ≠ 0
  · rw [if_pos g2, if_pos g2]
  rw [if_neg g2, if_neg g2]
  by_cases g3 : st ≠ su
  · rw [if_pos g3, if_pos g3]
  rw [if_neg g3, if_neg g3]
  by_cases g4 : (x.length : Int) ≠ (y.length : Int)
  · rw [if_pos g4, if_pos g4]
  · rw [if_neg g4, if_neg g4]
theorem comparison_eq (re : Int) (f : Q4) (l : List Q4) (st su : Int) (x y : List Int) (hl : l.length ≤ 1000) (hx : x.length ≤ 1000) (hy : y.length ≤ 1000) : m_54 [ruD re f l, .agg [iD st, lD x, iD su, lD y]] = some (if prE re f l st su x y ≠ 0 then .tup [.agg [iD 0, iD 0, iD 0, iD 0, iD 0, .list 0 [], .list 0 [], .list 0 []], iD (prE re f l st su x y)] else .tup [cmpD re f l x y, iD 0]) := by
  rw [m_54_eq]
  unfold comparisonOf_M
  have a1 : m_46 [.agg [iD re, iD f.a, iD f.b, iD f.c, iD f.d, .list l.length (cQ l)]] = _ := chkRules_eq re f l hl
  have a2 : m_47 [.agg [iD st, .list x.length (x.map iD)]] = _ := chkRecord_eq st x hx
  have a3 : m_47 [.agg [iD su, .list y.length (y.map iD)]] = _ := chkRecord_eq su y hy
  have a4 : m_84 [.agg [iD st, .list x.length (x.map iD), iD su, .list y.length (y.map iD)]] = _ := times_eq st su x y
  have a5 : m_45 [.list 4 [iD (rulE re f l), iD (recE st x), iD (recE su y), iD (timE st su x y)]] = _ := firstOf_eq [rulE re f l, recE st x, recE su y, timE st su x y] (by simp)
  have a6 : firstV [rulE re f l, recE st x, recE su y, timE st su x y] = prE re f l st su x y := first4 _ _ _ _
  rw [a1, pullI, a2, pullI, a3, pullI, a4, pullI, a5, pullI, a6]
  by_cases g : prE re f l st su x y ≠ 0
  · rw [if_pos g, if_pos g]
  · rw [if_neg g, if_neg g]
theorem SP.of {re : Int} {f : Q4} {l : List Q4} (h : rulE re f l = 0) : SP f := by
  unfold rulE at h
  by_cases g0 : 0 ≤ re ∧ re ≤ 100
  · rw [if_pos g0] at h
    by_cases g : facE f = 0
    · unfold facE at g
      split at g
      · split at g
        · rename_i h2
          obtain ⟨a1, a2, b1, b2, c1, c2, d1, d2⟩ := h2
          split at g
          · rename_i h3
            exact ⟨⟨by omega, by omega⟩, ⟨by omega, by omega⟩, ⟨by omega, by omega⟩, ⟨by omega, by omega⟩, h3⟩
          · cases g
        · cases g
      · cases g
    · rw [if_neg g] at h
      exact absurd h g
  · rw [if_neg g0] at h
    cases h
structure PR (re : Int) (f : Q4) (x y : List Int) : Prop where
  hx : RX re x
  hy : RX re y
  hl : x.length = y.length
  hs : SP f
theorem PR.of {re : Int} {f : Q4} {l : List Q4} {st su : Int} {x y : List Int} (h : prE re f l st su x y = 0) : PR re f x y := by
  unfold prE at h
  by_cases g1 : botE re f l st x ≠ 0
  · rw [if_pos g1] at h
    exact absurd h g1
  rw [if_neg g1] at h
  by_cases g2 : recE su y ≠ 0
  · rw [if_pos g2] at h
    exact absurd h g2
  rw [if_neg g2] at h
  unfold timE at h
  obtain ⟨h1, h2⟩ := botE_ok (Classical.not_not.1 g1)
  by_cases g3 : st ≠ su
  · rw [if_pos g3] at h
    cases h
  rw [if_neg g3] at h
  by_cases g4 : (x.length : Int) ≠ (y.length : Int)
  · rw [if_pos g4] at h
    cases h
  exact ⟨RX.of h1 h2, RX.of h1 (Classical.not_not.1 g2), by omega, SP.of h1⟩
/-! ### What is answered -/
end Go.Proofs.Ytmohaohdbklkeaa
namespace Go.Proofs.Ytmohaohdbklkeaa
open Go.Ev Go.RowKit
set_option maxRecDepth 100000
set_option maxHeartbeats 8000000
set_option linter.all false
noncomputable section
def checkIndexes_x2_0 : LExit := ⟨some 0, [], (List.range' 4 4 ++ (List.range' 10 28))⟩
def checkIndexes_x2_1 : LExit := ⟨none, [.val 4, .val 5], (6 :: (7 :: (List.range' 10 28)))⟩
def checkIndexes_sp : List LSpec := [⟨60, 2, [checkIndexes_x2_0, checkIndexes_x2_1]⟩]
def checkIndexes_L2_E (re fa fb fc fd : Int) (k : Nat) (c : List D) (kb : Nat) (cb : List D) (ke : Nat) (ce : List D) (kx : Nat) (cx : List D)  : List AV × AHeap := ([.agg [.pure (.int .i64 re), .pure (.int .i64 fa), .pure (.int .i64 fb), .pure (.int .i64 fc), .pure (.int .i64 fd), .dsl 0, .dsl 1, .dsl 2], .dsl 3, .ptr 4 0, .pure (.tuple #[]), .pure (.int .i64 (0 : Int)), .pure (.int .i64 (0 : Int)), .pure (.tuple #[]), .pure (.tuple #[]), .dsl 3, .pure (.int .i64 (kx : Int)), .pure (.int .i64 (0 : Int)), .pure (.tuple #[]), .pure (.tuple #[]), .pure (.tuple #[]), .pure (.tuple #[]), .pure (.tuple #[]), .pure (.tuple #[]), .pure (.tuple #[]), .pure (.tuple #[]), .pure (.tuple #[]), .pure (.tuple #[]), .pure (.tuple #[]), .pure (.tuple #[]), .pure (.tuple #[]), .pure (.tuple #[]), .pure (.tuple #[]), .pure (.tuple #[]), .pure (.tuple #[]), .pure (.tuple #[]), .pure (.tuple #[]), .pure (.tuple #[]), .pure (.tuple #[]), .pure (.tuple #[]), .pure (.tuple #[]), .pure (.tuple #[]), .pure (.tuple #[]), .pure (.tuple #[]), .pure (.tuple #[])], [(4, { cells := [.pure (.int .i64 re), .pure (.int .i64 fa), .pure (.int .i64 fb), .pure (.int .i64 fc), .pure (.int .i64 fd), .dsl 0, .dsl 1, .dsl 2], opn := none, kind := .cells }), (3, { cells := [], opn := none, kind := .deep kx cx }), (2, { cells := [], opn := none, kind := .deep ke ce }), (1, { cells := [], opn := none, kind := .deep kb cb }), (0, { cells := [], opn := none, kind := .deep k c })])
def checkIndexes_L2_A : LoopAt := ⟨60, loopAt Try.prog 60 0, 5, 37, 5, noFrame⟩
theorem checkIndexes_L2_ok : (checkIndexes_L2_A).OK := ⟨by show 5 ≤ 37; decide, by show 5 ≤ 5; decide, by kernel_rfl, rfl⟩
def checkIndexes_L2_gs (re fa fb fc fd : Int) (k : Nat) (c : List D) (kb : Nat) (cb : List D) (ke : Nat) (ce : List D) (kx : Nat) (cx : List D)  : Go.Ev.Rd → Option GS
  | .next 0 ds => ghost [.val 10] (List.range' 4 4 ++ (List.range' 11 27)) (checkIndexes_L2_E re fa fb fc fd k c kb cb ke ce kx cx).1 (checkIndexes_L2_E re fa fb fc fd k c kb cb ke ce kx cx).2 5 ds
  | .out 0 ds => ghost checkIndexes_x2_0.live checkIndexes_x2_0.junk (checkIndexes_L2_E re fa fb fc fd k c kb cb ke ce kx cx).1 (checkIndexes_L2_E re fa fb fc fd k c kb cb ke ce kx cx).2 5 ds
  | .out 1 ds => ghost checkIndexes_x2_1.live checkIndexes_x2_1.junk (checkIndexes_L2_E re fa fb fc fd k c kb cb ke ce kx cx).1 (checkIndexes_L2_E re fa fb fc fd k c kb cb ke ce kx cx).2 5 ds
  | _ => none
def checkIndexes_L2_ex : Nat → Option Nat
  | 0 => checkIndexes_x2_0.ex
  | 1 => checkIndexes_x2_1.ex
  | _ => none
def checkIndexes_L2_ax : Go.Ev.Rd → AX
  | .next _ _ => .normal
  | .out j _ => axOf (checkIndexes_L2_ex j)
def checkIndexes_L2_S0 (re fa fb fc fd : Int) (k : Nat) (c : List D) (kb : Nat) (cb : List D) (ke : Nat) (ce : List D) (kx : Nat) (cx : List D)  (ds : List D) : Option Go.Ev.Rd := pullD (α := Int) (some (.tup ds)) (fun d => ((D.vi (D.at d 0)))) (fun s10 => .tup [iD s10]) fun s10 => ((if s10 < (kx : Int) then guardP ((0 : Int) ≤ s10 ∧ s10.toNat < kx) (pullD (α := Int) (readD cx (s10.toNat * 1) 1 false) (fun d => ((D.vi d))) (fun v0 => iD v0) fun v0 => ((if v0 < (0 : Int) then some (.out 1 [iD s10, iD (6 : Int)]) else (if v0 ≥ (kb : Int) then some (.out 1 [iD s10, iD (6 : Int)]) else (if s10 > (0 : Int) then guardP ((0 : Int) ≤ IntKind.i64.wrap (s10 - (1 : Int)) ∧ (IntKind.i64.wrap (s10 - (1 : Int))).toNat < kx) (pullD (α := Int) (readD cx ((IntKind.i64.wrap (s10 - (1 : Int))).toNat * 1) 1 false) (fun d => ((D.vi d))) (fun v1 => iD v1) fun v1 => ((if v0 ≤ v1 then some (.out 1 [iD s10, iD (9 : Int)]) else some (.next 0 [iD (IntKind.i64.wrap (s10 + (1 : Int)))])))) else some (.next 0 [iD (IntKind.i64.wrap (s10 + (1 : Int)))])))))) else some (.out 0 [])))
def checkIndexes_L2_S (re fa fb fc fd : Int) (k : Nat) (c : List D) (kb : Nat) (cb : List D) (ke : Nat) (ce : List D) (kx : Nat) (cx : List D)  : Go.Ev.Rd → Option Go.Ev.Rd
  | .next 0 ds => checkIndexes_L2_S0 re fa fb fc fd k c kb cb ke ce kx cx ds
  | _ => none
theorem checkIndexes_L2_S_0 (re fa fb fc fd : Int) (k : Nat) (c : List D) (kb : Nat) (cb : List D) (ke : Nat) (ce : List D) (kx : Nat) (cx : List D)  (ds : List D) : checkIndexes_L2_S re fa fb fc fd k c kb cb ke ce kx cx (.next 0 ds) = checkIndexes_L2_S0 re fa fb fc fd k c kb cb ke ce kx cx ds := rfl
theorem checkIndexes_L2_S_ok (re fa fb fc fd : Int) (k : Nat) (c : List D) (kb : Nat) (cb : List D) (ke : Nat) (ce : List D) (kx : Nat) (cx : List D)  : ∀ s_ t_, checkIndexes_L2_S re fa fb fc fd k c kb cb ke ce kx cx s_ = some t_ → Step (ctx [60] checkIndexes_sp) Tabs checkIndexes_L2_A (stateOf (checkIndexes_L2_gs re fa fb fc fd k c kb cb ke ce kx cx s_)) (stateOf (checkIndexes_L2_gs re fa fb fc fd k c kb cb ke ce kx cx t_)) (checkIndexes_L2_ax t_) ∧ EndOK checkIndexes_L2_A.nx checkIndexes_L2_A.low (checkIndexes_L2_gs re fa fb fc fd k c kb cb ke ce kx cx) t_
  | .next 0 ds, t_, h => by
    have h_ : checkIndexes_L2_S0 re fa fb fc fd k c kb cb ke ce kx cx ds = some t_ := h
    clear h
    unfold checkIndexes_L2_S0 at h_
    obtain ⟨s10, e0, h0⟩ := pullD_elim h_
    clear h_
    obtain rfl := tup_inj e0
    by_cases b1_ : s10 < (kx : Int)
    · have h2_ := (if_pos b1_).symm.trans h0
      obtain ⟨f3_, h4_⟩ := guardP_elim h2_
      obtain ⟨v0, f5_, h6_⟩ := pullD_elim h4_
      replace f5_ := readD_elim f5_
      by_cases b7_ : v0 < (0 : Int)
      · have h8_ := (if_pos b7_).symm.trans h6_
        obtain rfl := Option.some.inj h8_
        exact ⟨step_pc 3000 (bT 8 []) [iD v0] [c_d b1_, c_f f3_, c_f f5_, c_d b7_, c_d b7_, c_d b7_, c_d b7_, c_d b7_, c_d b7_, c_T] [] _ rfl (by kernel_rfl) (by kernel_rfl) (by kernel_rfl) (by kernel_rfl) (by kernel_rfl) (by kernel_rfl), by kernel_rfl, by kernel_rfl⟩
      have h8_ := (if_neg b7_).symm.trans h6_
      by_cases b9_ : v0 ≥ (kb : Int)
      · have h10_ := (if_pos b9_).symm.trans h8_
        obtain rfl := Option.some.inj h10_
        exact ⟨step_pc 3000 (bT 1 (bF 6 (bT 1 []))) [iD v0] [c_d b1_, c_f f3_, c_f f5_, c_n b7_, c_n b7_, c_n b7_, c_n b7_, c_n b7_, c_n b7_, c_d b9_] [] _ rfl (by kernel_rfl) (by kernel_rfl) (by kernel_rfl) (by kernel_rfl) (by kernel_rfl) (by kernel_rfl), by kernel_rfl, by kernel_rfl⟩
      have h10_ := (if_neg b9_).symm.trans h8_
      by_cases b11_ : s10 > (0 : Int)
      · have h12_ := (if_pos b11_).symm.trans h10_
        obtain ⟨f13_, h14_⟩ := guardP_elim h12_
        obtain ⟨v1, f15_, h16_⟩ := pullD_elim h14_
        replace f15_ := readD_elim f15_
        by_cases b17_ : v0 ≤ v1
        · have h18_ := (if_pos b17_).symm.trans h16_
          obtain rfl := Option.some.inj h18_
          exact ⟨step_pc 3000 (bT 1 (bF 7 (bT 9 []))) [iD v0, iD v1] [c_d b1_, c_f f3_, c_f f5_, c_n b7_, c_n b7_, c_n b7_, c_n b7_, c_n b7_, c_n b7_, c_n b9_, c_d b11_, c_d b11_, c_d b11_, c_d b11_, c_d b11_, c_f f13_, c_d b11_, c_f f15_, c_d b11_, c_d b11_, c_d b17_] [] _ rfl (by kernel_rfl) (by kernel_rfl) (by kernel_rfl) (by kernel_rfl) (by kernel_rfl) (by kernel_rfl), by kernel_rfl, by kernel_rfl⟩
        have h18_ := (if_neg b17_).symm.trans h16_
        obtain rfl := Option.some.inj h18_
        exact ⟨step_pc 3000 (bT 1 (bF 7 (bT 8 (bF 1 [])))) [iD v0, iD v1] [c_d b1_, c_f f3_, c_f f5_, c_n b7_, c_n b7_, c_n b7_, c_n b7_, c_n b7_, c_n b7_, c_n b9_, c_d b11_, c_d b11_, c_d b11_, c_d b11_, c_d b11_, c_f f13_, c_d b11_, c_f f15_, c_d b11_, c_d b11_, c_n b17_] [] _ rfl (by kernel_rfl) (by kernel_rfl) (by kernel_rfl) (by kernel_rfl) (by kernel_rfl) (by kernel_rfl), trivial⟩
      have h12_ := (if_neg b11_).symm.trans h10_
      obtain rfl := Option.some.inj h12_
      exact ⟨step_pc 3000 (bT 1 (bF 16 [])) [iD v0] [c_d b1_, c_f f3_, c_f f5_, c_n b7_, c_n b7_, c_n b7_, c_n b7_, c_n b7_, c_n b7_, c_n b9_, c_n b11_, c_n b11_, c_n b11_, c_n b11_, c_n b11_, c_n b11_, c_n b11_, c_n b11_, c_F] [] _ rfl (by kernel_rfl) (by kernel_rfl) (by kernel_rfl) (by kernel_rfl) (by kernel_rfl) (by kernel_rfl), trivial⟩
    have h2_ := (if_neg b1_).symm.trans h0
    obtain rfl := Option.some.inj h2_
    exact ⟨step_pc 3000 (bF 1 []) [] [c_n b1_] [] _ rfl (by kernel_rfl) (by kernel_rfl) (by kernel_rfl) (by kernel_rfl) (by kernel_rfl) (by kernel_rfl), by kernel_rfl, by kernel_rfl⟩
  | .next (_ + 1) _, _, h => by cases h
  | .out _ _, _, h => by cases h
theorem checkIndexes_L2_go (re fa fb fc fd : Int) (k : Nat) (c : List D) (kb : Nat) (cb : List D) (ke : Nat) (ce : List D) (kx : Nat) (cx : List D)  {q : Nat} {ds : List D} {j : Nat} {es : List D} (h : runR (checkIndexes_L2_S re fa fb fc fd k c kb cb ke ce kx cx) (.next q ds) = some (.out j es)) : Runs (ctx [60] checkIndexes_sp) Tabs checkIndexes_L2_A (stateOf (checkIndexes_L2_gs re fa fb fc fd k c kb cb ke ce kx cx (.next q ds))) (stateOf (checkIndexes_L2_gs re fa fb fc fd k c kb cb ke ce kx cx (.out j es))) (checkIndexes_L2_ax (.out j es)) ∧ (nxtOf (checkIndexes_L2_gs re fa fb fc fd k c kb cb ke ce kx cx (.out j es)), lowGS (checkIndexes_L2_gs re fa fb fc fd k c kb cb ke ce kx cx (.out j es))) = (checkIndexes_L2_A.nx, checkIndexes_L2_A.low) :=
  runs_of' (good true _ _) checkIndexes_L2_ok (ax := checkIndexes_L2_ax) (fun _ _ => rfl) (fun _ _ => axOf_end _) (checkIndexes_L2_S_ok re fa fb fc fd k c kb cb ke ce kx cx) h
theorem checkIndexes_L2_in0 (re fa fb fc fd : Int) (k : Nat) (c : List D) (kb : Nat) (cb : List D) (ke : Nat) (ce : List D) (kx : Nat) (cx : List D)  {es : List D} (h : runR (checkIndexes_L2_S re fa fb fc fd k c kb cb ke ce kx cx) (.next 0 [iD ((0 : Int))]) = some (.out 0 es)) : LoopC (loopAt Try.prog 60 0) (checkIndexes_L2_E re fa fb fc fd k c kb cb ke ce kx cx) 5 noFrame checkIndexes_x2_0 es :=
  have r := checkIndexes_L2_go re fa fb fc fd k c kb cb ke ce kx cx h
  loopin_as rfl (loop_in (l := checkIndexes_L2_A) (E := (checkIndexes_L2_E re fa fb fc fd k c kb cb ke ce kx cx)) (S := stateOf (checkIndexes_L2_gs re fa fb fc fd k c kb cb ke ce kx cx (.next 0 [iD ((0 : Int))]))) (ns := nsOf (checkIndexes_L2_gs re fa fb fc fd k c kb cb ke ce kx cx (.next 0 [iD ((0 : Int))]))) checkIndexes_L2_ok r.1 r.2 (by kernel_rfl) (by kernel_rfl) (by kernel_rfl) (by kernel_rfl))
theorem checkIndexes_L2_in1 (re fa fb fc fd : Int) (k : Nat) (c : List D) (kb : Nat) (cb : List D) (ke : Nat) (ce : List D) (kx : Nat) (cx : List D)  {es : List D} (h : runR (checkIndexes_L2_S re fa fb fc fd k c kb cb ke ce kx cx) (.next 0 [iD ((0 : Int))]) = some (.out 1 es)) : LoopC (loopAt Try.prog 60 0) (checkIndexes_L2_E re fa fb fc fd k c kb cb ke ce kx cx) 5 noFrame checkIndexes_x2_1 es :=
  have r := checkIndexes_L2_go re fa fb fc fd k c kb cb ke ce kx cx h
  loopin_as rfl (loop_in (l := checkIndexes_L2_A) (E := (checkIndexes_L2_E re fa fb fc fd k c kb cb ke ce kx cx)) (S := stateOf (checkIndexes_L2_gs re fa fb fc fd k c kb cb ke ce kx cx (.next 0 [iD ((0 : Int))]))) (ns := nsOf (checkIndexes_L2_gs re fa fb fc fd k c kb cb ke ce kx cx (.next 0 [iD ((0 : Int))]))) checkIndexes_L2_ok r.1 r.2 (by kernel_rfl) (by kernel_rfl) (by kernel_rfl) (by kernel_rfl))
def checkIndexes_M (re fa fb fc fd : Int) (k : Nat) (c : List D) (kb : Nat) (cb : List D) (ke : Nat) (ce : List D) (kx : Nat) (cx : List D) : Option D := bindL (runR (checkIndexes_L2_S re fa fb fc fd k c kb cb ke ce kx cx) (.next 0 [iD ((0 : Int))])) fun j ds => (if j = 0 then pullD (some (.tup ds)) (fun _ => ()) (fun _ => .tup []) fun _ => (some (.tup [iD (0 : Int), iD (0 : Int)])) else if j = 1 then pullD (α := Int × Int) (some (.tup ds)) (fun d => ((D.vi (D.at d 0)), (D.vi (D.at d 1)))) (fun (l0, l1) => .tup [iD l0, iD l1]) fun (l0, l1) => (some (.tup [iD l0, iD l1])) else none)
theorem checkIndexes_M_ok (re fa fb fc fd : Int) (k : Nat) (c : List D) (kb : Nat) (cb : List D) (ke : Nat) (ce : List D) (kx : Nat) (cx : List D) {r : D} (h : checkIndexes_M re fa fb fc fd k c kb cb ke ce kx cx = some r) : Con 60 [.agg [iD re, iD fa, iD fb, iD fc, iD fd, .list k c, .list kb cb, .list ke ce], .list kx cx] r := by
  unfold checkIndexes_M at h
  obtain ⟨j, ds, e1_, h2_⟩ := bindL_elim h
  by_cases j3_ : j = 0
  · have h6_ := (if_pos j3_).symm.trans h2_
    clear h2_
    subst j3_
    obtain ⟨⟨⟩, e4_, h7_⟩ := pullD_elim h6_
    clear h6_
    obtain rfl := tup_inj e4_
    have k5_ := checkIndexes_L2_in0 re fa fb fc fd k c kb cb ke ce kx cx e1_
    obtain rfl := Option.some.inj h7_
    exact con_pc (op := true) (I := [60]) (sp := checkIndexes_sp) 3000 [] [.tup [iD (Int.ofNat 0)]] [] [k_l k5_ [] [.tup [iD (Int.ofNat 0)]] []] (by kernel_rfl)
  have h8_ := (if_neg j3_).symm.trans h2_
  clear h2_
  by_cases j9_ : j = 1
  · have h12_ := (if_pos j9_).symm.trans h8_
    clear h8_
    subst j9_
    obtain ⟨⟨l0, l1⟩, e10_, h13_⟩ := pullD_elim h12_
    clear h12_
    obtain rfl := tup_inj e10_
    have k11_ := checkIndexes_L2_in1 re fa fb fc fd k c kb cb ke ce kx cx e1_
    obtain rfl := Option.some.inj h13_
    exact con_pc (op := true) (I := [60]) (sp := checkIndexes_sp) 3000 [] [.tup [iD (Int.ofNat 1), iD l0, iD l1]] [] [k_l k11_ [] [.tup [iD (Int.ofNat 1), iD l0, iD l1]] []] (by kernel_rfl)
  have h14_ := (if_neg j9_).symm.trans h8_
  clear h8_
  cases h14_
def m_60 (ds : List D) : Option D := pullD (α := Int × Int × Int × Int × Int × Nat × (List D) × Nat × (List D) × Nat × (List D) × Nat × (List D)) (some (.tup ds)) (fun d => ((D.vi (D.at (D.at d 0) 0)), (D.vi (D.at (D.at d 0) 1)), (D.vi (D.at (D.at d 0) 2)), (D.vi (D.at (D.at d 0) 3)), (D.vi (D.at (D.at d 0) 4)), (D.ln (D.at (D.at d 0) 5)), (D.lc (D.at (D.at d 0) 5)), (D.ln (D.at (D.at d 0) 6)), (D.lc (D.at (D.at d 0) 6)), (D.ln (D.at (D.at d 0) 7)), (D.lc (D.at (D.at d 0) 7)), (D.ln (D.at d 1)), (D.lc (D.at d 1)))) (fun (re, fa, fb, fc, fd, k, c, kb, cb, ke, ce, kx, cx) => .tup [.agg [iD re, iD fa, iD fb, iD fc, iD fd, .list k c, .list kb cb, .list ke ce], .list kx cx]) fun (re, fa, fb, fc, fd, k, c, kb, cb, ke, ce, kx, cx) => checkIndexes_M re fa fb fc fd k c kb cb ke ce kx cx
theorem m_60_ok {ds : List D} {r : D} (h : m_60 ds = some r) : Con 60 ds r := by
  unfold m_60 at h
  obtain ⟨⟨re, fa, fb, fc, fd, k, c, kb, cb, ke, ce, kx, cx⟩, e0, h0⟩ := pullD_elim h
  obtain rfl := tup_inj e0
  exact checkIndexes_M_ok re fa fb fc fd k c kb cb ke ce kx cx h0
theorem m_60_eq (re fa fb fc fd : Int) (k : Nat) (c : List D) (kb : Nat) (cb : List D) (ke : Nat) (ce : List D) (kx : Nat) (cx : List D) : m_60 [.agg [iD re, iD fa, iD fb, iD fc, iD fd, .list k c, .list kb cb, .list ke ce], .list kx cx] = checkIndexes_M re fa fb fc fd k c kb cb ke ce kx cx := pullD_some (re, fa, fb, fc, fd, k, c, kb, cb, ke, ce, kx, cx) rfl rfl
def witnessOf_x59_3_0 : LExit := ⟨some 0, [.drop 2], (5 :: (List.range' 14 11))⟩
def witnessOf_x59_3_1 : LExit := ⟨none, [.grow 2 1], (5 :: (List.range' 14 11))⟩
def witnessOf_x59_9_0 : LExit := ⟨some 2, [.drop 2], (6 :: (7 :: (9 :: (List.range' 27 24))))⟩
def witnessOf_x59_9_1 : LExit := ⟨none, [.grow 2 1], (6 :: (7 :: (9 :: (List.range' 27 24))))⟩
def witnessOf_x59_12_0 : LExit := ⟨some 4, [.drop 2], (9 :: (List.range' 37 13))⟩
def witnessOf_x59_12_1 : LExit := ⟨none, [.grow 2 1], (9 :: (List.range' 37 13))⟩
def witnessOf_sp : List LSpec := [⟨59, 3, [witnessOf_x59_3_0, witnessOf_x59_3_1]⟩, ⟨59, 9, [witnessOf_x59_9_0, witnessOf_x59_9_1]⟩, ⟨59, 12, [witnessOf_x59_12_0, witnessOf_x59_12_1]⟩]
def witnessOf_L59_12_E (re fa fb fc fd : Int) (k : Nat) (c : List D) (st : Int) (kb : Nat) (cb : List D) (su : Int) (ke : Nat) (ce : List D) (x0 : Int) (x1 : Int) (x2 : Int) (x3 : Int) (x4 : Int) (x5 : Nat) (x6 : List D) (x7 : Nat) (x8 : List D) (x9 : Nat) (x10 : List D) (x11 : Nat) (x12 : List D) (x13 : Int) (x14 : Int) : List AV × AHeap := ([.agg [.pure (.int .i64 x0), .pure (.int .i64 x1), .pure (.int .i64 x2), .pure (.int .i64 x3), .pure (.int .i64 x4), .dsl 6, .dsl 7, .dsl 8], .ptr 10 0, .any 25, .dsl 11, .pure (.tuple #[]), .any 13, .pure (.int .i64 x13), .pure (.int .i64 x14), .pure (.tuple #[]), .any 28, .agg [.pure (.int .i64 x0), .pure (.int .i64 x1), .pure (.int .i64 x2), .pure (.int .i64 x3), .pure (.int .i64 x4), .dsl 6, .dsl 7, .dsl 8], .dsl 11, .dsl 11, .pure (.int .i64 (x11 : Int)), .any 14, .any 15, .any 16, .any 17, .any 18, .any 19, .any 20, .any 21, .any 22, .any 23, .any 24, .dsl 11, .pure (.int .i64 (x11 : Int)), .pure (.int .i64 x13), .pure (.bool (decide (x13 < (x11 : Int)))), .pure (.int .i64 x13), .dptr 11 (x13.toNat * 1), .pure (.int .i64 x14), .dsl 11, .pure (.int .i64 x13), .pure (.int .i64 (IntKind.i64.wrap (x13 + (1 : Int)))), .dsl 53, .pure (.int .i64 (((((x11 : Int)).toNat - (IntKind.i64.wrap (x13 + (1 : Int))).toNat) : Nat) : Int)), .pure (.int .i64 (0 : Int)), .any 39, .any 40, .any 41, .any 42, .any 43, .any 44, .any 45, .any 46, .any 47, .any 48, .any 49, .any 50, .any 51], [(53, { cells := [], opn := none, kind := .deep (((x11 : Int)).toNat - (IntKind.i64.wrap (x13 + (1 : Int))).toNat) (List.take ((((x11 : Int)).toNat - (IntKind.i64.wrap (x13 + (1 : Int))).toNat) * 1) (List.drop ((IntKind.i64.wrap (x13 + (1 : Int))).toNat * 1) x12)) }), (11, { cells := [], opn := none, kind := .deep x11 x12 }), (10, { cells := [.pure (.int .i64 x0), .pure (.int .i64 x1), .pure (.int .i64 x2), .pure (.int .i64 x3), .pure (.int .i64 x4), .dsl 6, .dsl 7, .dsl 8], opn := none, kind := .cells }), (9, { cells := [.pure (.int .i64 x0), .pure (.int .i64 x1), .pure (.int .i64 x2), .pure (.int .i64 x3), .pure (.int .i64 x4), .dsl 6, .dsl 7, .dsl 8], opn := none, kind := .cells }), (8, { cells := [], opn := none, kind := .deep x9 x10 }), (7, { cells := [], opn := none, kind := .deep x7 x8 }), (6, { cells := [], opn := none, kind := .deep x5 x6 }), (5, { cells := [.pure (.int .i64 su), .dsl 2], opn := none, kind := .cells }), (4, { cells := [.pure (.int .i64 st), .dsl 1], opn := none, kind := .cells }), (3, { cells := [.pure (.int .i64 re), .pure (.int .i64 fa), .pure (.int .i64 fb), .pure (.int .i64 fc), .pure (.int .i64 fd), .dsl 0], opn := none, kind := .cells }), (2, { cells := [], opn := none, kind := .deep ke ce }), (1, { cells := [], opn := none, kind := .deep kb cb }), (0, { cells := [], opn := none, kind := .deep k c })])
def witnessOf_L59_12_A : LoopAt := ⟨59, loopAt Try.prog 59 2, 54, 69, 54, noFrame⟩
theorem witnessOf_L59_12_ok : (witnessOf_L59_12_A).OK := ⟨by show 54 ≤ 69; decide, by show 54 ≤ 54; decide, by kernel_rfl, rfl⟩
def witnessOf_L59_12_gs (re fa fb fc fd : Int) (k : Nat) (c : List D) (st : Int) (kb : Nat) (cb : List D) (su : Int) (ke : Nat) (ce : List D) (x0 : Int) (x1 : Int) (x2 : Int) (x3 : Int) (x4 : Int) (x5 : Nat) (x6 : List D) (x7 : Nat) (x8 : List D) (x9 : Nat) (x10 : List D) (x11 : Nat) (x12 : List D) (x13 : Int) (x14 : Int) : Go.Ev.Rd → Option GS
  | .next 0 ds => ghost [.drop 2, .val 37] (9 :: (List.range' 38 12)) (witnessOf_L59_12_E re fa fb fc fd k c st kb cb su ke ce x0 x1 x2 x3 x4 x5 x6 x7 x8 x9 x10 x11 x12 x13 x14).1 (witnessOf_L59_12_E re fa fb fc fd k c st kb cb su ke ce x0 x1 x2 x3 x4 x5 x6 x7 x8 x9 x10 x11 x12 x13 x14).2 54 ds
  | .out 0 ds => ghost witnessOf_x59_12_0.live witnessOf_x59_12_0.junk (witnessOf_L59_12_E re fa fb fc fd k c st kb cb su ke ce x0 x1 x2 x3 x4 x5 x6 x7 x8 x9 x10 x11 x12 x13 x14).1 (witnessOf_L59_12_E re fa fb fc fd k c st kb cb su ke ce x0 x1 x2 x3 x4 x5 x6 x7 x8 x9 x10 x11 x12 x13 x14).2 54 ds
  | .out 1 ds => ghost witnessOf_x59_12_1.live witnessOf_x59_12_1.junk (witnessOf_L59_12_E re fa fb fc fd k c st kb cb su ke ce x0 x1 x2 x3 x4 x5 x6 x7 x8 x9 x10 x11 x12 x13 x14).1 (witnessOf_L59_12_E re fa fb fc fd k c st kb cb su ke ce x0 x1 x2 x3 x4 x5 x6 x7 x8 x9 x10 x11 x12 x13 x14).2 54 ds
  | _ => none
def witnessOf_L59_12_ex : Nat → Option Nat
  | 0 => witnessOf_x59_12_0.ex
  | 1 => witnessOf_x59_12_1.ex
  | _ => none
def witnessOf_L59_12_ax : Go.Ev.Rd → AX
  | .next _ _ => .normal
  | .out j _ => axOf (witnessOf_L59_12_ex j)
def witnessOf_L59_12_S0 (re fa fb fc fd : Int) (k : Nat) (c : List D) (st : Int) (kb : Nat) (cb : List D) (su : Int) (ke : Nat) (ce : List D) (x0 : Int) (x1 : Int) (x2 : Int) (x3 : Int) (x4 : Int) (x5 : Nat) (x6 : List D) (x7 : Nat) (x8 : List D) (x9 : Nat) (x10 : List D) (x11 : Nat) (x12 : List D) (x13 : Int) (x14 : Int) (ds : List D) : Option Go.Ev.Rd := pullD (α := Int) (some (.tup ds)) (fun d => ((D.vi (D.at d 1)))) (fun s37 => .tup [.one (.tuple #[]), iD s37]) fun s37 => ((if s37 < (((((x11 : Int)).toNat - (IntKind.i64.wrap (x13 + (1 : Int))).toNat) : Nat) : Int) then guardP ((0 : Int) ≤ s37 ∧ s37.toNat < ((x11 : Int)).toNat - (IntKind.i64.wrap (x13 + (1 : Int))).toNat) (pullD (α := Int) (readD (List.take ((((x11 : Int)).toNat - (IntKind.i64.wrap (x13 + (1 : Int))).toNat) * 1) (List.drop ((IntKind.i64.wrap (x13 + (1 : Int))).toNat * 1) x12)) (s37.toNat * 1) 1 false) (fun d => ((D.vi d))) (fun v0 => iD v0) fun v0 => (pullD (α := Bool) (m_57 [.agg [iD x0, iD x1, iD x2, iD x3, iD x4, .list x5 x6, .list x7 x8, .list x9 x10], .list 2 [iD x14, iD v0]]) (fun d => ((D.vb d))) (fun r1 => .one (.bool r1)) fun r1 => ((if (r1) = true then some (.out 1 [.list 2 [iD x14, iD v0]]) else some (.next 0 [.one (.tuple #[]), iD (IntKind.i64.wrap (s37 + (1 : Int)))]))))) else some (.out 0 [.one (.tuple #[])])))
def witnessOf_L59_12_S (re fa fb fc fd : Int) (k : Nat) (c : List D) (st : Int) (kb : Nat) (cb : List D) (su : Int) (ke : Nat) (ce : List D) (x0 : Int) (x1 : Int) (x2 : Int) (x3 : Int) (x4 : Int) (x5 : Nat) (x6 : List D) (x7 : Nat) (x8 : List D) (x9 : Nat) (x10 : List D) (x11 : Nat) (x12 : List D) (x13 : Int) (x14 : Int) : Go.Ev.Rd → Option Go.Ev.Rd
  | .next 0 ds => witnessOf_L59_12_S0 re fa fb fc fd k c st kb cb su ke ce x0 x1 x2 x3 x4 x5 x6 x7 x8 x9 x10 x11 x12 x13 x14 ds
  | _ => none
theorem witnessOf_L59_12_S_0 (re fa fb fc fd : Int) (k : Nat) (c : List D) (st : Int) (kb : Nat) (cb : List D) (su : Int) (ke : Nat) (ce : List D) (x0 : Int) (x1 : Int) (x2 : Int) (x3 : Int) (x4 : Int) (x5 : Nat) (x6 : List D) (x7 : Nat) (x8 : List D) (x9 : Nat) (x10 : List D) (x11 : Nat) (x12 : List D) (x13 : Int) (x14 : Int) (ds : List D) : witnessOf_L59_12_S re fa fb fc fd k c st kb cb su ke ce x0 x1 x2 x3 x4 x5 x6 x7 x8 x9 x10 x11 x12 x13 x14 (.next 0 ds) = witnessOf_L59_12_S0 re fa fb fc fd k c st kb cb su ke ce x0 x1 x2 x3 x4 x5 x6 x7 x8 x9 x10 x11 x12 x13 x14 ds := rfl
theorem witnessOf_L59_12_S_ok (re fa fb fc fd : Int) (k : Nat) (c : List D) (st : Int) (kb : Nat) (cb : List D) (su : Int) (ke : Nat) (ce : List D) (x0 : Int) (x1 : Int) (x2 : Int) (x3 : Int) (x4 : Int) (x5 : Nat) (x6 : List D) (x7 : Nat) (x8 : List D) (x9 : Nat) (x10 : List D) (x11 : Nat) (x12 : List D) (x13 : Int) (x14 : Int) : ∀ s_ t_, witnessOf_L59_12_S re fa fb fc fd k c st kb cb su ke ce x0 x1 x2 x3 x4 x5 x6 x7 x8 x9 x10 x11 x12 x13 x14 s_ = some t_ → Step (ctx [25, 59] witnessOf_sp) Tabs witnessOf_L59_12_A (stateOf (witnessOf_L59_12_gs re fa fb fc fd k c st kb cb su ke ce x0 x1 x2 x3 x4 x5 x6 x7 x8 x9 x10 x11 x12 x13 x14 s_)) (stateOf (witnessOf_L59_12_gs re fa fb fc fd k c st kb cb su ke ce x0 x1 x2 x3 x4 x5 x6 x7 x8 x9 x10 x11 x12 x13 x14 t_)) (witnessOf_L59_12_ax t_) ∧ EndOK witnessOf_L59_12_A.nx witnessOf_L59_12_A.low (witnessOf_L59_12_gs re fa fb fc fd k c st kb cb su ke ce x0 x1 x2 x3 x4 x5 x6 x7 x8 x9 x10 x11 x12 x13 x14) t_
  | .next 0 ds, t_, h => by
    have h_ : witnessOf_L59_12_S0 re fa fb fc fd k c st kb cb su ke ce x0 x1 x2 x3 x4 x5 x6 x7 x8 x9 x10 x11 x12 x13 x14 ds = some t_ := h
    clear h
    unfold witnessOf_L59_12_S0 at h_
    obtain ⟨s37, e0, h0⟩ := pullD_elim h_
    clear h_
    obtain rfl := tup_inj e0
    by_cases b1_ : s37 < (((((x11 : Int)).toNat - (IntKind.i64.wrap (x13 + (1 : Int))).toNat) : Nat) : Int)
    · have h2_ := (if_pos b1_).symm.trans h0
      obtain ⟨f3_, h4_⟩ := guardP_elim h2_
      obtain ⟨v0, f5_, h6_⟩ := pullD_elim h4_
      replace f5_ := readD_elim f5_
      obtain ⟨r1, f7_, h8_⟩ := pullD_elim h6_
      replace f7_ := m_57_ok f7_
      by_cases b9_ : (r1) = true
      · have h10_ := (if_pos b9_).symm.trans h8_
        obtain rfl := Option.some.inj h10_
        exact ⟨step_pc 3000 (bT 2 []) [iD v0, .one (.bool r1)] [c_d b1_, c_f f3_, c_f f5_, c_le 1, c_q b9_] [k_c f7_] _ rfl (by kernel_rfl) (by kernel_rfl) (by kernel_rfl) (by kernel_rfl) (by kernel_rfl) (by kernel_rfl), by kernel_rfl, by kernel_rfl⟩
      have h10_ := (if_neg b9_).symm.trans h8_
      have b11_ : (r1) = false := by first | exact b9_ | simpa using b9_
      obtain rfl := Option.some.inj h10_
      exact ⟨step_pc 3000 (bT 1 (bF 1 [])) [iD v0, .one (.bool r1)] [c_d b1_, c_f f3_, c_f f5_, c_le 1, c_q b11_] [k_c f7_] _ rfl (by kernel_rfl) (by kernel_rfl) (by kernel_rfl) (by kernel_rfl) (by kernel_rfl) (by kernel_rfl), trivial⟩
    have h2_ := (if_neg b1_).symm.trans h0
    obtain rfl := Option.some.inj h2_
    exact ⟨step_pc 3000 (bF 1 []) [] [c_n b1_] [] _ rfl (by kernel_rfl) (by kernel_rfl) (by kernel_rfl) (by kernel_rfl) (by kernel_rfl) (by kernel_rfl), by kernel_rfl, by kernel_rfl⟩
  | .next (_ + 1) _, _, h => by cases h
  | .out _ _, _, h => by cases h
theorem witnessOf_L59_12_go (re fa fb fc fd : Int) (k : Nat) (c : List D) (st : Int) (kb : Nat) (cb : List D) (su : Int) (ke : Nat) (ce : List D) (x0 : Int) (x1 : Int) (x2 : Int) (x3 : Int) (x4 : Int) (x5 : Nat) (x6 : List D) (x7 : Nat) (x8 : List D) (x9 : Nat) (x10 : List D) (x11 : Nat) (x12 : List D) (x13 : Int) (x14 : Int) {q : Nat} {ds : List D} {j : Nat} {es : List D} (h : runR (witnessOf_L59_12_S re fa fb fc fd k c st kb cb su ke ce x0 x1 x2 x3 x4 x5 x6 x7 x8 x9 x10 x11 x12 x13 x14) (.next q ds) = some (.out j es)) : Runs (ctx [25, 59] witnessOf_sp) Tabs witnessOf_L59_12_A (stateOf (witnessOf_L59_12_gs re fa fb fc fd k c st kb cb su ke ce x0 x1 x2 x3 x4 x5 x6 x7 x8 x9 x10 x11 x12 x13 x14 (.next q ds))) (stateOf (witnessOf_L59_12_gs re fa fb fc fd k c st kb cb su ke ce x0 x1 x2 x3 x4 x5 x6 x7 x8 x9 x10 x11 x12 x13 x14 (.out j es))) (witnessOf_L59_12_ax (.out j es)) ∧ (nxtOf (witnessOf_L59_12_gs re fa fb fc fd k c st kb cb su ke ce x0 x1 x2 x3 x4 x5 x6 x7 x8 x9 x10 x11 x12 x13 x14 (.out j es)), lowGS (witnessOf_L59_12_gs re fa fb fc fd k c st kb cb su ke ce x0 x1 x2 x3 x4 x5 x6 x7 x8 x9 x10 x11 x12 x13 x14 (.out j es))) = (witnessOf_L59_12_A.nx, witnessOf_L59_12_A.low) :=
  runs_of' (good true _ _) witnessOf_L59_12_ok (ax := witnessOf_L59_12_ax) (fun _ _ => rfl) (fun _ _ => axOf_end _) (witnessOf_L59_12_S_ok re fa fb fc fd k c st kb cb su ke ce x0 x1 x2 x3 x4 x5 x6 x7 x8 x9 x10 x11 x12 x13 x14) h
theorem witnessOf_L59_12_in0 (re fa fb fc fd : Int) (k : Nat) (c : List D) (st : Int) (kb : Nat) (cb : List D) (su : Int) (ke : Nat) (ce : List D) (x0 : Int) (x1 : Int) (x2 : Int) (x3 : Int) (x4 : Int) (x5 : Nat) (x6 : List D) (x7 : Nat) (x8 : List D) (x9 : Nat) (x10 : List D) (x11 : Nat) (x12 : List D) (x13 : Int) (x14 : Int) {es : List D} (h : runR (witnessOf_L59_12_S re fa fb fc fd k c st kb cb su ke ce x0 x1 x2 x3 x4 x5 x6 x7 x8 x9 x10 x11 x12 x13 x14) (.next 0 [.one (.tuple #[]), iD ((0 : Int))]) = some (.out 0 es)) : LoopC (loopAt Try.prog 59 2) (witnessOf_L59_12_E re fa fb fc fd k c st kb cb su ke ce x0 x1 x2 x3 x4 x5 x6 x7 x8 x9 x10 x11 x12 x13 x14) 54 noFrame witnessOf_x59_12_0 es :=
  have r := witnessOf_L59_12_go re fa fb fc fd k c st kb cb su ke ce x0 x1 x2 x3 x4 x5 x6 x7 x8 x9 x10 x11 x12 x13 x14 h
  loopin_as rfl (loop_in (l := witnessOf_L59_12_A) (E := (witnessOf_L59_12_E re fa fb fc fd k c st kb cb su ke ce x0 x1 x2 x3 x4 x5 x6 x7 x8 x9 x10 x11 x12 x13 x14)) (S := stateOf (witnessOf_L59_12_gs re fa fb fc fd k c st kb cb su ke ce x0 x1 x2 x3 x4 x5 x6 x7 x8 x9 x10 x11 x12 x13 x14 (.next 0 [.one (.tuple #[]), iD ((0 : Int))]))) (ns := nsOf (witnessOf_L59_12_gs re fa fb fc fd k c st kb cb su ke ce x0 x1 x2 x3 x4 x5 x6 x7 x8 x9 x10 x11 x12 x13 x14 (.next 0 [.one (.tuple #[]), iD ((0 : Int))]))) witnessOf_L59_12_ok r.1 r.2 (by kernel_rfl) (by kernel_rfl) (by kernel_rfl) (by kernel_rfl))
theorem witnessOf_L59_12_in1 (re fa fb fc fd : Int) (k : Nat) (c : List D) (st : Int) (kb : Nat) (cb : List D) (su : Int) (ke : Nat) (ce : List D) (x0 : Int) (x1 : Int) (x2 : Int) (x3 : Int) (x4 : Int) (x5 : Nat) (x6 : List D) (x7 : Nat) (x8 : List D) (x9 : Nat) (x10 : List D) (x11 : Nat) (x12 : List D) (x13 : Int) (x14 : Int) {es : List D} (h : runR (witnessOf_L59_12_S re fa fb fc fd k c st kb cb su ke ce x0 x1 x2 x3 x4 x5 x6 x7 x8 x9 x10 x11 x12 x13 x14) (.next 0 [.one (.tuple #[]), iD ((0 : Int))]) = some (.out 1 es)) : LoopC (loopAt Try.prog 59 2) (witnessOf_L59_12_E re fa fb fc fd k c st kb cb su ke ce x0 x1 x2 x3 x4 x5 x6 x7 x8 x9 x10 x11 x12 x13 x14) 54 noFrame witnessOf_x59_12_1 es :=
  have r := witnessOf_L59_12_go re fa fb fc fd k c st kb cb su ke ce x0 x1 x2 x3 x4 x5 x6 x7 x8 x9 x10 x11 x12 x13 x14 h
  loopin_as rfl (loop_in (l := witnessOf_L59_12_A) (E := (witnessOf_L59_12_E re fa fb fc fd k c st kb cb su ke ce x0 x1 x2 x3 x4 x5 x6 x7 x8 x9 x10 x11 x12 x13 x14)) (S := stateOf (witnessOf_L59_12_gs re fa fb fc fd k c st kb cb su ke ce x0 x1 x2 x3 x4 x5 x6 x7 x8 x9 x10 x11 x12 x13 x14 (.next 0 [.one (.tuple #[]), iD ((0 : Int))]))) (ns := nsOf (witnessOf_L59_12_gs re fa fb fc fd k c st kb cb su ke ce x0 x1 x2 x3 x4 x5 x6 x7 x8 x9 x10 x11 x12 x13 x14 (.next 0 [.one (.tuple #[]), iD ((0 : Int))]))) witnessOf_L59_12_ok r.1 r.2 (by kernel_rfl) (by kernel_rfl) (by kernel_rfl) (by kernel_rfl))
def witnessOf_L59_9_E (re fa fb fc fd : Int) (k : Nat) (c : List D) (st : Int) (kb : Nat) (cb : List D) (su : Int) (ke : Nat) (ce : List D) (x0 : Int) (x1 : Int) (x2 : Int) (x3 : Int) (x4 : Int) (x5 : Nat) (x6 : List D) (x7 : Nat) (x8 : List D) (x9 : Nat) (x10 : List D) (x11 : Nat) (x12 : List D) : List AV × AHeap := ([.agg [.pure (.int .i64 x0), .pure (.int .i64 x1), .pure (.int .i64 x2), .pure (.int .i64 x3), .pure (.int .i64 x4), .dsl 6, .dsl 7, .dsl 8], .ptr 10 0, .any 12, .dsl 11, .pure (.tuple #[]), .any 13, .pure (.tuple #[]), .pure (.tuple #[]), .pure (.tuple #[]), .pure (.tuple #[]), .agg [.pure (.int .i64 x0), .pure (.int .i64 x1), .pure (.int .i64 x2), .pure (.int .i64 x3), .pure (.int .i64 x4), .dsl 6, .dsl 7, .dsl 8], .dsl 11, .dsl 11, .pure (.int .i64 (x11 : Int)), .any 14, .any 15, .any 16, .any 17, .any 18, .any 19, .any 20, .any 21, .any 22, .any 23, .any 24, .dsl 11, .pure (.int .i64 (x11 : Int)), .pure (.int .i64 (0 : Int)), .pure (.tuple #[]), .pure (.tuple #[]), .pure (.tuple #[]), .pure (.tuple #[]), .pure (.tuple #[]), .pure (.tuple #[]), .pure (.tuple #[]), .pure (.tuple #[]), .pure (.tuple #[]), .pure (.tuple #[]), .pure (.tuple #[]), .pure (.tuple #[]), .pure (.tuple #[]), .pure (.tuple #[]), .pure (.tuple #[]), .pure (.tuple #[]), .pure (.tuple #[]), .pure (.tuple #[]), .pure (.tuple #[]), .pure (.tuple #[]), .pure (.tuple #[]), .pure (.tuple #[]), .pure (.tuple #[])], [(11, { cells := [], opn := none, kind := .deep x11 x12 }), (10, { cells := [.pure (.int .i64 x0), .pure (.int .i64 x1), .pure (.int .i64 x2), .pure (.int .i64 x3), .pure (.int .i64 x4), .dsl 6, .dsl 7, .dsl 8], opn := none, kind := .cells }), (9, { cells := [.pure (.int .i64 x0), .pure (.int .i64 x1), .pure (.int .i64 x2), .pure (.int .i64 x3), .pure (.int .i64 x4), .dsl 6, .dsl 7, .dsl 8], opn := none, kind := .cells }), (8, { cells := [], opn := none, kind := .deep x9 x10 }), (7, { cells := [], opn := none, kind := .deep x7 x8 }), (6, { cells := [], opn := none, kind := .deep x5 x6 }), (5, { cells := [.pure (.int .i64 su), .dsl 2], opn := none, kind := .cells }), (4, { cells := [.pure (.int .i64 st), .dsl 1], opn := none, kind := .cells }), (3, { cells := [.pure (.int .i64 re), .pure (.int .i64 fa), .pure (.int .i64 fb), .pure (.int .i64 fc), .pure (.int .i64 fd), .dsl 0], opn := none, kind := .cells }), (2, { cells := [], opn := none, kind := .deep ke ce }), (1, { cells := [], opn := none, kind := .deep kb cb }), (0, { cells := [], opn := none, kind := .deep k c })])
def witnessOf_L59_9_A : LoopAt := ⟨59, loopAt Try.prog 59 1, 25, 53, 25, noFrame⟩
theorem witnessOf_L59_9_ok : (witnessOf_L59_9_A).OK := ⟨by show 25 ≤ 53; decide, by show 25 ≤ 25; decide, by kernel_rfl, rfl⟩
def witnessOf_L59_9_gs (re fa fb fc fd : Int) (k : Nat) (c : List D) (st : Int) (kb : Nat) (cb : List D) (su : Int) (ke : Nat) (ce : List D) (x0 : Int) (x1 : Int) (x2 : Int) (x3 : Int) (x4 : Int) (x5 : Nat) (x6 : List D) (x7 : Nat) (x8 : List D) (x9 : Nat) (x10 : List D) (x11 : Nat) (x12 : List D) : Go.Ev.Rd → Option GS
  | .next 0 ds => ghost [.drop 2, .val 27] (6 :: (7 :: (9 :: (List.range' 28 23)))) (witnessOf_L59_9_E re fa fb fc fd k c st kb cb su ke ce x0 x1 x2 x3 x4 x5 x6 x7 x8 x9 x10 x11 x12).1 (witnessOf_L59_9_E re fa fb fc fd k c st kb cb su ke ce x0 x1 x2 x3 x4 x5 x6 x7 x8 x9 x10 x11 x12).2 25 ds
  | .out 0 ds => ghost witnessOf_x59_9_0.live witnessOf_x59_9_0.junk (witnessOf_L59_9_E re fa fb fc fd k c st kb cb su ke ce x0 x1 x2 x3 x4 x5 x6 x7 x8 x9 x10 x11 x12).1 (witnessOf_L59_9_E re fa fb fc fd k c st kb cb su ke ce x0 x1 x2 x3 x4 x5 x6 x7 x8 x9 x10 x11 x12).2 25 ds
  | .out 1 ds => ghost witnessOf_x59_9_1.live witnessOf_x59_9_1.junk (witnessOf_L59_9_E re fa fb fc fd k c st kb cb su ke ce x0 x1 x2 x3 x4 x5 x6 x7 x8 x9 x10 x11 x12).1 (witnessOf_L59_9_E re fa fb fc fd k c st kb cb su ke ce x0 x1 x2 x3 x4 x5 x6 x7 x8 x9 x10 x11 x12).2 25 ds
  | _ => none
def witnessOf_L59_9_ex : Nat → Option Nat
  | 0 => witnessOf_x59_9_0.ex
  | 1 => witnessOf_x59_9_1.ex
  | _ => none
def witnessOf_L59_9_ax : Go.Ev.Rd → AX
  | .next _ _ => .normal
  | .out j _ => axOf (witnessOf_L59_9_ex j)
def witnessOf_L59_9_S0 (re fa fb fc fd : Int) (k : Nat) (c : List D) (st : Int) (kb : Nat) (cb : List D) (su : Int) (ke : Nat) (ce : List D) (x0 : Int) (x1 : Int) (x2 : Int) (x3 : Int) (x4 : Int) (x5 : Nat) (x6 : List D) (x7 : Nat) (x8 : List D) (x9 : Nat) (x10 : List D) (x11 : Nat) (x12 : List D) (ds : List D) : Option Go.Ev.Rd := pullD (α := Int) (some (.tup ds)) (fun d => ((D.vi (D.at d 1)))) (fun s27 => .tup [.one (.tuple #[]), iD s27]) fun s27 => ((if s27 < (x11 : Int) then guardP ((0 : Int) ≤ s27 ∧ s27.toNat < x11) (pullD (α := Int) (readD x12 (s27.toNat * 1) 1 false) (fun d => ((D.vi d))) (fun v0 => iD v0) fun v0 => (guardP ((0 : Int) ≤ IntKind.i64.wrap (s27 + (1 : Int)) ∧ IntKind.i64.wrap (s27 + (1 : Int)) ≤ (x11 : Int) ∧ (x11 : Int) ≤ (x11 : Int) ∧ x12.length = x11 * 1) (bindL (runR (witnessOf_L59_12_S re fa fb fc fd k c st kb cb su ke ce x0 x1 x2 x3 x4 x5 x6 x7 x8 x9 x10 x11 x12 s27 v0) (.next 0 [.one (.tuple #[]), iD ((0 : Int))])) fun j ds => (if j = 0 then pullD (some (.tup ds)) (fun _ => ()) (fun _ => .tup [.one (.tuple #[])]) fun _ => (some (.next 0 [.one (.tuple #[]), iD (IntKind.i64.wrap (s27 + (1 : Int)))])) else if j = 1 then pullD (α := Nat × (List D)) (some (.tup ds)) (fun d => ((D.ln (D.at d 0)), (D.lc (D.at d 0)))) (fun (k1, c2) => .tup [.list k1 c2]) fun (k1, c2) => (some (.out 1 [.list k1 c2])) else none)))) else some (.out 0 [.one (.tuple #[])])))
def witnessOf_L59_9_S (re fa fb fc fd : Int) (k : Nat) (c : List D) (st : Int) (kb : Nat) (cb : List D) (su : Int) (ke : Nat) (ce : List D) (x0 : Int) (x1 : Int) (x2 : Int) (x3 : Int) (x4 : Int) (x5 : Nat) (x6 : List D) (x7 : Nat) (x8 : List D) (x9 : Nat) (x10 : List D) (x11 : Nat) (x12 : List D) : Go.Ev.Rd → Option Go.Ev.Rd
  | .next 0 ds => witnessOf_L59_9_S0 re fa fb fc fd k c st kb cb su ke ce x0 x1 x2 x3 x4 x5 x6 x7 x8 x9 x10 x11 x12 ds
  | _ => none
theorem witnessOf_L59_9_S_0 (re fa fb fc fd : Int) (k : Nat) (c : List D) (st : Int) (kb : Nat) (cb : List D) (su : Int) (ke : Nat) (ce : List D) (x0 : Int) (x1 : Int) (x2 : Int) (x3 : Int) (x4 : Int) (x5 : Nat) (x6 : List D) (x7 : Nat) (x8 : List D) (x9 : Nat) (x10 : List D) (x11 : Nat) (x12 : List D) (ds : List D) : witnessOf_L59_9_S re fa fb fc fd k c st kb cb su ke ce x0 x1 x2 x3 x4 x5 x6 x7 x8 x9 x10 x11 x12 (.next 0 ds) = witnessOf_L59_9_S0 re fa fb fc fd k c st kb cb su ke ce x0 x1 x2 x3 x4 x5 x6 x7 x8 x9 x10 x11 x12 ds := rfl
theorem witnessOf_L59_9_S_ok (re fa fb fc fd : Int) (k : Nat) (c : List D) (st : Int) (kb : Nat) (cb : List D) (su : Int) (ke : Nat) (ce : List D) (x0 : Int) (x1 : Int) (x2 : Int) (x3 : Int) (x4 : Int) (x5 : Nat) (x6 : List D) (x7 : Nat) (x8 : List D) (x9 : Nat) (x10 : List D) (x11 : Nat) (x12 : List D) : ∀ s_ t_, witnessOf_L59_9_S re fa fb fc fd k c st kb cb su ke ce x0 x1 x2 x3 x4 x5 x6 x7 x8 x9 x10 x11 x12 s_ = some t_ → Step (ctx [25, 59] witnessOf_sp) Tabs witnessOf_L59_9_A (stateOf (witnessOf_L59_9_gs re fa fb fc fd k c st kb cb su ke ce x0 x1 x2 x3 x4 x5 x6 x7 x8 x9 x10 x11 x12 s_)) (stateOf (witnessOf_L59_9_gs re fa fb fc fd k c st kb cb su ke ce x0 x1 x2 x3 x4 x5 x6 x7 x8 x9 x10 x11 x12 t_)) (witnessOf_L59_9_ax t_) ∧ EndOK witnessOf_L59_9_A.nx witnessOf_L59_9_A.low (witnessOf_L59_9_gs re fa fb fc fd k c st kb cb su ke ce x0 x1 x2 x3 x4 x5 x6 x7 x8 x9 x10 x11 x12) t_
  | .next 0 ds, t_, h => by
    have h_ : witnessOf_L59_9_S0 re fa fb fc fd k c st kb cb su ke ce x0 x1 x2 x3 x4 x5 x6 x7 x8 x9 x10 x11 x12 ds = some t_ := h
    clear h
    unfold witnessOf_L59_9_S0 at h_
    obtain ⟨s27, e0, h0⟩ := pullD_elim h_
    clear h_
    obtain rfl := tup_inj e0
    by_cases b1_ : s27 < (x11 : Int)
    · have h2_ := (if_pos b1_).symm.trans h0
      obtain ⟨f3_, h4_⟩ := guardP_elim h2_
      obtain ⟨v0, f5_, h6_⟩ := pullD_elim h4_
      replace f5_ := readD_elim f5_
      obtain ⟨f7_, h8_⟩ := guardP_elim h6_
      obtain ⟨j, ds, e9_, h10_⟩ := bindL_elim h8_
      by_cases j11_ : j = 0
      · have h14_ := (if_pos j11_).symm.trans h10_
        clear h10_
        subst j11_
        obtain ⟨⟨⟩, e12_, h15_⟩ := pullD_elim h14_
        clear h14_
        obtain rfl := tup_inj e12_
        have k13_ := witnessOf_L59_12_in0 re fa fb fc fd k c st kb cb su ke ce x0 x1 x2 x3 x4 x5 x6 x7 x8 x9 x10 x11 x12 s27 v0 e9_
        obtain rfl := Option.some.inj h15_
        exact ⟨step_pc 3000 (bT 1 []) [iD v0, .tup [iD (Int.ofNat 0), .one (.tuple #[])]] [c_d b1_, c_f f3_, c_f f5_, c_f f7_] [k_l k13_ [] [.tup [iD (Int.ofNat 0), .one (.tuple #[])]] []] _ rfl (by kernel_rfl) (by kernel_rfl) (by kernel_rfl) (by kernel_rfl) (by kernel_rfl) (by kernel_rfl), trivial⟩
      have h16_ := (if_neg j11_).symm.trans h10_
      clear h10_
      by_cases j17_ : j = 1
      · have h20_ := (if_pos j17_).symm.trans h16_
        clear h16_
        subst j17_
        obtain ⟨⟨k1, c2⟩, e18_, h21_⟩ := pullD_elim h20_
        clear h20_
        obtain rfl := tup_inj e18_
        have k19_ := witnessOf_L59_12_in1 re fa fb fc fd k c st kb cb su ke ce x0 x1 x2 x3 x4 x5 x6 x7 x8 x9 x10 x11 x12 s27 v0 e9_
        obtain rfl := Option.some.inj h21_
        exact ⟨step_pc 3000 (bT 1 []) [iD v0, .tup [iD (Int.ofNat 1), .list k1 c2]] [c_d b1_, c_f f3_, c_f f5_, c_f f7_] [k_l k19_ [] [.tup [iD (Int.ofNat 1), .list k1 c2]] []] _ rfl (by kernel_rfl) (by kernel_rfl) (by kernel_rfl) (by kernel_rfl) (by kernel_rfl) (by kernel_rfl), by kernel_rfl, by kernel_rfl⟩
      have h22_ := (if_neg j17_).symm.trans h16_
      clear h16_
      cases h22_
    have h2_ := (if_neg b1_).symm.trans h0
    obtain rfl := Option.some.inj h2_
    exact ⟨step_pc 3000 (bF 1 []) [] [c_n b1_] [] _ rfl (by kernel_rfl) (by kernel_rfl) (by kernel_rfl) (by kernel_rfl) (by kernel_rfl) (by kernel_rfl), by kernel_rfl, by kernel_rfl⟩
  | .next (_ + 1) _, _, h => by cases h
  | .out _ _, _, h => by cases h
theorem witnessOf_L59_9_go (re fa fb fc fd : Int) (k : Nat) (c : List D) (st : Int) (kb : Nat) (cb : List D) (su : Int) (ke : Nat) (ce : List D) (x0 : Int) (x1 : Int) (x2 : Int) (x3 : Int) (x4 : Int) (x5 : Nat) (x6 : List D) (x7 : Nat) (x8 : List D) (x9 : Nat) (x10 : List D) (x11 : Nat) (x12 : List D) {q : Nat} {ds : List D} {j : Nat} {es : List D} (h : runR (witnessOf_L59_9_S re fa fb fc fd k c st kb cb su ke ce x0 x1 x2 x3 x4 x5 x6 x7 x8 x9 x10 x11 x12) (.next q ds) = some (.out j es)) : Runs (ctx [25, 59] witnessOf_sp) Tabs witnessOf_L59_9_A (stateOf (witnessOf_L59_9_gs re fa fb fc fd k c st kb cb su ke ce x0 x1 x2 x3 x4 x5 x6 x7 x8 x9 x10 x11 x12 (.next q ds))) (stateOf (witnessOf_L59_9_gs re fa fb fc fd k c st kb cb su ke ce x0 x1 x2 x3 x4 x5 x6 x7 x8 x9 x10 x11 x12 (.out j es))) (witnessOf_L59_9_ax (.out j es)) ∧ (nxtOf (witnessOf_L59_9_gs re fa fb fc fd k c st kb cb su ke ce x0 x1 x2 x3 x4 x5 x6 x7 x8 x9 x10 x11 x12 (.out j es)), lowGS (witnessOf_L59_9_gs re fa fb fc fd k c st kb cb su ke ce x0 x1 x2 x3 x4 x5 x6 x7 x8 x9 x10 x11 x12 (.out j es))) = (witnessOf_L59_9_A.nx, witnessOf_L59_9_A.low) :=
  runs_of' (good true _ _) witnessOf_L59_9_ok (ax := witnessOf_L59_9_ax) (fun _ _ => rfl) (fun _ _ => axOf_end _) (witnessOf_L59_9_S_ok re fa fb fc fd k c st kb cb su ke ce x0 x1 x2 x3 x4 x5 x6 x7 x8 x9 x10 x11 x12) h
theorem witnessOf_L59_9_in0 (re fa fb fc fd : Int) (k : Nat) (c : List D) (st : Int) (kb : Nat) (cb : List D) (su : Int) (ke : Nat) (ce : List D) (x0 : Int) (x1 : Int) (x2 : Int) (x3 : Int) (x4 : Int) (x5 : Nat) (x6 : List D) (x7 : Nat) (x8 : List D) (x9 : Nat) (x10 : List D) (x11 : Nat) (x12 : List D) {es : List D} (h : runR (witnessOf_L59_9_S re fa fb fc fd k c st kb cb su ke ce x0 x1 x2 x3 x4 x5 x6 x7 x8 x9 x10 x11 x12) (.next 0 [.one (.tuple #[]), iD ((0 : Int))]) = some (.out 0 es)) : LoopC (loopAt Try.prog 59 1) (witnessOf_L59_9_E re fa fb fc fd k c st kb cb su ke ce x0 x1 x2 x3 x4 x5 x6 x7 x8 x9 x10 x11 x12) 25 noFrame witnessOf_x59_9_0 es :=
  have r := witnessOf_L59_9_go re fa fb fc fd k c st kb cb su ke ce x0 x1 x2 x3 x4 x5 x6 x7 x8 x9 x10 x11 x12 h
  loopin_as rfl (loop_in (l := witnessOf_L59_9_A) (E := (witnessOf_L59_9_E re fa fb fc fd k c st kb cb su ke ce x0 x1 x2 x3 x4 x5 x6 x7 x8 x9 x10 x11 x12)) (S := stateOf (witnessOf_L59_9_gs re fa fb fc fd k c st kb cb su ke ce x0 x1 x2 x3 x4 x5 x6 x7 x8 x9 x10 x11 x12 (.next 0 [.one (.tuple #[]), iD ((0 : Int))]))) (ns := nsOf (witnessOf_L59_9_gs re fa fb fc fd k c st kb cb su ke ce x0 x1 x2 x3 x4 x5 x6 x7 x8 x9 x10 x11 x12 (.next 0 [.one (.tuple #[]), iD ((0 : Int))]))) witnessOf_L59_9_ok r.1 r.2 (by kernel_rfl) (by kernel_rfl) (by kernel_rfl) (by kernel_rfl))
theorem witnessOf_L59_9_in1 (re fa fb fc fd : Int) (k : Nat) (c : List D) (st : Int) (kb : Nat) (cb : List D) (su : Int) (ke : Nat) (ce : List D) (x0 : Int) (x1 : Int) (x2 : Int) (x3 : Int) (x4 : Int) (x5 : Nat) (x6 : List D) (x7 : Nat) (x8 : List D) (x9 : Nat) (x10 : List D) (x11 : Nat) (x12 : List D) {es : List D} (h : runR (witnessOf_L59_9_S re fa fb fc fd k c st kb cb su ke ce x0 x1 x2 x3 x4 x5 x6 x7 x8 x9 x10 x11 x12) (.next 0 [.one (.tuple #[]), iD ((0 : Int))]) = some (.out 1 es)) : LoopC (loopAt Try.prog 59 1) (witnessOf_L59_9_E re fa fb fc fd k c st kb cb su ke ce x0 x1 x2 x3 x4 x5 x6 x7 x8 x9 x10 x11 x12) 25 noFrame witnessOf_x59_9_1 es :=
  have r := witnessOf_L59_9_go re fa fb fc fd k c st kb cb su ke ce x0 x1 x2 x3 x4 x5 x6 x7 x8 x9 x10 x11 x12 h
  loopin_as rfl (loop_in (l := witnessOf_L59_9_A) (E := (witnessOf_L59_9_E re fa fb fc fd k c st kb cb su ke ce x0 x1 x2 x3 x4 x5 x6 x7 x8 x9 x10 x11 x12)) (S := stateOf (witnessOf_L59_9_gs re fa fb fc fd k c st kb cb su ke ce x0 x1 x2 x3 x4 x5 x6 x7 x8 x9 x10 x11 x12 (.next 0 [.one (.tuple #[]), iD ((0 : Int))]))) (ns := nsOf (witnessOf_L59_9_gs re fa fb fc fd k c st kb cb su ke ce x0 x1 x2 x3 x4 x5 x6 x7 x8 x9 x10 x11 x12 (.next 0 [.one (.tuple #[]), iD ((0 : Int))]))) witnessOf_L59_9_ok r.1 r.2 (by kernel_rfl) (by kernel_rfl) (by kernel_rfl) (by kernel_rfl))
def witnessOf_L59_3_E (re fa fb fc fd : Int) (k : Nat) (c : List D) (st : Int) (kb : Nat) (cb : List D) (su : Int) (ke : Nat) (ce : List D) (x0 : Int) (x1 : Int) (x2 : Int) (x3 : Int) (x4 : Int) (x5 : Nat) (x6 : List D) (x7 : Nat) (x8 : List D) (x9 : Nat) (x10 : List D) (x11 : Nat) (x12 : List D) : List AV × AHeap := ([.agg [.pure (.int .i64 x0), .pure (.int .i64 x1), .pure (.int .i64 x2), .pure (.int .i64 x3), .pure (.int .i64 x4), .dsl 6, .dsl 7, .dsl 8], .ptr 10 0, .pure (.slice none 0 0), .dsl 11, .pure (.tuple #[]), .pure (.tuple #[]), .pure (.tuple #[]), .pure (.tuple #[]), .pure (.tuple #[]), .pure (.tuple #[]), .agg [.pure (.int .i64 x0), .pure (.int .i64 x1), .pure (.int .i64 x2), .pure (.int .i64 x3), .pure (.int .i64 x4), .dsl 6, .dsl 7, .dsl 8], .dsl 11, .dsl 11, .pure (.int .i64 (x11 : Int)), .pure (.int .i64 (0 : Int)), .pure (.tuple #[]), .pure (.tuple #[]), .pure (.tuple #[]), .pure (.tuple #[]), .pure (.tuple #[]), .pure (.tuple #[]), .pure (.tuple #[]), .pure (.tuple #[]), .pure (.tuple #[]), .pure (.tuple #[]), .pure (.tuple #[]), .pure (.tuple #[]), .pure (.tuple #[]), .pure (.tuple #[]), .pure (.tuple #[]), .pure (.tuple #[]), .pure (.tuple #[]), .pure (.tuple #[]), .pure (.tuple #[]), .pure (.tuple #[]), .pure (.tuple #[]), .pure (.tuple #[]), .pure (.tuple #[]), .pure (.tuple #[]), .pure (.tuple #[]), .pure (.tuple #[]), .pure (.tuple #[]), .pure (.tuple #[]), .pure (.tuple #[]), .pure (.tuple #[]), .pure (.tuple #[]), .pure (.tuple #[]), .pure (.tuple #[]), .pure (.tuple #[]), .pure (.tuple #[]), .pure (.tuple #[])], [(11, { cells := [], opn := none, kind := .deep x11 x12 }), (10, { cells := [.pure (.int .i64 x0), .pure (.int .i64 x1), .pure (.int .i64 x2), .pure (.int .i64 x3), .pure (.int .i64 x4), .dsl 6, .dsl 7, .dsl 8], opn := none, kind := .cells }), (9, { cells := [.pure (.int .i64 x0), .pure (.int .i64 x1), .pure (.int .i64 x2), .pure (.int .i64 x3), .pure (.int .i64 x4), .dsl 6, .dsl 7, .dsl 8], opn := none, kind := .cells }), (8, { cells := [], opn := none, kind := .deep x9 x10 }), (7, { cells := [], opn := none, kind := .deep x7 x8 }), (6, { cells := [], opn := none, kind := .deep x5 x6 }), (5, { cells := [.pure (.int .i64 su), .dsl 2], opn := none, kind := .cells }), (4, { cells := [.pure (.int .i64 st), .dsl 1], opn := none, kind := .cells }), (3, { cells := [.pure (.int .i64 re), .pure (.int .i64 fa), .pure (.int .i64 fb), .pure (.int .i64 fc), .pure (.int .i64 fd), .dsl 0], opn := none, kind := .cells }), (2, { cells := [], opn := none, kind := .deep ke ce }), (1, { cells := [], opn := none, kind := .deep kb cb }), (0, { cells := [], opn := none, kind := .deep k c })])
def witnessOf_L59_3_A : LoopAt := ⟨59, loopAt Try.prog 59 0, 12, 25, 12, noFrame⟩
theorem witnessOf_L59_3_ok : (witnessOf_L59_3_A).OK := ⟨by show 12 ≤ 25; decide, by show 12 ≤ 12; decide, by kernel_rfl, rfl⟩
def witnessOf_L59_3_gs (re fa fb fc fd : Int) (k : Nat) (c : List D) (st : Int) (kb : Nat) (cb : List D) (su : Int) (ke : Nat) (ce : List D) (x0 : Int) (x1 : Int) (x2 : Int) (x3 : Int) (x4 : Int) (x5 : Nat) (x6 : List D) (x7 : Nat) (x8 : List D) (x9 : Nat) (x10 : List D) (x11 : Nat) (x12 : List D) : Go.Ev.Rd → Option GS
  | .next 0 ds => ghost [.drop 2, .val 14] (5 :: (List.range' 15 10)) (witnessOf_L59_3_E re fa fb fc fd k c st kb cb su ke ce x0 x1 x2 x3 x4 x5 x6 x7 x8 x9 x10 x11 x12).1 (witnessOf_L59_3_E re fa fb fc fd k c st kb cb su ke ce x0 x1 x2 x3 x4 x5 x6 x7 x8 x9 x10 x11 x12).2 12 ds
  | .out 0 ds => ghost witnessOf_x59_3_0.live witnessOf_x59_3_0.junk (witnessOf_L59_3_E re fa fb fc fd k c st kb cb su ke ce x0 x1 x2 x3 x4 x5 x6 x7 x8 x9 x10 x11 x12).1 (witnessOf_L59_3_E re fa fb fc fd k c st kb cb su ke ce x0 x1 x2 x3 x4 x5 x6 x7 x8 x9 x10 x11 x12).2 12 ds
  | .out 1 ds => ghost witnessOf_x59_3_1.live witnessOf_x59_3_1.junk (witnessOf_L59_3_E re fa fb fc fd k c st kb cb su ke ce x0 x1 x2 x3 x4 x5 x6 x7 x8 x9 x10 x11 x12).1 (witnessOf_L59_3_E re fa fb fc fd k c st kb cb su ke ce x0 x1 x2 x3 x4 x5 x6 x7 x8 x9 x10 x11 x12).2 12 ds
  | _ => none
def witnessOf_L59_3_ex : Nat → Option Nat
  | 0 => witnessOf_x59_3_0.ex
  | 1 => witnessOf_x59_3_1.ex
  | _ => none
def witnessOf_L59_3_ax : Go.Ev.Rd → AX
  | .next _ _ => .normal
  | .out j _ => axOf (witnessOf_L59_3_ex j)
def witnessOf_L59_3_S0 (re fa fb fc fd : Int) (k : Nat) (c : List D) (st : Int) (kb : Nat) (cb : List D) (su : Int) (ke : Nat) (ce : List D) (x0 : Int) (x1 : Int) (x2 : Int) (x3 : Int) (x4 : Int) (x5 : Nat) (x6 : List D) (x7 : Nat) (x8 : List D) (x9 : Nat) (x10 : List D) (x11 : Nat) (x12 : List D) (ds : List D) : Option Go.Ev.Rd := pullD (α := Int) (some (.tup ds)) (fun d => ((D.vi (D.at d 1)))) (fun s14 => .tup [.one (.tuple #[]), iD s14]) fun s14 => ((if s14 < (x11 : Int) then guardP ((0 : Int) ≤ s14 ∧ s14.toNat < x11) (pullD (α := Int) (readD x12 (s14.toNat * 1) 1 false) (fun d => ((D.vi d))) (fun v0 => iD v0) fun v0 => (pullD (α := Bool) (m_57 [.agg [iD x0, iD x1, iD x2, iD x3, iD x4, .list x5 x6, .list x7 x8, .list x9 x10], .list 1 [iD v0]]) (fun d => ((D.vb d))) (fun r1 => .one (.bool r1)) fun r1 => ((if (r1) = true then some (.out 1 [.list 1 [iD v0]]) else some (.next 0 [.one (.tuple #[]), iD (IntKind.i64.wrap (s14 + (1 : Int)))]))))) else some (.out 0 [.one (.tuple #[])])))
def witnessOf_L59_3_S (re fa fb fc fd : Int) (k : Nat) (c : List D) (st : Int) (kb : Nat) (cb : List D) (su : Int) (ke : Nat) (ce : List D) (x0 : Int) (x1 : Int) (x2 : Int) (x3 : Int) (x4 : Int) (x5 : Nat) (x6 : List D) (x7 : Nat) (x8 : List D) (x9 : Nat) (x10 : List D) (x11 : Nat) (x12 : List D) : Go.Ev.Rd → Option Go.Ev.Rd
  | .next 0 ds => witnessOf_L59_3_S0 re fa fb fc fd k c st kb cb su ke ce x0 x1 x2 x3 x4 x5 x6 x7 x8 x9 x10 x11 x12 ds
  | _ => none
theorem witnessOf_L59_3_S_0 (re fa fb fc fd : Int) (k : Nat) (c : List D) (st : Int) (kb : Nat) (cb : List D) (su : Int) (ke : Nat) (ce : List D) (x0 : Int) (x1 : Int) (x2 : Int) (x3 : Int) (x4 : Int) (x5 : Nat) (x6 : List D) (x7 : Nat) (x8 : List D) (x9 : Nat) (x10 : List D) (x11 : Nat) (x12 : List D) (ds : List D) : witnessOf_L59_3_S re fa fb fc fd k c st kb cb su ke ce x0 x1 x2 x3 x4 x5 x6 x7 x8 x9 x10 x11 x12 (.next 0 ds) = witnessOf_L59_3_S0 re fa fb fc fd k c st kb cb su ke ce x0 x1 x2 x3 x4 x5 x6 x7 x8 x9 x10 x11 x12 ds := rfl
theorem witnessOf_L59_3_S_ok (re fa fb fc fd : Int) (k : Nat) (c : List D) (st : Int) (kb : Nat) (cb : List D) (su : Int) (ke : Nat) (ce : List D) (x0 : Int) (x1 : Int) (x2 : Int) (x3 : Int) (x4 : Int) (x5 : Nat) (x6 : List D) (x7 : Nat) (x8 : List D) (x9 : Nat) (x10 : List D) (x11 : Nat) (x12 : List D) : ∀ s_ t_, witnessOf_L59_3_S re fa fb fc fd k c st kb cb su ke ce x0 x1 x2 x3 x4 x5 x6 x7 x8 x9 x10 x11 x12 s_ = some t_ → Step (ctx [25, 59] witnessOf_sp) Tabs witnessOf_L59_3_A (stateOf (witnessOf_L59_3_gs re fa fb fc fd k c st kb cb su ke ce x0 x1 x2 x3 x4 x5 x6 x7 x8 x9 x10 x11 x12 s_)) (stateOf (witnessOf_L59_3_gs re fa fb fc fd k c st kb cb su ke ce x0 x1 x2 x3 x4 x5 x6 x7 x8 x9 x10 x11 x12 t_)) (witnessOf_L59_3_ax t_) ∧ EndOK witnessOf_L59_3_A.nx witnessOf_L59_3_A.low (witnessOf_L59_3_gs re fa fb fc fd k c st kb cb su ke ce x0 x1 x2 x3 x4 x5 x6 x7 x8 x9 x10 x11 x12) t_
  | .next 0 ds, t_, h => by
    have h_ : witnessOf_L59_3_S0 re fa fb fc fd k c st kb cb su ke ce x0 x1 x2 x3 x4 x5 x6 x7 x8 x9 x10 x11 x12 ds = some t_ := h
    clear h
    unfold witnessOf_L59_3_S0 at h_
    obtain ⟨s14, e0, h0⟩ := pullD_elim h_
    clear h_
    obtain rfl := tup_inj e0
    by_cases b1_ : s14 < (x11 : Int)
    · have h2_ := (if_pos b1_).symm.trans h0
      obtain ⟨f3_, h4_⟩ := guardP_elim h2_
      obtain ⟨v0, f5_, h6_⟩ := pullD_elim h4_
      replace f5_ := readD_elim f5_
      obtain ⟨r1, f7_, h8_⟩ := pullD_elim h6_
      replace f7_ := m_57_ok f7_
      by_cases b9_ : (r1) = true
      · have h10_ := (if_pos b9_).symm.trans h8_
        obtain rfl := Option.some.inj h10_
        exact ⟨step_pc 3000 (bT 2 []) [iD v0, .one (.bool r1)] [c_d b1_, c_f f3_, c_f f5_, c_le 0, c_q b9_] [k_c f7_] _ rfl (by kernel_rfl) (by kernel_rfl) (by kernel_rfl) (by kernel_rfl) (by kernel_rfl) (by kernel_rfl), by kernel_rfl, by kernel_rfl⟩
      have h10_ := (if_neg b9_).symm.trans h8_
      have b11_ : (r1) = false := by first | exact b9_ | simpa using b9_
      obtain rfl := Option.some.inj h10_
      exact ⟨step_pc 3000 (bT 1 (bF 1 [])) [iD v0, .one (.bool r1)] [c_d b1_, c_f f3_, c_f f5_, c_le 0, c_q b11_] [k_c f7_] _ rfl (by kernel_rfl) (by kernel_rfl) (by kernel_rfl) (by kernel_rfl) (by kernel_rfl) (by kernel_rfl), trivial⟩
    have h2_ := (if_neg b1_).symm.trans h0
    obtain rfl := Option.some.inj h2_
    exact ⟨step_pc 3000 (bF 1 []) [] [c_n b1_] [] _ rfl (by kernel_rfl) (by kernel_rfl) (by kernel_rfl) (by kernel_rfl) (by kernel_rfl) (by kernel_rfl), by kernel_rfl, by kernel_rfl⟩
  | .next (_ + 1) _, _, h => by cases h
  | .out _ _, _, h => by cases h
theorem witnessOf_L59_3_go (re fa fb fc fd : Int) (k : Nat) (c : List D) (st : Int) (kb : Nat) (cb : List D) (su : Int) (ke : Nat) (ce : List D) (x0 : Int) (x1 : Int) (x2 : Int) (x3 : Int) (x4 : Int) (x5 : Nat) (x6 : List D) (x7 : Nat) (x8 : List D) (x9 : Nat) (x10 : List D) (x11 : Nat) (x12 : List D) {q : Nat} {ds : List D} {j : Nat} {es : List D} (h : runR (witnessOf_L59_3_S re fa fb fc fd k c st kb cb su ke ce x0 x1 x2 x3 x4 x5 x6 x7 x8 x9 x10 x11 x12) (.next q ds) = some (.out j es)) : Runs (ctx [25, 59] witnessOf_sp) Tabs witnessOf_L59_3_A (stateOf (witnessOf_L59_3_gs re fa fb fc fd k c st kb cb su ke ce x0 x1 x2 x3 x4 x5 x6 x7 x8 x9 x10 x11 x12 (.next q ds))) (stateOf (witnessOf_L59_3_gs re fa fb fc fd k c st kb cb su ke ce x0 x1 x2 x3 x4 x5 x6 x7 x8 x9 x10 x11 x12 (.out j es))) (witnessOf_L59_3_ax (.out j es)) ∧ (nxtOf (witnessOf_L59_3_gs re fa fb fc fd k c st kb cb su ke ce x0 x1 x2 x3 x4 x5 x6 x7 x8 x9 x10 x11 x12 (.out j es)), lowGS (witnessOf_L59_3_gs re fa fb fc fd k c st kb cb su ke ce x0 x1 x2 x3 x4 x5 x6 x7 x8 x9 x10 x11 x12 (.out j es))) = (witnessOf_L59_3_A.nx, witnessOf_L59_3_A.low) :=
  runs_of' (good true _ _) witnessOf_L59_3_ok (ax := witnessOf_L59_3_ax) (fun _ _ => rfl) (fun _ _ => axOf_end _) (witnessOf_L59_3_S_ok re fa fb fc fd k c st kb cb su ke ce x0 x1 x2 x3 x4 x5 x6 x7 x8 x9 x10 x11 x12) h
theorem witnessOf_L59_3_in0 (re fa fb fc fd : Int) (k : Nat) (c : List D) (st : Int) (kb : Nat) (cb : List D) (su : Int) (ke : Nat) (ce : List D) (x0 : Int) (x1 : Int) (x2 : Int) (x3 : Int) (x4 : Int) (x5 : Nat) (x6 : List D) (x7 : Nat) (x8 : List D) (x9 : Nat) (x10 : List D) (x11 : Nat) (x12 : List D) {es : List D} (h : runR (witnessOf_L59_3_S re fa fb fc fd k c st kb cb su ke ce x0 x1 x2 x3 x4 x5 x6 x7 x8 x9 x10 x11 x12) (.next 0 [.one (.tuple #[]), iD ((0 : Int))]) = some (.out 0 es)) : LoopC (loopAt Try.prog 59 0) (witnessOf_L59_3_E re fa fb fc fd k c st kb cb su ke ce x0 x1 x2 x3 x4 x5 x6 x7 x8 x9 x10 x11 x12) 12 noFrame witnessOf_x59_3_0 es :=
  have r := witnessOf_L59_3_go re fa fb fc fd k c st kb cb su ke ce x0 x1 x2 x3 x4 x5 x6 x7 x8 x9 x10 x11 x12 h
  loopin_as rfl (loop_in (l := witnessOf_L59_3_A) (E := (witnessOf_L59_3_E re fa fb fc fd k c st kb cb su ke ce x0 x1 x2 x3 x4 x5 x6 x7 x8 x9 x10 x11 x12)) (S := stateOf (witnessOf_L59_3_gs re fa fb fc fd k c st kb cb su ke ce x0 x1 x2 x3 x4 x5 x6 x7 x8 x9 x10 x11 x12 (.next 0 [.one (.tuple #[]), iD ((0 : Int))]))) (ns := nsOf (witnessOf_L59_3_gs re fa fb fc fd k c st kb cb su ke ce x0 x1 x2 x3 x4 x5 x6 x7 x8 x9 x10 x11 x12 (.next 0 [.one (.tuple #[]), iD ((0 : Int))]))) witnessOf_L59_3_ok r.1 r.2 (by kernel_rfl) (by kernel_rfl) (by kernel_rfl) (by kernel_rfl))
theorem witnessOf_L59_3_in1 (re fa fb fc fd : Int) (k : Nat) (c : List D) (st : Int) (kb : Nat) (cb : List D) (su : Int) (ke : Nat) (ce : List D) (x0 : Int) (x1 : Int) (x2 : Int) (x3 : Int) (x4 : Int) (x5 : Nat) (x6 : List D) (x7 : Nat) (x8 : List D) (x9 : Nat) (x10 : List D) (x11 : Nat) (x12 : List D) {es : List D} (h : runR (witnessOf_L59_3_S re fa fb fc fd k c st kb cb su ke ce x0 x1 x2 x3 x4 x5 x6 x7 x8 x9 x10 x11 x12) (.next 0 [.one (.tuple #[]), iD ((0 : Int))]) = some (.out 1 es)) : LoopC (loopAt Try.prog 59 0) (witnessOf_L59_3_E re fa fb fc fd k c st kb cb su ke ce x0 x1 x2 x3 x4 x5 x6 x7 x8 x9 x10 x11 x12) 12 noFrame witnessOf_x59_3_1 es :=
  have r := witnessOf_L59_3_go re fa fb fc fd k c st kb cb su ke ce x0 x1 x2 x3 x4 x5 x6 x7 x8 x9 x10 x11 x12 h
  loopin_as rfl (loop_in (l := witnessOf_L59_3_A) (E := (witnessOf_L59_3_E re fa fb fc fd k c st kb cb su ke ce x0 x1 x2 x3 x4 x5 x6 x7 x8 x9 x10 x11 x12)) (S := stateOf (witnessOf_L59_3_gs re fa fb fc fd k c st kb cb su ke ce x0 x1 x2 x3 x4 x5 x6 x7 x8 x9 x10 x11 x12 (.next 0 [.one (.tuple #[]), iD ((0 : Int))]))) (ns := nsOf (witnessOf_L59_3_gs re fa fb fc fd k c st kb cb su ke ce x0 x1 x2 x3 x4 x5 x6 x7 x8 x9 x10 x11 x12 (.next 0 [.one (.tuple #[]), iD ((0 : Int))]))) witnessOf_L59_3_ok r.1 r.2 (by kernel_rfl) (by kernel_rfl) (by kernel_rfl) (by kernel_rfl))
def witnessOf_M (re fa fb fc fd : Int) (k : Nat) (c : List D) (st : Int) (kb : Nat) (cb : List D) (su : Int) (ke : Nat) (ce : List D) : Option D := pullD (α := Int × Int × Int × Int × Int × Nat × (List D) × Nat × (List D) × Nat × (List D) × Int) (m_54 [.agg [iD re, iD fa, iD fb, iD fc, iD fd, .list k c], .agg [iD st, .list kb cb, iD su, .list ke ce]]) (fun d => ((D.vi (D.at (D.at d 0) 0)), (D.vi (D.at (D.at d 0) 1)), (D.vi (D.at (D.at d 0) 2)), (D.vi (D.at (D.at d 0) 3)), (D.vi (D.at (D.at d 0) 4)), (D.ln (D.at (D.at d 0) 5)), (D.lc (D.at (D.at d 0) 5)), (D.ln (D.at (D.at d 0) 6)), (D.lc (D.at (D.at d 0) 6)), (D.ln (D.at (D.at d 0) 7)), (D.lc (D.at (D.at d 0) 7)), (D.vi (D.at d 1)))) (fun (r0, r1, r2, r3, r4, k5, c6, k7, c8, k9, c10, r11) => .tup [.agg [iD r0, iD r1, iD r2, iD r3, iD r4, .list k5 c6, .list k7 c8, .list k9 c10], iD r11]) fun (r0, r1, r2, r3, r4, k5, c6, k7, c8, k9, c10, r11) => ((if r11 ≠ (0 : Int) then some (.tup [.list 0 [], iD r11]) else pullD (α := Nat × (List D)) (m_56 [.agg [iD r0, iD r1, iD r2, iD r3, iD r4, .list k5 c6, .list k7 c8, .list k9 c10]]) (fun d => ((D.ln d), (D.lc d))) (fun (k12, c13) => .list k12 c13) fun (k12, c13) => (bindL (runR (witnessOf_L59_3_S re fa fb fc fd k c st kb cb su ke ce r0 r1 r2 r3 r4 k5 c6 k7 c8 k9 c10 k12 c13) (.next 0 [.one (.tuple #[]), iD ((0 : Int))])) fun j ds => (if j = 0 then pullD (some (.tup ds)) (fun _ => ()) (fun _ => .tup [.one (.tuple #[])]) fun _ => (bindL (runR (witnessOf_L59_9_S re fa fb fc fd k c st kb cb su ke ce r0 r1 r2 r3 r4 k5 c6 k7 c8 k9 c10 k12 c13) (.next 0 [.one (.tuple #[]), iD ((0 : Int))])) fun j ds => (if j = 0 then pullD (some (.tup ds)) (fun _ => ()) (fun _ => .tup [.one (.tuple #[])]) fun _ => (some (.tup [.list 0 [], iD (12 : Int)])) else if j = 1 then pullD (α := Nat × (List D)) (some (.tup ds)) (fun d => ((D.ln (D.at d 0)), (D.lc (D.at d 0)))) (fun (k14, c15) => .tup [.list k14 c15]) fun (k14, c15) => (guardP ((0 + k14) * 1 ≤ c15.length ∧ 0 < 1) (some (.tup [.list k14 c15, iD (0 : Int)]))) else none)) else if j = 1 then pullD (α := Nat × (List D)) (some (.tup ds)) (fun d => ((D.ln (D.at d 0)), (D.lc (D.at d 0)))) (fun (k16, c17) => .tup [.list k16 c17]) fun (k16, c17) => (guardP ((0 + k16) * 1 ≤ c17.length ∧ 0 < 1) (some (.tup [.list k16 c17, iD (0 : Int)]))) else none))))
theorem witnessOf_M_ok (re fa fb fc fd : Int) (k : Nat) (c : List D) (st : Int) (kb : Nat) (cb : List D) (su : Int) (ke : Nat) (ce : List D) {r : D} (h : witnessOf_M re fa fb fc fd k c st kb cb su ke ce = some r) : Con 25 [.agg [iD re, iD fa, iD fb, iD fc, iD fd, .list k c], .agg [iD st, .list kb cb], .agg [iD su, .list ke ce]] r := by
  unfold witnessOf_M at h
  obtain ⟨⟨r0, r1, r2, r3, r4, k5, c6, k7, c8, k9, c10, r11⟩, f1_, h2_⟩ := pullD_elim h
  replace f1_ := m_54_ok f1_
  by_cases b3_ : r11 ≠ (0 : Int)
  · have h4_ := (if_pos b3_).symm.trans h2_
    obtain rfl := Option.some.inj h4_
    exact con_pc (op := true) (I := [25, 59]) (sp := witnessOf_sp) 3000 (bT 1 []) [.tup [.agg [iD r0, iD r1, iD r2, iD r3, iD r4, .list k5 c6, .list k7 c8, .list k9 c10], iD r11]] [c_b b3_] [k_c f1_] (by kernel_rfl)
  have h4_ := (if_neg b3_).symm.trans h2_
  have b5_ : r11 = (0 : Int) := by first | exact b3_ | simpa using b3_
  obtain ⟨⟨k12, c13⟩, f6_, h7_⟩ := pullD_elim h4_
  replace f6_ := m_56_ok f6_
  obtain ⟨j, ds, e8_, h9_⟩ := bindL_elim h7_
  by_cases j10_ : j = 0
  · have h13_ := (if_pos j10_).symm.trans h9_
    clear h9_
    subst j10_
    obtain ⟨⟨⟩, e11_, h14_⟩ := pullD_elim h13_
    clear h13_
    obtain rfl := tup_inj e11_
    have k12_ := witnessOf_L59_3_in0 re fa fb fc fd k c st kb cb su ke ce r0 r1 r2 r3 r4 k5 c6 k7 c8 k9 c10 k12 c13 e8_
    obtain ⟨j, ds, e15_, h16_⟩ := bindL_elim h14_
    by_cases j17_ : j = 0
    · have h20_ := (if_pos j17_).symm.trans h16_
      clear h16_
      subst j17_
      obtain ⟨⟨⟩, e18_, h21_⟩ := pullD_elim h20_
      clear h20_
      obtain rfl := tup_inj e18_
      have k19_ := witnessOf_L59_9_in0 re fa fb fc fd k c st kb cb su ke ce r0 r1 r2 r3 r4 k5 c6 k7 c8 k9 c10 k12 c13 e15_
      obtain rfl := Option.some.inj h21_
      exact con_pc (op := true) (I := [25, 59]) (sp := witnessOf_sp) 3000 (bF 1 (bT 1 [])) [.tup [.agg [iD r0, iD r1, iD r2, iD r3, iD r4, .list k5 c6, .list k7 c8, .list k9 c10], iD r11], .list k12 c13, .tup [iD (Int.ofNat 0), .one (.tuple #[])], .tup [iD (Int.ofNat 0), .one (.tuple #[])]] [c_bn b5_, c_T] [k_c f1_, k_c f6_, k_l k12_ (bT 1 []) [.tup [iD (Int.ofNat 0), .one (.tuple #[])], .tup [iD (Int.ofNat 0), .one (.tuple #[])]] [.tup [iD (Int.ofNat 0), .one (.tuple #[])]], k_l k19_ (bT 1 []) [.tup [iD (Int.ofNat 0), .one (.tuple #[])]] []] (by kernel_rfl)
    have h22_ := (if_neg j17_).symm.trans h16_
    clear h16_
    by_cases j23_ : j = 1
    · have h26_ := (if_pos j23_).symm.trans h22_
      clear h22_
      subst j23_
      obtain ⟨⟨k14, c15⟩, e24_, h27_⟩ := pullD_elim h26_
      clear h26_
      obtain rfl := tup_inj e24_
      have k25_ := witnessOf_L59_9_in1 re fa fb fc fd k c st kb cb su ke ce r0 r1 r2 r3 r4 k5 c6 k7 c8 k9 c10 k12 c13 e15_
      obtain ⟨f28_, h29_⟩ := guardP_elim h27_
      obtain rfl := Option.some.inj h29_
      exact con_pc (op := true) (I := [25, 59]) (sp := witnessOf_sp) 3000 (bF 2 []) [.tup [.agg [iD r0, iD r1, iD r2, iD r3, iD r4, .list k5 c6, .list k7 c8, .list k9 c10], iD r11], .list k12 c13, .tup [iD (Int.ofNat 0), .one (.tuple #[])], .tup [iD (Int.ofNat 1), .list k14 c15]] [c_bn b5_, c_F, c_f f28_] [k_c f1_, k_c f6_, k_l k12_ (bF 1 []) [.tup [iD (Int.ofNat 0), .one (.tuple #[])], .tup [iD (Int.ofNat 1), .list k14 c15]] [.tup [iD (Int.ofNat 1), .list k14 c15]], k_l k25_ (bF 1 []) [.tup [iD (Int.ofNat 1), .list k14 c15]] []] (by kernel_rfl)
    have h30_ := (if_neg j23_).symm.trans h22_
    clear h22_
    cases h30_
  have h31_ := (if_neg j10_).symm.trans h9_
  clear h9_
  by_cases j32_ : j = 1
  · have h35_ := (if_pos j32_).symm.trans h31_
    clear h31_
    subst j32_
    obtain ⟨⟨k16, c17⟩, e33_, h36_⟩ := pullD_elim h35_
    clear h35_
    obtain rfl := tup_inj e33_
    have k34_ := witnessOf_L59_3_in1 re fa fb fc fd k c st kb cb su ke ce r0 r1 r2 r3 r4 k5 c6 k7 c8 k9 c10 k12 c13 e8_
    obtain ⟨f37_, h38_⟩ := guardP_elim h36_
    obtain rfl := Option.some.inj h38_
    exact con_pc (op := true) (I := [25, 59]) (sp := witnessOf_sp) 3000 (bF 2 []) [.tup [.agg [iD r0, iD r1, iD r2, iD r3, iD r4, .list k5 c6, .list k7 c8, .list k9 c10], iD r11], .list k12 c13, .tup [iD (Int.ofNat 1), .list k16 c17]] [c_bn b5_, c_F, c_f f37_] [k_c f1_, k_c f6_, k_l k34_ (bF 1 []) [.tup [iD (Int.ofNat 1), .list k16 c17]] []] (by kernel_rfl)
  have h39_ := (if_neg j32_).symm.trans h31_
  clear h31_
  cases h39_
def m_25 (ds : List D) : Option D := pullD (α := Int × Int × Int × Int × Int × Nat × (List D) × Int × Nat × (List D) × Int × Nat × (List D)) (some (.tup ds)) (fun d => ((D.vi (D.at (D.at d 0) 0)), (D.vi (D.at (D.at d 0) 1)), (D.vi (D.at (D.at d 0) 2)), (D.vi (D.at (D.at d 0) 3)), (D.vi (D.at (D.at d 0) 4)), (D.ln (D.at (D.at d 0) 5)), (D.lc (D.at (D.at d 0) 5)), (D.vi (D.at (D.at d 1) 0)), (D.ln (D.at (D.at d 1) 1)), (D.lc (D.at (D.at d 1) 1)), (D.vi (D.at (D.at d 2) 0)), (D.ln (D.at (D.at d 2) 1)), (D.lc (D.at (D.at d 2) 1)))) (fun (re, fa, fb, fc, fd, k, c, st, kb, cb, su, ke, ce) => .tup [.agg [iD re, iD fa, iD fb, iD fc, iD fd, .list k c], .agg [iD st, .list kb cb], .agg [iD su, .list ke ce]]) fun (re, fa, fb, fc, fd, k, c, st, kb, cb, su, ke, ce) => witnessOf_M re fa fb fc fd k c st kb cb su ke ce
theorem m_25_ok {ds : List D} {r : D} (h : m_25 ds = some r) : Con 25 ds r := by
  unfold m_25 at h
  obtain ⟨⟨re, fa, fb, fc, fd, k, c, st, kb, cb, su, ke, ce⟩, e0, h0⟩ := pullD_elim h
  obtain rfl := tup_inj e0
  exact witnessOf_M_ok re fa fb fc fd k c st kb cb su ke ce h0
theorem m_25_eq (re fa fb fc fd : Int) (k : Nat) (c : List D) (st : Int) (kb : Nat) (cb : List D) (su : Int) (ke : Nat) (ce : List D) : m_25 [.agg [iD re, iD fa, iD fb, iD fc, iD fd, .list k c], .agg [iD st, .list kb cb], .agg [iD su, .list ke ce]] = witnessOf_M re fa fb fc fd k c st kb cb su ke ce := pullD_some (re, fa, fb, fc, fd, k, c, st, kb, cb, su, ke, ce) rfl rfl
def checkWitness_sp : List LSpec := []
def checkWitness_M (re fa fb fc fd : Int) (k : Nat) (c : List D) (st : Int) (kb : Nat) (cb : List D) (su : Int) (ke : Nat) (ce : List D) (kx : Nat) (cx : List D) : Option D := pullD (α := Int × Int × Int × Int × Int × Nat × (List D) × Nat × (List D) × Nat × (List D) × Int) (m_54 [.agg [iD re, iD fa, iD fb, iD fc, iD fd, .list k c], .agg [iD st, .list kb cb, iD su, .list ke ce]]) (fun d => ((D.vi (D.at (D.at d 0) 0)), (D.vi (D.at (D.at d 0) 1)), (D.vi (D.at (D.at d 0) 2)), (D.vi (D.at (D.at d 0) 3)), (D.vi (D.at (D.at d 0) 4)), (D.ln (D.at (D.at d 0) 5)), (D.lc (D.at (D.at d 0) 5)), (D.ln (D.at (D.at d 0) 6)), (D.lc (D.at (D.at d 0) 6)), (D.ln (D.at (D.at d 0) 7)), (D.lc (D.at (D.at d 0) 7)), (D.vi (D.at d 1)))) (fun (r0, r1, r2, r3, r4, k5, c6, k7, c8, k9, c10, r11) => .tup [.agg [iD r0, iD r1, iD r2, iD r3, iD r4, .list k5 c6, .list k7 c8, .list k9 c10], iD r11]) fun (r0, r1, r2, r3, r4, k5, c6, k7, c8, k9, c10, r11) => ((if r11 ≠ (0 : Int) then some (.tup [iD (0 : Int), iD r11]) else pullD (α := Int × Int) (m_60 [.agg [iD r0, iD r1, iD r2, iD r3, iD r4, .list k5 c6, .list k7 c8, .list k9 c10], .list kx cx]) (fun d => ((D.vi (D.at d 0)), (D.vi (D.at d 1)))) (fun (r12, r13) => .tup [iD r12, iD r13]) fun (r12, r13) => ((if r13 ≠ (0 : Int) then some (.tup [iD r12, iD r13]) else pullD (α := Bool) (m_57 [.agg [iD r0, iD r1, iD r2, iD r3, iD r4, .list k5 c6, .list k7 c8, .list k9 c10], .list kx cx]) (fun d => ((D.vb d))) (fun r14 => .one (.bool r14)) fun r14 => ((if r14 = false then some (.tup [iD (0 : Int), iD (19 : Int)]) else some (.tup [iD (0 : Int), iD (0 : Int)])))))))
theorem checkWitness_M_ok (re fa fb fc fd : Int) (k : Nat) (c : List D) (st : Int) (kb : Nat) (cb : List D) (su : Int) (ke : Nat) (ce : List D) (kx : Nat) (cx : List D) {r : D} (h : checkWitness_M re fa fb fc fd k c st kb cb su ke ce kx cx = some r) : Con 26 [.agg [iD re, iD fa, iD fb, iD fc, iD fd, .list k c], .agg [iD st, .list kb cb, iD su, .list ke ce], .list kx cx] r := by
  unfold checkWitness_M at h
  obtain ⟨⟨r0, r1, r2, r3, r4, k5, c6, k7, c8, k9, c10, r11⟩, f1_, h2_⟩ := pullD_elim h
  replace f1_ := m_54_ok f1_
  by_cases b3_ : r11 ≠ (0 : Int)
  · have h4_ := (if_pos b3_).symm.trans h2_
    obtain rfl := Option.some.inj h4_
    exact con_pc (op := true) (I := [26]) (sp := checkWitness_sp) 3000 (bT 1 []) [.tup [.agg [iD r0, iD r1, iD r2, iD r3, iD r4, .list k5 c6, .list k7 c8, .list k9 c10], iD r11]] [c_b b3_] [k_c f1_] (by kernel_rfl)
  have h4_ := (if_neg b3_).symm.trans h2_
  have b5_ : r11 = (0 : Int) := by first | exact b3_ | simpa using b3_
  obtain ⟨⟨r12, r13⟩, f6_, h7_⟩ := pullD_elim h4_
  replace f6_ := m_60_ok f6_
  by_cases b8_ : r13 ≠ (0 : Int)
  · have h9_ := (if_pos b8_).symm.trans h7_
    obtain rfl := Option.some.inj h9_
    exact con_pc (op := true) (I := [26]) (sp := checkWitness_sp) 3000 (bF 1 (bT 1 [])) [.tup [.agg [iD r0, iD r1, iD r2, iD r3, iD r4, .list k5 c6, .list k7 c8, .list k9 c10], iD r11], .tup [iD r12, iD r13]] [c_bn b5_, c_b b8_] [k_c f1_, k_c f6_] (by kernel_rfl)
  have h9_ := (if_neg b8_).symm.trans h7_
  have b10_ : r13 = (0 : Int) := by first | exact b8_ | simpa using b8_
  obtain ⟨r14, f11_, h12_⟩ := pullD_elim h9_
  replace f11_ := m_57_ok f11_
  by_cases b13_ : r14 = false
  · have h14_ := (if_pos b13_).symm.trans h12_
    obtain rfl := Option.some.inj h14_
    exact con_pc (op := true) (I := [26]) (sp := checkWitness_sp) 3000 (bF 2 (bT 1 [])) [.tup [.agg [iD r0, iD r1, iD r2, iD r3, iD r4, .list k5 c6, .list k7 c8, .list k9 c10], iD r11], .tup [iD r12, iD r13], .one (.bool r14)] [c_bn b5_, c_bn b10_, c_no b13_] [k_c f1_, k_c f6_, k_c f11_] (by kernel_rfl)
  have h14_ := (if_neg b13_).symm.trans h12_
  have b15_ : r14 = true := by first | exact b13_ | simpa using b13_
  obtain rfl := Option.some.inj h14_
  exact con_pc (op := true) (I := [26]) (sp := checkWitness_sp) 3000 (bF 3 []) [.tup [.agg [iD r0, iD r1, iD r2, iD r3, iD r4, .list k5 c6, .list k7 c8, .list k9 c10], iD r11], .tup [iD r12, iD r13], .one (.bool r14)] [c_bn b5_, c_bn b10_, c_nn b15_] [k_c f1_, k_c f6_, k_c f11_] (by kernel_rfl)
def m_26 (ds : List D) : Option D := pullD (α := Int × Int × Int × Int × Int × Nat × (List D) × Int × Nat × (List D) × Int × Nat × (List D) × Nat × (List D)) (some (.tup ds)) (fun d => ((D.vi (D.at (D.at d 0) 0)), (D.vi (D.at (D.at d 0) 1)), (D.vi (D.at (D.at d 0) 2)), (D.vi (D.at (D.at d 0) 3)), (D.vi (D.at (D.at d 0) 4)), (D.ln (D.at (D.at d 0) 5)), (D.lc (D.at (D.at d 0) 5)), (D.vi (D.at (D.at d 1) 0)), (D.ln (D.at (D.at d 1) 1)), (D.lc (D.at (D.at d 1) 1)), (D.vi (D.at (D.at d 1) 2)), (D.ln (D.at (D.at d 1) 3)), (D.lc (D.at (D.at d 1) 3)), (D.ln (D.at d 2)), (D.lc (D.at d 2)))) (fun (re, fa, fb, fc, fd, k, c, st, kb, cb, su, ke, ce, kx, cx) => .tup [.agg [iD re, iD fa, iD fb, iD fc, iD fd, .list k c], .agg [iD st, .list kb cb, iD su, .list ke ce], .list kx cx]) fun (re, fa, fb, fc, fd, k, c, st, kb, cb, su, ke, ce, kx, cx) => checkWitness_M re fa fb fc fd k c st kb cb su ke ce kx cx
theorem m_26_ok {ds : List D} {r : D} (h : m_26 ds = some r) : Con 26 ds r := by
  unfold m_26 at h
  obtain ⟨⟨re, fa, fb, fc, fd, k, c, st, kb, cb, su, ke, ce, kx, cx⟩, e0, h0⟩ := pullD_elim h
  obtain rfl := tup_inj e0
  exact checkWitness_M_ok re fa fb fc fd k c st kb cb su ke ce kx cx h0
theorem m_26_eq (re fa fb fc fd : Int) (k : Nat) (c : List D) (st : Int) (kb : Nat) (cb : List D) (su : Int) (ke : Nat) (ce : List D) (kx : Nat) (cx : List D) : m_26 [.agg [iD re, iD fa, iD fb, iD fc, iD fd, .list k c], .agg [iD st, .list kb cb, iD su, .list ke ce], .list kx cx] = checkWitness_M re fa fb fc fd k c st kb cb su ke ce kx cx := pullD_some (re, fa, fb, fc, fd, k, c, st, kb, cb, su, ke, ce, kx, cx) rfl rfl
end
end Go.Proofs.Ytmohaohdbklkeaa
namespace Go.Proofs.Ytmohaohdbklkeaa
open Go.Ev Go.RowKit
set_option maxRecDepth 100000
set_option maxHeartbeats 8000000
set_option linter.all false
noncomputable section
abbrev shNLE_0 (a0 : Int) (a1 : Int) (a2 : Int) (a3 : Int) : D := .agg [.one (.int .i64 a0), .one (.int .i64 a1), .one (.int .i64 a2), .one (.int .i64 a3)]
def checkWitnessR_x2_0 : LExit := ⟨some 0, [], (6 :: (7 :: (8 :: (List.range' 11 33))))⟩
def checkWitnessR_x2_1 : LExit := ⟨none, [.val 6, .val 7], (8 :: (List.range' 11 33))⟩
def checkWitnessR_sp : List LSpec := [⟨28, 2, [checkWitnessR_x2_0, checkWitnessR_x2_1]⟩]
def checkWitnessR_L2_E (re fa fb fc fd : Int) (k : Nat) (c : List D) (st : Int) (kb : Nat) (cb : List D) (su : Int) (ke : Nat) (ce : List D) (kx : Nat) (cx : List D)  : List AV × AHeap := ([.agg [.pure (.int .i64 re), .pure (.int .i64 fa), .pure (.int .i64 fb), .pure (.int .i64 fc), .pure (.int .i64 fd), .dsl 0], .agg [.pure (.int .i64 st), .dsl 1, .pure (.int .i64 su), .dsl 2], .dsl 3, .ptr 4 0, .ptr 5 0, .pure (.tuple #[]), .pure (.int .i64 (0 : Int)), .pure (.int .i64 (0 : Int)), .pure (.int .i64 (0 : Int)), .pure (.tuple #[]), .pure (.tuple #[]), .pure (.tuple #[]), .pure (.tuple #[]), .pure (.tuple #[]), .pure (.tuple #[]), .pure (.tuple #[]), .pure (.tuple #[]), .pure (.tuple #[]), .pure (.tuple #[]), .pure (.tuple #[]), .pure (.tuple #[]), .pure (.tuple #[]), .pure (.tuple #[]), .pure (.tuple #[]), .pure (.tuple #[]), .pure (.tuple #[]), .pure (.tuple #[]), .pure (.tuple #[]), .pure (.tuple #[]), .pure (.tuple #[]), .pure (.tuple #[]), .pure (.tuple #[]), .pure (.tuple #[]), .pure (.tuple #[]), .pure (.tuple #[]), .pure (.tuple #[]), .pure (.tuple #[]), .pure (.tuple #[]), .pure (.tuple #[]), .pure (.tuple #[]), .pure (.tuple #[]), .pure (.tuple #[]), .pure (.tuple #[]), .pure (.tuple #[]), .pure (.tuple #[]), .pure (.tuple #[]), .pure (.tuple #[]), .pure (.tuple #[]), .pure (.tuple #[]), .pure (.tuple #[]), .pure (.tuple #[]), .pure (.tuple #[]), .pure (.tuple #[]), .pure (.tuple #[]), .pure (.tuple #[])], [(5, { cells := [.pure (.int .i64 st), .dsl 1, .pure (.int .i64 su), .dsl 2], opn := none, kind := .cells }), (4, { cells := [.pure (.int .i64 re), .pure (.int .i64 fa), .pure (.int .i64 fb), .pure (.int .i64 fc), .pure (.int .i64 fd), .dsl 0], opn := none, kind := .cells }), (3, { cells := [], opn := none, kind := .deep kx cx }), (2, { cells := [], opn := none, kind := .deep ke ce }), (1, { cells := [], opn := none, kind := .deep kb cb }), (0, { cells := [], opn := none, kind := .deep k c })])
def checkWitnessR_L2_A : LoopAt := ⟨28, loopAt Try.prog 28 0, 6, 42, 6, noFrame⟩
theorem checkWitnessR_L2_ok : (checkWitnessR_L2_A).OK := ⟨by show 6 ≤ 42; decide, by show 6 ≤ 6; decide, by kernel_rfl, rfl⟩
def checkWitnessR_L2_gs (re fa fb fc fd : Int) (k : Nat) (c : List D) (st : Int) (kb : Nat) (cb : List D) (su : Int) (ke : Nat) (ce : List D) (kx : Nat) (cx : List D)  : Go.Ev.Rd → Option GS
  | .next 0 ds => ghost [.val 8] (6 :: (7 :: (List.range' 11 33))) (checkWitnessR_L2_E re fa fb fc fd k c st kb cb su ke ce kx cx).1 (checkWitnessR_L2_E re fa fb fc fd k c st kb cb su ke ce kx cx).2 6 ds
  | .out 0 ds => ghost checkWitnessR_x2_0.live checkWitnessR_x2_0.junk (checkWitnessR_L2_E re fa fb fc fd k c st kb cb su ke ce kx cx).1 (checkWitnessR_L2_E re fa fb fc fd k c st kb cb su ke ce kx cx).2 6 ds
  | .out 1 ds => ghost checkWitnessR_x2_1.live checkWitnessR_x2_1.junk (checkWitnessR_L2_E re fa fb fc fd k c st kb cb su ke ce kx cx).1 (checkWitnessR_L2_E re fa fb fc fd k c st kb cb su ke ce kx cx).2 6 ds
  | _ => none
def checkWitnessR_L2_ex : Nat → Option Nat
  | 0 => checkWitnessR_x2_0.ex
  | 1 => checkWitnessR_x2_1.ex
  | _ => none
def checkWitnessR_L2_ax : Go.Ev.Rd → AX
  | .next _ _ => .normal
  | .out j _ => axOf (checkWitnessR_L2_ex j)
def checkWitnessR_L2_S0 (re fa fb fc fd : Int) (k : Nat) (c : List D) (st : Int) (kb : Nat) (cb : List D) (su : Int) (ke : Nat) (ce : List D) (kx : Nat) (cx : List D)  (ds : List D) : Option Go.Ev.Rd := pullD (α := Int) (some (.tup ds)) (fun d => ((D.vi (D.at d 0)))) (fun s8 => .tup [iD s8]) fun s8 => ((if s8 < (kx : Int) then guardP ((0 : Int) ≤ s8 ∧ s8.toNat < kx) (pullD (α := Int) (readD cx (s8.toNat * 1) 1 false) (fun d => ((D.vi d))) (fun v0 => iD v0) fun v0 => (pullD (α := Bool) (m_33 [iD v0, iD (0 : Int), iD (IntKind.i64.wrap ((kb : Int) - (1 : Int)))]) (fun d => ((D.vb d))) (fun r1 => .one (.bool r1)) fun r1 => ((if r1 = false then some (.out 1 [iD s8, iD (6 : Int)]) else (if s8 > (0 : Int) then pullD (α := Int) (readD cx (s8.toNat * 1) 1 false) (fun d => ((D.vi d))) (fun v2 => iD v2) fun v2 => (guardP ((0 : Int) ≤ IntKind.i64.wrap (s8 - (1 : Int)) ∧ (IntKind.i64.wrap (s8 - (1 : Int))).toNat < kx) (pullD (α := Int) (readD cx ((IntKind.i64.wrap (s8 - (1 : Int))).toNat * 1) 1 false) (fun d => ((D.vi d))) (fun v3 => iD v3) fun v3 => ((if v2 ≤ v3 then some (.out 1 [iD s8, iD (9 : Int)]) else some (.next 0 [iD (IntKind.i64.wrap (s8 + (1 : Int)))]))))) else some (.next 0 [iD (IntKind.i64.wrap (s8 + (1 : Int)))])))))) else some (.out 0 [])))
def checkWitnessR_L2_S (re fa fb fc fd : Int) (k : Nat) (c : List D) (st : Int) (kb : Nat) (cb : List D) (su : Int) (ke : Nat) (ce : List D) (kx : Nat) (cx : List D)  : Go.Ev.Rd → Option Go.Ev.Rd
  | .next 0 ds => checkWitnessR_L2_S0 re fa fb fc fd k c st kb cb su ke ce kx cx ds
  | _ => none
theorem checkWitnessR_L2_S_0 (re fa fb fc fd : Int) (k : Nat) (c : List D) (st : Int) (kb : Nat) (cb : List D) (su : Int) (ke : Nat) (ce : List D) (kx : Nat) (cx : List D)  (ds : List D) : checkWitnessR_L2_S re fa fb fc fd k c st kb cb su ke ce kx cx (.next 0 ds) = checkWitnessR_L2_S0 re fa fb fc fd k c st kb cb su ke ce kx cx ds := rfl
theorem checkWitnessR_L2_S_ok (re fa fb fc fd : Int) (k : Nat) (c : List D) (st : Int) (kb : Nat) (cb : List D) (su : Int) (ke : Nat) (ce : List D) (kx : Nat) (cx : List D)  : ∀ s_ t_, checkWitnessR_L2_S re fa fb fc fd k c st kb cb su ke ce kx cx s_ = some t_ → Step (ctx [28] checkWitnessR_sp) Tabs checkWitnessR_L2_A (stateOf (checkWitnessR_L2_gs re fa fb fc fd k c st kb cb su ke ce kx cx s_)) (stateOf (checkWitnessR_L2_gs re fa fb fc fd k c st kb cb su ke ce kx cx t_)) (checkWitnessR_L2_ax t_) ∧ EndOK checkWitnessR_L2_A.nx checkWitnessR_L2_A.low (checkWitnessR_L2_gs re fa fb fc fd k c st kb cb su ke ce kx cx) t_
  | .next 0 ds, t_, h => by
    have h_ : checkWitnessR_L2_S0 re fa fb fc fd k c st kb cb su ke ce kx cx ds = some t_ := h
    clear h
    unfold checkWitnessR_L2_S0 at h_
    obtain ⟨s8, e0, h0⟩ := pullD_elim h_
    clear h_
    obtain rfl := tup_inj e0
    by_cases b1_ : s8 < (kx : Int)
    · have h2_ := (if_pos b1_).symm.trans h0
      obtain ⟨f3_, h4_⟩ := guardP_elim h2_
      obtain ⟨v0, f5_, h6_⟩ := pullD_elim h4_
      replace f5_ := readD_elim f5_
      obtain ⟨r1, f7_, h8_⟩ := pullD_elim h6_
      replace f7_ := m_33_ok f7_
      by_cases b9_ : r1 = false
      · have h10_ := (if_pos b9_).symm.trans h8_
        obtain rfl := Option.some.inj h10_
        exact ⟨step_pc 3000 (bT 2 []) [iD v0, .one (.bool r1)] [c_d b1_, c_f f3_, c_f f5_, c_no b9_] [k_c f7_] _ rfl (by kernel_rfl) (by kernel_rfl) (by kernel_rfl) (by kernel_rfl) (by kernel_rfl) (by kernel_rfl), by kernel_rfl, by kernel_rfl⟩
      have h10_ := (if_neg b9_).symm.trans h8_
      have b11_ : r1 = true := by first | exact b9_ | simpa using b9_
      by_cases b12_ : s8 > (0 : Int)
      · have h13_ := (if_pos b12_).symm.trans h10_
        obtain ⟨v2, f14_, h15_⟩ := pullD_elim h13_
        replace f14_ := readD_elim f14_
        obtain ⟨f16_, h17_⟩ := guardP_elim h15_
        obtain ⟨v3, f18_, h19_⟩ := pullD_elim h17_
        replace f18_ := readD_elim f18_
        by_cases b20_ : v2 ≤ v3
        · have h21_ := (if_pos b20_).symm.trans h19_
          obtain rfl := Option.some.inj h21_
          exact ⟨step_pc 3000 (bT 1 (bF 1 (bT 12 []))) [iD v0, .one (.bool r1), iD v2, iD v3] [c_d b1_, c_f f3_, c_f f5_, c_nn b11_, c_d b12_, c_d b12_, c_d b12_, c_f f3_, c_d b12_, c_f f14_, c_d b12_, c_d b12_, c_d b12_, c_d b12_, c_f f16_, c_d b12_, c_f f18_, c_d b12_, c_d b12_, c_d b20_] [k_c f7_] _ rfl (by kernel_rfl) (by kernel_rfl) (by kernel_rfl) (by kernel_rfl) (by kernel_rfl) (by kernel_rfl), by kernel_rfl, by kernel_rfl⟩
        have h21_ := (if_neg b20_).symm.trans h19_
        obtain rfl := Option.some.inj h21_
        exact ⟨step_pc 3000 (bT 1 (bF 1 (bT 11 (bF 1 [])))) [iD v0, .one (.bool r1), iD v2, iD v3] [c_d b1_, c_f f3_, c_f f5_, c_nn b11_, c_d b12_, c_d b12_, c_d b12_, c_f f3_, c_d b12_, c_f f14_, c_d b12_, c_d b12_, c_d b12_, c_d b12_, c_f f16_, c_d b12_, c_f f18_, c_d b12_, c_d b12_, c_n b20_] [k_c f7_] _ rfl (by kernel_rfl) (by kernel_rfl) (by kernel_rfl) (by kernel_rfl) (by kernel_rfl) (by kernel_rfl), trivial⟩
      have h13_ := (if_neg b12_).symm.trans h10_
      obtain rfl := Option.some.inj h13_
      exact ⟨step_pc 3000 (bT 1 (bF 13 [])) [iD v0, .one (.bool r1)] [c_d b1_, c_f f3_, c_f f5_, c_nn b11_, c_n b12_, c_n b12_, c_n b12_, c_n b12_, c_n b12_, c_n b12_, c_n b12_, c_n b12_, c_n b12_, c_n b12_, c_n b12_, c_F] [k_c f7_] _ rfl (by kernel_rfl) (by kernel_rfl) (by kernel_rfl) (by kernel_rfl) (by kernel_rfl) (by kernel_rfl), trivial⟩
    have h2_ := (if_neg b1_).symm.trans h0
    obtain rfl := Option.some.inj h2_
    exact ⟨step_pc 3000 (bF 1 []) [] [c_n b1_] [] _ rfl (by kernel_rfl) (by kernel_rfl) (by kernel_rfl) (by kernel_rfl) (by kernel_rfl) (by kernel_rfl), by kernel_rfl, by kernel_rfl⟩
  | .next (_ + 1) _, _, h => by cases h
  | .out _ _, _, h => by cases h
theorem checkWitnessR_L2_go (re fa fb fc fd : Int) (k : Nat) (c : List D) (st : Int) (kb : Nat) (cb : List D) (su : Int) (ke : Nat) (ce : List D) (kx : Nat) (cx : List D)  {q : Nat} {ds : List D} {j : Nat} {es : List D} (h : runR (checkWitnessR_L2_S re fa fb fc fd k c st kb cb su ke ce kx cx) (.next q ds) = some (.out j es)) : Runs (ctx [28] checkWitnessR_sp) Tabs checkWitnessR_L2_A (stateOf (checkWitnessR_L2_gs re fa fb fc fd k c st kb cb su ke ce kx cx (.next q ds))) (stateOf (checkWitnessR_L2_gs re fa fb fc fd k c st kb cb su ke ce kx cx (.out j es))) (checkWitnessR_L2_ax (.out j es)) ∧ (nxtOf (checkWitnessR_L2_gs re fa fb fc fd k c st kb cb su ke ce kx cx (.out j es)), lowGS (checkWitnessR_L2_gs re fa fb fc fd k c st kb cb su ke ce kx cx (.out j es))) = (checkWitnessR_L2_A.nx, checkWitnessR_L2_A.low) :=
  runs_of' (good true _ _) checkWitnessR_L2_ok (ax := checkWitnessR_L2_ax) (fun _ _ => rfl) (fun _ _ => axOf_end _) (checkWitnessR_L2_S_ok re fa fb fc fd k c st kb cb su ke ce kx cx) h
theorem checkWitnessR_L2_in0 (re fa fb fc fd : Int) (k : Nat) (c : List D) (st : Int) (kb : Nat) (cb : List D) (su : Int) (ke : Nat) (ce : List D) (kx : Nat) (cx : List D)  {es : List D} (h : runR (checkWitnessR_L2_S re fa fb fc fd k c st kb cb su ke ce kx cx) (.next 0 [iD ((0 : Int))]) = some (.out 0 es)) : LoopC (loopAt Try.prog 28 0) (checkWitnessR_L2_E re fa fb fc fd k c st kb cb su ke ce kx cx) 6 noFrame checkWitnessR_x2_0 es :=
  have r := checkWitnessR_L2_go re fa fb fc fd k c st kb cb su ke ce kx cx h
  loopin_as rfl (loop_in (l := checkWitnessR_L2_A) (E := (checkWitnessR_L2_E re fa fb fc fd k c st kb cb su ke ce kx cx)) (S := stateOf (checkWitnessR_L2_gs re fa fb fc fd k c st kb cb su ke ce kx cx (.next 0 [iD ((0 : Int))]))) (ns := nsOf (checkWitnessR_L2_gs re fa fb fc fd k c st kb cb su ke ce kx cx (.next 0 [iD ((0 : Int))]))) checkWitnessR_L2_ok r.1 r.2 (by kernel_rfl) (by kernel_rfl) (by kernel_rfl) (by kernel_rfl))
theorem checkWitnessR_L2_in1 (re fa fb fc fd : Int) (k : Nat) (c : List D) (st : Int) (kb : Nat) (cb : List D) (su : Int) (ke : Nat) (ce : List D) (kx : Nat) (cx : List D)  {es : List D} (h : runR (checkWitnessR_L2_S re fa fb fc fd k c st kb cb su ke ce kx cx) (.next 0 [iD ((0 : Int))]) = some (.out 1 es)) : LoopC (loopAt Try.prog 28 0) (checkWitnessR_L2_E re fa fb fc fd k c st kb cb su ke ce kx cx) 6 noFrame checkWitnessR_x2_1 es :=
  have r := checkWitnessR_L2_go re fa fb fc fd k c st kb cb su ke ce kx cx h
  loopin_as rfl (loop_in (l := checkWitnessR_L2_A) (E := (checkWitnessR_L2_E re fa fb fc fd k c st kb cb su ke ce kx cx)) (S := stateOf (checkWitnessR_L2_gs re fa fb fc fd k c st kb cb su ke ce kx cx (.next 0 [iD ((0 : Int))]))) (ns := nsOf (checkWitnessR_L2_gs re fa fb fc fd k c st kb cb su ke ce kx cx (.next 0 [iD ((0 : Int))]))) checkWitnessR_L2_ok r.1 r.2 (by kernel_rfl) (by kernel_rfl) (by kernel_rfl) (by kernel_rfl))
def checkWitnessR_M (re fa fb fc fd : Int) (k : Nat) (c : List D) (st : Int) (kb : Nat) (cb : List D) (su : Int) (ke : Nat) (ce : List D) (kx : Nat) (cx : List D) : Option D := bindL (runR (checkWitnessR_L2_S re fa fb fc fd k c st kb cb su ke ce kx cx) (.next 0 [iD ((0 : Int))])) fun j ds => (if j = 0 then pullD (some (.tup ds)) (fun _ => ()) (fun _ => .tup []) fun _ => (pullD (α := Int × Int × Int × Int × Bool) (m_23 [.agg [iD re, iD fa, iD fb, iD fc, iD fd, .list k c], .agg [iD st, .list kb cb], .agg [iD su, .list ke ce], .list kx cx]) (fun d => ((D.vi (D.at (D.at d 0) 0)), (D.vi (D.at (D.at d 0) 1)), (D.vi (D.at (D.at d 0) 2)), (D.vi (D.at (D.at d 0) 3)), (D.vb (D.at d 1)))) (fun (r0, r1, r2, r3, r4) => .tup [(shNLE_0 r0 r1 r2 r3), .one (.bool r4)]) fun (r0, r1, r2, r3, r4) => ((if (r4) = true then some (.tup [iD (0 : Int), iD (19 : Int)]) else some (.tup [iD (0 : Int), iD (0 : Int)])))) else if j = 1 then pullD (α := Int × Int) (some (.tup ds)) (fun d => ((D.vi (D.at d 0)), (D.vi (D.at d 1)))) (fun (l5, l6) => .tup [iD l5, iD l6]) fun (l5, l6) => (some (.tup [iD l5, iD l6])) else none)
theorem checkWitnessR_M_ok (re fa fb fc fd : Int) (k : Nat) (c : List D) (st : Int) (kb : Nat) (cb : List D) (su : Int) (ke : Nat) (ce : List D) (kx : Nat) (cx : List D) {r : D} (h : checkWitnessR_M re fa fb fc fd k c st kb cb su ke ce kx cx = some r) : Con 28 [.agg [iD re, iD fa, iD fb, iD fc, iD fd, .list k c], .agg [iD st, .list kb cb, iD su, .list ke ce], .list kx cx] r := by
  unfold checkWitnessR_M at h
  obtain ⟨j, ds, e1_, h2_⟩ := bindL_elim h
  by_cases j3_ : j = 0
  · have h6_ := (if_pos j3_).symm.trans h2_
    clear h2_
    subst j3_
    obtain ⟨⟨⟩, e4_, h7_⟩ := pullD_elim h6_
    clear h6_
    obtain rfl := tup_inj e4_
    have k5_ := checkWitnessR_L2_in0 re fa fb fc fd k c st kb cb su ke ce kx cx e1_
    obtain ⟨⟨r0, r1, r2, r3, r4⟩, f8_, h9_⟩ := pullD_elim h7_
    replace f8_ := m_23_ok f8_
    by_cases b10_ : (r4) = true
    · have h11_ := (if_pos b10_).symm.trans h9_
      obtain rfl := Option.some.inj h11_
      exact con_pc (op := true) (I := [28]) (sp := checkWitnessR_sp) 3000 (bT 1 []) [.tup [iD (Int.ofNat 0)], .tup [(shNLE_0 r0 r1 r2 r3), .one (.bool r4)]] [c_q b10_] [k_l k5_ (bT 1 []) [.tup [iD (Int.ofNat 0)], .tup [(shNLE_0 r0 r1 r2 r3), .one (.bool r4)]] [.tup [(shNLE_0 r0 r1 r2 r3), .one (.bool r4)]], k_c f8_] (by kernel_rfl)
    have h11_ := (if_neg b10_).symm.trans h9_
    have b12_ : (r4) = false := by first | exact b10_ | simpa using b10_
    obtain rfl := Option.some.inj h11_
    exact con_pc (op := true) (I := [28]) (sp := checkWitnessR_sp) 3000 (bF 1 []) [.tup [iD (Int.ofNat 0)], .tup [(shNLE_0 r0 r1 r2 r3), .one (.bool r4)]] [c_q b12_] [k_l k5_ (bF 1 []) [.tup [iD (Int.ofNat 0)], .tup [(shNLE_0 r0 r1 r2 r3), .one (.bool r4)]] [.tup [(shNLE_0 r0 r1 r2 r3), .one (.bool r4)]], k_c f8_] (by kernel_rfl)
  have h13_ := (if_neg j3_).symm.trans h2_
  clear h2_
  by_cases j14_ : j = 1
  · have h17_ := (if_pos j14_).symm.trans h13_
    clear h13_
    subst j14_
    obtain ⟨⟨l5, l6⟩, e15_, h18_⟩ := pullD_elim h17_
    clear h17_
    obtain rfl := tup_inj e15_
    have k16_ := checkWitnessR_L2_in1 re fa fb fc fd k c st kb cb su ke ce kx cx e1_
    obtain rfl := Option.some.inj h18_
    exact con_pc (op := true) (I := [28]) (sp := checkWitnessR_sp) 3000 [] [.tup [iD (Int.ofNat 1), iD l5, iD l6]] [] [k_l k16_ [] [.tup [iD (Int.ofNat 1), iD l5, iD l6]] []] (by kernel_rfl)
  have h19_ := (if_neg j14_).symm.trans h13_
  clear h13_
  cases h19_
def m_28 (ds : List D) : Option D := pullD (α := Int × Int × Int × Int × Int × Nat × (List D) × Int × Nat × (List D) × Int × Nat × (List D) × Nat × (List D)) (some (.tup ds)) (fun d => ((D.vi (D.at (D.at d 0) 0)), (D.vi (D.at (D.at d 0) 1)), (D.vi (D.at (D.at d 0) 2)), (D.vi (D.at (D.at d 0) 3)), (D.vi (D.at (D.at d 0) 4)), (D.ln (D.at (D.at d 0) 5)), (D.lc (D.at (D.at d 0) 5)), (D.vi (D.at (D.at d 1) 0)), (D.ln (D.at (D.at d 1) 1)), (D.lc (D.at (D.at d 1) 1)), (D.vi (D.at (D.at d 1) 2)), (D.ln (D.at (D.at d 1) 3)), (D.lc (D.at (D.at d 1) 3)), (D.ln (D.at d 2)), (D.lc (D.at d 2)))) (fun (re, fa, fb, fc, fd, k, c, st, kb, cb, su, ke, ce, kx, cx) => .tup [.agg [iD re, iD fa, iD fb, iD fc, iD fd, .list k c], .agg [iD st, .list kb cb, iD su, .list ke ce], .list kx cx]) fun (re, fa, fb, fc, fd, k, c, st, kb, cb, su, ke, ce, kx, cx) => checkWitnessR_M re fa fb fc fd k c st kb cb su ke ce kx cx
theorem m_28_ok {ds : List D} {r : D} (h : m_28 ds = some r) : Con 28 ds r := by
  unfold m_28 at h
  obtain ⟨⟨re, fa, fb, fc, fd, k, c, st, kb, cb, su, ke, ce, kx, cx⟩, e0, h0⟩ := pullD_elim h
  obtain rfl := tup_inj e0
  exact checkWitnessR_M_ok re fa fb fc fd k c st kb cb su ke ce kx cx h0
theorem m_28_eq (re fa fb fc fd : Int) (k : Nat) (c : List D) (st : Int) (kb : Nat) (cb : List D) (su : Int) (ke : Nat) (ce : List D) (kx : Nat) (cx : List D) : m_28 [.agg [iD re, iD fa, iD fb, iD fc, iD fd, .list k c], .agg [iD st, .list kb cb, iD su, .list ke ce], .list kx cx] = checkWitnessR_M re fa fb fc fd k c st kb cb su ke ce kx cx := pullD_some (re, fa, fb, fc, fd, k, c, st, kb, cb, su, ke, ce, kx, cx) rfl rfl
def witnessR_x6_0 : LExit := ⟨some 0, [.drop 6], (7 :: (11 :: (12 :: (13 :: (List.range' 31 18)))))⟩
def witnessR_x6_1 : LExit := ⟨none, [.grow 6 1, .val 7], (11 :: (12 :: (13 :: (List.range' 31 18))))⟩
def witnessR_x12_0 : LExit := ⟨some 2, [.drop 6], (7 :: (List.range' 14 4 ++ (List.range' 49 27)))⟩
def witnessR_x12_1 : LExit := ⟨none, [.grow 6 1, .val 7], (List.range' 14 4 ++ (List.range' 49 27))⟩
def witnessR_x15_0 : LExit := ⟨some 4, [.drop 6], (7 :: (15 :: (16 :: (17 :: (List.range' 56 20)))))⟩
def witnessR_x15_1 : LExit := ⟨none, [.grow 6 1, .val 7], (15 :: (16 :: (17 :: (List.range' 56 20))))⟩
def witnessR_sp : List LSpec := [⟨29, 6, [witnessR_x6_0, witnessR_x6_1]⟩, ⟨29, 12, [witnessR_x12_0, witnessR_x12_1]⟩, ⟨29, 15, [witnessR_x15_0, witnessR_x15_1]⟩]
def witnessR_L15_E (re fa fb fc fd : Int) (k : Nat) (c : List D) (st : Int) (kb : Nat) (cb : List D) (su : Int) (ke : Nat) (ce : List D) (x0 : Nat) (x1 : List D) (x2 : Int) (x3 : Int) (x4 : Int) (x5 : Int) (x6 : Bool) (x7 : Int) : List AV × AHeap := ([.agg [.pure (.int .i64 re), .pure (.int .i64 fa), .pure (.int .i64 fb), .pure (.int .i64 fc), .pure (.int .i64 fd), .dsl 0], .agg [.pure (.int .i64 st), .dsl 1], .agg [.pure (.int .i64 su), .dsl 2], .ptr 3 0, .ptr 4 0, .ptr 5 0, .any 31, .any 32, .ptr 7 0, .pure (.bool x6), .pure (.int .i64 (kb : Int)), .any 10, .any 11, .any 12, .pure (.int .i64 x7), .pure (.int .i64 (IntKind.i64.wrap (x7 + (1 : Int)))), .any 34, .any 35, .pure (.tuple #[.agg #[.int .i64 x2, .int .i64 x3, .int .i64 x4, .int .i64 x5], .bool x6]), .agg [.pure (.int .i64 re), .pure (.int .i64 fa), .pure (.int .i64 fb), .pure (.int .i64 fc), .pure (.int .i64 fd), .dsl 0], .agg [.pure (.int .i64 st), .dsl 1], .agg [.pure (.int .i64 su), .dsl 2], .agg [.pure (.int .i64 st), .dsl 1], .dsl 6, .pure (.tuple #[.agg #[.int .i64 x2, .int .i64 x3, .int .i64 x4, .int .i64 x5], .bool x6]), .pure (.agg #[.int .i64 x2, .int .i64 x3, .int .i64 x4, .int .i64 x5]), .pure (.bool x6), .pure (.bool x6), .ptr 4 1, .dsl 1, .pure (.int .i64 (kb : Int)), .any 13, .any 14, .any 15, .any 16, .any 17, .any 18, .any 19, .any 20, .any 21, .any 22, .any 23, .any 24, .any 25, .any 26, .any 27, .any 28, .any 29, .any 30, .pure (.int .i64 x7), .pure (.int .i64 (kb : Int)), .pure (.bool (decide (x7 < (kb : Int)))), .any 39, .any 40, .pure (.int .i64 x7), .pure (.int .i64 (IntKind.i64.wrap (x7 + (1 : Int)))), .any 43, .any 44, .any 45, .any 46, .any 47, .any 48, .any 49, .any 50, .any 51, .any 52, .any 53, .any 54, .any 55, .any 56, .any 57, .any 58, .any 59, .any 60, .any 61, .any 62], [(6, { cells := [], opn := none, kind := .deep x0 x1 }), (7, { cells := [.pure (.int .i64 x2), .pure (.int .i64 x3), .pure (.int .i64 x4), .pure (.int .i64 x5)], opn := none, kind := .cells }), (5, { cells := [.pure (.int .i64 su), .dsl 2], opn := none, kind := .cells }), (4, { cells := [.pure (.int .i64 st), .dsl 1], opn := none, kind := .cells }), (3, { cells := [.pure (.int .i64 re), .pure (.int .i64 fa), .pure (.int .i64 fb), .pure (.int .i64 fc), .pure (.int .i64 fd), .dsl 0], opn := none, kind := .cells }), (2, { cells := [], opn := none, kind := .deep ke ce }), (1, { cells := [], opn := none, kind := .deep kb cb }), (0, { cells := [], opn := none, kind := .deep k c })])
def witnessR_L15_A : LoopAt := ⟨29, loopAt Try.prog 29 2, 64, 89, 64, noFrame⟩
theorem witnessR_L15_ok : (witnessR_L15_A).OK := ⟨by show 64 ≤ 89; decide, by show 64 ≤ 64; decide, by kernel_rfl, rfl⟩
def witnessR_L15_gs (re fa fb fc fd : Int) (k : Nat) (c : List D) (st : Int) (kb : Nat) (cb : List D) (su : Int) (ke : Nat) (ce : List D) (x0 : Nat) (x1 : List D) (x2 : Int) (x3 : Int) (x4 : Int) (x5 : Int) (x6 : Bool) (x7 : Int) : Go.Ev.Rd → Option GS
  | .next 0 ds => ghost [.drop 6, .val 15] (7 :: (16 :: (17 :: (List.range' 56 20)))) (witnessR_L15_E re fa fb fc fd k c st kb cb su ke ce x0 x1 x2 x3 x4 x5 x6 x7).1 (witnessR_L15_E re fa fb fc fd k c st kb cb su ke ce x0 x1 x2 x3 x4 x5 x6 x7).2 64 ds
  | .out 0 ds => ghost witnessR_x15_0.live witnessR_x15_0.junk (witnessR_L15_E re fa fb fc fd k c st kb cb su ke ce x0 x1 x2 x3 x4 x5 x6 x7).1 (witnessR_L15_E re fa fb fc fd k c st kb cb su ke ce x0 x1 x2 x3 x4 x5 x6 x7).2 64 ds
  | .out 1 ds => ghost witnessR_x15_1.live witnessR_x15_1.junk (witnessR_L15_E re fa fb fc fd k c st kb cb su ke ce x0 x1 x2 x3 x4 x5 x6 x7).1 (witnessR_L15_E re fa fb fc fd k c st kb cb su ke ce x0 x1 x2 x3 x4 x5 x6 x7).2 64 ds
  | _ => none
def witnessR_L15_ex : Nat → Option Nat
  | 0 => witnessR_x15_0.ex
  | 1 => witnessR_x15_1.ex
  | _ => none
def witnessR_L15_ax : Go.Ev.Rd → AX
  | .next _ _ => .normal
  | .out j _ => axOf (witnessR_L15_ex j)
def witnessR_L15_S0 (re fa fb fc fd : Int) (k : Nat) (c : List D) (st : Int) (kb : Nat) (cb : List D) (su : Int) (ke : Nat) (ce : List D) (x0 : Nat) (x1 : List D) (x2 : Int) (x3 : Int) (x4 : Int) (x5 : Int) (x6 : Bool) (x7 : Int) (ds : List D) : Option Go.Ev.Rd := pullD (α := Int) (some (.tup ds)) (fun d => ((D.vi (D.at d 1)))) (fun s15 => .tup [.one (.tuple #[]), iD s15]) fun s15 => ((if s15 < (kb : Int) then pullD (α := Int × Int × Int × Int × Bool) (m_23 [.agg [iD re, iD fa, iD fb, iD fc, iD fd, .list k c], .agg [iD st, .list kb cb], .agg [iD su, .list ke ce], .list 2 [iD x7, iD s15]]) (fun d => ((D.vi (D.at (D.at d 0) 0)), (D.vi (D.at (D.at d 0) 1)), (D.vi (D.at (D.at d 0) 2)), (D.vi (D.at (D.at d 0) 3)), (D.vb (D.at d 1)))) (fun (r0, r1, r2, r3, r4) => .tup [(shNLE_0 r0 r1 r2 r3), .one (.bool r4)]) fun (r0, r1, r2, r3, r4) => ((if r4 = false then some (.out 1 [.list 2 [iD x7, iD s15], .one (.bool true)]) else some (.next 0 [.one (.tuple #[]), iD (IntKind.i64.wrap (s15 + (1 : Int)))]))) else some (.out 0 [.one (.tuple #[])])))
def witnessR_L15_S (re fa fb fc fd : Int) (k : Nat) (c : List D) (st : Int) (kb : Nat) (cb : List D) (su : Int) (ke : Nat) (ce : List D) (x0 : Nat) (x1 : List D) (x2 : Int) (x3 : Int) (x4 : Int) (x5 : Int) (x6 : Bool) (x7 : Int) : Go.Ev.Rd → Option Go.Ev.Rd
  | .next 0 ds => witnessR_L15_S0 re fa fb fc fd k c st kb cb su ke ce x0 x1 x2 x3 x4 x5 x6 x7 ds
  | _ => none
theorem witnessR_L15_S_0 (re fa fb fc fd : Int) (k : Nat) (c : List D) (st : Int) (kb : Nat) (cb : List D) (su : Int) (ke : Nat) (ce : List D) (x0 : Nat) (x1 : List D) (x2 : Int) (x3 : Int) (x4 : Int) (x5 : Int) (x6 : Bool) (x7 : Int) (ds : List D) : witnessR_L15_S re fa fb fc fd k c st kb cb su ke ce x0 x1 x2 x3 x4 x5 x6 x7 (.next 0 ds) = witnessR_L15_S0 re fa fb fc fd k c st kb cb su ke ce x0 x1 x2 x3 x4 x5 x6 x7 ds := rfl
theorem witnessR_L15_S_ok (re fa fb fc fd : Int) (k : Nat) (c : List D) (st : Int) (kb : Nat) (cb : List D) (su : Int) (ke : Nat) (ce : List D) (x0 : Nat) (x1 : List D) (x2 : Int) (x3 : Int) (x4 : Int) (x5 : Int) (x6 : Bool) (x7 : Int) : ∀ s_ t_, witnessR_L15_S re fa fb fc fd k c st kb cb su ke ce x0 x1 x2 x3 x4 x5 x6 x7 s_ = some t_ → Step (ctx [29] witnessR_sp) Tabs witnessR_L15_A (stateOf (witnessR_L15_gs re fa fb fc fd k c st kb cb su ke ce x0 x1 x2 x3 x4 x5 x6 x7 s_)) (stateOf (witnessR_L15_gs re fa fb fc fd k c st kb cb su ke ce x0 x1 x2 x3 x4 x5 x6 x7 t_)) (witnessR_L15_ax t_) ∧ EndOK witnessR_L15_A.nx witnessR_L15_A.low (witnessR_L15_gs re fa fb fc fd k c st kb cb su ke ce x0 x1 x2 x3 x4 x5 x6 x7) t_
  | .next 0 ds, t_, h => by
    have h_ : witnessR_L15_S0 re fa fb fc fd k c st kb cb su ke ce x0 x1 x2 x3 x4 x5 x6 x7 ds = some t_ := h
    clear h
    unfold witnessR_L15_S0 at h_
    obtain ⟨s15, e0, h0⟩ := pullD_elim h_
    clear h_
    obtain rfl := tup_inj e0
    by_cases b1_ : s15 < (kb : Int)
    · have h2_ := (if_pos b1_).symm.trans h0
      obtain ⟨⟨r0, r1, r2, r3, r4⟩, f3_, h4_⟩ := pullD_elim h2_
      replace f3_ := m_23_ok f3_
      by_cases b5_ : r4 = false
      · have h6_ := (if_pos b5_).symm.trans h4_
        obtain rfl := Option.some.inj h6_
        exact ⟨step_pc 3000 (bT 2 []) [.tup [(shNLE_0 r0 r1 r2 r3), .one (.bool r4)]] [c_d b1_, c_le 1, c_no b5_] [k_c f3_] _ rfl (by kernel_rfl) (by kernel_rfl) (by kernel_rfl) (by kernel_rfl) (by kernel_rfl) (by kernel_rfl), by kernel_rfl, by kernel_rfl⟩
      have h6_ := (if_neg b5_).symm.trans h4_
      have b7_ : r4 = true := by first | exact b5_ | simpa using b5_
      obtain rfl := Option.some.inj h6_
      exact ⟨step_pc 3000 (bT 1 (bF 1 [])) [.tup [(shNLE_0 r0 r1 r2 r3), .one (.bool r4)]] [c_d b1_, c_le 1, c_nn b7_] [k_c f3_] _ rfl (by kernel_rfl) (by kernel_rfl) (by kernel_rfl) (by kernel_rfl) (by kernel_rfl) (by kernel_rfl), trivial⟩
    have h2_ := (if_neg b1_).symm.trans h0
    obtain rfl := Option.some.inj h2_
    exact ⟨step_pc 3000 (bF 1 []) [] [c_n b1_] [] _ rfl (by kernel_rfl) (by kernel_rfl) (by kernel_rfl) (by kernel_rfl) (by kernel_rfl) (by kernel_rfl), by kernel_rfl, by kernel_rfl⟩
  | .next (_ + 1) _, _, h => by cases h
  | .out _ _, _, h => by cases h
theorem witnessR_L15_go (re fa fb fc fd : Int) (k : Nat) (c : List D) (st : Int) (kb : Nat) (cb : List D) (su : Int) (ke : Nat) (ce : List D) (x0 : Nat) (x1 : List D) (x2 : Int) (x3 : Int) (x4 : Int) (x5 : Int) (x6 : Bool) (x7 : Int) {q : Nat} {ds : List D} {j : Nat} {es : List D} (h : runR (witnessR_L15_S re fa fb fc fd k c st kb cb su ke ce x0 x1 x2 x3 x4 x5 x6 x7) (.next q ds) = some (.out j es)) : Runs (ctx [29] witnessR_sp) Tabs witnessR_L15_A (stateOf (witnessR_L15_gs re fa fb fc fd k c st kb cb su ke ce x0 x1 x2 x3 x4 x5 x6 x7 (.next q ds))) (stateOf (witnessR_L15_gs re fa fb fc fd k c st kb cb su ke ce x0 x1 x2 x3 x4 x5 x6 x7 (.out j es))) (witnessR_L15_ax (.out j es)) ∧ (nxtOf (witnessR_L15_gs re fa fb fc fd k c st kb cb su ke ce x0 x1 x2 x3 x4 x5 x6 x7 (.out j es)), lowGS (witnessR_L15_gs re fa fb fc fd k c st kb cb su ke ce x0 x1 x2 x3 x4 x5 x6 x7 (.out j es))) = (witnessR_L15_A.nx, witnessR_L15_A.low) :=
  runs_of' (good true _ _) witnessR_L15_ok (ax := witnessR_L15_ax) (fun _ _ => rfl) (fun _ _ => axOf_end _) (witnessR_L15_S_ok re fa fb fc fd k c st kb cb su ke ce x0 x1 x2 x3 x4 x5 x6 x7) h
theorem witnessR_L15_in0 (re fa fb fc fd : Int) (k : Nat) (c : List D) (st : Int) (kb : Nat) (cb : List D) (su : Int) (ke : Nat) (ce : List D) (x0 : Nat) (x1 : List D) (x2 : Int) (x3 : Int) (x4 : Int) (x5 : Int) (x6 : Bool) (x7 : Int) {es : List D} (h : runR (witnessR_L15_S re fa fb fc fd k c st kb cb su ke ce x0 x1 x2 x3 x4 x5 x6 x7) (.next 0 [.one (.tuple #[]), iD ((IntKind.i64.wrap (x7 + (1 : Int))))]) = some (.out 0 es)) : LoopC (loopAt Try.prog 29 2) (witnessR_L15_E re fa fb fc fd k c st kb cb su ke ce x0 x1 x2 x3 x4 x5 x6 x7) 64 noFrame witnessR_x15_0 es :=
  have r := witnessR_L15_go re fa fb fc fd k c st kb cb su ke ce x0 x1 x2 x3 x4 x5 x6 x7 h
  loopin_as rfl (loop_in (l := witnessR_L15_A) (E := (witnessR_L15_E re fa fb fc fd k c st kb cb su ke ce x0 x1 x2 x3 x4 x5 x6 x7)) (S := stateOf (witnessR_L15_gs re fa fb fc fd k c st kb cb su ke ce x0 x1 x2 x3 x4 x5 x6 x7 (.next 0 [.one (.tuple #[]), iD ((IntKind.i64.wrap (x7 + (1 : Int))))]))) (ns := nsOf (witnessR_L15_gs re fa fb fc fd k c st kb cb su ke ce x0 x1 x2 x3 x4 x5 x6 x7 (.next 0 [.one (.tuple #[]), iD ((IntKind.i64.wrap (x7 + (1 : Int))))]))) witnessR_L15_ok r.1 r.2 (by kernel_rfl) (by kernel_rfl) (by kernel_rfl) (by kernel_rfl))
theorem witnessR_L15_in1 (re fa fb fc fd : Int) (k : Nat) (c : List D) (st : Int) (kb : Nat) (cb : List D) (su : Int) (ke : Nat) (ce : List D) (x0 : Nat) (x1 : List D) (x2 : Int) (x3 : Int) (x4 : Int) (x5 : Int) (x6 : Bool) (x7 : Int) {es : List D} (h : runR (witnessR_L15_S re fa fb fc fd k c st kb cb su ke ce x0 x1 x2 x3 x4 x5 x6 x7) (.next 0 [.one (.tuple #[]), iD ((IntKind.i64.wrap (x7 + (1 : Int))))]) = some (.out 1 es)) : LoopC (loopAt Try.prog 29 2) (witnessR_L15_E re fa fb fc fd k c st kb cb su ke ce x0 x1 x2 x3 x4 x5 x6 x7) 64 noFrame witnessR_x15_1 es :=
  have r := witnessR_L15_go re fa fb fc fd k c st kb cb su ke ce x0 x1 x2 x3 x4 x5 x6 x7 h
  loopin_as rfl (loop_in (l := witnessR_L15_A) (E := (witnessR_L15_E re fa fb fc fd k c st kb cb su ke ce x0 x1 x2 x3 x4 x5 x6 x7)) (S := stateOf (witnessR_L15_gs re fa fb fc fd k c st kb cb su ke ce x0 x1 x2 x3 x4 x5 x6 x7 (.next 0 [.one (.tuple #[]), iD ((IntKind.i64.wrap (x7 + (1 : Int))))]))) (ns := nsOf (witnessR_L15_gs re fa fb fc fd k c st kb cb su ke ce x0 x1 x2 x3 x4 x5 x6 x7 (.next 0 [.one (.tuple #[]), iD ((IntKind.i64.wrap (x7 + (1 : Int))))]))) witnessR_L15_ok r.1 r.2 (by kernel_rfl) (by kernel_rfl) (by kernel_rfl) (by kernel_rfl))
def witnessR_L12_E (re fa fb fc fd : Int) (k : Nat) (c : List D) (st : Int) (kb : Nat) (cb : List D) (su : Int) (ke : Nat) (ce : List D) (x0 : Nat) (x1 : List D) (x2 : Int) (x3 : Int) (x4 : Int) (x5 : Int) (x6 : Bool) : List AV × AHeap := ([.agg [.pure (.int .i64 re), .pure (.int .i64 fa), .pure (.int .i64 fb), .pure (.int .i64 fc), .pure (.int .i64 fd), .dsl 0], .agg [.pure (.int .i64 st), .dsl 1], .agg [.pure (.int .i64 su), .dsl 2], .ptr 3 0, .ptr 4 0, .ptr 5 0, .any 8, .any 9, .ptr 7 0, .pure (.bool x6), .pure (.int .i64 (kb : Int)), .any 10, .any 11, .any 12, .pure (.int .i64 (0 : Int)), .pure (.tuple #[]), .pure (.tuple #[]), .pure (.tuple #[]), .pure (.tuple #[.agg #[.int .i64 x2, .int .i64 x3, .int .i64 x4, .int .i64 x5], .bool x6]), .agg [.pure (.int .i64 re), .pure (.int .i64 fa), .pure (.int .i64 fb), .pure (.int .i64 fc), .pure (.int .i64 fd), .dsl 0], .agg [.pure (.int .i64 st), .dsl 1], .agg [.pure (.int .i64 su), .dsl 2], .agg [.pure (.int .i64 st), .dsl 1], .dsl 6, .pure (.tuple #[.agg #[.int .i64 x2, .int .i64 x3, .int .i64 x4, .int .i64 x5], .bool x6]), .pure (.agg #[.int .i64 x2, .int .i64 x3, .int .i64 x4, .int .i64 x5]), .pure (.bool x6), .pure (.bool x6), .ptr 4 1, .dsl 1, .pure (.int .i64 (kb : Int)), .any 13, .any 14, .any 15, .any 16, .any 17, .any 18, .any 19, .any 20, .any 21, .any 22, .any 23, .any 24, .any 25, .any 26, .any 27, .any 28, .any 29, .any 30, .pure (.tuple #[]), .pure (.tuple #[]), .pure (.tuple #[]), .pure (.tuple #[]), .pure (.tuple #[]), .pure (.tuple #[]), .pure (.tuple #[]), .pure (.tuple #[]), .pure (.tuple #[]), .pure (.tuple #[]), .pure (.tuple #[]), .pure (.tuple #[]), .pure (.tuple #[]), .pure (.tuple #[]), .pure (.tuple #[]), .pure (.tuple #[]), .pure (.tuple #[]), .pure (.tuple #[]), .pure (.tuple #[]), .pure (.tuple #[]), .pure (.tuple #[]), .pure (.tuple #[]), .pure (.tuple #[]), .pure (.tuple #[]), .pure (.tuple #[]), .pure (.tuple #[]), .pure (.tuple #[])], [(6, { cells := [], opn := none, kind := .deep x0 x1 }), (7, { cells := [.pure (.int .i64 x2), .pure (.int .i64 x3), .pure (.int .i64 x4), .pure (.int .i64 x5)], opn := none, kind := .cells }), (5, { cells := [.pure (.int .i64 su), .dsl 2], opn := none, kind := .cells }), (4, { cells := [.pure (.int .i64 st), .dsl 1], opn := none, kind := .cells }), (3, { cells := [.pure (.int .i64 re), .pure (.int .i64 fa), .pure (.int .i64 fb), .pure (.int .i64 fc), .pure (.int .i64 fd), .dsl 0], opn := none, kind := .cells }), (2, { cells := [], opn := none, kind := .deep ke ce }), (1, { cells := [], opn := none, kind := .deep kb cb }), (0, { cells := [], opn := none, kind := .deep k c })])
def witnessR_L12_A : LoopAt := ⟨29, loopAt Try.prog 29 1, 31, 64, 31, noFrame⟩
theorem witnessR_L12_ok : (witnessR_L12_A).OK := ⟨by show 31 ≤ 64; decide, by show 31 ≤ 31; decide, by kernel_rfl, rfl⟩
def witnessR_L12_gs (re fa fb fc fd : Int) (k : Nat) (c : List D) (st : Int) (kb : Nat) (cb : List D) (su : Int) (ke : Nat) (ce : List D) (x0 : Nat) (x1 : List D) (x2 : Int) (x3 : Int) (x4 : Int) (x5 : Int) (x6 : Bool) : Go.Ev.Rd → Option GS
  | .next 0 ds => ghost [.drop 6, .val 14] (7 :: (15 :: (16 :: (17 :: (List.range' 49 27))))) (witnessR_L12_E re fa fb fc fd k c st kb cb su ke ce x0 x1 x2 x3 x4 x5 x6).1 (witnessR_L12_E re fa fb fc fd k c st kb cb su ke ce x0 x1 x2 x3 x4 x5 x6).2 31 ds
  | .out 0 ds => ghost witnessR_x12_0.live witnessR_x12_0.junk (witnessR_L12_E re fa fb fc fd k c st kb cb su ke ce x0 x1 x2 x3 x4 x5 x6).1 (witnessR_L12_E re fa fb fc fd k c st kb cb su ke ce x0 x1 x2 x3 x4 x5 x6).2 31 ds
  | .out 1 ds => ghost witnessR_x12_1.live witnessR_x12_1.junk (witnessR_L12_E re fa fb fc fd k c st kb cb su ke ce x0 x1 x2 x3 x4 x5 x6).1 (witnessR_L12_E re fa fb fc fd k c st kb cb su ke ce x0 x1 x2 x3 x4 x5 x6).2 31 ds
  | _ => none
def witnessR_L12_ex : Nat → Option Nat
  | 0 => witnessR_x12_0.ex
  | 1 => witnessR_x12_1.ex
  | _ => none
def witnessR_L12_ax : Go.Ev.Rd → AX
  | .next _ _ => .normal
  | .out j _ => axOf (witnessR_L12_ex j)
def witnessR_L12_S0 (re fa fb fc fd : Int) (k : Nat) (c : List D) (st : Int) (kb : Nat) (cb : List D) (su : Int) (ke : Nat) (ce : List D) (x0 : Nat) (x1 : List D) (x2 : Int) (x3 : Int) (x4 : Int) (x5 : Int) (x6 : Bool) (ds : List D) : Option Go.Ev.Rd := pullD (α := Int) (some (.tup ds)) (fun d => ((D.vi (D.at d 1)))) (fun s14 => .tup [.one (.tuple #[]), iD s14]) fun s14 => ((if s14 < (kb : Int) then bindL (runR (witnessR_L15_S re fa fb fc fd k c st kb cb su ke ce x0 x1 x2 x3 x4 x5 x6 s14) (.next 0 [.one (.tuple #[]), iD ((IntKind.i64.wrap (s14 + (1 : Int))))])) fun j ds => (if j = 0 then pullD (some (.tup ds)) (fun _ => ()) (fun _ => .tup [.one (.tuple #[])]) fun _ => (some (.next 0 [.one (.tuple #[]), iD (IntKind.i64.wrap (s14 + (1 : Int)))])) else if j = 1 then pullD (α := Nat × (List D) × Bool) (some (.tup ds)) (fun d => ((D.ln (D.at d 0)), (D.lc (D.at d 0)), (D.vb (D.at d 1)))) (fun (k0, c1, l2) => .tup [.list k0 c1, .one (.bool l2)]) fun (k0, c1, l2) => (some (.out 1 [.list k0 c1, .one (.bool l2)])) else none) else some (.out 0 [.one (.tuple #[])])))
def witnessR_L12_S (re fa fb fc fd : Int) (k : Nat) (c : List D) (st : Int) (kb : Nat) (cb : List D) (su : Int) (ke : Nat) (ce : List D) (x0 : Nat) (x1 : List D) (x2 : Int) (x3 : Int) (x4 : Int) (x5 : Int) (x6 : Bool) : Go.Ev.Rd → Option Go.Ev.Rd
  | .next 0 ds => witnessR_L12_S0 re fa fb fc fd k c st kb cb su ke ce x0 x1 x2 x3 x4 x5 x6 ds
  | _ => none
theorem witnessR_L12_S_0 (re fa fb fc fd : Int) (k : Nat) (c : List D) (st : Int) (kb : Nat) (cb : List D) (su : Int) (ke : Nat) (ce : List D) (x0 : Nat) (x1 : List D) (x2 : Int) (x3 : Int) (x4 : Int) (x5 : Int) (x6 : Bool) (ds : List D) : witnessR_L12_S re fa fb fc fd k c st kb cb su ke ce x0 x1 x2 x3 x4 x5 x6 (.next 0 ds) = witnessR_L12_S0 re fa fb fc fd k c st kb cb su ke ce x0 x1 x2 x3 x4 x5 x6 ds := rfl
theorem witnessR_L12_S_ok (re fa fb fc fd : Int) (k : Nat) (c : List D) (st : Int) (kb : Nat) (cb : List D) (su : Int) (ke : Nat) (ce : List D) (x0 : Nat) (x1 : List D) (x2 : Int) (x3 : Int) (x4 : Int) (x5 : Int) (x6 : Bool) : ∀ s_ t_, witnessR_L12_S re fa fb fc fd k c st kb cb su ke ce x0 x1 x2 x3 x4 x5 x6 s_ = some t_ → Step (ctx [29] witnessR_sp) Tabs witnessR_L12_A (stateOf (witnessR_L12_gs re fa fb fc fd k c st kb cb su ke ce x0 x1 x2 x3 x4 x5 x6 s_)) (stateOf (witnessR_L12_gs re fa fb fc fd k c st kb cb su ke ce x0 x1 x2 x3 x4 x5 x6 t_)) (witnessR_L12_ax t_) ∧ EndOK witnessR_L12_A.nx witnessR_L12_A.low (witnessR_L12_gs re fa fb fc fd k c st kb cb su ke ce x0 x1 x2 x3 x4 x5 x6) t_
  | .next 0 ds, t_, h => by
    have h_ : witnessR_L12_S0 re fa fb fc fd k c st kb cb su ke ce x0 x1 x2 x3 x4 x5 x6 ds = some t_ := h
    clear h
    unfold witnessR_L12_S0 at h_
    obtain ⟨s14, e0, h0⟩ := pullD_elim h_
    clear h_
    obtain rfl := tup_inj e0
    by_cases b1_ : s14 < (kb : Int)
    · have h2_ := (if_pos b1_).symm.trans h0
      obtain ⟨j, ds, e3_, h4_⟩ := bindL_elim h2_
      by_cases j5_ : j = 0
      · have h8_ := (if_pos j5_).symm.trans h4_
        clear h4_
        subst j5_
        obtain ⟨⟨⟩, e6_, h9_⟩ := pullD_elim h8_
        clear h8_
        obtain rfl := tup_inj e6_
        have k7_ := witnessR_L15_in0 re fa fb fc fd k c st kb cb su ke ce x0 x1 x2 x3 x4 x5 x6 s14 e3_
        obtain rfl := Option.some.inj h9_
        exact ⟨step_pc 3000 (bT 1 []) [.tup [iD (Int.ofNat 0), .one (.tuple #[])]] [c_d b1_] [k_l k7_ [] [.tup [iD (Int.ofNat 0), .one (.tuple #[])]] []] _ rfl (by kernel_rfl) (by kernel_rfl) (by kernel_rfl) (by kernel_rfl) (by kernel_rfl) (by kernel_rfl), trivial⟩
      have h10_ := (if_neg j5_).symm.trans h4_
      clear h4_
      by_cases j11_ : j = 1
      · have h14_ := (if_pos j11_).symm.trans h10_
        clear h10_
        subst j11_
        obtain ⟨⟨k0, c1, l2⟩, e12_, h15_⟩ := pullD_elim h14_
        clear h14_
        obtain rfl := tup_inj e12_
        have k13_ := witnessR_L15_in1 re fa fb fc fd k c st kb cb su ke ce x0 x1 x2 x3 x4 x5 x6 s14 e3_
        obtain rfl := Option.some.inj h15_
        exact ⟨step_pc 3000 (bT 1 []) [.tup [iD (Int.ofNat 1), .list k0 c1, .one (.bool l2)]] [c_d b1_] [k_l k13_ [] [.tup [iD (Int.ofNat 1), .list k0 c1, .one (.bool l2)]] []] _ rfl (by kernel_rfl) (by kernel_rfl) (by kernel_rfl) (by kernel_rfl) (by kernel_rfl) (by kernel_rfl), by kernel_rfl, by kernel_rfl⟩
      have h16_ := (if_neg j11_).symm.trans h10_
      clear h10_
      cases h16_
    have h2_ := (if_neg b1_).symm.trans h0
    obtain rfl := Option.some.inj h2_
    exact ⟨step_pc 3000 (bF 1 []) [] [c_n b1_] [] _ rfl (by kernel_rfl) (by kernel_rfl) (by kernel_rfl) (by kernel_rfl) (by kernel_rfl) (by kernel_rfl), by kernel_rfl, by kernel_rfl⟩
  | .next (_ + 1) _, _, h => by cases h
  | .out _ _, _, h => by cases h
theorem witnessR_L12_go (re fa fb fc fd : Int) (k : Nat) (c : List D) (st : Int) (kb : Nat) (cb : List D) (su : Int) (ke : Nat) (ce : List D) (x0 : Nat) (x1 : List D) (x2 : Int) (x3 : Int) (x4 : Int) (x5 : Int) (x6 : Bool) {q : Nat} {ds : List D} {j : Nat} {es : List D} (h : runR (witnessR_L12_S re fa fb fc fd k c st kb cb su ke ce x0 x1 x2 x3 x4 x5 x6) (.next q ds) = some (.out j es)) : Runs (ctx [29] witnessR_sp) Tabs witnessR_L12_A (stateOf (witnessR_L12_gs re fa fb fc fd k c st kb cb su ke ce x0 x1 x2 x3 x4 x5 x6 (.next q ds))) (stateOf (witnessR_L12_gs re fa fb fc fd k c st kb cb su ke ce x0 x1 x2 x3 x4 x5 x6 (.out j es))) (witnessR_L12_ax (.out j es)) ∧ (nxtOf (witnessR_L12_gs re fa fb fc fd k c st kb cb su ke ce x0 x1 x2 x3 x4 x5 x6 (.out j es)), lowGS (witnessR_L12_gs re fa fb fc fd k c st kb cb su ke ce x0 x1 x2 x3 x4 x5 x6 (.out j es))) = (witnessR_L12_A.nx, witnessR_L12_A.low) :=
  runs_of' (good true _ _) witnessR_L12_ok (ax := witnessR_L12_ax) (fun _ _ => rfl) (fun _ _ => axOf_end _) (witnessR_L12_S_ok re fa fb fc fd k c st kb cb su ke ce x0 x1 x2 x3 x4 x5 x6) h
theorem witnessR_L12_in0 (re fa fb fc fd : Int) (k : Nat) (c : List D) (st : Int) (kb : Nat) (cb : List D) (su : Int) (ke : Nat) (ce : List D) (x0 : Nat) (x1 : List D) (x2 : Int) (x3 : Int) (x4 : Int) (x5 : Int) (x6 : Bool) {es : List D} (h : runR (witnessR_L12_S re fa fb fc fd k c st kb cb su ke ce x0 x1 x2 x3 x4 x5 x6) (.next 0 [.one (.tuple #[]), iD ((0 : Int))]) = some (.out 0 es)) : LoopC (loopAt Try.prog 29 1) (witnessR_L12_E re fa fb fc fd k c st kb cb su ke ce x0 x1 x2 x3 x4 x5 x6) 31 noFrame witnessR_x12_0 es :=
  have r := witnessR_L12_go re fa fb fc fd k c st kb cb su ke ce x0 x1 x2 x3 x4 x5 x6 h
  loopin_as rfl (loop_in (l := witnessR_L12_A) (E := (witnessR_L12_E re fa fb fc fd k c st kb cb su ke ce x0 x1 x2 x3 x4 x5 x6)) (S := stateOf (witnessR_L12_gs re fa fb fc fd k c st kb cb su ke ce x0 x1 x2 x3 x4 x5 x6 (.next 0 [.one (.tuple #[]), iD ((0 : Int))]))) (ns := nsOf (witnessR_L12_gs re fa fb fc fd k c st kb cb su ke ce x0 x1 x2 x3 x4 x5 x6 (.next 0 [.one (.tuple #[]), iD ((0 : Int))]))) witnessR_L12_ok r.1 r.2 (by kernel_rfl) (by kernel_rfl) (by kernel_rfl) (by kernel_rfl))
theorem witnessR_L12_in1 (re fa fb fc fd : Int) (k : Nat) (c : List D) (st : Int) (kb : Nat) (cb : List D) (su : Int) (ke : Nat) (ce : List D) (x0 : Nat) (x1 : List D) (x2 : Int) (x3 : Int) (x4 : Int) (x5 : Int) (x6 : Bool) {es : List D} (h : runR (witnessR_L12_S re fa fb fc fd k c st kb cb su ke ce x0 x1 x2 x3 x4 x5 x6) (.next 0 [.one (.tuple #[]), iD ((0 : Int))]) = some (.out 1 es)) : LoopC (loopAt Try.prog 29 1) (witnessR_L12_E re fa fb fc fd k c st kb cb su ke ce x0 x1 x2 x3 x4 x5 x6) 31 noFrame witnessR_x12_1 es :=
  have r := witnessR_L12_go re fa fb fc fd k c st kb cb su ke ce x0 x1 x2 x3 x4 x5 x6 h
  loopin_as rfl (loop_in (l := witnessR_L12_A) (E := (witnessR_L12_E re fa fb fc fd k c st kb cb su ke ce x0 x1 x2 x3 x4 x5 x6)) (S := stateOf (witnessR_L12_gs re fa fb fc fd k c st kb cb su ke ce x0 x1 x2 x3 x4 x5 x6 (.next 0 [.one (.tuple #[]), iD ((0 : Int))]))) (ns := nsOf (witnessR_L12_gs re fa fb fc fd k c st kb cb su ke ce x0 x1 x2 x3 x4 x5 x6 (.next 0 [.one (.tuple #[]), iD ((0 : Int))]))) witnessR_L12_ok r.1 r.2 (by kernel_rfl) (by kernel_rfl) (by kernel_rfl) (by kernel_rfl))
def witnessR_L6_E (re fa fb fc fd : Int) (k : Nat) (c : List D) (st : Int) (kb : Nat) (cb : List D) (su : Int) (ke : Nat) (ce : List D) (x0 : Nat) (x1 : List D) (x2 : Int) (x3 : Int) (x4 : Int) (x5 : Int) (x6 : Bool) : List AV × AHeap := ([.agg [.pure (.int .i64 re), .pure (.int .i64 fa), .pure (.int .i64 fb), .pure (.int .i64 fc), .pure (.int .i64 fd), .dsl 0], .agg [.pure (.int .i64 st), .dsl 1], .agg [.pure (.int .i64 su), .dsl 2], .ptr 3 0, .ptr 4 0, .ptr 5 0, .pure (.slice none 0 0), .pure (.bool false), .ptr 7 0, .pure (.bool x6), .pure (.int .i64 (kb : Int)), .pure (.int .i64 (0 : Int)), .pure (.tuple #[]), .pure (.tuple #[]), .pure (.tuple #[]), .pure (.tuple #[]), .pure (.tuple #[]), .pure (.tuple #[]), .pure (.tuple #[.agg #[.int .i64 x2, .int .i64 x3, .int .i64 x4, .int .i64 x5], .bool x6]), .agg [.pure (.int .i64 re), .pure (.int .i64 fa), .pure (.int .i64 fb), .pure (.int .i64 fc), .pure (.int .i64 fd), .dsl 0], .agg [.pure (.int .i64 st), .dsl 1], .agg [.pure (.int .i64 su), .dsl 2], .agg [.pure (.int .i64 st), .dsl 1], .dsl 6, .pure (.tuple #[.agg #[.int .i64 x2, .int .i64 x3, .int .i64 x4, .int .i64 x5], .bool x6]), .pure (.agg #[.int .i64 x2, .int .i64 x3, .int .i64 x4, .int .i64 x5]), .pure (.bool x6), .pure (.bool x6), .ptr 4 1, .dsl 1, .pure (.int .i64 (kb : Int)), .pure (.tuple #[]), .pure (.tuple #[]), .pure (.tuple #[]), .pure (.tuple #[]), .pure (.tuple #[]), .pure (.tuple #[]), .pure (.tuple #[]), .pure (.tuple #[]), .pure (.tuple #[]), .pure (.tuple #[]), .pure (.tuple #[]), .pure (.tuple #[]), .pure (.tuple #[]), .pure (.tuple #[]), .pure (.tuple #[]), .pure (.tuple #[]), .pure (.tuple #[]), .pure (.tuple #[]), .pure (.tuple #[]), .pure (.tuple #[]), .pure (.tuple #[]), .pure (.tuple #[]), .pure (.tuple #[]), .pure (.tuple #[]), .pure (.tuple #[]), .pure (.tuple #[]), .pure (.tuple #[]), .pure (.tuple #[]), .pure (.tuple #[]), .pure (.tuple #[]), .pure (.tuple #[]), .pure (.tuple #[]), .pure (.tuple #[]), .pure (.tuple #[]), .pure (.tuple #[]), .pure (.tuple #[]), .pure (.tuple #[]), .pure (.tuple #[]), .pure (.tuple #[]), .pure (.tuple #[]), .pure (.tuple #[]), .pure (.tuple #[]), .pure (.tuple #[]), .pure (.tuple #[]), .pure (.tuple #[])], [(6, { cells := [], opn := none, kind := .deep x0 x1 }), (7, { cells := [.pure (.int .i64 x2), .pure (.int .i64 x3), .pure (.int .i64 x4), .pure (.int .i64 x5)], opn := none, kind := .cells }), (5, { cells := [.pure (.int .i64 su), .dsl 2], opn := none, kind := .cells }), (4, { cells := [.pure (.int .i64 st), .dsl 1], opn := none, kind := .cells }), (3, { cells := [.pure (.int .i64 re), .pure (.int .i64 fa), .pure (.int .i64 fb), .pure (.int .i64 fc), .pure (.int .i64 fd), .dsl 0], opn := none, kind := .cells }), (2, { cells := [], opn := none, kind := .deep ke ce }), (1, { cells := [], opn := none, kind := .deep kb cb }), (0, { cells := [], opn := none, kind := .deep k c })])
def witnessR_L6_A : LoopAt := ⟨29, loopAt Try.prog 29 0, 8, 31, 8, noFrame⟩
theorem witnessR_L6_ok : (witnessR_L6_A).OK := ⟨by show 8 ≤ 31; decide, by show 8 ≤ 8; decide, by kernel_rfl, rfl⟩
def witnessR_L6_gs (re fa fb fc fd : Int) (k : Nat) (c : List D) (st : Int) (kb : Nat) (cb : List D) (su : Int) (ke : Nat) (ce : List D) (x0 : Nat) (x1 : List D) (x2 : Int) (x3 : Int) (x4 : Int) (x5 : Int) (x6 : Bool) : Go.Ev.Rd → Option GS
  | .next 0 ds => ghost [.drop 6, .val 11] (7 :: (12 :: (13 :: (List.range' 31 18)))) (witnessR_L6_E re fa fb fc fd k c st kb cb su ke ce x0 x1 x2 x3 x4 x5 x6).1 (witnessR_L6_E re fa fb fc fd k c st kb cb su ke ce x0 x1 x2 x3 x4 x5 x6).2 8 ds
  | .out 0 ds => ghost witnessR_x6_0.live witnessR_x6_0.junk (witnessR_L6_E re fa fb fc fd k c st kb cb su ke ce x0 x1 x2 x3 x4 x5 x6).1 (witnessR_L6_E re fa fb fc fd k c st kb cb su ke ce x0 x1 x2 x3 x4 x5 x6).2 8 ds
  | .out 1 ds => ghost witnessR_x6_1.live witnessR_x6_1.junk (witnessR_L6_E re fa fb fc fd k c st kb cb su ke ce x0 x1 x2 x3 x4 x5 x6).1 (witnessR_L6_E re fa fb fc fd k c st kb cb su ke ce x0 x1 x2 x3 x4 x5 x6).2 8 ds
  | _ => none
def witnessR_L6_ex : Nat → Option Nat
  | 0 => witnessR_x6_0.ex
  | 1 => witnessR_x6_1.ex
  | _ => none
def witnessR_L6_ax : Go.Ev.Rd → AX
  | .next _ _ => .normal
  | .out j _ => axOf (witnessR_L6_ex j)
def witnessR_L6_S0 (re fa fb fc fd : Int) (k : Nat) (c : List D) (st : Int) (kb : Nat) (cb : List D) (su : Int) (ke : Nat) (ce : List D) (x0 : Nat) (x1 : List D) (x2 : Int) (x3 : Int) (x4 : Int) (x5 : Int) (x6 : Bool) (ds : List D) : Option Go.Ev.Rd := pullD (α := Int) (some (.tup ds)) (fun d => ((D.vi (D.at d 1)))) (fun s11 => .tup [.one (.tuple #[]), iD s11]) fun s11 => ((if s11 < (kb : Int) then pullD (α := Int × Int × Int × Int × Bool) (m_23 [.agg [iD re, iD fa, iD fb, iD fc, iD fd, .list k c], .agg [iD st, .list kb cb], .agg [iD su, .list ke ce], .list 1 [iD s11]]) (fun d => ((D.vi (D.at (D.at d 0) 0)), (D.vi (D.at (D.at d 0) 1)), (D.vi (D.at (D.at d 0) 2)), (D.vi (D.at (D.at d 0) 3)), (D.vb (D.at d 1)))) (fun (r0, r1, r2, r3, r4) => .tup [(shNLE_0 r0 r1 r2 r3), .one (.bool r4)]) fun (r0, r1, r2, r3, r4) => ((if r4 = false then some (.out 1 [.list 1 [iD s11], .one (.bool true)]) else some (.next 0 [.one (.tuple #[]), iD (IntKind.i64.wrap (s11 + (1 : Int)))]))) else some (.out 0 [.one (.tuple #[])])))
def witnessR_L6_S (re fa fb fc fd : Int) (k : Nat) (c : List D) (st : Int) (kb : Nat) (cb : List D) (su : Int) (ke : Nat) (ce : List D) (x0 : Nat) (x1 : List D) (x2 : Int) (x3 : Int) (x4 : Int) (x5 : Int) (x6 : Bool) : Go.Ev.Rd → Option Go.Ev.Rd
  | .next 0 ds => witnessR_L6_S0 re fa fb fc fd k c st kb cb su ke ce x0 x1 x2 x3 x4 x5 x6 ds
  | _ => none
theorem witnessR_L6_S_0 (re fa fb fc fd : Int) (k : Nat) (c : List D) (st : Int) (kb : Nat) (cb : List D) (su : Int) (ke : Nat) (ce : List D) (x0 : Nat) (x1 : List D) (x2 : Int) (x3 : Int) (x4 : Int) (x5 : Int) (x6 : Bool) (ds : List D) : witnessR_L6_S re fa fb fc fd k c st kb cb su ke ce x0 x1 x2 x3 x4 x5 x6 (.next 0 ds) = witnessR_L6_S0 re fa fb fc fd k c st kb cb su ke ce x0 x1 x2 x3 x4 x5 x6 ds := rfl
theorem witnessR_L6_S_ok (re fa fb fc fd : Int) (k : Nat) (c : List D) (st : Int) (kb : Nat) (cb : List D) (su : Int) (ke : Nat) (ce : List D) (x0 : Nat) (x1 : List D) (x2 : Int) (x3 : Int) (x4 : Int) (x5 : Int) (x6 : Bool) : ∀ s_ t_, witnessR_L6_S re fa fb fc fd k c st kb cb su ke ce x0 x1 x2 x3 x4 x5 x6 s_ = some t_ → Step (ctx [29] witnessR_sp) Tabs witnessR_L6_A (stateOf (witnessR_L6_gs re fa fb fc fd k c st kb cb su ke ce x0 x1 x2 x3 x4 x5 x6 s_)) (stateOf (witnessR_L6_gs re fa fb fc fd k c st kb cb su ke ce x0 x1 x2 x3 x4 x5 x6 t_)) (witnessR_L6_ax t_) ∧ EndOK witnessR_L6_A.nx witnessR_L6_A.low (witnessR_L6_gs re fa fb fc fd k c st kb cb su ke ce x0 x1 x2 x3 x4 x5 x6) t_
  | .next 0 ds, t_, h => by
    have h_ : witnessR_L6_S0 re fa fb fc fd k c st kb cb su ke ce x0 x1 x2 x3 x4 x5 x6 ds = some t_ := h
    clear h
    unfold witnessR_L6_S0 at h_
    obtain ⟨s11, e0, h0⟩ := pullD_elim h_
    clear h_
    obtain rfl := tup_inj e0
    by_cases b1_ : s11 < (kb : Int)
    · have h2_ := (if_pos b1_).symm.trans h0
      obtain ⟨⟨r0, r1, r2, r3, r4⟩, f3_, h4_⟩ := pullD_elim h2_
      replace f3_ := m_23_ok f3_
      by_cases b5_ : r4 = false
      · have h6_ := (if_pos b5_).symm.trans h4_
        obtain rfl := Option.some.inj h6_
        exact ⟨step_pc 3000 (bT 2 []) [.tup [(shNLE_0 r0 r1 r2 r3), .one (.bool r4)]] [c_d b1_, c_le 0, c_no b5_] [k_c f3_] _ rfl (by kernel_rfl) (by kernel_rfl) (by kernel_rfl) (by kernel_rfl) (by kernel_rfl) (by kernel_rfl), by kernel_rfl, by kernel_rfl⟩
      have h6_ := (if_neg b5_).symm.trans h4_
      have b7_ : r4 = true := by first | exact b5_ | simpa using b5_
      obtain rfl := Option.some.inj h6_
      exact ⟨step_pc 3000 (bT 1 (bF 1 [])) [.tup [(shNLE_0 r0 r1 r2 r3), .one (.bool r4)]] [c_d b1_, c_le 0, c_nn b7_] [k_c f3_] _ rfl (by kernel_rfl) (by kernel_rfl) (by kernel_rfl) (by kernel_rfl) (by kernel_rfl) (by kernel_rfl), trivial⟩
    have h2_ := (if_neg b1_).symm.trans h0
    obtain rfl := Option.some.inj h2_
    exact ⟨step_pc 3000 (bF 1 []) [] [c_n b1_] [] _ rfl (by kernel_rfl) (by kernel_rfl) (by kernel_rfl) (by kernel_rfl) (by kernel_rfl) (by kernel_rfl), by kernel_rfl, by kernel_rfl⟩
  | .next (_ + 1) _, _, h => by cases h
  | .out _ _, _, h => by cases h
theorem witnessR_L6_go (re fa fb fc fd : Int) (k : Nat) (c : List D) (st : Int) (kb : Nat) (cb : List D) (su : Int) (ke : Nat) (ce : List D) (x0 : Nat) (x1 : List D) (x2 : Int) (x3 : Int) (x4 : Int) (x5 : Int) (x6 : Bool) {q : Nat} {ds : List D} {j : Nat} {es : List D} (h : runR (witnessR_L6_S re fa fb fc fd k c st kb cb su ke ce x0 x1 x2 x3 x4 x5 x6) (.next q ds) = some (.out j es)) : Runs (ctx [29] witnessR_sp) Tabs witnessR_L6_A (stateOf (witnessR_L6_gs re fa fb fc fd k c st kb cb su ke ce x0 x1 x2 x3 x4 x5 x6 (.next q ds))) (stateOf (witnessR_L6_gs re fa fb fc fd k c st kb cb su ke ce x0 x1 x2 x3 x4 x5 x6 (.out j es))) (witnessR_L6_ax (.out j es)) ∧ (nxtOf (witnessR_L6_gs re fa fb fc fd k c st kb cb su ke ce x0 x1 x2 x3 x4 x5 x6 (.out j es)), lowGS (witnessR_L6_gs re fa fb fc fd k c st kb cb su ke ce x0 x1 x2 x3 x4 x5 x6 (.out j es))) = (witnessR_L6_A.nx, witnessR_L6_A.low) :=
  runs_of' (good true _ _) witnessR_L6_ok (ax := witnessR_L6_ax) (fun _ _ => rfl) (fun _ _ => axOf_end _) (witnessR_L6_S_ok re fa fb fc fd k c st kb cb su ke ce x0 x1 x2 x3 x4 x5 x6) h
theorem witnessR_L6_in0 (re fa fb fc fd : Int) (k : Nat) (c : List D) (st : Int) (kb : Nat) (cb : List D) (su : Int) (ke : Nat) (ce : List D) (x0 : Nat) (x1 : List D) (x2 : Int) (x3 : Int) (x4 : Int) (x5 : Int) (x6 : Bool) {es : List D} (h : runR (witnessR_L6_S re fa fb fc fd k c st kb cb su ke ce x0 x1 x2 x3 x4 x5 x6) (.next 0 [.one (.tuple #[]), iD ((0 : Int))]) = some (.out 0 es)) : LoopC (loopAt Try.prog 29 0) (witnessR_L6_E re fa fb fc fd k c st kb cb su ke ce x0 x1 x2 x3 x4 x5 x6) 8 noFrame witnessR_x6_0 es :=
  have r := witnessR_L6_go re fa fb fc fd k c st kb cb su ke ce x0 x1 x2 x3 x4 x5 x6 h
  loopin_as rfl (loop_in (l := witnessR_L6_A) (E := (witnessR_L6_E re fa fb fc fd k c st kb cb su ke ce x0 x1 x2 x3 x4 x5 x6)) (S := stateOf (witnessR_L6_gs re fa fb fc fd k c st kb cb su ke ce x0 x1 x2 x3 x4 x5 x6 (.next 0 [.one (.tuple #[]), iD ((0 : Int))]))) (ns := nsOf (witnessR_L6_gs re fa fb fc fd k c st kb cb su ke ce x0 x1 x2 x3 x4 x5 x6 (.next 0 [.one (.tuple #[]), iD ((0 : Int))]))) witnessR_L6_ok r.1 r.2 (by kernel_rfl) (by kernel_rfl) (by kernel_rfl) (by kernel_rfl))
theorem witnessR_L6_in1 (re fa fb fc fd : Int) (k : Nat) (c : List D) (st : Int) (kb : Nat) (cb : List D) (su : Int) (ke : Nat) (ce : List D) (x0 : Nat) (x1 : List D) (x2 : Int) (x3 : Int) (x4 : Int) (x5 : Int) (x6 : Bool) {es : List D} (h : runR (witnessR_L6_S re fa fb fc fd k c st kb cb su ke ce x0 x1 x2 x3 x4 x5 x6) (.next 0 [.one (.tuple #[]), iD ((0 : Int))]) = some (.out 1 es)) : LoopC (loopAt Try.prog 29 0) (witnessR_L6_E re fa fb fc fd k c st kb cb su ke ce x0 x1 x2 x3 x4 x5 x6) 8 noFrame witnessR_x6_1 es :=
  have r := witnessR_L6_go re fa fb fc fd k c st kb cb su ke ce x0 x1 x2 x3 x4 x5 x6 h
  loopin_as rfl (loop_in (l := witnessR_L6_A) (E := (witnessR_L6_E re fa fb fc fd k c st kb cb su ke ce x0 x1 x2 x3 x4 x5 x6)) (S := stateOf (witnessR_L6_gs re fa fb fc fd k c st kb cb su ke ce x0 x1 x2 x3 x4 x5 x6 (.next 0 [.one (.tuple #[]), iD ((0 : Int))]))) (ns := nsOf (witnessR_L6_gs re fa fb fc fd k c st kb cb su ke ce x0 x1 x2 x3 x4 x5 x6 (.next 0 [.one (.tuple #[]), iD ((0 : Int))]))) witnessR_L6_ok r.1 r.2 (by kernel_rfl) (by kernel_rfl) (by kernel_rfl) (by kernel_rfl))
def witnessR_M (re fa fb fc fd : Int) (k : Nat) (c : List D) (st : Int) (kb : Nat) (cb : List D) (su : Int) (ke : Nat) (ce : List D) : Option D := pullD (α := Nat × (List D)) (m_24 [.agg [iD st, .list kb cb]]) (fun d => ((D.ln d), (D.lc d))) (fun (k0, c1) => .list k0 c1) fun (k0, c1) => (pullD (α := Int × Int × Int × Int × Bool) (m_23 [.agg [iD re, iD fa, iD fb, iD fc, iD fd, .list k c], .agg [iD st, .list kb cb], .agg [iD su, .list ke ce], .list k0 c1]) (fun d => ((D.vi (D.at (D.at d 0) 0)), (D.vi (D.at (D.at d 0) 1)), (D.vi (D.at (D.at d 0) 2)), (D.vi (D.at (D.at d 0) 3)), (D.vb (D.at d 1)))) (fun (r2, r3, r4, r5, r6) => .tup [(shNLE_0 r2 r3 r4 r5), .one (.bool r6)]) fun (r2, r3, r4, r5, r6) => ((if (r6) = true then some (.tup [.list 0 [], .one (.bool false)]) else bindL (runR (witnessR_L6_S re fa fb fc fd k c st kb cb su ke ce k0 c1 r2 r3 r4 r5 r6) (.next 0 [.one (.tuple #[]), iD ((0 : Int))])) fun j ds => (if j = 0 then pullD (some (.tup ds)) (fun _ => ()) (fun _ => .tup [.one (.tuple #[])]) fun _ => (bindL (runR (witnessR_L12_S re fa fb fc fd k c st kb cb su ke ce k0 c1 r2 r3 r4 r5 r6) (.next 0 [.one (.tuple #[]), iD ((0 : Int))])) fun j ds => (if j = 0 then pullD (some (.tup ds)) (fun _ => ()) (fun _ => .tup [.one (.tuple #[])]) fun _ => (some (.tup [.list 0 [], .one (.bool false)])) else if j = 1 then pullD (α := Nat × (List D) × Bool) (some (.tup ds)) (fun d => ((D.ln (D.at d 0)), (D.lc (D.at d 0)), (D.vb (D.at d 1)))) (fun (k7, c8, l9) => .tup [.list k7 c8, .one (.bool l9)]) fun (k7, c8, l9) => (guardP ((0 + k7) * 1 ≤ c8.length ∧ 0 < 1) (some (.tup [.list k7 c8, .one (.bool l9)]))) else none)) else if j = 1 then pullD (α := Nat × (List D) × Bool) (some (.tup ds)) (fun d => ((D.ln (D.at d 0)), (D.lc (D.at d 0)), (D.vb (D.at d 1)))) (fun (k10, c11, l12) => .tup [.list k10 c11, .one (.bool l12)]) fun (k10, c11, l12) => (guardP ((0 + k10) * 1 ≤ c11.length ∧ 0 < 1) (some (.tup [.list k10 c11, .one (.bool l12)]))) else none))))
theorem witnessR_M_ok (re fa fb fc fd : Int) (k : Nat) (c : List D) (st : Int) (kb : Nat) (cb : List D) (su : Int) (ke : Nat) (ce : List D) {r : D} (h : witnessR_M re fa fb fc fd k c st kb cb su ke ce = some r) : Con 29 [.agg [iD re, iD fa, iD fb, iD fc, iD fd, .list k c], .agg [iD st, .list kb cb], .agg [iD su, .list ke ce]] r := by
  unfold witnessR_M at h
  obtain ⟨⟨k0, c1⟩, f1_, h2_⟩ := pullD_elim h
  replace f1_ := m_24_ok f1_
  obtain ⟨⟨r2, r3, r4, r5, r6⟩, f3_, h4_⟩ := pullD_elim h2_
  replace f3_ := m_23_ok f3_
  by_cases b5_ : (r6) = true
  · have h6_ := (if_pos b5_).symm.trans h4_
    obtain rfl := Option.some.inj h6_
    exact con_pc (op := true) (I := [29]) (sp := witnessR_sp) 3000 (bT 1 []) [.list k0 c1, .tup [(shNLE_0 r2 r3 r4 r5), .one (.bool r6)]] [c_q b5_] [k_c f1_, k_c f3_] (by kernel_rfl)
  have h6_ := (if_neg b5_).symm.trans h4_
  have b7_ : (r6) = false := by first | exact b5_ | simpa using b5_
  obtain ⟨j, ds, e8_, h9_⟩ := bindL_elim h6_
  by_cases j10_ : j = 0
  · have h13_ := (if_pos j10_).symm.trans h9_
    clear h9_
    subst j10_
    obtain ⟨⟨⟩, e11_, h14_⟩ := pullD_elim h13_
    clear h13_
    obtain rfl := tup_inj e11_
    have k12_ := witnessR_L6_in0 re fa fb fc fd k c st kb cb su ke ce k0 c1 r2 r3 r4 r5 r6 e8_
    obtain ⟨j, ds, e15_, h16_⟩ := bindL_elim h14_
    by_cases j17_ : j = 0
    · have h20_ := (if_pos j17_).symm.trans h16_
      clear h16_
      subst j17_
      obtain ⟨⟨⟩, e18_, h21_⟩ := pullD_elim h20_
      clear h20_
      obtain rfl := tup_inj e18_
      have k19_ := witnessR_L12_in0 re fa fb fc fd k c st kb cb su ke ce k0 c1 r2 r3 r4 r5 r6 e15_
      obtain rfl := Option.some.inj h21_
      exact con_pc (op := true) (I := [29]) (sp := witnessR_sp) 3000 (bF 1 []) [.list k0 c1, .tup [(shNLE_0 r2 r3 r4 r5), .one (.bool r6)], .tup [iD (Int.ofNat 0), .one (.tuple #[])], .tup [iD (Int.ofNat 0), .one (.tuple #[])]] [c_q b7_] [k_c f1_, k_c f3_, k_l k12_ [] [.tup [iD (Int.ofNat 0), .one (.tuple #[])], .tup [iD (Int.ofNat 0), .one (.tuple #[])]] [.tup [iD (Int.ofNat 0), .one (.tuple #[])]], k_l k19_ [] [.tup [iD (Int.ofNat 0), .one (.tuple #[])]] []] (by kernel_rfl)
    have h22_ := (if_neg j17_).symm.trans h16_
    clear h16_
    by_cases j23_ : j = 1
    · have h26_ := (if_pos j23_).symm.trans h22_
      clear h22_
      subst j23_
      obtain ⟨⟨k7, c8, l9⟩, e24_, h27_⟩ := pullD_elim h26_
      clear h26_
      obtain rfl := tup_inj e24_
      have k25_ := witnessR_L12_in1 re fa fb fc fd k c st kb cb su ke ce k0 c1 r2 r3 r4 r5 r6 e15_
      obtain ⟨f28_, h29_⟩ := guardP_elim h27_
      obtain rfl := Option.some.inj h29_
      exact con_pc (op := true) (I := [29]) (sp := witnessR_sp) 3000 (bF 1 []) [.list k0 c1, .tup [(shNLE_0 r2 r3 r4 r5), .one (.bool r6)], .tup [iD (Int.ofNat 0), .one (.tuple #[])], .tup [iD (Int.ofNat 1), .list k7 c8, .one (.bool l9)]] [c_q b7_, c_f f28_] [k_c f1_, k_c f3_, k_l k12_ [] [.tup [iD (Int.ofNat 0), .one (.tuple #[])], .tup [iD (Int.ofNat 1), .list k7 c8, .one (.bool l9)]] [.tup [iD (Int.ofNat 1), .list k7 c8, .one (.bool l9)]], k_l k25_ [] [.tup [iD (Int.ofNat 1), .list k7 c8, .one (.bool l9)]] []] (by kernel_rfl)
    have h30_ := (if_neg j23_).symm.trans h22_
    clear h22_
    cases h30_
  have h31_ := (if_neg j10_).symm.trans h9_
  clear h9_
  by_cases j32_ : j = 1
  · have h35_ := (if_pos j32_).symm.trans h31_
    clear h31_
    subst j32_
    obtain ⟨⟨k10, c11, l12⟩, e33_, h36_⟩ := pullD_elim h35_
    clear h35_
    obtain rfl := tup_inj e33_
    have k34_ := witnessR_L6_in1 re fa fb fc fd k c st kb cb su ke ce k0 c1 r2 r3 r4 r5 r6 e8_
    obtain ⟨f37_, h38_⟩ := guardP_elim h36_
    obtain rfl := Option.some.inj h38_
    exact con_pc (op := true) (I := [29]) (sp := witnessR_sp) 3000 (bF 1 []) [.list k0 c1, .tup [(shNLE_0 r2 r3 r4 r5), .one (.bool r6)], .tup [iD (Int.ofNat 1), .list k10 c11, .one (.bool l12)]] [c_q b7_, c_f f37_] [k_c f1_, k_c f3_, k_l k34_ [] [.tup [iD (Int.ofNat 1), .list k10 c11, .one (.bool l12)]] []] (by kernel_rfl)
  have h39_ := (if_neg j32_).symm.trans h31_
  clear h31_
  cases h39_
def m_29 (ds : List D) : Option D := pullD (α := Int × Int × Int × Int × Int × Nat × (List D) × Int × Nat × (List D) × Int × Nat × (List D)) (some (.tup ds)) (fun d => ((D.vi (D.at (D.at d 0) 0)), (D.vi (D.at (D.at d 0) 1)), (D.vi (D.at (D.at d 0) 2)), (D.vi (D.at (D.at d 0) 3)), (D.vi (D.at (D.at d 0) 4)), (D.ln (D.at (D.at d 0) 5)), (D.lc (D.at (D.at d 0) 5)), (D.vi (D.at (D.at d 1) 0)), (D.ln (D.at (D.at d 1) 1)), (D.lc (D.at (D.at d 1) 1)), (D.vi (D.at (D.at d 2) 0)), (D.ln (D.at (D.at d 2) 1)), (D.lc (D.at (D.at d 2) 1)))) (fun (re, fa, fb, fc, fd, k, c, st, kb, cb, su, ke, ce) => .tup [.agg [iD re, iD fa, iD fb, iD fc, iD fd, .list k c], .agg [iD st, .list kb cb], .agg [iD su, .list ke ce]]) fun (re, fa, fb, fc, fd, k, c, st, kb, cb, su, ke, ce) => witnessR_M re fa fb fc fd k c st kb cb su ke ce
theorem m_29_ok {ds : List D} {r : D} (h : m_29 ds = some r) : Con 29 ds r := by
  unfold m_29 at h
  obtain ⟨⟨re, fa, fb, fc, fd, k, c, st, kb, cb, su, ke, ce⟩, e0, h0⟩ := pullD_elim h
  obtain rfl := tup_inj e0
  exact witnessR_M_ok re fa fb fc fd k c st kb cb su ke ce h0
theorem m_29_eq (re fa fb fc fd : Int) (k : Nat) (c : List D) (st : Int) (kb : Nat) (cb : List D) (su : Int) (ke : Nat) (ce : List D) : m_29 [.agg [iD re, iD fa, iD fb, iD fc, iD fd, .list k c], .agg [iD st, .list kb cb], .agg [iD su, .list ke ce]] = witnessR_M re fa fb fc fd k c st kb cb su ke ce := pullD_some (re, fa, fb, fc, fd, k, c, st, kb, cb, su, ke, ce) rfl rfl
def intsB_x4_0 : LExit := ⟨some 0, [], (4 :: (5 :: (List.range' 11 15)))⟩
def intsB_x4_1 : LExit := ⟨none, [.val 4], (5 :: (List.range' 11 15))⟩
def intsB_sp : List LSpec := [⟨30, 4, [intsB_x4_0, intsB_x4_1]⟩]
def intsB_L4_E (kx : Nat) (cx : List D) (ky : Nat) (cy : List D)  : List AV × AHeap := ([.dsl 0, .dsl 1, .pure (.tuple #[]), .pure (.tuple #[]), .pure (.bool false), .pure (.int .i64 (0 : Int)), .dsl 0, .pure (.int .i64 (kx : Int)), .dsl 1, .pure (.int .i64 (ky : Int)), .pure (.bool ((kx : Int) != (ky : Int))), .pure (.tuple #[]), .pure (.tuple #[]), .pure (.tuple #[]), .pure (.tuple #[]), .pure (.tuple #[]), .pure (.tuple #[]), .pure (.tuple #[]), .pure (.tuple #[]), .pure (.tuple #[]), .pure (.tuple #[]), .pure (.tuple #[]), .pure (.tuple #[]), .pure (.tuple #[]), .pure (.tuple #[]), .pure (.tuple #[])], [(1, { cells := [], opn := none, kind := .deep ky cy }), (0, { cells := [], opn := none, kind := .deep kx cx })])
def intsB_L4_A : LoopAt := ⟨30, loopAt Try.prog 30 0, 2, 19, 2, noFrame⟩
theorem intsB_L4_ok : (intsB_L4_A).OK := ⟨by show 2 ≤ 19; decide, by show 2 ≤ 2; decide, by kernel_rfl, rfl⟩
def intsB_L4_gs (kx : Nat) (cx : List D) (ky : Nat) (cy : List D)  : Go.Ev.Rd → Option GS
  | .next 0 ds => ghost [.val 5] (4 :: (List.range' 11 15)) (intsB_L4_E kx cx ky cy).1 (intsB_L4_E kx cx ky cy).2 2 ds
  | .out 0 ds => ghost intsB_x4_0.live intsB_x4_0.junk (intsB_L4_E kx cx ky cy).1 (intsB_L4_E kx cx ky cy).2 2 ds
  | .out 1 ds => ghost intsB_x4_1.live intsB_x4_1.junk (intsB_L4_E kx cx ky cy).1 (intsB_L4_E kx cx ky cy).2 2 ds
  | _ => none
def intsB_L4_ex : Nat → Option Nat
  | 0 => intsB_x4_0.ex
  | 1 => intsB_x4_1.ex
  | _ => none
def intsB_L4_ax : Go.Ev.Rd → AX
  | .next _ _ => .normal
  | .out j _ => axOf (intsB_L4_ex j)
def intsB_L4_S0 (kx : Nat) (cx : List D) (ky : Nat) (cy : List D)  (ds : List D) : Option Go.Ev.Rd := pullD (α := Int) (some (.tup ds)) (fun d => ((D.vi (D.at d 0)))) (fun s5 => .tup [iD s5]) fun s5 => ((if s5 < (kx : Int) then guardP ((0 : Int) ≤ s5 ∧ s5.toNat < kx) (pullD (α := Int) (readD cx (s5.toNat * 1) 1 false) (fun d => ((D.vi d))) (fun v0 => iD v0) fun v0 => (guardP ((0 : Int) ≤ s5 ∧ s5.toNat < ky) (pullD (α := Int) (readD cy (s5.toNat * 1) 1 false) (fun d => ((D.vi d))) (fun v1 => iD v1) fun v1 => ((if v0 ≠ v1 then some (.out 1 [.one (.bool false)]) else some (.next 0 [iD (IntKind.i64.wrap (s5 + (1 : Int)))])))))) else some (.out 0 [])))
def intsB_L4_S (kx : Nat) (cx : List D) (ky : Nat) (cy : List D)  : Go.Ev.Rd → Option Go.Ev.Rd
  | .next 0 ds => intsB_L4_S0 kx cx ky cy ds
  | _ => none
theorem intsB_L4_S_0 (kx : Nat) (cx : List D) (ky : Nat) (cy : List D)  (ds : List D) : intsB_L4_S kx cx ky cy (.next 0 ds) = intsB_L4_S0 kx cx ky cy ds := rfl
theorem intsB_L4_S_ok (kx : Nat) (cx : List D) (ky : Nat) (cy : List D)  : ∀ s_ t_, intsB_L4_S kx cx ky cy s_ = some t_ → Step (ctx [30] intsB_sp) Tabs intsB_L4_A (stateOf (intsB_L4_gs kx cx ky cy s_)) (stateOf (intsB_L4_gs kx cx ky cy t_)) (intsB_L4_ax t_) ∧ EndOK intsB_L4_A.nx intsB_L4_A.low (intsB_L4_gs kx cx ky cy) t_
  | .next 0 ds, t_, h => by
    have h_ : intsB_L4_S0 kx cx ky cy ds = some t_ := h
    clear h
    unfold intsB_L4_S0 at h_
    obtain ⟨s5, e0, h0⟩ := pullD_elim h_
    clear h_
    obtain rfl := tup_inj e0
    by_cases b1_ : s5 < (kx : Int)
    · have h2_ := (if_pos b1_).symm.trans h0
      obtain ⟨f3_, h4_⟩ := guardP_elim h2_
      obtain ⟨v0, f5_, h6_⟩ := pullD_elim h4_
      replace f5_ := readD_elim f5_
      obtain ⟨f7_, h8_⟩ := guardP_elim h6_
      obtain ⟨v1, f9_, h10_⟩ := pullD_elim h8_
      replace f9_ := readD_elim f9_
      by_cases b11_ : v0 ≠ v1
      · have h12_ := (if_pos b11_).symm.trans h10_
        obtain rfl := Option.some.inj h12_
        exact ⟨step_pc 3000 (bT 2 []) [iD v0, iD v1] [c_d b1_, c_f f3_, c_f f5_, c_f f7_, c_f f9_, c_b b11_] [] _ rfl (by kernel_rfl) (by kernel_rfl) (by kernel_rfl) (by kernel_rfl) (by kernel_rfl) (by kernel_rfl), by kernel_rfl, by kernel_rfl⟩
      have h12_ := (if_neg b11_).symm.trans h10_
      have b13_ : v0 = v1 := by first | exact b11_ | simpa using b11_
      obtain rfl := Option.some.inj h12_
      exact ⟨step_pc 3000 (bT 1 (bF 1 [])) [iD v0, iD v1] [c_d b1_, c_f f3_, c_f f5_, c_f f7_, c_f f9_, c_bn b13_] [] _ rfl (by kernel_rfl) (by kernel_rfl) (by kernel_rfl) (by kernel_rfl) (by kernel_rfl) (by kernel_rfl), trivial⟩
    have h2_ := (if_neg b1_).symm.trans h0
    obtain rfl := Option.some.inj h2_
    exact ⟨step_pc 3000 (bF 1 []) [] [c_n b1_] [] _ rfl (by kernel_rfl) (by kernel_rfl) (by kernel_rfl) (by kernel_rfl) (by kernel_rfl) (by kernel_rfl), by kernel_rfl, by kernel_rfl⟩
  | .next (_ + 1) _, _, h => by cases h
  | .out _ _, _, h => by cases h
theorem intsB_L4_go (kx : Nat) (cx : List D) (ky : Nat) (cy : List D)  {q : Nat} {ds : List D} {j : Nat} {es : List D} (h : runR (intsB_L4_S kx cx ky cy) (.next q ds) = some (.out j es)) : Runs (ctx [30] intsB_sp) Tabs intsB_L4_A (stateOf (intsB_L4_gs kx cx ky cy (.next q ds))) (stateOf (intsB_L4_gs kx cx ky cy (.out j es))) (intsB_L4_ax (.out j es)) ∧ (nxtOf (intsB_L4_gs kx cx ky cy (.out j es)), lowGS (intsB_L4_gs kx cx ky cy (.out j es))) = (intsB_L4_A.nx, intsB_L4_A.low) :=
  runs_of' (good true _ _) intsB_L4_ok (ax := intsB_L4_ax) (fun _ _ => rfl) (fun _ _ => axOf_end _) (intsB_L4_S_ok kx cx ky cy) h
theorem intsB_L4_in0 (kx : Nat) (cx : List D) (ky : Nat) (cy : List D)  {es : List D} (h : runR (intsB_L4_S kx cx ky cy) (.next 0 [iD ((0 : Int))]) = some (.out 0 es)) : LoopC (loopAt Try.prog 30 0) (intsB_L4_E kx cx ky cy) 2 noFrame intsB_x4_0 es :=
  have r := intsB_L4_go kx cx ky cy h
  loopin_as rfl (loop_in (l := intsB_L4_A) (E := (intsB_L4_E kx cx ky cy)) (S := stateOf (intsB_L4_gs kx cx ky cy (.next 0 [iD ((0 : Int))]))) (ns := nsOf (intsB_L4_gs kx cx ky cy (.next 0 [iD ((0 : Int))]))) intsB_L4_ok r.1 r.2 (by kernel_rfl) (by kernel_rfl) (by kernel_rfl) (by kernel_rfl))
theorem intsB_L4_in1 (kx : Nat) (cx : List D) (ky : Nat) (cy : List D)  {es : List D} (h : runR (intsB_L4_S kx cx ky cy) (.next 0 [iD ((0 : Int))]) = some (.out 1 es)) : LoopC (loopAt Try.prog 30 0) (intsB_L4_E kx cx ky cy) 2 noFrame intsB_x4_1 es :=
  have r := intsB_L4_go kx cx ky cy h
  loopin_as rfl (loop_in (l := intsB_L4_A) (E := (intsB_L4_E kx cx ky cy)) (S := stateOf (intsB_L4_gs kx cx ky cy (.next 0 [iD ((0 : Int))]))) (ns := nsOf (intsB_L4_gs kx cx ky cy (.next 0 [iD ((0 : Int))]))) intsB_L4_ok r.1 r.2 (by kernel_rfl) (by kernel_rfl) (by kernel_rfl) (by kernel_rfl))
def intsB_M (kx : Nat) (cx : List D) (ky : Nat) (cy : List D) : Option D := (if (kx : Int) ≠ (ky : Int) then some (.one (.bool false)) else bindL (runR (intsB_L4_S kx cx ky cy) (.next 0 [iD ((0 : Int))])) fun j ds => (if j = 0 then pullD (some (.tup ds)) (fun _ => ()) (fun _ => .tup []) fun _ => (some (.one (.bool true))) else if j = 1 then pullD (α := Bool) (some (.tup ds)) (fun d => ((D.vb (D.at d 0)))) (fun l0 => .tup [.one (.bool l0)]) fun l0 => (some (.one (.bool l0))) else none))
theorem intsB_M_ok (kx : Nat) (cx : List D) (ky : Nat) (cy : List D) {r : D} (h : intsB_M kx cx ky cy = some r) : Con 30 [.list kx cx, .list ky cy] r := by
  unfold intsB_M at h
  by_cases b1_ : (kx : Int) ≠ (ky : Int)
  · have h2_ := (if_pos b1_).symm.trans h
    obtain rfl := Option.some.inj h2_
    exact con_pc (op := true) (I := [30]) (sp := intsB_sp) 3000 (bT 1 []) [] [c_b b1_] [] (by kernel_rfl)
  have h2_ := (if_neg b1_).symm.trans h
  have b3_ : (kx : Int) = (ky : Int) := by first | exact b1_ | simpa using b1_
  obtain ⟨j, ds, e4_, h5_⟩ := bindL_elim h2_
  by_cases j6_ : j = 0
  · have h9_ := (if_pos j6_).symm.trans h5_
    clear h5_
    subst j6_
    obtain ⟨⟨⟩, e7_, h10_⟩ := pullD_elim h9_
    clear h9_
    obtain rfl := tup_inj e7_
    have k8_ := intsB_L4_in0 kx cx ky cy e4_
    obtain rfl := Option.some.inj h10_
    exact con_pc (op := true) (I := [30]) (sp := intsB_sp) 3000 (bF 1 []) [.tup [iD (Int.ofNat 0)]] [c_bn b3_] [k_l k8_ [] [.tup [iD (Int.ofNat 0)]] []] (by kernel_rfl)
  have h11_ := (if_neg j6_).symm.trans h5_
  clear h5_
  by_cases j12_ : j = 1
  · have h15_ := (if_pos j12_).symm.trans h11_
    clear h11_
    subst j12_
    obtain ⟨l0, e13_, h16_⟩ := pullD_elim h15_
    clear h15_
    obtain rfl := tup_inj e13_
    have k14_ := intsB_L4_in1 kx cx ky cy e4_
    obtain rfl := Option.some.inj h16_
    exact con_pc (op := true) (I := [30]) (sp := intsB_sp) 3000 (bF 1 []) [.tup [iD (Int.ofNat 1), .one (.bool l0)]] [c_bn b3_] [k_l k14_ [] [.tup [iD (Int.ofNat 1), .one (.bool l0)]] []] (by kernel_rfl)
  have h17_ := (if_neg j12_).symm.trans h11_
  clear h11_
  cases h17_
def m_30 (ds : List D) : Option D := pullD (α := Nat × (List D) × Nat × (List D)) (some (.tup ds)) (fun d => ((D.ln (D.at d 0)), (D.lc (D.at d 0)), (D.ln (D.at d 1)), (D.lc (D.at d 1)))) (fun (kx, cx, ky, cy) => .tup [.list kx cx, .list ky cy]) fun (kx, cx, ky, cy) => intsB_M kx cx ky cy
theorem m_30_ok {ds : List D} {r : D} (h : m_30 ds = some r) : Con 30 ds r := by
  unfold m_30 at h
  obtain ⟨⟨kx, cx, ky, cy⟩, e0, h0⟩ := pullD_elim h
  obtain rfl := tup_inj e0
  exact intsB_M_ok kx cx ky cy h0
theorem m_30_eq (kx : Nat) (cx : List D) (ky : Nat) (cy : List D) : m_30 [.list kx cx, .list ky cy] = intsB_M kx cx ky cy := pullD_some (kx, cx, ky, cy) rfl rfl
end
end Go.Proofs.Ytmohaohdbklkeaa
namespace Go.Proofs.Ytmohaohdbklkeaa
open Go.Ev Go.RowKit
set_option maxRecDepth 100000
set_option maxHeartbeats 8000000
set_option linter.all false
noncomputable section
def law5_sp : List LSpec := []
def law5_M (re fa fb fc fd : Int) (k : Nat) (c : List D) (st : Int) (kb : Nat) (cb : List D) (su : Int) (ke : Nat) (ce : List D) (kx : Nat) (cx : List D) : Option D := pullD (α := Bool) (m_9 []) (fun d => ((D.vb d))) (fun r0 => .one (.bool r0)) fun r0 => ((if r0 = false then some (.one (.bool false)) else pullD (α := Bool) (m_10 [.agg [iD st, .list kb cb]]) (fun d => ((D.vb d))) (fun r1 => .one (.bool r1)) fun r1 => ((if r1 = false then some (.one (.bool true)) else pullD (α := Bool) (m_10 [.agg [iD su, .list ke ce]]) (fun d => ((D.vb d))) (fun r2 => .one (.bool r2)) fun r2 => ((if r2 = false then some (.one (.bool true)) else pullD (α := Bool) (m_11 [.agg [iD re, iD fa, iD fb, iD fc, iD fd, .list k c]]) (fun d => ((D.vb d))) (fun r3 => .one (.bool r3)) fun r3 => ((if r3 = false then some (.one (.bool true)) else (if (kx : Int) > (70 : Int) then some (.one (.bool true)) else pullD (α := Int × Int × Int × Int × Int × Nat × (List D)) (m_13 [.agg [iD re, iD fa, iD fb, iD fc, iD fd, .list k c]]) (fun d => ((D.vi (D.at d 0)), (D.vi (D.at d 1)), (D.vi (D.at d 2)), (D.vi (D.at d 3)), (D.vi (D.at d 4)), (D.ln (D.at d 5)), (D.lc (D.at d 5)))) (fun (r4, r5, r6, r7, r8, k9, c10) => .agg [iD r4, iD r5, iD r6, iD r7, iD r8, .list k9 c10]) fun (r4, r5, r6, r7, r8, k9, c10) => (pullD (α := Int × Nat × (List D)) (m_14 [.agg [iD st, .list kb cb]]) (fun d => ((D.vi (D.at d 0)), (D.ln (D.at d 1)), (D.lc (D.at d 1)))) (fun (r11, k12, c13) => .agg [iD r11, .list k12 c13]) fun (r11, k12, c13) => (pullD (α := Int × Nat × (List D)) (m_14 [.agg [iD su, .list ke ce]]) (fun d => ((D.vi (D.at d 0)), (D.ln (D.at d 1)), (D.lc (D.at d 1)))) (fun (r14, k15, c16) => .agg [iD r14, .list k15 c16]) fun (r14, k15, c16) => (pullD (α := Nat × (List D) × Int) (m_25 [.agg [iD r4, iD r5, iD r6, iD r7, iD r8, .list k9 c10], .agg [iD r11, .list k12 c13], .agg [iD r14, .list k15 c16]]) (fun d => ((D.ln (D.at d 0)), (D.lc (D.at d 0)), (D.vi (D.at d 1)))) (fun (k17, c18, r19) => .tup [.list k17 c18, iD r19]) fun (k17, c18, r19) => (pullD (α := Int × Int × Int × Int × Int × Nat × (List D)) (m_13 [.agg [iD re, iD fa, iD fb, iD fc, iD fd, .list k c]]) (fun d => ((D.vi (D.at d 0)), (D.vi (D.at d 1)), (D.vi (D.at d 2)), (D.vi (D.at d 3)), (D.vi (D.at d 4)), (D.ln (D.at d 5)), (D.lc (D.at d 5)))) (fun (r20, r21, r22, r23, r24, k25, c26) => .agg [iD r20, iD r21, iD r22, iD r23, iD r24, .list k25 c26]) fun (r20, r21, r22, r23, r24, k25, c26) => (pullD (α := Int × Nat × (List D)) (m_14 [.agg [iD st, .list kb cb]]) (fun d => ((D.vi (D.at d 0)), (D.ln (D.at d 1)), (D.lc (D.at d 1)))) (fun (r27, k28, c29) => .agg [iD r27, .list k28 c29]) fun (r27, k28, c29) => (pullD (α := Int × Nat × (List D)) (m_14 [.agg [iD su, .list ke ce]]) (fun d => ((D.vi (D.at d 0)), (D.ln (D.at d 1)), (D.lc (D.at d 1)))) (fun (r30, k31, c32) => .agg [iD r30, .list k31 c32]) fun (r30, k31, c32) => (pullD (α := Nat × (List D)) (m_27 [.list kx cx]) (fun d => ((D.ln d), (D.lc d))) (fun (k33, c34) => .list k33 c34) fun (k33, c34) => (pullD (α := Int × Int) (m_26 [.agg [iD r20, iD r21, iD r22, iD r23, iD r24, .list k25 c26], .agg [iD r27, .list k28 c29, iD r30, .list k31 c32], .list k33 c34]) (fun d => ((D.vi (D.at d 0)), (D.vi (D.at d 1)))) (fun (r35, r36) => .tup [iD r35, iD r36]) fun (r35, r36) => (pullD (α := Int) (m_22 [.agg [iD re, iD fa, iD fb, iD fc, iD fd, .list k c], .agg [iD st, .list kb cb], .agg [iD su, .list ke ce]]) (fun d => ((D.vi d))) (fun r37 => iD r37) fun r37 => ((if r37 ≠ (0 : Int) then (if r19 = r37 then (if r36 = r37 then (if (k17 : Int) = (0 : Int) then some (.one (.bool (r35 == (0 : Int)))) else some (.one (.bool false))) else some (.one (.bool false))) else some (.one (.bool false))) else pullD (α := Int × Int) (m_28 [.agg [iD re, iD fa, iD fb, iD fc, iD fd, .list k c], .agg [iD st, .list kb cb, iD su, .list ke ce], .list kx cx]) (fun d => ((D.vi (D.at d 0)), (D.vi (D.at d 1)))) (fun (r38, r39) => .tup [iD r38, iD r39]) fun (r38, r39) => ((if r36 ≠ r39 then some (.one (.bool false)) else (if r35 ≠ r38 then some (.one (.bool false)) else pullD (α := Nat × (List D) × Bool) (m_29 [.agg [iD re, iD fa, iD fb, iD fc, iD fd, .list k c], .agg [iD st, .list kb cb], .agg [iD su, .list ke ce]]) (fun d => ((D.ln (D.at d 0)), (D.lc (D.at d 0)), (D.vb (D.at d 1)))) (fun (k40, c41, r42) => .tup [.list k40 c41, .one (.bool r42)]) fun (k40, c41, r42) => ((if r42 = false then (if r19 = (12 : Int) then some (.one (.bool ((k17 : Int) == (0 : Int)))) else some (.one (.bool false))) else (if r19 = (0 : Int) then pullD (α := Bool) (m_30 [.list k17 c18, .list k40 c41]) (fun d => ((D.vb d))) (fun r43 => .one (.bool r43)) fun r43 => (some (.one (.bool r43))) else some (.one (.bool false))))))))))))))))))))))))))))
theorem law5_M_ok (re fa fb fc fd : Int) (k : Nat) (c : List D) (st : Int) (kb : Nat) (cb : List D) (su : Int) (ke : Nat) (ce : List D) (kx : Nat) (cx : List D) {r : D} (h : law5_M re fa fb fc fd k c st kb cb su ke ce kx cx = some r) : Con 5 [.agg [iD re, iD fa, iD fb, iD fc, iD fd, .list k c], .agg [iD st, .list kb cb, iD su, .list ke ce], .list kx cx] r := by
  unfold law5_M at h
  obtain ⟨r0, f1_, h2_⟩ := pullD_elim h
  replace f1_ := m_9_ok f1_
  by_cases b3_ : r0 = false
  · have h4_ := (if_pos b3_).symm.trans h2_
    obtain rfl := Option.some.inj h4_
    exact con_pc (op := true) (I := [5]) (sp := law5_sp) 3000 (bT 1 []) [.one (.bool r0)] [c_no b3_] [k_c f1_] (by kernel_rfl)
  have h4_ := (if_neg b3_).symm.trans h2_
  have b5_ : r0 = true := by first | exact b3_ | simpa using b3_
  obtain ⟨r1, f6_, h7_⟩ := pullD_elim h4_
  replace f6_ := m_10_ok f6_
  by_cases b8_ : r1 = false
  · have h9_ := (if_pos b8_).symm.trans h7_
    obtain rfl := Option.some.inj h9_
    exact con_pc (op := true) (I := [5]) (sp := law5_sp) 3000 (bF 1 (bT 14 [])) [.one (.bool r0), .one (.bool r1)] [c_nn b5_, c_no b8_, c_no b8_, c_no b8_, c_no b8_, c_no b8_, c_T, c_T, c_T, c_T, c_T, c_T, c_T, c_T, c_T] [k_c f1_, k_c f6_] (by kernel_rfl)
  have h9_ := (if_neg b8_).symm.trans h7_
  have b10_ : r1 = true := by first | exact b8_ | simpa using b8_
  obtain ⟨r2, f11_, h12_⟩ := pullD_elim h9_
  replace f11_ := m_10_ok f11_
  by_cases b13_ : r2 = false
  · have h14_ := (if_pos b13_).symm.trans h12_
    obtain rfl := Option.some.inj h14_
    exact con_pc (op := true) (I := [5]) (sp := law5_sp) 3000 (bF 6 (bT 9 [])) [.one (.bool r0), .one (.bool r1), .one (.bool r2)] [c_nn b5_, c_nn b10_, c_nn b10_, c_nn b10_, c_nn b10_, c_nn b10_, c_no b13_, c_no b13_, c_no b13_, c_no b13_, c_T, c_T, c_T, c_T, c_T] [k_c f1_, k_c f6_, k_c f11_] (by kernel_rfl)
  have h14_ := (if_neg b13_).symm.trans h12_
  have b15_ : r2 = true := by first | exact b13_ | simpa using b13_
  obtain ⟨r3, f16_, h17_⟩ := pullD_elim h14_
  replace f16_ := m_11_ok f16_
  by_cases b18_ : r3 = false
  · have h19_ := (if_pos b18_).symm.trans h17_
    obtain rfl := Option.some.inj h19_
    exact con_pc (op := true) (I := [5]) (sp := law5_sp) 3000 (bF 10 (bT 5 [])) [.one (.bool r0), .one (.bool r1), .one (.bool r2), .one (.bool r3)] [c_nn b5_, c_nn b10_, c_nn b10_, c_nn b10_, c_nn b10_, c_nn b10_, c_nn b15_, c_nn b15_, c_nn b15_, c_nn b15_, c_no b18_, c_no b18_, c_no b18_, c_no b18_, c_T] [k_c f1_, k_c f6_, k_c f11_, k_c f16_] (by kernel_rfl)
  have h19_ := (if_neg b18_).symm.trans h17_
  have b20_ : r3 = true := by first | exact b18_ | simpa using b18_
  by_cases b21_ : (kx : Int) > (70 : Int)
  · have h22_ := (if_pos b21_).symm.trans h19_
    obtain rfl := Option.some.inj h22_
    exact con_pc (op := true) (I := [5]) (sp := law5_sp) 3000 (bF 14 (bT 1 [])) [.one (.bool r0), .one (.bool r1), .one (.bool r2), .one (.bool r3)] [c_nn b5_, c_nn b10_, c_nn b10_, c_nn b10_, c_nn b10_, c_nn b10_, c_nn b15_, c_nn b15_, c_nn b15_, c_nn b15_, c_nn b20_, c_nn b20_, c_nn b20_, c_nn b20_, c_d b21_] [k_c f1_, k_c f6_, k_c f11_, k_c f16_] (by kernel_rfl)
  have h22_ := (if_neg b21_).symm.trans h19_
  obtain ⟨⟨r4, r5, r6, r7, r8, k9, c10⟩, f23_, h24_⟩ := pullD_elim h22_
  replace f23_ := m_13_ok f23_
  obtain ⟨⟨r11, k12, c13⟩, f25_, h26_⟩ := pullD_elim h24_
  replace f25_ := m_14_ok f25_
  obtain ⟨⟨r14, k15, c16⟩, f27_, h28_⟩ := pullD_elim h26_
  replace f27_ := m_14_ok f27_
  obtain ⟨⟨k17, c18, r19⟩, f29_, h30_⟩ := pullD_elim h28_
  replace f29_ := m_25_ok f29_
  obtain ⟨⟨r20, r21, r22, r23, r24, k25, c26⟩, f31_, h32_⟩ := pullD_elim h30_
  replace f31_ := m_13_ok f31_
  obtain ⟨⟨r27, k28, c29⟩, f33_, h34_⟩ := pullD_elim h32_
  replace f33_ := m_14_ok f33_
  obtain ⟨⟨r30, k31, c32⟩, f35_, h36_⟩ := pullD_elim h34_
  replace f35_ := m_14_ok f35_
  obtain ⟨⟨k33, c34⟩, f37_, h38_⟩ := pullD_elim h36_
  replace f37_ := m_27_ok f37_
  obtain ⟨⟨r35, r36⟩, f39_, h40_⟩ := pullD_elim h38_
  replace f39_ := m_26_ok f39_
  obtain ⟨r37, f41_, h42_⟩ := pullD_elim h40_
  replace f41_ := m_22_ok f41_
  by_cases b43_ : r37 ≠ (0 : Int)
  · have h44_ := (if_pos b43_).symm.trans h42_
    by_cases b45_ : r19 = r37
    · have h46_ := (if_pos b45_).symm.trans h44_
      by_cases b47_ : r36 = r37
      · have h48_ := (if_pos b47_).symm.trans h46_
        by_cases b49_ : (k17 : Int) = (0 : Int)
        · have h50_ := (if_pos b49_).symm.trans h48_
          obtain rfl := Option.some.inj h50_
          exact con_pc (op := true) (I := [5]) (sp := law5_sp) 3000 (bF 15 (bT 12 [])) [.one (.bool r0), .one (.bool r1), .one (.bool r2), .one (.bool r3), .agg [iD r4, iD r5, iD r6, iD r7, iD r8, .list k9 c10], .agg [iD r11, .list k12 c13], .agg [iD r14, .list k15 c16], .tup [.list k17 c18, iD r19], .agg [iD r20, iD r21, iD r22, iD r23, iD r24, .list k25 c26], .agg [iD r27, .list k28 c29], .agg [iD r30, .list k31 c32], .list k33 c34, .tup [iD r35, iD r36], iD r37] [c_nn b5_, c_nn b10_, c_nn b10_, c_nn b10_, c_nn b10_, c_nn b10_, c_nn b15_, c_nn b15_, c_nn b15_, c_nn b15_, c_nn b20_, c_nn b20_, c_nn b20_, c_nn b20_, c_n b21_, c_b b43_, c_e b45_, c_e b45_, c_e b45_, c_e b45_, c_e b47_, c_e b47_, c_e b47_, c_e b47_, c_e b49_, c_e b49_, c_e b49_] [k_c f1_, k_c f6_, k_c f11_, k_c f16_, k_c f23_, k_c f25_, k_c f27_, k_c f29_, k_c f31_, k_c f33_, k_c f35_, k_c f37_, k_c f39_, k_c f41_] (by kernel_rfl)
        have h50_ := (if_neg b49_).symm.trans h48_
        have b51_ : (k17 : Int) ≠ (0 : Int) := by first | exact b49_ | simpa using b49_
        obtain rfl := Option.some.inj h50_
        exact con_pc (op := true) (I := [5]) (sp := law5_sp) 3000 (bF 15 (bT 9 (bF 3 []))) [.one (.bool r0), .one (.bool r1), .one (.bool r2), .one (.bool r3), .agg [iD r4, iD r5, iD r6, iD r7, iD r8, .list k9 c10], .agg [iD r11, .list k12 c13], .agg [iD r14, .list k15 c16], .tup [.list k17 c18, iD r19], .agg [iD r20, iD r21, iD r22, iD r23, iD r24, .list k25 c26], .agg [iD r27, .list k28 c29], .agg [iD r30, .list k31 c32], .list k33 c34, .tup [iD r35, iD r36], iD r37] [c_nn b5_, c_nn b10_, c_nn b10_, c_nn b10_, c_nn b10_, c_nn b10_, c_nn b15_, c_nn b15_, c_nn b15_, c_nn b15_, c_nn b20_, c_nn b20_, c_nn b20_, c_nn b20_, c_n b21_, c_b b43_, c_e b45_, c_e b45_, c_e b45_, c_e b45_, c_e b47_, c_e b47_, c_e b47_, c_e b47_, c_en b51_, c_en b51_, c_en b51_] [k_c f1_, k_c f6_, k_c f11_, k_c f16_, k_c f23_, k_c f25_, k_c f27_, k_c f29_, k_c f31_, k_c f33_, k_c f35_, k_c f37_, k_c f39_, k_c f41_] (by kernel_rfl)
      have h48_ := (if_neg b47_).symm.trans h46_
      have b52_ : r36 ≠ r37 := by first | exact b47_ | simpa using b47_
      obtain rfl := Option.some.inj h48_
      exact con_pc (op := true) (I := [5]) (sp := law5_sp) 3000 (bF 15 (bT 5 (bF 7 []))) [.one (.bool r0), .one (.bool r1), .one (.bool r2), .one (.bool r3), .agg [iD r4, iD r5, iD r6, iD r7, iD r8, .list k9 c10], .agg [iD r11, .list k12 c13], .agg [iD r14, .list k15 c16], .tup [.list k17 c18, iD r19], .agg [iD r20, iD r21, iD r22, iD r23, iD r24, .list k25 c26], .agg [iD r27, .list k28 c29], .agg [iD r30, .list k31 c32], .list k33 c34, .tup [iD r35, iD r36], iD r37] [c_nn b5_, c_nn b10_, c_nn b10_, c_nn b10_, c_nn b10_, c_nn b10_, c_nn b15_, c_nn b15_, c_nn b15_, c_nn b15_, c_nn b20_, c_nn b20_, c_nn b20_, c_nn b20_, c_n b21_, c_b b43_, c_e b45_, c_e b45_, c_e b45_, c_e b45_, c_en b52_, c_en b52_, c_en b52_, c_en b52_, c_F, c_F, c_F] [k_c f1_, k_c f6_, k_c f11_, k_c f16_, k_c f23_, k_c f25_, k_c f27_, k_c f29_, k_c f31_, k_c f33_, k_c f35_, k_c f37_, k_c f39_, k_c f41_] (by kernel_rfl)
    have h46_ := (if_neg b45_).symm.trans h44_
    have b53_ : r19 ≠ r37 := by first | exact b45_ | simpa using b45_
    obtain rfl := Option.some.inj h46_
    exact con_pc (op := true) (I := [5]) (sp := law5_sp) 3000 (bF 15 (bT 1 (bF 11 []))) [.one (.bool r0), .one (.bool r1), .one (.bool r2), .one (.bool r3), .agg [iD r4, iD r5, iD r6, iD r7, iD r8, .list k9 c10], .agg [iD r11, .list k12 c13], .agg [iD r14, .list k15 c16], .tup [.list k17 c18, iD r19], .agg [iD r20, iD r21, iD r22, iD r23, iD r24, .list k25 c26], .agg [iD r27, .list k28 c29], .agg [iD r30, .list k31 c32], .list k33 c34, .tup [iD r35, iD r36], iD r37] [c_nn b5_, c_nn b10_, c_nn b10_, c_nn b10_, c_nn b10_, c_nn b10_, c_nn b15_, c_nn b15_, c_nn b15_, c_nn b15_, c_nn b20_, c_nn b20_, c_nn b20_, c_nn b20_, c_n b21_, c_b b43_, c_en b53_, c_en b53_, c_en b53_, c_en b53_, c_F, c_F, c_F, c_F, c_F, c_F, c_F] [k_c f1_, k_c f6_, k_c f11_, k_c f16_, k_c f23_, k_c f25_, k_c f27_, k_c f29_, k_c f31_, k_c f33_, k_c f35_, k_c f37_, k_c f39_, k_c f41_] (by kernel_rfl)
  have h44_ := (if_neg b43_).symm.trans h42_
  have b54_ : r37 = (0 : Int) := by first | exact b43_ | simpa using b43_
  obtain ⟨⟨r38, r39⟩, f55_, h56_⟩ := pullD_elim h44_
  replace f55_ := m_28_ok f55_
  by_cases b57_ : r36 ≠ r39
  · have h58_ := (if_pos b57_).symm.trans h56_
    obtain rfl := Option.some.inj h58_
    exact con_pc (op := true) (I := [5]) (sp := law5_sp) 3000 (bF 16 (bT 5 [])) [.one (.bool r0), .one (.bool r1), .one (.bool r2), .one (.bool r3), .agg [iD r4, iD r5, iD r6, iD r7, iD r8, .list k9 c10], .agg [iD r11, .list k12 c13], .agg [iD r14, .list k15 c16], .tup [.list k17 c18, iD r19], .agg [iD r20, iD r21, iD r22, iD r23, iD r24, .list k25 c26], .agg [iD r27, .list k28 c29], .agg [iD r30, .list k31 c32], .list k33 c34, .tup [iD r35, iD r36], iD r37, .tup [iD r38, iD r39]] [c_nn b5_, c_nn b10_, c_nn b10_, c_nn b10_, c_nn b10_, c_nn b10_, c_nn b15_, c_nn b15_, c_nn b15_, c_nn b15_, c_nn b20_, c_nn b20_, c_nn b20_, c_nn b20_, c_n b21_, c_bn b54_, c_b b57_, c_b b57_, c_b b57_, c_b b57_, c_T] [k_c f1_, k_c f6_, k_c f11_, k_c f16_, k_c f23_, k_c f25_, k_c f27_, k_c f29_, k_c f31_, k_c f33_, k_c f35_, k_c f37_, k_c f39_, k_c f41_, k_c f55_] (by kernel_rfl)
  have h58_ := (if_neg b57_).symm.trans h56_
  have b59_ : r36 = r39 := by first | exact b57_ | simpa using b57_
  by_cases b60_ : r35 ≠ r38
  · have h61_ := (if_pos b60_).symm.trans h58_
    obtain rfl := Option.some.inj h61_
    exact con_pc (op := true) (I := [5]) (sp := law5_sp) 3000 (bF 20 (bT 1 [])) [.one (.bool r0), .one (.bool r1), .one (.bool r2), .one (.bool r3), .agg [iD r4, iD r5, iD r6, iD r7, iD r8, .list k9 c10], .agg [iD r11, .list k12 c13], .agg [iD r14, .list k15 c16], .tup [.list k17 c18, iD r19], .agg [iD r20, iD r21, iD r22, iD r23, iD r24, .list k25 c26], .agg [iD r27, .list k28 c29], .agg [iD r30, .list k31 c32], .list k33 c34, .tup [iD r35, iD r36], iD r37, .tup [iD r38, iD r39]] [c_nn b5_, c_nn b10_, c_nn b10_, c_nn b10_, c_nn b10_, c_nn b10_, c_nn b15_, c_nn b15_, c_nn b15_, c_nn b15_, c_nn b20_, c_nn b20_, c_nn b20_, c_nn b20_, c_n b21_, c_bn b54_, c_bn b59_, c_bn b59_, c_bn b59_, c_bn b59_, c_b b60_] [k_c f1_, k_c f6_, k_c f11_, k_c f16_, k_c f23_, k_c f25_, k_c f27_, k_c f29_, k_c f31_, k_c f33_, k_c f35_, k_c f37_, k_c f39_, k_c f41_, k_c f55_] (by kernel_rfl)
  have h61_ := (if_neg b60_).symm.trans h58_
  have b62_ : r35 = r38 := by first | exact b60_ | simpa using b60_
  obtain ⟨⟨k40, c41, r42⟩, f63_, h64_⟩ := pullD_elim h61_
  replace f63_ := m_29_ok f63_
  by_cases b65_ : r42 = false
  · have h66_ := (if_pos b65_).symm.trans h64_
    by_cases b67_ : r19 = (12 : Int)
    · have h68_ := (if_pos b67_).symm.trans h66_
      obtain rfl := Option.some.inj h68_
      exact con_pc (op := true) (I := [5]) (sp := law5_sp) 3000 (bF 21 (bT 5 [])) [.one (.bool r0), .one (.bool r1), .one (.bool r2), .one (.bool r3), .agg [iD r4, iD r5, iD r6, iD r7, iD r8, .list k9 c10], .agg [iD r11, .list k12 c13], .agg [iD r14, .list k15 c16], .tup [.list k17 c18, iD r19], .agg [iD r20, iD r21, iD r22, iD r23, iD r24, .list k25 c26], .agg [iD r27, .list k28 c29], .agg [iD r30, .list k31 c32], .list k33 c34, .tup [iD r35, iD r36], iD r37, .tup [iD r38, iD r39], .tup [.list k40 c41, .one (.bool r42)]] [c_nn b5_, c_nn b10_, c_nn b10_, c_nn b10_, c_nn b10_, c_nn b10_, c_nn b15_, c_nn b15_, c_nn b15_, c_nn b15_, c_nn b20_, c_nn b20_, c_nn b20_, c_nn b20_, c_n b21_, c_bn b54_, c_bn b59_, c_bn b59_, c_bn b59_, c_bn b59_, c_bn b62_, c_no b65_, c_e b67_, c_e b67_, c_e b67_, c_e b67_] [k_c f1_, k_c f6_, k_c f11_, k_c f16_, k_c f23_, k_c f25_, k_c f27_, k_c f29_, k_c f31_, k_c f33_, k_c f35_, k_c f37_, k_c f39_, k_c f41_, k_c f55_, k_c f63_] (by kernel_rfl)
    have h68_ := (if_neg b67_).symm.trans h66_
    have b69_ : r19 ≠ (12 : Int) := by first | exact b67_ | simpa using b67_
    obtain rfl := Option.some.inj h68_
    exact con_pc (op := true) (I := [5]) (sp := law5_sp) 3000 (bF 21 (bT 1 (bF 4 []))) [.one (.bool r0), .one (.bool r1), .one (.bool r2), .one (.bool r3), .agg [iD r4, iD r5, iD r6, iD r7, iD r8, .list k9 c10], .agg [iD r11, .list k12 c13], .agg [iD r14, .list k15 c16], .tup [.list k17 c18, iD r19], .agg [iD r20, iD r21, iD r22, iD r23, iD r24, .list k25 c26], .agg [iD r27, .list k28 c29], .agg [iD r30, .list k31 c32], .list k33 c34, .tup [iD r35, iD r36], iD r37, .tup [iD r38, iD r39], .tup [.list k40 c41, .one (.bool r42)]] [c_nn b5_, c_nn b10_, c_nn b10_, c_nn b10_, c_nn b10_, c_nn b10_, c_nn b15_, c_nn b15_, c_nn b15_, c_nn b15_, c_nn b20_, c_nn b20_, c_nn b20_, c_nn b20_, c_n b21_, c_bn b54_, c_bn b59_, c_bn b59_, c_bn b59_, c_bn b59_, c_bn b62_, c_no b65_, c_en b69_, c_en b69_, c_en b69_, c_en b69_] [k_c f1_, k_c f6_, k_c f11_, k_c f16_, k_c f23_, k_c f25_, k_c f27_, k_c f29_, k_c f31_, k_c f33_, k_c f35_, k_c f37_, k_c f39_, k_c f41_, k_c f55_, k_c f63_] (by kernel_rfl)
  have h66_ := (if_neg b65_).symm.trans h64_
  have b70_ : r42 = true := by first | exact b65_ | simpa using b65_
  by_cases b71_ : r19 = (0 : Int)
  · have h72_ := (if_pos b71_).symm.trans h66_
    obtain ⟨r43, f73_, h74_⟩ := pullD_elim h72_
    replace f73_ := m_30_ok f73_
    obtain rfl := Option.some.inj h74_
    exact con_pc (op := true) (I := [5]) (sp := law5_sp) 3000 (bF 22 (bT 4 [])) [.one (.bool r0), .one (.bool r1), .one (.bool r2), .one (.bool r3), .agg [iD r4, iD r5, iD r6, iD r7, iD r8, .list k9 c10], .agg [iD r11, .list k12 c13], .agg [iD r14, .list k15 c16], .tup [.list k17 c18, iD r19], .agg [iD r20, iD r21, iD r22, iD r23, iD r24, .list k25 c26], .agg [iD r27, .list k28 c29], .agg [iD r30, .list k31 c32], .list k33 c34, .tup [iD r35, iD r36], iD r37, .tup [iD r38, iD r39], .tup [.list k40 c41, .one (.bool r42)], .one (.bool r43)] [c_nn b5_, c_nn b10_, c_nn b10_, c_nn b10_, c_nn b10_, c_nn b10_, c_nn b15_, c_nn b15_, c_nn b15_, c_nn b15_, c_nn b20_, c_nn b20_, c_nn b20_, c_nn b20_, c_n b21_, c_bn b54_, c_bn b59_, c_bn b59_, c_bn b59_, c_bn b59_, c_bn b62_, c_nn b70_, c_e b71_, c_e b71_, c_e b71_, c_e b71_] [k_c f1_, k_c f6_, k_c f11_, k_c f16_, k_c f23_, k_c f25_, k_c f27_, k_c f29_, k_c f31_, k_c f33_, k_c f35_, k_c f37_, k_c f39_, k_c f41_, k_c f55_, k_c f63_, k_c f73_] (by kernel_rfl)
  have h72_ := (if_neg b71_).symm.trans h66_
  have b75_ : r19 ≠ (0 : Int) := by first | exact b71_ | simpa using b71_
  obtain rfl := Option.some.inj h72_
  exact con_pc (op := true) (I := [5]) (sp := law5_sp) 3000 (bF 26 []) [.one (.bool r0), .one (.bool r1), .one (.bool r2), .one (.bool r3), .agg [iD r4, iD r5, iD r6, iD r7, iD r8, .list k9 c10], .agg [iD r11, .list k12 c13], .agg [iD r14, .list k15 c16], .tup [.list k17 c18, iD r19], .agg [iD r20, iD r21, iD r22, iD r23, iD r24, .list k25 c26], .agg [iD r27, .list k28 c29], .agg [iD r30, .list k31 c32], .list k33 c34, .tup [iD r35, iD r36], iD r37, .tup [iD r38, iD r39], .tup [.list k40 c41, .one (.bool r42)]] [c_nn b5_, c_nn b10_, c_nn b10_, c_nn b10_, c_nn b10_, c_nn b10_, c_nn b15_, c_nn b15_, c_nn b15_, c_nn b15_, c_nn b20_, c_nn b20_, c_nn b20_, c_nn b20_, c_n b21_, c_bn b54_, c_bn b59_, c_bn b59_, c_bn b59_, c_bn b59_, c_bn b62_, c_nn b70_, c_en b75_, c_en b75_, c_en b75_, c_en b75_] [k_c f1_, k_c f6_, k_c f11_, k_c f16_, k_c f23_, k_c f25_, k_c f27_, k_c f29_, k_c f31_, k_c f33_, k_c f35_, k_c f37_, k_c f39_, k_c f41_, k_c f55_, k_c f63_] (by kernel_rfl)
def m_5 (ds : List D) : Option D := pullD (α := Int × Int × Int × Int × Int × Nat × (List D) × Int × Nat × (List D) × Int × Nat × (List D) × Nat × (List D)) (some (.tup ds)) (fun d => ((D.vi (D.at (D.at d 0) 0)), (D.vi (D.at (D.at d 0) 1)), (D.vi (D.at (D.at d 0) 2)), (D.vi (D.at (D.at d 0) 3)), (D.vi (D.at (D.at d 0) 4)), (D.ln (D.at (D.at d 0) 5)), (D.lc (D.at (D.at d 0) 5)), (D.vi (D.at (D.at d 1) 0)), (D.ln (D.at (D.at d 1) 1)), (D.lc (D.at (D.at d 1) 1)), (D.vi (D.at (D.at d 1) 2)), (D.ln (D.at (D.at d 1) 3)), (D.lc (D.at (D.at d 1) 3)), (D.ln (D.at d 2)), (D.lc (D.at d 2)))) (fun (re, fa, fb, fc, fd, k, c, st, kb, cb, su, ke, ce, kx, cx) => .tup [.agg [iD re, iD fa, iD fb, iD fc, iD fd, .list k c], .agg [iD st, .list kb cb, iD su, .list ke ce], .list kx cx]) fun (re, fa, fb, fc, fd, k, c, st, kb, cb, su, ke, ce, kx, cx) => law5_M re fa fb fc fd k c st kb cb su ke ce kx cx
theorem m_5_ok {ds : List D} {r : D} (h : m_5 ds = some r) : Con 5 ds r := by
  unfold m_5 at h
  obtain ⟨⟨re, fa, fb, fc, fd, k, c, st, kb, cb, su, ke, ce, kx, cx⟩, e0, h0⟩ := pullD_elim h
  obtain rfl := tup_inj e0
  exact law5_M_ok re fa fb fc fd k c st kb cb su ke ce kx cx h0
theorem m_5_eq (re fa fb fc fd : Int) (k : Nat) (c : List D) (st : Int) (kb : Nat) (cb : List D) (su : Int) (ke : Nat) (ce : List D) (kx : Nat) (cx : List D) : m_5 [.agg [iD re, iD fa, iD fb, iD fc, iD fd, .list k c], .agg [iD st, .list kb cb, iD su, .list ke ce], .list kx cx] = law5_M re fa fb fc fd k c st kb cb su ke ce kx cx := pullD_some (re, fa, fb, fc, fd, k, c, st, kb, cb, su, ke, ce, kx, cx) rfl rfl
end
end Go.Proofs.Ytmohaohdbklkeaa
