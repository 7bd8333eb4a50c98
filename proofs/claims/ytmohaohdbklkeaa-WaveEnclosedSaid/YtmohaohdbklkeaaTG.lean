/- For any rules, record and changes, valid or not, the law WaveEnclosed of the program answers true, and its arguments read as they did. CONDITIONS: none. -/
import Derived.Test.YtmohaohdbklkeaaTF
import Derived.Test.YtmohaohdbklkeaaTA
import Derived.Test.YtmohaohdbklkeaaTE
set_option linter.unusedVariables false
set_option linter.unusedSimpArgs false
set_option linter.unusedSectionVars false
set_option linter.unnecessarySimpa false
/- Figures. -/
namespace Go.Proofs.Ytmohaohdbklkeaa
open Go.Ev Go.RowKit
set_option maxRecDepth 100000
/-! ### The reference's -/
theorem pkR_go (re fa fb fc fd : Int) (k : Nat) (c : List D) (st : Int) (y : List Int) (h0 : 0 < y.length) (hl : y.length ≤ 1000) : ∀ m i, i + m = y.length →
    runR (peakR_L3_S re fa fb fc fd k c st y.length (y.map iD)) (.next 0 [iD ((atT y i : Nat) : Int), iD (i : Int)]) = some (.out 0 [iD ((pk y : Nat) : Int)]) := by
  intro m
  induction m with
  | zero =>
    intro i hi
    have : i = y.length := by omega
    subst this
    refine runR_exit ?_
    rw [peakR_L3_S_0]
    unfold peakR_L3_S0
    rw [pullD_some (((pk y : Nat) : Int), (y.length : Int)) (by rfl) (by rfl)]
    dsimp only
    rw [if_neg (by omega)]
  | succ m ih =>
    intro i hi
    have hi' : i < y.length := by omega
    have ha := atT_lt (y := y) h0 (i := i) (by omega)
    have st : peakR_L3_S re fa fb fc fd k c st y.length (y.map iD) (.next 0 [iD ((atT y i : Nat) : Int), iD (i : Int)]) = some (.next 0 [iD ((atT y (i + 1) : Nat) : Int), iD ((i + 1 : Nat) : Int)]) := by
      rw [peakR_L3_S_0]
      unfold peakR_L3_S0
      rw [pullD_some (((atT y i : Nat) : Int), (i : Int)) (by rfl) (by rfl)]
      dsimp only
      rw [if_pos (by omega), guardP_pos (by omega), readA hi', pullI, guardP_pos (by omega), readA ha, pullI, natI (by omega)]
      show _ = some (Rd.next 0 [iD (((if at' y i > at' y (atT y i) then i else atT y i) : Nat) : Int), iD ((i + 1 : Nat) : Int)])
      by_cases g : at' y i > at' y (atT y i)
      · rw [if_pos g, if_pos g]
      · rw [if_neg g, if_neg g]
    rw [runR_next st, ih (i + 1) (by omega)]
theorem peakR_eq (re : Int) (f : Q4) (l : List Q4) (st : Int) (y : List Int) (h : RX re y) : m_18 [ruD re f l, reD st y] = some (.tup [iD ((pk y : Nat) : Int), .agg [iD (at' y (pk y) - re), iD (at' y (pk y) + re)]]) := by
  obtain ⟨e0, e1, l3, l64, hb⟩ := h
  have ha : pk y < y.length := atT_lt (y := y) (by omega) (i := y.length) (Nat.le_refl _)
  obtain ⟨b1, b2⟩ := hb _ ha
  rw [m_18_eq]
  unfold peakR_M
  have hr := pkR_go re f.a f.b f.c f.d l.length (cQ l) st y (by omega) (by omega) y.length 0 (by omega)
  have hr : runR (peakR_L3_S re f.a f.b f.c f.d l.length (cQ l) st y.length (y.map iD)) (.next 0 [iD 0, iD 0]) = _ := hr
  rw [bindL_some hr, if_pos rfl, pullD_some ((pk y : Nat) : Int) (by rfl) (by rfl), guardP_pos (by omega), readA ha, pullI, pullI, wrapJ (at' y (pk y) - re) (by omega) (by omega), wrapJ (at' y (pk y) + re) (by omega) (by omega)]
theorem fidx_down {p : Nat → Bool} {n j : Nat} (h : j + 1 ≤ n) : fidx p (n - j) j = if p j = true then (j : Int) else fidx p (n - (j + 1)) (j + 1) := by
  have : n - j = (n - (j + 1)) + 1 := by omega
  rw [this]
  cases hp : p j with
  | true => rw [fidx_true hp, if_pos rfl]
  | false => rw [fidx_false hp, if_neg (by decide)]
theorem lvR_go (re fa fb fc fd : Int) (k : Nat) (c : List D) (st : Int) (y : List Int) (n lo hi : Int) (h : RX re y) (l1 : -10000 ≤ lo) (l2 : lo ≤ 10000) (h1 : -10000 ≤ hi) (h2 : hi ≤ 10000) (n1 : 0 ≤ n) (n2 : n ≤ 10) : ∀ j, j ≤ y.length →
    runR (levelR_L3_S re fa fb fc fd k c st y.length (y.map iD) n lo hi) (.next 0 [iD ((j : Int) - 1), iD (fidx (mayL (rng re y) lo n) (y.length - j) j), iD (fidx (mustL (rng re y) hi n) (y.length - j) j)]) = some (.out 0 [iD (fidx (mayL (rng re y) lo n) y.length 0), iD (fidx (mustL (rng re y) hi n) y.length 0)]) := by
  obtain ⟨e0, e1, l3, l64, hb⟩ := h
  obtain ⟨q1, q2⟩ := mulT l1 l2 n1 n2
  obtain ⟨q3, q4⟩ := mulT h1 h2 n1 n2
  intro j
  induction j with
  | zero =>
    intro _
    refine runR_exit ?_
    rw [levelR_L3_S_0]
    unfold levelR_L3_S0
    rw [pullD_some (((0 : Nat) : Int) - 1, fidx (mayL (rng re y) lo n) (y.length - 0) 0, fidx (mustL (rng re y) hi n) (y.length - 0) 0) (by rfl) (by rfl)]
    dsimp only
    rw [if_neg (by omega), Nat.sub_zero]
  | succ j ih =>
    intro hj
    have hj' : j < y.length := by omega
    obtain ⟨b1, b2⟩ := hb j hj'
    obtain ⟨t1, t2⟩ := rng_ta (e := re) hj'
    have st : levelR_L3_S re fa fb fc fd k c st y.length (y.map iD) n lo hi (.next 0 [iD (((j + 1 : Nat) : Int) - 1), iD (fidx (mayL (rng re y) lo n) (y.length - (j + 1)) (j + 1)), iD (fidx (mustL (rng re y) hi n) (y.length - (j + 1)) (j + 1))]) = some (.next 0 [iD ((j : Int) - 1), iD (fidx (mayL (rng re y) lo n) (y.length - j) j), iD (fidx (mustL (rng re y) hi n) (y.length - j) j)]) := by
      have ep : mayL (rng re y) lo n j = decide (10 * (at' y j + re) ≥ n * lo) := by show decide _ = _; rw [t2]
      have eq' : mustL (rng re y) hi n j = decide (10 * (at' y j - re) ≥ n * hi) := by show decide _ = _; rw [t1]
      rw [fidx_down (p := mayL (rng re y) lo n) hj, fidx_down (p := mustL (rng re y) hi n) hj, ep, eq']
      generalize fidx (mayL (rng re y) lo n) (y.length - (j + 1)) (j + 1) = x
      generalize fidx (mustL (rng re y) hi n) (y.length - (j + 1)) (j + 1) = z
      rw [show ((j + 1 : Nat) : Int) - 1 = (j : Int) by omega, levelR_L3_S_0]
      unfold levelR_L3_S0
      rw [pullD_some ((j : Int), x, z) (by rfl) (by rfl)]
      dsimp only
      rw [if_pos (by omega), guardP_pos (by omega), readA hj', pullI, wrapJ (at' y j + re) (by omega) (by omega), wrapJ (10 * (at' y j + re)) (by omega) (by omega), wrapJ (n * lo) (by omega) (by omega), pullI, pullI, wrapJ (at' y j - re) (by omega) (by omega), wrapJ (10 * (at' y j - re)) (by omega) (by omega), wrapJ (n * hi) (by omega) (by omega), wrapJ ((j : Int) - 1) (by omega) (by omega)]
      by_cases g1 : 10 * (at' y j + re) ≥ n * lo
      · by_cases g2 : 10 * (at' y j - re) ≥ n * hi
        · rw [if_pos g1, if_pos g2, decide_eq_true g1, decide_eq_true g2, if_pos rfl, if_pos rfl]
        · rw [if_pos g1, if_neg g2, decide_eq_true g1, decide_eq_false g2, if_pos rfl, if_neg (by decide)]
      · by_cases g2 : 10 * (at' y j - re) ≥ n * hi
        · rw [if_neg g1, if_pos g2, decide_eq_false g1, decide_eq_true g2, if_neg (by decide), if_pos rfl]
        · rw [if_neg g1, if_neg g2, decide_eq_false g1, decide_eq_false g2, if_neg (by decide), if_neg (by decide)]
    rw [runR_next st, ih (by omega)]
theorem levelR_eq (re : Int) (f : Q4) (l : List Q4) (st : Int) (y : List Int) (n lo hi : Int) (h : RX re y) (l1 : -10000 ≤ lo) (l2 : lo ≤ 10000) (h1 : -10000 ≤ hi) (h2 : hi ≤ 10000) (n1 : 0 ≤ n) (n2 : n ≤ 10) : m_51 [ruD re f l, reD st y, iD n, .agg [iD lo, iD hi]] = some (.agg [iD (fidx (mayL (rng re y) lo n) y.length 0), iD (fidx (mustL (rng re y) hi n) y.length 0)]) := by
  have hl := h.l64
  rw [m_51_eq]
  unfold levelR_M
  have hr := lvR_go re f.a f.b f.c f.d l.length (cQ l) st y n lo hi h l1 l2 h1 h2 n1 n2 y.length (Nat.le_refl _)
  rw [Nat.sub_self] at hr
  have hr : runR (levelR_L3_S re f.a f.b f.c f.d l.length (cQ l) st y.length (y.map iD) n lo hi) (.next 0 [iD ((y.length : Int) - 1), iD (-1), iD (-1)]) = _ := hr
  rw [wrapJ ((y.length : Int) - 1) (by omega) (by omega), bindL_some hr, if_pos rfl, pullD_some (fidx (mayL (rng re y) lo n) y.length 0, fidx (mustL (rng re y) hi n) y.length 0) (by rfl) (by rfl)]
theorem hfR_go (re fa fb fc fd : Int) (k : Nat) (c : List D) (st : Int) (y : List Int) (a : Nat) (lo hi : Int) (h : RX re y) (ha : a < y.length) : ∀ d j, j = a + 1 + d → j ≤ y.length →
    runR (halfR_L3_S re fa fb fc fd k c st y.length (y.map iD) (a : Int) lo hi) (.next 0 [iD ((j : Int) - 1), iD (fidx (mayH (rng re y) hi) (y.length - j) j), iD (fidx (mustH (rng re y) lo) (y.length - j) j)]) = some (.out 0 [iD (fidx (mayH (rng re y) hi) (y.length - (a + 1)) (a + 1)), iD (fidx (mustH (rng re y) lo) (y.length - (a + 1)) (a + 1))]) := by
  obtain ⟨e0, e1, l3, l64, hb⟩ := h
  intro d
  induction d with
  | zero =>
    intro j hj _
    have : j = a + 1 := by omega
    subst this
    refine runR_exit ?_
    rw [halfR_L3_S_0]
    unfold halfR_L3_S0
    rw [pullD_some (((a + 1 : Nat) : Int) - 1, fidx (mayH (rng re y) hi) (y.length - (a + 1)) (a + 1), fidx (mustH (rng re y) lo) (y.length - (a + 1)) (a + 1)) (by rfl) (by rfl)]
    dsimp only
    rw [if_neg (by omega)]
  | succ d ih =>
    intro j' hj0 hj
    obtain ⟨j, rfl⟩ : ∃ j, j' = j + 1 := ⟨j' - 1, by omega⟩
    have hj' : j < y.length := by omega
    obtain ⟨b1, b2⟩ := hb j hj'
    obtain ⟨t1, t2⟩ := rng_ta (e := re) hj'
    have st : halfR_L3_S re fa fb fc fd k c st y.length (y.map iD) (a : Int) lo hi (.next 0 [iD (((j + 1 : Nat) : Int) - 1), iD (fidx (mayH (rng re y) hi) (y.length - (j + 1)) (j + 1)), iD (fidx (mustH (rng re y) lo) (y.length - (j + 1)) (j + 1))]) = some (.next 0 [iD ((j : Int) - 1), iD (fidx (mayH (rng re y) hi) (y.length - j) j), iD (fidx (mustH (rng re y) lo) (y.length - j) j)]) := by
      have ep : mayH (rng re y) hi j = decide (2 * (at' y j - re) ≤ hi) := by show decide _ = _; rw [t1]
      have eq' : mustH (rng re y) lo j = decide (2 * (at' y j + re) ≤ lo) := by show decide _ = _; rw [t2]
      rw [fidx_down (p := mayH (rng re y) hi) hj, fidx_down (p := mustH (rng re y) lo) hj, ep, eq']
      generalize fidx (mayH (rng re y) hi) (y.length - (j + 1)) (j + 1) = x
      generalize fidx (mustH (rng re y) lo) (y.length - (j + 1)) (j + 1) = z
      rw [show ((j + 1 : Nat) : Int) - 1 = (j : Int) by omega, halfR_L3_S_0]
      unfold halfR_L3_S0
      rw [pullD_some ((j : Int), x, z) (by rfl) (by rfl)]
      dsimp only
      rw [if_pos (by omega), guardP_pos (by omega), readA hj', pullI, wrapJ (at' y j - re) (by omega) (by omega), wrapJ (2 * (at' y j - re)) (by omega) (by omega), pullI, pullI, wrapJ (at' y j + re) (by omega) (by omega), wrapJ (2 * (at' y j + re)) (by omega) (by omega), wrapJ ((j : Int) - 1) (by omega) (by omega)]
      by_cases g1 : 2 * (at' y j - re) ≤ hi
      · by_cases g2 : 2 * (at' y j + re) ≤ lo
        · rw [if_pos g1, if_pos g2, decide_eq_true g1, decide_eq_true g2, if_pos rfl, if_pos rfl]
        · rw [if_pos g1, if_neg g2, decide_eq_true g1, decide_eq_false g2, if_pos rfl, if_neg (by decide)]
      · by_cases g2 : 2 * (at' y j + re) ≤ lo
        · rw [if_neg g1, if_pos g2, decide_eq_false g1, decide_eq_true g2, if_neg (by decide), if_pos rfl]
        · rw [if_neg g1, if_neg g2, decide_eq_false g1, decide_eq_false g2, if_neg (by decide), if_neg (by decide)]
    rw [runR_next st, ih j (by omega) (by omega)]
theorem halfR_eq (re : Int) (f : Q4) (l : List Q4) (st : Int) (y : List Int) (a : Nat) (lo hi : Int) (h : RX re y) (ha : a < y.length) : m_52 [ruD re f l, reD st y, iD (a : Int), .agg [iD lo, iD hi]] = some (.agg [iD (fidx (mayH (rng re y) hi) (y.length - (a + 1)) (a + 1)), iD (fidx (mustH (rng re y) lo) (y.length - (a + 1)) (a + 1))]) := by
  have hl := h.l64
  rw [m_52_eq]
  unfold halfR_M
  have hr := hfR_go re f.a f.b f.c f.d l.length (cQ l) st y a lo hi h ha (y.length - (a + 1)) y.length (by omega) (Nat.le_refl _)
  rw [Nat.sub_self] at hr
  have hr : runR (halfR_L3_S re f.a f.b f.c f.d l.length (cQ l) st y.length (y.map iD) (a : Int) lo hi) (.next 0 [iD ((y.length : Int) - 1), iD (-1), iD (-1)]) = _ := hr
  rw [wrapJ ((y.length : Int) - 1) (by omega) (by omega), bindL_some hr, if_pos rfl, pullD_some (fidx (mayH (rng re y) hi) (y.length - (a + 1)) (a + 1), fidx (mustH (rng re y) lo) (y.length - (a + 1)) (a + 1)) (by rfl) (by rfl)]
/-! ### Figures -/
abbrev pLo (e : Int) (y : List Int) : Int := at' y (pk y) - e
abbrev pHi (e : Int) (y : List Int) : Int := at' y (pk y) + e
abbrev l3p (e : Int) (y : List Int) : Int := fidx (mayL (rng e y) (pLo e y) 3) y.length 0
abbrev l3q (e : Int) (y : List Int) : Int := fidx (mustL (rng e y) (pHi e y) 3) y.length 0
abbrev l9p (e : Int) (y : List Int) : Int := fidx (mayL (rng e y) (pLo e y) 9) y.length 0
abbrev l9q (e : Int) (y : List Int) : Int := fidx (mustL (rng e y) (pHi e y) 9) y.length 0
abbrev hp (e : Int) (y : List Int) : Int := fidx (mayH (rng e y) (pHi e y)) (y.length - (pk y + 1)) (pk y + 1)
abbrev hq (e : Int) (y : List Int) : Int := fidx (mustH (rng e y) (pLo e y)) (y.length - (pk y + 1)) (pk y + 1)
def figD (e : Int) (y : List Int) : D := if pLo e y ≤ 0 then .tup [.agg [iD 0, iD 0, iD 0, iD 0, iD 0, iD 0, iD 0, iD 0, iD 0], iD 21] else if l3q e y < 0 ∨ l9q e y < 0 ∨ hq e y < 0 then .tup [.agg [iD 0, iD 0, iD 0, iD 0, iD 0, iD 0, iD 0, iD 0, iD 0], iD 12] else .tup [.agg [iD ((pk y : Nat) : Int), iD (pLo e y), iD (pHi e y), iD (l3p e y), iD (l3q e y), iD (l9p e y), iD (l9q e y), iD (hp e y), iD (hq e y)], iD 0]
def botE (re : Int) (f : Q4) (l : List Q4) (st : Int) (y : List Int) : Int := if rulE re f l = 0 then recE st y else rulE re f l
theorem botE_first (re : Int) (f : Q4) (l : List Q4) (st : Int) (y : List Int) : firstV [rulE re f l, recE st y] = botE re f l st y := by
  unfold botE firstV firstV
  by_cases g : rulE re f l = 0
  · rw [if_pos g, if_pos g]
    split
    · rename_i h; rw [h]; rfl
    · rfl
  · rw [if_neg g, if_neg g]
theorem botE_ok {re : Int} {f : Q4} {l : List Q4} {st : Int} {y : List Int} (h : botE re f l st y = 0) : rulE re f l = 0 ∧ recE st y = 0 := by
  unfold botE at h
  split at h
  · rename_i g; exact ⟨g, h⟩
  · contradiction
theorem bothErr_eq (re : Int) (f : Q4) (l : List Q4) (st : Int) (y : List Int) (hl : l.length ≤ 1000) (hy : y.length ≤ 1000) : m_17 [ruD re f l, reD st y] = some (iD (botE re f l st y)) := by
  rw [m_17_eq]
  unfold bothErr_M botE
  have a1 : m_53 [.agg [iD re, iD f.a, iD f.b, iD f.c, iD f.d, .list l.length (cQ l)]] = _ := rulesErr_eq re f l hl
  have a2 : m_41 [.agg [iD st, .list y.length (y.map iD)]] = _ := recErr_eq st y hy
  rw [a1, pullI, a2, pullI]
  by_cases g : rulE re f l = 0
  · rw [if_neg (fun h => h g), if_pos g]
  · rw [if_pos g, if_neg g]
theorem RX.pb {e : Int} {y : List Int} (h : RX e y) : PB (rng e y) (pLo e y) (pHi e y) := by
  obtain ⟨e0, e1, l3, l64, hb⟩ := h
  have ha : pk y < y.length := atT_lt (y := y) (by omega) (i := y.length) (Nat.le_refl _)
  obtain ⟨b1, b2⟩ := hb _ ha
  have p1 : pLo e y = at' y (pk y) - e := rfl
  have p2 : pHi e y = at' y (pk y) + e := rfl
  refine ⟨by rw [rng_len]; omega, by omega, by omega, by omega, by omega, fun i hi => ?_⟩
  rw [rng_len] at hi
  obtain ⟨t1, t2⟩ := rng_ta (e := e) hi
  obtain ⟨b3, b4⟩ := hb i hi
  rw [t1, t2]
  omega
theorem ta_va {e : Int} (he : 0 ≤ e) (y : List Int) (i : Nat) : ta (rng e y) i ≤ va (rng e y) i := by
  rcases Nat.lt_or_ge i y.length with h | h
  · obtain ⟨t1, t2⟩ := rng_ta (e := e) h
    rw [t1, t2]; omega
  · have : (rng e y)[i]? = none := by rw [List.getElem?_eq_none_iff, rng_len]; exact h
    unfold ta va
    rw [this]
    decide
theorem peakOf_eq (re : Int) (f : Q4) (l : List Q4) (st : Int) (y : List Int) (hl : l.length ≤ 1000) (hy : y.length ≤ 1000) : m_12 [ruD re f l, reD st y] = some (if botE re f l st y = 0 then .tup [iD ((pk y : Nat) : Int), .agg [iD (pLo re y), iD (pHi re y)], iD 0] else .tup [iD 0, .agg [iD 0, iD 0], iD (botE re f l st y)]) := by
  rw [m_12_eq]
  unfold peakOf_M
  have a1 : m_46 [.agg [iD re, iD f.a, iD f.b, iD f.c, iD f.d, .list l.length (cQ l)]] = _ := chkRules_eq re f l hl
  have a2 : m_47 [.agg [iD st, .list y.length (y.map iD)]] = _ := chkRecord_eq st y hy
  rw [a1, pullI, a2, pullI, f2, botE_first, pullI]
  by_cases g : botE re f l st y = 0
  · obtain ⟨g1, g2⟩ := botE_ok g
    have a3 : m_48 [.agg [iD re, iD f.a, iD f.b, iD f.c, iD f.d, .list l.length (cQ l)], .agg [iD st, .list y.length (y.map iD)]] = _ := samples_eq re f l st y (RX.of g1 g2)
    rw [if_neg (fun h => h g), if_pos g, a3, pullD_some ((rng re y).length, cP (rng re y), ((pk y : Nat) : Int), pLo re y, pHi re y) (by rfl) (by rfl)]
  · rw [if_pos g, if_neg g]
theorem figuresOf_eq (re : Int) (f : Q4) (l : List Q4) (st : Int) (y : List Int) (hl : l.length ≤ 1000) (hy : y.length ≤ 1000) : m_15 [ruD re f l, reD st y] = some (if botE re f l st y = 0 then figD re y else .tup [.agg [iD 0, iD 0, iD 0, iD 0, iD 0, iD 0, iD 0, iD 0, iD 0], iD (botE re f l st y)]) := by
  rw [m_15_eq]
  unfold figuresOf_M
  have a1 : m_46 [.agg [iD re, iD f.a, iD f.b, iD f.c, iD f.d, .list l.length (cQ l)]] = _ := chkRules_eq re f l hl
  have a2 : m_47 [.agg [iD st, .list y.length (y.map iD)]] = _ := chkRecord_eq st y hy
  rw [a1, pullI, a2, pullI, f2, botE_first, pullI]
  by_cases g : botE re f l st y = 0
  · obtain ⟨g1, g2⟩ := botE_ok g
    have hx := RX.of g1 g2
    have hpb := hx.pb
    have hpk : pk y < y.length := atT_lt (y := y) (by have := hx.l3; omega) (i := y.length) (Nat.le_refl _)
    have a3 : m_48 [.agg [iD re, iD f.a, iD f.b, iD f.c, iD f.d, .list l.length (cQ l)], .agg [iD st, .list y.length (y.map iD)]] = _ := samples_eq re f l st y hx
    have a4 : m_49 [.agg [.list (rng re y).length (cP (rng re y)), iD ((pk y : Nat) : Int), iD (pLo re y), iD (pHi re y)], iD 3] = _ := levelW_eq (pk y) 3 hpb (by decide) (by decide)
    have a5 : m_49 [.agg [.list (rng re y).length (cP (rng re y)), iD ((pk y : Nat) : Int), iD (pLo re y), iD (pHi re y)], iD 9] = _ := levelW_eq (pk y) 9 hpb (by decide) (by decide)
    have a6 : m_50 [.agg [.list (rng re y).length (cP (rng re y)), iD ((pk y : Nat) : Int), iD (pLo re y), iD (pHi re y)]] = _ := halfW_eq (pk y) (by rw [rng_len]; exact hpk) hpb
    rw [rng_len] at a4 a5 a6
    rw [if_neg (fun h => h g), if_pos g, a3, pullD_some ((rng re y).length, cP (rng re y), ((pk y : Nat) : Int), pLo re y, pHi re y) (by rfl) (by rfl)]
    dsimp only
    unfold figD
    by_cases h0 : pLo re y ≤ 0
    · rw [if_pos h0, if_pos h0]
    rw [if_neg h0, if_neg h0, rng_len, a4, pullD_some (l3p re y, l3q re y, decide (0 ≤ l3q re y)) (by rfl) (by rfl)]
    dsimp only
    rw [a5, pullD_some (l9p re y, l9q re y, decide (0 ≤ l9q re y)) (by rfl) (by rfl)]
    dsimp only
    have s1 := fidx_shift (mayH (rng re y) (pHi re y)) (pk y + 1) (y.length - (pk y + 1)) 0
    have s2 := fidx_shift (mustH (rng re y) (pLo re y)) (pk y + 1) (y.length - (pk y + 1)) 0
    rw [Nat.add_zero] at s1 s2
    have s1 : fidx (fun j => mayH (rng re y) (pHi re y) ((pk y + 1) + j)) (y.length - (pk y + 1)) 0 = if hp re y < 0 then -1 else hp re y - ((pk y + 1 : Nat) : Int) := s1
    have s2 : fidx (fun j => mustH (rng re y) (pLo re y) ((pk y + 1) + j)) (y.length - (pk y + 1)) 0 = if hq re y < 0 then -1 else hq re y - ((pk y + 1 : Nat) : Int) := s2
    have im : 0 ≤ hq re y → 0 ≤ hp re y := fun h => fidx_imp (p := mayH (rng re y) (pHi re y)) (q := mustH (rng re y) (pLo re y)) (fun i hi => by
      have h1 := ta_va hx.e0 y i
      have he := hx.e0
      have p1 : pLo re y = at' y (pk y) - re := rfl
      have p2 : pHi re y = at' y (pk y) + re := rfl
      simp only [decide_eq_true_eq] at hi ⊢
      omega) h
    rw [a6]
    generalize hz : fidx (fun j => mustH (rng re y) (pLo re y) ((pk y + 1) + j)) (y.length - (pk y + 1)) 0 = z at *
    generalize hw : fidx (fun j => mayH (rng re y) (pHi re y) ((pk y + 1) + j)) (y.length - (pk y + 1)) 0 = w at *
    rw [pullD_some (((pk y : Nat) : Int) + 1 + w, ((pk y : Nat) : Int) + 1 + z, decide (0 ≤ z)) (by rfl) (by rfl)]
    dsimp only
    by_cases c1 : l3q re y < 0
    · rw [if_pos (by simp; omega), if_pos (.inl c1)]
    rw [if_neg (by simp; omega)]
    by_cases c2 : l9q re y < 0
    · rw [if_pos (by simp; omega), if_pos (.inr (.inl c2))]
    rw [if_neg (by simp; omega)]
    by_cases c3 : hq re y < 0
    · rw [if_pos c3] at s2
      rw [if_pos (by simp; omega), if_pos (.inr (.inr c3))]
    · rw [if_neg c3] at s2
      have c4 := im (by omega)
      rw [if_neg (show ¬ hp re y < 0 by omega)] at s1
      have hq0 : hq re y = -1 ∨ (((pk y + 1 : Nat) : Int) ≤ hq re y ∧ _) := fidx_range (mustH (rng re y) (pLo re y)) (y.length - (pk y + 1)) (pk y + 1)
      have e1 : ((pk y : Nat) : Int) + 1 + w = hp re y := by rw [s1]; omega
      have e2 : ((pk y : Nat) : Int) + 1 + z = hq re y := by rw [s2]; omega
      rw [if_neg (by
        simp only [decide_eq_false_iff_not, Decidable.not_not]
        rcases hq0 with h9 | ⟨h9, -⟩
        · exact absurd h9 (by omega)
        · rw [s2]; omega), e1, e2, if_neg (by omega)]
  · rw [if_pos g, if_neg g]
theorem figuresR_eq (re : Int) (f : Q4) (l : List Q4) (st : Int) (y : List Int) (hl : l.length ≤ 1000) (hy : y.length ≤ 1000) : m_16 [ruD re f l, reD st y] = some (if botE re f l st y = 0 then figD re y else .tup [.agg [iD 0, iD 0, iD 0, iD 0, iD 0, iD 0, iD 0, iD 0, iD 0], iD (botE re f l st y)]) := by
  rw [m_16_eq]
  unfold figuresR_M
  have a1 : m_17 [.agg [iD re, iD f.a, iD f.b, iD f.c, iD f.d, .list l.length (cQ l)], .agg [iD st, .list y.length (y.map iD)]] = _ := bothErr_eq re f l st y hl hy
  rw [a1, pullI]
  by_cases g : botE re f l st y = 0
  · obtain ⟨g1, g2⟩ := botE_ok g
    have hx := RX.of g1 g2
    have hpb := hx.pb
    have hpk : pk y < y.length := atT_lt (y := y) (by have := hx.l3; omega) (i := y.length) (Nat.le_refl _)
    have a3 : m_18 [.agg [iD re, iD f.a, iD f.b, iD f.c, iD f.d, .list l.length (cQ l)], .agg [iD st, .list y.length (y.map iD)]] = _ := peakR_eq re f l st y hx
    have a4 : m_51 [.agg [iD re, iD f.a, iD f.b, iD f.c, iD f.d, .list l.length (cQ l)], .agg [iD st, .list y.length (y.map iD)], iD 3, .agg [iD (pLo re y), iD (pHi re y)]] = _ := levelR_eq re f l st y 3 (pLo re y) (pHi re y) hx hpb.l1 hpb.l2 hpb.h1 hpb.h2 (by decide) (by decide)
    have a5 : m_51 [.agg [iD re, iD f.a, iD f.b, iD f.c, iD f.d, .list l.length (cQ l)], .agg [iD st, .list y.length (y.map iD)], iD 9, .agg [iD (pLo re y), iD (pHi re y)]] = _ := levelR_eq re f l st y 9 (pLo re y) (pHi re y) hx hpb.l1 hpb.l2 hpb.h1 hpb.h2 (by decide) (by decide)
    have a6 : m_52 [.agg [iD re, iD f.a, iD f.b, iD f.c, iD f.d, .list l.length (cQ l)], .agg [iD st, .list y.length (y.map iD)], iD ((pk y : Nat) : Int), .agg [iD (pLo re y), iD (pHi re y)]] = _ := halfR_eq re f l st y (pk y) (pLo re y) (pHi re y) hx hpk
    rw [if_neg (fun h => h g), if_pos g, a3, pullD_some (((pk y : Nat) : Int), pLo re y, pHi re y) (by rfl) (by rfl)]
    dsimp only
    unfold figD
    by_cases h0 : pLo re y ≤ 0
    · rw [if_pos h0, if_pos h0]
    rw [if_neg h0, if_neg h0, a4, pullD_some (l3p re y, l3q re y) (by rfl) (by rfl)]
    dsimp only
    rw [a5, pullD_some (l9p re y, l9q re y) (by rfl) (by rfl)]
    dsimp only
    rw [a6, pullD_some (hp re y, hq re y) (by rfl) (by rfl)]
    dsimp only
    by_cases c1 : l3q re y < 0
    · rw [if_pos c1, if_pos (.inl c1)]
    rw [if_neg c1]
    by_cases c2 : l9q re y < 0
    · rw [if_pos c2, if_pos (.inr (.inl c2))]
    rw [if_neg c2]
    by_cases c3 : hq re y < 0
    · rw [if_pos c3, if_pos (.inr (.inr c3))]
    · rw [if_neg c3, if_neg (by omega)]
  · rw [if_pos g, if_neg g]
theorem figD_in (e : Int) (y : List Int) : ∃ a b c d u v w x z r : Int, figD e y = .tup [.agg [iD a, iD b, iD c, iD d, iD u, iD v, iD w, iD x, iD z], iD r] := by
  unfold figD
  split
  · exact ⟨_, _, _, _, _, _, _, _, _, _, rfl⟩
  split
  · exact ⟨_, _, _, _, _, _, _, _, _, _, rfl⟩
  · exact ⟨_, _, _, _, _, _, _, _, _, _, rfl⟩
theorem law3_eq (re : Int) (f : Q4) (l : List Q4) (st : Int) (y : List Int) : m_3 [ruD re f l, reD st y] = some (.one (.bool true)) := by
  rw [m_3_eq]
  unfold law3_M
  have a1 : m_10 [.agg [iD st, .list y.length (y.map iD)]] = _ := few_eq st y
  have a2 : m_11 [.agg [iD re, iD f.a, iD f.b, iD f.c, iD f.d, .list l.length (cQ l)]] = _ := fewF_eq re f l
  rw [m_9_eq, pullB, if_neg (by decide), a1, pullB]
  by_cases g1 : ¬ (y.length : Int) ≤ 70
  · rw [if_pos (by simpa using g1)]
  have g1 := Classical.not_not.1 g1
  rw [if_neg (by simpa using g1), a2, pullB]
  by_cases g2 : ¬ (l.length : Int) ≤ 6
  · rw [if_pos (by simpa using g2)]
  have g2 := Classical.not_not.1 g2
  have hl : l.length ≤ 1000 := by omega
  have hy : y.length ≤ 1000 := by omega
  have a3 : m_13 [.agg [iD re, iD f.a, iD f.b, iD f.c, iD f.d, .list l.length (cQ l)]] = _ := copyRules_eq re f l hl
  have a4 : m_14 [.agg [iD st, .list y.length (y.map iD)]] = _ := copyRecord_eq st y hy
  have a5 : m_12 [.agg [iD re, iD f.a, iD f.b, iD f.c, iD f.d, .list l.length (cQ l)], .agg [iD st, .list y.length (y.map iD)]] = _ := peakOf_eq re f l st y hl hy
  have a6 : m_15 [.agg [iD re, iD f.a, iD f.b, iD f.c, iD f.d, .list l.length (cQ l)], .agg [iD st, .list y.length (y.map iD)]] = _ := figuresOf_eq re f l st y hl hy
  have a7 : m_16 [.agg [iD re, iD f.a, iD f.b, iD f.c, iD f.d, .list l.length (cQ l)], .agg [iD st, .list y.length (y.map iD)]] = _ := figuresR_eq re f l st y hl hy
  have a8 : m_17 [.agg [iD re, iD f.a, iD f.b, iD f.c, iD f.d, .list l.length (cQ l)], .agg [iD st, .list y.length (y.map iD)]] = _ := bothErr_eq re f l st y hl hy
  rw [if_neg (by simpa using g2), a3, pullD_some (re, f.a, f.b, f.c, f.d, l.length, cQ l) (by rfl) (by rfl)]
  dsimp only
  rw [a4, pullD_some (st, y.length, y.map iD) (by rfl) (by rfl)]
  dsimp only
  rw [a5]
  by_cases g : botE re f l st y = 0
  · obtain ⟨h1, h2⟩ := botE_ok g
    have a9 : m_18 [.agg [iD re, iD f.a, iD f.b, iD f.c, iD f.d, .list l.length (cQ l)], .agg [iD st, .list y.length (y.map iD)]] = _ := peakR_eq re f l st y (RX.of h1 h2)
    obtain ⟨a, b, c, d, u, v, w, x, z, r, hfig⟩ := figD_in re y
    rw [if_pos g] at a6 a7
    rw [hfig] at a6 a7
    rw [if_pos g, pullD_some (((pk y : Nat) : Int), pLo re y, pHi re y, (0 : Int)) (by rfl) (by rfl)]
    dsimp only
    rw [pullD_some (re, f.a, f.b, f.c, f.d, l.length, cQ l) (by rfl) (by rfl)]
    dsimp only
    rw [pullD_some (st, y.length, y.map iD) (by rfl) (by rfl)]
    dsimp only
    rw [a6, pullD_some (a, b, c, d, u, v, w, x, z, r) (by rfl) (by rfl)]
    dsimp only
    rw [a7, pullD_some (a, b, c, d, u, v, w, x, z, r) (by rfl) (by rfl)]
    dsimp only
    rw [if_neg (by simp), if_neg (by simp), a8, pullI, g, if_neg (by simp), a9, pullD_some (((pk y : Nat) : Int), pLo re y, pHi re y) (by rfl) (by rfl)]
    dsimp only
    rw [if_pos rfl, if_pos rfl]
    simp
  · rw [if_neg g] at a6 a7
    rw [if_neg g, pullD_some ((0 : Int), (0 : Int), (0 : Int), botE re f l st y) (by rfl) (by rfl)]
    dsimp only
    rw [pullD_some (re, f.a, f.b, f.c, f.d, l.length, cQ l) (by rfl) (by rfl)]
    dsimp only
    rw [pullD_some (st, y.length, y.map iD) (by rfl) (by rfl)]
    dsimp only
    rw [a6, pullD_some ((0 : Int), (0 : Int), (0 : Int), (0 : Int), (0 : Int), (0 : Int), (0 : Int), (0 : Int), (0 : Int), botE re f l st y) (by rfl) (by rfl)]
    dsimp only
    rw [a7, pullD_some ((0 : Int), (0 : Int), (0 : Int), (0 : Int), (0 : Int), (0 : Int), (0 : Int), (0 : Int), (0 : Int), botE re f l st y) (by rfl) (by rfl)]
    dsimp only
    rw [if_neg (by simp), if_neg (by simp), a8, pullI, if_pos g, if_pos rfl, if_pos rfl]
    simp
theorem law3_con (re : Int) (f : Q4) (l : List Q4) (st : Int) (y : List Int) : Con 3 [ruD re f l, reD st y] (.one (.bool true)) := m_3_ok (law3_eq re f l st y)
end Go.Proofs.Ytmohaohdbklkeaa
/- Whatever the true samples are. -/
namespace Go.Proofs.Ytmohaohdbklkeaa
open Go.Ev Go.RowKit
set_option maxRecDepth 100000
/-- Why figures are refused. -/
def figE (ga pl ph tl th nl nh ul uh : Int) : Int := if (0 ≤ ga ∧ ga ≤ 63 ∧ 1 ≤ pl ∧ pl ≤ 4196 ∧ 1 ≤ ph ∧ ph ≤ 4196 ∧ 0 ≤ tl ∧ tl ≤ 63 ∧ 0 ≤ th ∧ th ≤ 63 ∧ 0 ≤ nl ∧ nl ≤ 63 ∧ 0 ≤ nh ∧ nh ≤ 63 ∧ 0 ≤ ul ∧ ul ≤ 63 ∧ 0 ≤ uh ∧ uh ≤ 63) then (if pl ≤ ph ∧ tl ≤ th ∧ nl ≤ nh ∧ ul ≤ uh then 0 else 9) else 2
theorem figErr_eq (ga pl ph tl th nl nh ul uh : Int) : m_31 [.agg [iD ga, iD pl, iD ph, iD tl, iD th, iD nl, iD nh, iD ul, iD uh]] = some (iD (figE ga pl ph tl th nl nh ul uh)) := by
  rw [m_31_eq]
  unfold figErr_M figE
  simp only [within_eq, pullB, decide_eq_false_iff_not]
  by_cases a : 0 ≤ ga ∧ ga ≤ 63 ∧ 1 ≤ pl ∧ pl ≤ 4196 ∧ 1 ≤ ph ∧ ph ≤ 4196 ∧ 0 ≤ tl ∧ tl ≤ 63 ∧ 0 ≤ th ∧ th ≤ 63 ∧ 0 ≤ nl ∧ nl ≤ 63 ∧ 0 ≤ nh ∧ nh ≤ 63 ∧ 0 ≤ ul ∧ ul ≤ 63 ∧ 0 ≤ uh ∧ uh ≤ 63
  · rw [if_pos a, if_neg (by omega), if_neg (by omega), if_neg (by omega), if_neg (by omega), if_neg (by omega), if_neg (by omega), if_neg (by omega), if_neg (by omega), if_neg (by omega)]
    repeat' split
    all_goals first | rfl | (exfalso; omega)
  · rw [if_neg a]
    by_cases q0 : ¬ (0 ≤ ga ∧ ga ≤ 63)
    · rw [if_pos q0]
    rw [if_neg q0]
    by_cases q1 : ¬ (1 ≤ pl ∧ pl ≤ 4196)
    · rw [if_pos q1]
    rw [if_neg q1]
    by_cases q2 : ¬ (1 ≤ ph ∧ ph ≤ 4196)
    · rw [if_pos q2]
    rw [if_neg q2]
    by_cases q3 : ¬ (0 ≤ tl ∧ tl ≤ 63)
    · rw [if_pos q3]
    rw [if_neg q3]
    by_cases q4 : ¬ (0 ≤ th ∧ th ≤ 63)
    · rw [if_pos q4]
    rw [if_neg q4]
    by_cases q5 : ¬ (0 ≤ nl ∧ nl ≤ 63)
    · rw [if_pos q5]
    rw [if_neg q5]
    by_cases q6 : ¬ (0 ≤ nh ∧ nh ≤ 63)
    · rw [if_pos q6]
    rw [if_neg q6]
    by_cases q7 : ¬ (0 ≤ ul ∧ ul ≤ 63)
    · rw [if_pos q7]
    rw [if_neg q7]
    by_cases q8 : ¬ (0 ≤ uh ∧ uh ≤ 63)
    · rw [if_pos q8]
    rw [if_neg q8]
    exfalso; omega
theorem fidx_mono {p q : Nat → Bool} : ∀ {m i : Nat}, (∀ j, i ≤ j → j < i + m → q j = true → p j = true) → 0 ≤ fidx q m i → 0 ≤ fidx p m i ∧ fidx p m i ≤ fidx q m i
  | 0, i, _, h => absurd h (by unfold fidx; decide)
  | m + 1, i, hpq, h => by
    cases hp : p i with
    | true =>
      rw [fidx_true hp]
      rcases fidx_range q (m + 1) i with e | ⟨a, -⟩
      · omega
      · omega
    | false =>
      have hq : q i = false := by
        cases hq : q i with
        | false => rfl
        | true => rw [hpq i (Nat.le_refl _) (by omega) hq] at hp; cases hp
      rw [fidx_false hq] at h ⊢
      rw [fidx_false hp]
      exact fidx_mono (fun j h1 h2 => hpq j (by omega) (by omega)) h
theorem fidx_skip {p : Nat → Bool} : ∀ (d : Nat) {m i : Nat}, (∀ j, i ≤ j → j < i + d → p j = false) → fidx p (d + m) i = fidx p m (i + d)
  | 0, m, i, _ => by rw [Nat.zero_add, Nat.add_zero]
  | d + 1, m, i, h => by
    rw [show d + 1 + m = (d + m) + 1 by omega, fidx_false (h i (Nat.le_refl _) (by omega)), fidx_skip d (fun j h1 h2 => h j (by omega) (by omega)), show i + 1 + d = i + (d + 1) by omega]
/-! ### True samples -/
def mo (x m : Int) : Int := if x.tmod m < 0 then x.tmod m + m else x.tmod m
theorem mo_eq {x m : Int} (hm : 0 < m) (h2 : m ≤ 1000) : m_32 [iD x, iD m] = some (iD (mo x m)) ∧ 0 ≤ mo x m ∧ mo x m < m := by
  rw [m_32_eq]
  unfold mod_M mo
  have hb : (x.tmod m).natAbs < m.natAbs := by rw [Int.natAbs_tmod]; exact Nat.mod_lt _ (by omega)
  rw [guardP_pos (by omega)]
  by_cases h : x.tmod m < 0
  · rw [if_pos h, if_pos h, wrapJ _ (by omega) (by omega)]
    exact ⟨rfl, by omega, by omega⟩
  · rw [if_neg h, if_neg h]
    exact ⟨rfl, by omega, by omega⟩
def tF (e : Int) (y w : List Int) (i : Nat) : Int := at' y i - e + mo (at' w i) (2 * e + 1)
theorem tF_in {e : Int} (y w : List Int) (i : Nat) (h1 : 0 ≤ e) (h2 : e ≤ 100) : at' y i - e ≤ tF e y w i ∧ tF e y w i ≤ at' y i + e := by
  obtain ⟨-, a, b⟩ := mo_eq (x := at' w i) (m := 2 * e + 1) (by omega) (by omega)
  unfold tF
  omega
theorem growT (n : Nat) (g : Nat → Int) : D.list ((tab n g).length + (0 + 1)) (List.append (List.take ((tab n g).length * 1) ((tab n g).map iD)) [dCell (.int .i64 (g n))]) = lD (tab (n + 1) g) := by
  have e1 : List.take ((tab n g).length * 1) ((tab n g).map iD) = (tab n g).map iD := by
    rw [Nat.mul_one]
    have : (tab n g).length = ((tab n g).map iD).length := by simp
    rw [this]; exact List.take_length
  have e2 : (tab (n + 1) g).length = (tab n g).length + (0 + 1) := by rw [tab_len, tab_len]
  unfold lD
  rw [e1, e2, tab_succ, List.map_append]
  rfl
theorem t_go {re : Int} {y w : List Int} (h : RX re y) (hw : y.length ≤ w.length) (hw2 : w.length ≤ 1000) (S : Rd → Option Rd) (hS : ∃ (fa fb fc fd : Int) (k : Nat) (c : List D) (st : Int) (x0 : Bool) (x1 : Bool) (x2 : Int) (x3 : Int) (x4 : Int) (x5 : Int) (x6 : Int) (x7 : Int) (x8 : Nat) (x9 : List D) (x10 : Int) (x11 : Nat) (x12 : List D) (x13 : Int) (x14 : Int) (x15 : Int) (x16 : Int) (x17 : Int) (x18 : Int) (x19 : Int) (x20 : Int) (x21 : Int) (x22 : Int) (x23 : Int), ∀ ds, S (.next 0 ds) = law6_L12_S0 re fa fb fc fd k c st y.length (y.map iD) w.length (w.map iD) x0 x1 x2 x3 x4 x5 x6 x7 x8 x9 x10 x11 x12 x13 x14 x15 x16 x17 x18 x19 x20 x21 x22 x23 ds) : ∀ m i, i + m = y.length → 0 < i →
    runR S (.next 0 [lD (tab i (tF re y w)), iD (i : Int)]) = some (.out 0 [lD (tab y.length (tF re y w))]) := by
  obtain ⟨e0, e1, l3, l64, hb⟩ := h
  obtain ⟨fa, fb, fc, fd, k, c, st, x0, x1, x2, x3, x4, x5, x6, x7, x8, x9, x10, x11, x12, x13, x14, x15, x16, x17, x18, x19, x20, x21, x22, x23, hS⟩ := hS
  intro m
  induction m with
  | zero =>
    intro i hi _
    have : i = y.length := by omega
    subst this
    refine runR_exit ?_
    rw [hS]
    unfold law6_L12_S0
    rw [pullD_some ((tab y.length (tF re y w)).length, (tab y.length (tF re y w)).map iD, (y.length : Int)) (by rfl) (by rfl)]
    dsimp only
    rw [if_neg (by omega)]
  | succ m ih =>
    intro i hi h0
    have hi' : i < y.length := by omega
    obtain ⟨b1, b2⟩ := hb i hi'
    obtain ⟨m1, m2, m3⟩ := mo_eq (x := at' w i) (m := 2 * re + 1) (by omega) (by omega)
    have hf : at' y i - re + mo (at' w i) (2 * re + 1) = tF re y w i := rfl
    have st : S (.next 0 [lD (tab i (tF re y w)), iD (i : Int)]) = some (.next 0 [lD (tab (i + 1) (tF re y w)), iD ((i + 1 : Nat) : Int)]) := by
      rw [hS]
      unfold law6_L12_S0
      rw [pullD_some ((tab i (tF re y w)).length, (tab i (tF re y w)).map iD, (i : Int)) (by rfl) (by rfl)]
      dsimp only
      rw [if_pos (by omega), guardP_pos (by omega), readA hi', pullI, guardP_pos (by omega), readA (show i < w.length by omega), pullI, wrapJ (2 * re) (by omega) (by omega), wrapJ (2 * re + 1) (by omega) (by omega), m1, pullI, wrapJ (at' y i - re) (by omega) (by omega), wrapJ (at' y i - re + mo (at' w i) (2 * re + 1)) (by omega) (by omega), hf, guardP_pos ⟨cells_int [tF re y w i], by simp, by rw [tab_len]; omega, by rw [tab_len]; omega⟩, growT, natI (by omega)]
    rw [runR_next st, ih (i + 1) (by omega) (by omega)]
/-- The maximum so far. -/
def mxT (g : Nat → Int) : Nat → Int
  | 0 => g 0
  | i + 1 => if g i > mxT g i then g i else mxT g i
theorem mxT_spec (g : Nat → Int) : ∀ i, (∀ j, j < i → g j ≤ mxT g i) ∧ ∃ j, (j < i ∨ j = 0) ∧ mxT g i = g j
  | 0 => ⟨fun j h => by omega, 0, .inr rfl, rfl⟩
  | i + 1 => by
    obtain ⟨h1, k, h2, h3⟩ := mxT_spec g i
    unfold mxT
    by_cases c : g i > mxT g i
    · rw [if_pos c]
      refine ⟨fun j hj => ?_, i, .inl (by omega), rfl⟩
      rcases Nat.lt_or_ge j i with h | h
      · have := h1 j h; omega
      · have : j = i := by omega
        subst this; omega
    · rw [if_neg c]
      refine ⟨fun j hj => ?_, k, by omega, h3⟩
      rcases Nat.lt_or_ge j i with h | h
      · exact h1 j h
      · have : j = i := by omega
        subst this; omega
theorem mx_go (g : Nat → Int) (n : Nat) (hn : n ≤ 1000) (S : Rd → Option Rd) (hS : ∃ (re fa fb fc fd : Int) (k : Nat) (c : List D) (st : Int) (kb : Nat) (cb : List D) (kd : Nat) (cd : List D) (x0 : Bool) (x1 : Bool) (x2 : Int) (x3 : Int) (x4 : Int) (x5 : Int) (x6 : Int) (x7 : Int) (x8 : Nat) (x9 : List D) (x10 : Int) (x11 : Nat) (x12 : List D) (x13 : Int) (x14 : Int) (x15 : Int) (x16 : Int) (x17 : Int) (x18 : Int) (x19 : Int) (x20 : Int) (x21 : Int) (x22 : Int) (x23 : Int) (x26 : Int), ∀ ds, S (.next 0 ds) = law6_L17_S0 re fa fb fc fd k c st kb cb kd cd x0 x1 x2 x3 x4 x5 x6 x7 x8 x9 x10 x11 x12 x13 x14 x15 x16 x17 x18 x19 x20 x21 x22 x23 n ((tab n g).map iD) x26 ds) : ∀ m i, i + m = n →
    runR S (.next 0 [iD (mxT g i), iD (i : Int)]) = some (.out 0 [iD (mxT g n)]) := by
  obtain ⟨re, fa, fb, fc, fd, k, c, st, kb, cb, kd, cd, x0, x1, x2, x3, x4, x5, x6, x7, x8, x9, x10, x11, x12, x13, x14, x15, x16, x17, x18, x19, x20, x21, x22, x23, x26, hS⟩ := hS
  intro m
  induction m with
  | zero =>
    intro i hi
    have : i = n := by omega
    subst this
    refine runR_exit ?_
    rw [hS]
    unfold law6_L17_S0
    rw [pullD_some (mxT g i, (i : Int)) (by rfl) (by rfl)]
    dsimp only
    rw [if_neg (by omega)]
  | succ m ih =>
    intro i hi
    have hi' : i < n := by omega
    have st : S (.next 0 [iD (mxT g i), iD (i : Int)]) = some (.next 0 [iD (mxT g (i + 1)), iD ((i + 1 : Nat) : Int)]) := by
      rw [hS]
      unfold law6_L17_S0
      rw [pullD_some (mxT g i, (i : Int)) (by rfl) (by rfl)]
      dsimp only
      rw [if_pos (by omega), guardP_pos (by omega), show ((i : Int).toNat) = i from rfl, readM0 g hi', pullI, natI (by omega)]
      rfl
    rw [runR_next st, ih (i + 1) (by omega)]
abbrev gL (g : Nat → Int) (m k : Int) : Nat → Bool := fun i => decide (10 * g i ≥ k * m)
abbrev gH (g : Nat → Int) (m : Int) (a : Nat) : Nat → Bool := fun i => decide (a < i ∧ 2 * g i ≤ m)
theorem lv_go (g : Nat → Int) (n a : Nat) (mx : Int) (hn : n ≤ 1000) (hg : ∀ i, i < n → -10000 ≤ g i ∧ g i ≤ 10000) (m1 : -10000 ≤ mx) (m2 : mx ≤ 10000) (S : Rd → Option Rd) (hS : ∃ (re fa fb fc fd : Int) (k : Nat) (c : List D) (st : Int) (kb : Nat) (cb : List D) (kd : Nat) (cd : List D) (x0 : Bool) (x1 : Bool) (x2 : Int) (x3 : Int) (x4 : Int) (x5 : Int) (x6 : Int) (x7 : Int) (x8 : Nat) (x9 : List D) (x10 : Int) (x11 : Nat) (x12 : List D) (x14 : Int) (x15 : Int) (x16 : Int) (x17 : Int) (x18 : Int) (x19 : Int) (x20 : Int) (x21 : Int) (x22 : Int) (x23 : Int) (x26 : Int), ∀ ds, S (.next 0 ds) = law6_L22_S0 re fa fb fc fd k c st kb cb kd cd x0 x1 x2 x3 x4 x5 x6 x7 x8 x9 x10 x11 x12 (a : Int) x14 x15 x16 x17 x18 x19 x20 x21 x22 x23 n ((tab n g).map iD) x26 mx ds) : ∀ j, j ≤ n →
    runR S (.next 0 [iD (fidx (gL g mx 3) (n - j) j), iD (fidx (gL g mx 9) (n - j) j), iD (fidx (gH g mx a) (n - j) j), iD ((j : Int) - 1)]) = some (.out 0 [iD (fidx (gL g mx 3) n 0), iD (fidx (gL g mx 9) n 0), iD (fidx (gH g mx a) n 0)]) := by
  obtain ⟨re, fa, fb, fc, fd, k, c, st, kb, cb, kd, cd, x0, x1, x2, x3, x4, x5, x6, x7, x8, x9, x10, x11, x12, x14, x15, x16, x17, x18, x19, x20, x21, x22, x23, x26, hS⟩ := hS
  intro j
  induction j with
  | zero =>
    intro _
    refine runR_exit ?_
    rw [hS]
    unfold law6_L22_S0
    rw [pullD_some (fidx (gL g mx 3) (n - 0) 0, fidx (gL g mx 9) (n - 0) 0, fidx (gH g mx a) (n - 0) 0, ((0 : Nat) : Int) - 1) (by rfl) (by rfl)]
    dsimp only
    rw [if_neg (by omega), Nat.sub_zero]
  | succ j ih =>
    intro hj
    have hj' : j < n := by omega
    obtain ⟨b1, b2⟩ := hg j hj'
    have st : S (.next 0 [iD (fidx (gL g mx 3) (n - (j + 1)) (j + 1)), iD (fidx (gL g mx 9) (n - (j + 1)) (j + 1)), iD (fidx (gH g mx a) (n - (j + 1)) (j + 1)), iD (((j + 1 : Nat) : Int) - 1)]) = some (.next 0 [iD (fidx (gL g mx 3) (n - j) j), iD (fidx (gL g mx 9) (n - j) j), iD (fidx (gH g mx a) (n - j) j), iD ((j : Int) - 1)]) := by
      rw [fidx_down (p := gL g mx 3) hj, fidx_down (p := gL g mx 9) hj, fidx_down (p := gH g mx a) hj]
      generalize fidx (gL g mx 3) (n - (j + 1)) (j + 1) = x
      generalize fidx (gL g mx 9) (n - (j + 1)) (j + 1) = z
      generalize fidx (gH g mx a) (n - (j + 1)) (j + 1) = v
      rw [show ((j + 1 : Nat) : Int) - 1 = (j : Int) by omega, hS]
      unfold law6_L22_S0
      rw [pullD_some (x, z, v, (j : Int)) (by rfl) (by rfl)]
      dsimp only
      rw [if_pos (by omega), guardP_pos (by omega), show ((j : Int).toNat) = j from rfl, readM0 g hj']
      simp only [pullI]
      rw [wrapJ (10 * g j) (by omega) (by omega), wrapJ (3 * mx) (by omega) (by omega), wrapJ (9 * mx) (by omega) (by omega), wrapJ (2 * g j) (by omega) (by omega), wrapJ ((j : Int) - 1) (by omega) (by omega)]
      by_cases c1 : 10 * g j ≥ 3 * mx <;> by_cases c2 : 10 * g j ≥ 9 * mx <;> by_cases c3 : a < j <;> by_cases c4 : 2 * g j ≤ mx <;> simp [gL, gH, c1, c2, c3, c4]
    rw [runR_next st, ih (by omega)]
theorem atT_max (y : List Int) : ∀ i j, j < i → at' y j ≤ at' y (atT y i)
  | 0, j, h => by omega
  | i + 1, j, h => by
    unfold atT
    by_cases c : at' y i > at' y (atT y i)
    · rw [if_pos c]
      rcases Nat.lt_or_ge j i with h2 | h2
      · have := atT_max y i j h2; omega
      · have : j = i := by omega
        subst this; omega
    · rw [if_neg c]
      rcases Nat.lt_or_ge j i with h2 | h2
      · exact atT_max y i j h2
      · have : j = i := by omega
        subst this; omega
end Go.Proofs.Ytmohaohdbklkeaa
/- The law of enclosed figures. -/
namespace Go.Proofs.Ytmohaohdbklkeaa
open Go.Ev Go.RowKit
set_option maxRecDepth 100000
theorem t_all {re : Int} {y w : List Int} (h : RX re y) (hw : y.length ≤ w.length) (hw2 : w.length ≤ 1000) (S : Rd → Option Rd) (hS : ∃ (fa fb fc fd : Int) (k : Nat) (c : List D) (st : Int) (x0 : Bool) (x1 : Bool) (x2 : Int) (x3 : Int) (x4 : Int) (x5 : Int) (x6 : Int) (x7 : Int) (x8 : Nat) (x9 : List D) (x10 : Int) (x11 : Nat) (x12 : List D) (x13 : Int) (x14 : Int) (x15 : Int) (x16 : Int) (x17 : Int) (x18 : Int) (x19 : Int) (x20 : Int) (x21 : Int) (x22 : Int) (x23 : Int), ∀ ds, S (.next 0 ds) = law6_L12_S0 re fa fb fc fd k c st y.length (y.map iD) w.length (w.map iD) x0 x1 x2 x3 x4 x5 x6 x7 x8 x9 x10 x11 x12 x13 x14 x15 x16 x17 x18 x19 x20 x21 x22 x23 ds) (hS1 : ∃ (fa fb fc fd : Int) (k : Nat) (c : List D) (st : Int) (x0 : Bool) (x1 : Bool) (x2 : Int) (x3 : Int) (x4 : Int) (x5 : Int) (x6 : Int) (x7 : Int) (x8 : Nat) (x9 : List D) (x10 : Int) (x11 : Nat) (x12 : List D) (x13 : Int) (x14 : Int) (x15 : Int) (x16 : Int) (x17 : Int) (x18 : Int) (x19 : Int) (x20 : Int) (x21 : Int) (x22 : Int) (x23 : Int), ∀ ds, S (.next 1 ds) = law6_L12_S1 re fa fb fc fd k c st y.length (y.map iD) w.length (w.map iD) x0 x1 x2 x3 x4 x5 x6 x7 x8 x9 x10 x11 x12 x13 x14 x15 x16 x17 x18 x19 x20 x21 x22 x23 ds) :
    runR S (.next 1 [.one (.tuple #[]), iD 0]) = some (.out 0 [lD (tab y.length (tF re y w))]) := by
  have hg := t_go h hw hw2 S hS (y.length - 1) 1 (by have := h.l3; omega) (by omega)
  obtain ⟨e0, e1, l3, l64, hb⟩ := h
  obtain ⟨fa, fb, fc, fd, k, c, st, x0, x1, x2, x3, x4, x5, x6, x7, x8, x9, x10, x11, x12, x13, x14, x15, x16, x17, x18, x19, x20, x21, x22, x23, hS1⟩ := hS1
  obtain ⟨b1, b2⟩ := hb 0 (by omega)
  obtain ⟨m1, m2, m3⟩ := mo_eq (x := at' w 0) (m := 2 * re + 1) (by omega) (by omega)
  have hf : at' y 0 - re + mo (at' w 0) (2 * re + 1) = tF re y w 0 := rfl
  have r0 : readD (y.map iD) ((0 : Int).toNat * 1) 1 false = some (iD (at' y 0)) := readA (i := 0) (by omega)
  have r1 : readD (w.map iD) ((0 : Int).toNat * 1) 1 false = some (iD (at' w 0)) := readA (i := 0) (by omega)
  have st0 : S (.next 1 [.one (.tuple #[]), iD 0]) = some (.next 0 [lD (tab 1 (tF re y w)), iD ((1 : Nat) : Int)]) := by
    rw [hS1]
    unfold law6_L12_S1
    rw [pullD_some (0 : Int) (by rfl) (by rfl), if_pos (by omega), guardP_pos (by omega), r0, pullI, guardP_pos (by omega), r1, pullI, wrapJ (2 * re) (by omega) (by omega), wrapJ (2 * re + 1) (by omega) (by omega), m1, pullI, wrapJ (at' y 0 - re) (by omega) (by omega), wrapJ (at' y 0 - re + mo (at' w 0) (2 * re + 1)) (by omega) (by omega), hf, wrapJ (0 + 1) (by decide) (by decide)]
    rfl
  rw [runR_next st0]
  exact hg
theorem law6_eq (re : Int) (f : Q4) (l : List Q4) (st : Int) (y w : List Int) : m_6 [ruD re f l, reD st y, lD w] = some (.one (.bool true)) := by
  rw [m_6_eq]
  unfold law6_M
  have a2 : m_11 [.agg [iD re, iD f.a, iD f.b, iD f.c, iD f.d, .list l.length (cQ l)]] = _ := fewF_eq re f l
  rw [m_9_eq, pullB, if_neg (by decide), a2, pullB]
  by_cases g2 : ¬ (l.length : Int) ≤ 6
  · rw [if_pos (by simpa using g2)]
  have g2 := Classical.not_not.1 g2
  have hl : l.length ≤ 1000 := by omega
  rw [if_neg (by simpa using g2)]
  by_cases gy : 1000 < y.length
  · -- too many samples: refused
    have a1 : m_53 [.agg [iD re, iD f.a, iD f.b, iD f.c, iD f.d, .list l.length (cQ l)]] = _ := rulesErr_eq re f l hl
    have a0 : ∃ e : Int, e ≠ 0 ∧ m_17 [.agg [iD re, iD f.a, iD f.b, iD f.c, iD f.d, .list l.length (cQ l)], .agg [iD st, .list y.length (y.map iD)]] = some (iD e) := by
      rw [m_17_eq]
      unfold bothErr_M
      rw [a1, pullI]
      by_cases g : rulE re f l = 0
      · rw [if_neg (fun h => h g), m_41_eq]
        unfold recErr_M
        rw [within_eq, pullB]
        by_cases g3 : 1 ≤ st ∧ st ≤ 1000000
        · rw [if_neg (by simp; omega), if_neg (by omega), if_pos (by omega), pullI]
          exact ⟨8, by decide, rfl⟩
        · rw [if_pos (by simp; omega), pullI]
          exact ⟨2, by decide, rfl⟩
      · rw [if_pos g]
        exact ⟨_, g, rfl⟩
    obtain ⟨e, he, a0⟩ := a0
    rw [a0, pullI, if_pos he]
  have hy : y.length ≤ 1000 := by omega
  have a8 : m_17 [.agg [iD re, iD f.a, iD f.b, iD f.c, iD f.d, .list l.length (cQ l)], .agg [iD st, .list y.length (y.map iD)]] = _ := bothErr_eq re f l st y hl hy
  have a3 : m_13 [.agg [iD re, iD f.a, iD f.b, iD f.c, iD f.d, .list l.length (cQ l)]] = _ := copyRules_eq re f l hl
  have a4 : m_14 [.agg [iD st, .list y.length (y.map iD)]] = _ := copyRecord_eq st y hy
  have a6 : m_15 [.agg [iD re, iD f.a, iD f.b, iD f.c, iD f.d, .list l.length (cQ l)], .agg [iD st, .list y.length (y.map iD)]] = _ := figuresOf_eq re f l st y hl hy
  rw [a8, pullI]
  by_cases g : ¬ botE re f l st y = 0
  · rw [if_pos g]
  have g := Classical.not_not.1 g
  obtain ⟨h1, h2⟩ := botE_ok g
  have hx := RX.of h1 h2
  rw [if_pos g] at a6
  rw [if_neg (fun h => h g)]
  by_cases c1 : w.length < y.length
  · rw [if_pos (by omega)]
  rw [if_neg (by omega)]
  by_cases c2 : 70 < w.length
  · rw [if_pos (by omega)]
  rw [if_neg (by omega), a3, pullD_some (re, f.a, f.b, f.c, f.d, l.length, cQ l) (by rfl) (by rfl)]
  dsimp only
  rw [a4, pullD_some (st, y.length, y.map iD) (by rfl) (by rfl)]
  dsimp only
  rw [a6]
  unfold figD
  by_cases h0 : pLo re y ≤ 0
  · rw [if_pos h0, pullD_some ((0 : Int), (0 : Int), (0 : Int), (0 : Int), (0 : Int), (0 : Int), (0 : Int), (0 : Int), (0 : Int), (21 : Int)) (by rfl) (by rfl)]
    dsimp only
    rw [if_pos (by decide), if_pos rfl]
    simp
  rw [if_neg h0]
  by_cases hq0 : l3q re y < 0 ∨ l9q re y < 0 ∨ hq re y < 0
  · rw [if_pos hq0, pullD_some ((0 : Int), (0 : Int), (0 : Int), (0 : Int), (0 : Int), (0 : Int), (0 : Int), (0 : Int), (0 : Int), (12 : Int)) (by rfl) (by rfl)]
    dsimp only
    rw [if_pos (by decide), if_neg (by decide), if_pos rfl]
    simp
  rw [if_neg hq0, pullD_some (((pk y : Nat) : Int), pLo re y, pHi re y, l3p re y, l3q re y, l9p re y, l9q re y, hp re y, hq re y, (0 : Int)) (by rfl) (by rfl)]
  dsimp only
  rw [if_neg (by decide)]
  -- what is known
  have hx' := hx
  obtain ⟨e0, e1, l3, l64, hb⟩ := hx
  have ha : pk y < y.length := atT_lt (y := y) (by omega) (i := y.length) (Nat.le_refl _)
  obtain ⟨ba1, ba2⟩ := hb _ ha
  have p1 : pLo re y = at' y (pk y) - re := rfl
  have p2 : pHi re y = at' y (pk y) + re := rfl
  have hm := mxT_spec (tF re y w) y.length
  generalize hmx : mxT (tF re y w) y.length = mx at *
  have m1 : pLo re y ≤ mx := by
    have := hm.1 _ ha
    have := (tF_in y w (pk y) e0 e1).1
    omega
  have m2 : mx ≤ pHi re y := by
    obtain ⟨-, k, hk, hk2⟩ := hm
    have hk3 : k < y.length := by omega
    have := (tF_in y w k e0 e1).2
    have := atT_max y y.length k hk3
    have q : at' y k ≤ at' y (pk y) := this
    omega
  have tA : ∀ j, j < y.length → ta (rng re y) j ≤ tF re y w j ∧ tF re y w j ≤ va (rng re y) j := fun j hj => by
    obtain ⟨t1, t2⟩ := rng_ta (e := re) hj
    rw [t1, t2]
    exact tF_in y w j e0 e1
  have i3 : 0 ≤ l3q re y := by omega
  have i9 : 0 ≤ l9q re y := by omega
  have ih : 0 ≤ hq re y := by omega
  have s3 := fidx_mono (p := gL (tF re y w) mx 3) (q := mustL (rng re y) (pHi re y) 3) (m := y.length) (i := 0) (fun j h1 h2 hq => by
    have := tA j (by omega)
    simp only [mustL, gL, decide_eq_true_eq] at hq ⊢
    omega) i3
  have s9 := fidx_mono (p := gL (tF re y w) mx 9) (q := mustL (rng re y) (pHi re y) 9) (m := y.length) (i := 0) (fun j h1 h2 hq => by
    have := tA j (by omega)
    simp only [mustL, gL, decide_eq_true_eq] at hq ⊢
    omega) i9
  have r3 := fidx_mono (p := mayL (rng re y) (pLo re y) 3) (q := gL (tF re y w) mx 3) (m := y.length) (i := 0) (fun j h1 h2 hq => by
    have := tA j (by omega)
    simp only [mayL, gL, decide_eq_true_eq] at hq ⊢
    omega) s3.1
  have r9 := fidx_mono (p := mayL (rng re y) (pLo re y) 9) (q := gL (tF re y w) mx 9) (m := y.length) (i := 0) (fun j h1 h2 hq => by
    have := tA j (by omega)
    simp only [mayL, gL, decide_eq_true_eq] at hq ⊢
    omega) s9.1
  have sk : fidx (gH (tF re y w) mx (pk y)) y.length 0 = fidx (gH (tF re y w) mx (pk y)) (y.length - (pk y + 1)) (pk y + 1) := by
    have := fidx_skip (p := gH (tF re y w) mx (pk y)) (pk y + 1) (m := y.length - (pk y + 1)) (i := 0) (fun j h1 h2 => by
      simp only [gH, decide_eq_false_iff_not]
      omega)
    rw [show pk y + 1 + (y.length - (pk y + 1)) = y.length by omega, Nat.zero_add] at this
    exact this
  have sh := fidx_mono (p := gH (tF re y w) mx (pk y)) (q := mustH (rng re y) (pLo re y)) (m := y.length - (pk y + 1)) (i := pk y + 1) (fun j h1 h2 hq => by
    have := tA j (by omega)
    simp only [mustH, gH, decide_eq_true_eq] at hq ⊢
    omega) ih
  have rh := fidx_mono (p := mayH (rng re y) (pHi re y)) (q := gH (tF re y w) mx (pk y)) (m := y.length - (pk y + 1)) (i := pk y + 1) (fun j h1 h2 hq => by
    have := tA j (by omega)
    simp only [mayH, gH, decide_eq_true_eq] at hq ⊢
    omega) sh.1
  have u3 := (fidx_ge (mustL (rng re y) (pHi re y) 3) y.length 0).2.1
  have u9 := (fidx_ge (mustL (rng re y) (pHi re y) 9) y.length 0).2.1
  have uh := (fidx_ge (mustH (rng re y) (pLo re y)) (y.length - (pk y + 1)) (pk y + 1)).2.1
  have hfe : m_31 [shNL6_0 ((pk y : Nat) : Int) (pLo re y) (pHi re y) (l3p re y) (l3q re y) (l9p re y) (l9q re y) (hp re y) (hq re y)] = some (iD 0) := by
    have h9 := figErr_eq ((pk y : Nat) : Int) (pLo re y) (pHi re y) (l3p re y) (l3q re y) (l9p re y) (l9q re y) (hp re y) (hq re y)
    have : figE ((pk y : Nat) : Int) (pLo re y) (pHi re y) (l3p re y) (l3q re y) (l9p re y) (l9q re y) (hp re y) (hq re y) = 0 := by
      unfold figE
      rw [if_pos (by unfold l3p l3q l9p l9q hp hq; omega), if_pos (by unfold l3p l3q l9p l9q hp hq; omega)]
    rw [this] at h9
    exact h9
  rw [hfe, pullI, if_neg (by decide), if_neg (by omega)]
  refine (bindL_some (j := 0) (ds := [lD (tab y.length (tF re y w))]) ?_).trans ?_
  · exact t_all hx' (by omega) (by omega) _ ⟨_, _, _, _, _, _, _, _, _, _, _, _, _, _, _, _, _, _, _, _, _, _, _, _, _, _, _, _, _, _, _, fun _ => law6_L12_S_0 ..⟩ ⟨_, _, _, _, _, _, _, _, _, _, _, _, _, _, _, _, _, _, _, _, _, _, _, _, _, _, _, _, _, _, _, fun _ => law6_L12_S_1 ..⟩
  rw [if_pos rfl, pullD_some ((tab y.length (tF re y w)).length, (tab y.length (tF re y w)).map iD) (by rfl) (by rfl)]
  dsimp only
  have r0 : readD ((tab y.length (tF re y w)).map iD) (0 + Int.toNat (0 : Int) * 1) 1 false = some (iD (tF re y w 0)) := readM0 (i := 0) (tF re y w) (by omega)
  rw [tab_len, guardP_pos ⟨by decide, by show 0 < _; omega⟩, r0, pullI]
  refine (bindL_some (j := 0) (ds := [iD mx]) ?_).trans ?_
  · have := mx_go (tF re y w) y.length (by omega)
    rw [hmx] at this
    exact this _ ⟨_, _, _, _, _, _, _, _, _, _, _, _, _, _, _, _, _, _, _, _, _, _, _, _, _, _, _, _, _, _, _, _, _, _, _, _, _, fun _ => law6_L17_S_0 ..⟩ y.length 0 (by omega)
  rw [if_pos rfl, pullD_some mx (by rfl) (by rfl), wrapJ ((y.length : Int) - 1) (by omega) (by omega)]
  refine (bindL_some (j := 0) (ds := [iD (fidx (gL (tF re y w) mx 3) y.length 0), iD (fidx (gL (tF re y w) mx 9) y.length 0), iD (fidx (gH (tF re y w) mx (pk y)) y.length 0)]) ?_).trans ?_
  · have := fun S hS => lv_go (tF re y w) y.length (pk y) mx (by omega) (fun i hi => by
      have := tF_in y w i e0 e1
      obtain ⟨b3, b4⟩ := hb i hi
      omega) (by omega) (by omega) S hS y.length (Nat.le_refl _)
    rw [Nat.sub_self] at this
    exact this _ ⟨_, _, _, _, _, _, _, _, _, _, _, _, _, _, _, _, _, _, _, _, _, _, _, _, _, _, _, _, _, _, _, _, _, _, _, _, fun _ => law6_L22_S_0 ..⟩
  rw [if_pos rfl, pullD_some (fidx (gL (tF re y w) mx 3) y.length 0, fidx (gL (tF re y w) mx 9) y.length 0, fidx (gH (tF re y w) mx (pk y)) y.length 0) (by rfl) (by rfl)]
  dsimp only
  rw [within_eq, pullB, if_pos (decide_eq_true ⟨m1, m2⟩), within_eq, pullB, if_pos (decide_eq_true ⟨r3.2, s3.2⟩), within_eq, pullB, if_pos (decide_eq_true ⟨r9.2, s9.2⟩), sk, within_eq, pullB, decide_eq_true ⟨rh.2, sh.2⟩]
theorem law6_con (re : Int) (f : Q4) (l : List Q4) (st : Int) (y w : List Int) : Con 6 [ruD re f l, reD st y, lD w] (.one (.bool true)) := m_6_ok (law6_eq re f l st y w)
end Go.Proofs.Ytmohaohdbklkeaa
/- WaveEnclosed: what the runs give, for every argument. -/
namespace Go.Proofs.Ytmohaohdbklkeaa.waveEnclosed
open Go.ChangeShapes Go.WideShapes Go.ChangeAt Go.RowKit Go.Joins Go.Ev
set_option maxRecDepth 100000 in
/-- WHAT THE RUNS GIVE, FOR EVERY ARGUMENT AND EVERY WORLD THAT HOLDS THE TABLES. -/
theorem contract (H : Type) (enc : TypeId × Value → H) (W : World) (base : Nat) (args : Array Value) (ds gs : List (DataW H)) (before : List MemPlace)
    (hval : ∀ (j : Nat) t v, Try.f6.params[j]? = some t → args[j]? = some v → Value.okWide Try.prog W .any base t v)
    (hW : DataW.Whole enc Try.prog Try.f6.params.toList Rows.waveEnclosedSpec.vars false W args.toList ds gs before) (hL : laidMetH Try.prog Rows.waveEnclosedRow.laid W) :
    Calls Try.prog 6 args W fun e W' => ∃ v, e = .returned v ∧ Rows.waveEnclosedSpec.post enc Try.prog Try.f6 false true false false W args v W' := by
  have hW' := hW
  have hlt := hW.lt
  obtain ⟨p, q, hA0, hV, rfl, hfz, hnd⟩ := hW
  have hA : DataW.TrodAll enc Try.prog W 0 (fun _ => true) true Try.f6.params.toList args.toList ds p := hA0
  rw [Try.params6] at hA hval
  obtain ⟨v0, vs0, d0, ds0, p0, q0, hargs, rfl, rfl, h0, r0⟩ := trodAll_cons hA
  obtain ⟨v1, vs1, d1, ds1, p1, q1, rfl, rfl, rfl, h1, r1⟩ := trodAll_cons r0
  obtain ⟨v2, vs2, d2, ds2, p2, q2, rfl, rfl, rfl, h2, r2⟩ := trodAll_cons r1
  obtain ⟨rfl, rfl, rfl⟩ := trodAll_nil r2
  obtain rfl : args = #[v0, v1, v2] := by cases args; simp_all
  obtain ⟨rfl, rfl⟩ := trodVars_none hV
  obtain ⟨e0, o0, k0⟩ := open_agg (ls := [.int .i64, .int .i64, .int .i64, .int .i64, .int .i64, .sl [.int .i64, .int .i64, .int .i64, .int .i64]]) 8 (by kernel_rfl) (by kernel_rfl) (by kernel_rfl) (hval 0 28 v0 rfl rfl) h0
  obtain ⟨re, f, l, rfl⟩ := rul_of o0
  obtain ⟨e1, o1, k1⟩ := open_agg (ls := [.int .i64, .sl [.int .i64]]) 8 (by kernel_rfl) (by kernel_rfl) (by kernel_rfl) (hval 1 31 v1 rfl rfl) h1
  obtain ⟨st, y, rfl⟩ := rec_of o1
  obtain ⟨e2, o2, k2⟩ := open_cell (c := .sl [.int .i64]) 8 (by kernel_rfl) (by kernel_rfl) (by kernel_rfl) (hval 2 29 v2 rfl rfl) h2
  obtain ⟨w, rfl⟩ := ints_of o2
  have hr : RpL (fun _ => True) W [.agg [.one (.int .i64 re), .one (.int .i64 f.a), .one (.int .i64 f.b), .one (.int .i64 f.c), .one (.int .i64 f.d), .list l.length (cQ l)], .agg [.one (.int .i64 st), lD y], lD w] [v0, v1, v2] := by
    simp only [RpL]
    exact ⟨v0, _, rfl, k0, ⟨v1, _, rfl, k1, ⟨v2, _, rfl, k2, rfl⟩⟩⟩
  refine (law6_con re f l st y w W (fun _ => True) _ tabs0 hr).mono fun e W' ⟨v, he, hv, hg⟩ => ?_
  simp only [Rp] at hv
  subst he
  subst hv
  have hlaid : laidOutB Try.prog = true := by kernel_rfl
  exact ⟨_, rfl, post_below (pa := (p0 ++ (p1 ++ (p2 ++ [])))) (pv := []) hW' (fun _ _ _ => trodAll_cons_mk (shut_bool Try.underlying4 _) trodAll_mk0) (fun sp hsp => by
    rw [Try.params6]
    exact trodAll_cons_mk (stays hlaid (by kernel_rfl) (of_decide_eq_true (by kernel_rfl)) h0 hg (fun x hx => hlt x (by simp only [List.mem_append]; left; left; exact hx)) (fun x hx => hsp x (by simp only [List.mem_append]; left; left; exact hx))) (trodAll_cons_mk (stays hlaid (by kernel_rfl) (of_decide_eq_true (by kernel_rfl)) h1 hg (fun x hx => hlt x (by simp only [List.mem_append]; left; right; left; exact hx)) (fun x hx => hsp x (by simp only [List.mem_append]; left; right; left; exact hx))) (trodAll_cons_mk (stays hlaid (by kernel_rfl) (of_decide_eq_true (by kernel_rfl)) h2 hg (fun x hx => hlt x (by simp only [List.mem_append]; left; right; right; left; exact hx)) (fun x hx => hsp x (by simp only [List.mem_append]; left; right; right; left; exact hx))) (trodAll_mk0)))) (fun _ _ => rfl) rfl
    hg (ok_one (by kernel_rfl) rfl (okWide_bool_mk Try.underlying4 _))⟩
end Go.Proofs.Ytmohaohdbklkeaa.waveEnclosed
/- WaveEnclosed: closed facts of the witness. -/
namespace Go.Proofs.Ytmohaohdbklkeaa.waveEnclosed
open Go.ChangeShapes Go.WideShapes Go.ChangeAt Go.RowKit Go.Joins
/-- THE WITNESS's ARGUMENTS. -/
noncomputable def args0 : Array Value := #[.agg #[.int .i64 0, .int .i64 0, .int .i64 0, .int .i64 0, .int .i64 0, .slice none 0 0], .agg #[.int .i64 0, .slice none 0 0], .slice none 0 0]
/-- A WORLD FOR THE WITNESS: the heap that the program's own initialisers leave. -/
noncomputable def start (os : Os) : World := World.doorLaid Try.prog 400 os
theorem laid_met (os : Os) : laidMet Try.prog Rows.waveEnclosedRow.laid ((start os).forCall (fun _ _ => 0) ⟨#[], args0, []⟩).memory := ⟨[], rfl, List.nodup_nil, fun _ _ h => by cases h⟩
theorem reads (os : Os) {H : Type} (enc : TypeId × Value → H) : ∃ places, DataW.whole enc Try.prog ((start os).forCall (fun _ _ => 0) ⟨#[], args0, []⟩).memory Try.f6.params.toList Rows.waveEnclosedSpec.vars false args0.toList 8 = some ([.agg [.lit (.int .i64 0), .agg [.agg [.lit (.int .i64 0), .lit (.int .i64 0)], .agg [.lit (.int .i64 0), .lit (.int .i64 0)]], .nil], .agg [.lit (.int .i64 0), .nil], .nil], [], places) :=
  ⟨[], by kernel_rfl⟩
theorem vB (os : Os) : ((start os).forCall (fun _ _ => 0) ⟨#[], args0, []⟩).variablesB Try.prog = true := by kernel_rfl
theorem rB (os : Os) : (((start os).forCall (fun _ _ => 0) ⟨#[], args0, []⟩).heap.toList.drop Try.prog.globals.size).take ((begin Try.prog (fun _ _ => 0) default).world.heap.size - Try.prog.globals.size) = (begin Try.prog (fun _ _ => 0) default).world.heap.toList.drop Try.prog.globals.size := by kernel_rfl
theorem oB (os : Os) : Input.okWideB Try.prog ((start os).forCall (fun _ _ => 0) ⟨#[], args0, []⟩) 6 ⟨#[], args0, []⟩ = true := by kernel_rfl
theorem hB (os : Os) : (start os).os = os := by kernel_rfl
end Go.Proofs.Ytmohaohdbklkeaa.waveEnclosed
/- For any rules, record and changes, valid or not, the law WaveEnclosed of the program answers true, and its arguments read as they did. CONDITIONS: none. -/
namespace Go.Proofs.Ytmohaohdbklkeaa.waveEnclosed
open Go.ChangeShapes Go.WideShapes Go.ChangeAt Go.RowKit Go.Joins
set_option maxRecDepth 100000 in
theorem lifted (os : Os) (started : os.Started) (H : Type) (enc : TypeId × Value → H) (F : Stop.Interp) :
    ReturnsInHanded {} Try.checked os 6 .any ((OpenSpec.ofChange Rows.waveEnclosedSpec).preRow enc Try.prog Try.f6 Rows.waveEnclosedRow.domain false Rows.waveEnclosedRow.laid) (((OpenSpec.ofChange Rows.waveEnclosedSpec).at F).post enc Try.prog Try.f6 false true false false) := by
  obtain ⟨places, hx⟩ := reads os enc
  refine returnsInHanded_of_row (C := Try.checked) (s := OpenSpec.ofChange Rows.waveEnclosedSpec) own started (by kernel_rfl) Try.func6
    (witness_row_at (enc := enc) (C := Try.checked) false (start os) args0 (hB os) (vB os) (rB os) (oB os)
      (OpenSpec.preRow_of_cond 8 hx (by kernel_rfl) (fun k hk => by cases hk) (by kernel_rfl) (laid_met os))) ?_
  intro W base args ds gs before hval hW _ _ _ hL _ _
  exact contract H enc W base args ds gs before hval hW hL
theorem said : Rows.WaveEnclosedSaid :=
  OpenClaim.holds_of_cond 6 Try.f6 rfl rfl rfl rfl rfl rfl rfl ⟨rfl, rfl, rfl, rfl, rfl⟩ rfl rfl rfl rfl rfl (by kernel_rfl) Try.func6 (by kernel_rfl)
    (of_decide_eq_true (by kernel_rfl)) (by unfold Func.isWrapper; first | (rw [if_pos (by decide +kernel)]; kernel_rfl) | (rw [if_neg (by decide +kernel)]; exact ⟨rfl, rfl⟩))
    (fun os started H enc _ F => by rw [OpenClaim.pre_eq_preRow]; exact lifted os started H enc F)
end Go.Proofs.Ytmohaohdbklkeaa.waveEnclosed
