/- For any rules, record and greater error, valid or not, the law WaveWider of the program answers true, and its arguments read as they did. CONDITIONS: none. -/
import Derived.Test.YtmohaohdbklkeaaTE
import Derived.Test.YtmohaohdbklkeaaTF
import Derived.Test.YtmohaohdbklkeaaTA
set_option linter.unusedVariables false
set_option linter.unusedSimpArgs false
set_option linter.unusedSectionVars false
set_option linter.unnecessarySimpa false
/- True samples, levels, halves. -/
namespace Go.Proofs.Ytmohaohdbklkeaa
open Go.Ev Go.RowKit
set_option maxRecDepth 100000
/-! ### The first place -/
def fidx (p : Nat → Bool) : Nat → Nat → Int
  | 0, _ => -1
  | m + 1, i => if p i = true then (i : Int) else fidx p m (i + 1)
theorem fidx_true {p : Nat → Bool} {m i : Nat} (h : p i = true) : fidx p (m + 1) i = i := by unfold fidx; rw [if_pos h]
theorem fidx_false {p : Nat → Bool} {m i : Nat} (h : p i = false) : fidx p (m + 1) i = fidx p m (i + 1) := by
  conv => lhs; unfold fidx
  rw [if_neg (by rw [h]; decide)]
theorem fidx_range (p : Nat → Bool) : ∀ m i, fidx p m i = -1 ∨ ((i : Int) ≤ fidx p m i ∧ fidx p m i < ((i + m : Nat) : Int) ∧ p (fidx p m i).toNat = true ∧ ∀ j, i ≤ j → (j : Int) < fidx p m i → p j = false)
  | 0, _ => .inl rfl
  | m + 1, i => by
    unfold fidx
    cases h : p i with
    | true =>
      rw [if_pos rfl]
      exact .inr ⟨by omega, by omega, h, fun j h1 h2 => by omega⟩
    | false =>
      rw [if_neg (by decide)]
      rcases fidx_range p m (i + 1) with e | ⟨a, b, c, d⟩
      · exact .inl e
      · refine .inr ⟨by omega, by omega, c, fun j h1 h2 => ?_⟩
        rcases Nat.lt_or_ge i j with h3 | h3
        · exact d j (by omega) h2
        · have : j = i := by omega
          subst this; exact h
theorem fidx_none {p : Nat → Bool} : ∀ {m i}, fidx p m i < 0 → ∀ j, i ≤ j → j < i + m → p j = false
  | 0, i, _, j, h1, h2 => by omega
  | m + 1, i, h, j, h1, h2 => by
    unfold fidx at h
    cases h0 : p i with
    | true => rw [h0, if_pos rfl] at h; omega
    | false =>
      rw [h0, if_neg (by decide)] at h
      rcases Nat.lt_or_ge i j with h3 | h3
      · exact fidx_none h j (by omega) (by omega)
      · have : j = i := by omega
        subst this; exact h0
theorem fidx_imp {p q : Nat → Bool} (hpq : ∀ i, q i = true → p i = true) {m i : Nat} (h : 0 ≤ fidx q m i) : 0 ≤ fidx p m i := by
  rcases fidx_range q m i with e | ⟨a, b, c, -⟩
  · omega
  · refine Classical.byContradiction fun hn => ?_
    have := fidx_none (p := p) (m := m) (i := i) (by omega) (fidx q m i).toNat (by omega) (by omega)
    rw [hpq _ c] at this
    cases this
theorem fidx_shift (p : Nat → Bool) (s : Nat) : ∀ m i, fidx (fun j => p (s + j)) m i = if fidx p m (s + i) < 0 then -1 else fidx p m (s + i) - s
  | 0, i => by unfold fidx; rw [if_pos (by decide)]
  | m + 1, i => by
    cases h : p (s + i) with
    | true => rw [fidx_true (p := fun j => p (s + j)) h, fidx_true h, if_neg (by omega)]; omega
    | false =>
      rw [fidx_false (p := fun j => p (s + j)) h, fidx_false h]
      exact fidx_shift p s m (i + 1)
theorem scanX {n : Nat} {p : Nat → Bool} {S : Rd → Option Rd} (hs : ∀ i, i < n → S (.next 0 [iD (i : Int)]) = if p i = true then some (.out 1 [iD (i : Int)]) else some (.next 0 [iD ((i + 1 : Nat) : Int)])) (he : S (.next 0 [iD (n : Int)]) = some (.out 0 [])) :
    ∀ m i, i + m = n → runR S (.next 0 [iD (i : Int)]) = if fidx p m i < 0 then some (.out 0 []) else some (.out 1 [iD (fidx p m i)]) := by
  intro m
  induction m with
  | zero =>
    intro i hi
    have : i = n := by omega
    subst this
    rw [runR_exit he]; rfl
  | succ m ih =>
    intro i hi
    have h1 := hs i (by omega)
    cases h0 : p i with
    | true =>
      rw [h0, if_pos rfl] at h1
      rw [runR_exit h1, fidx_true h0, if_neg (by omega)]
    | false =>
      rw [h0, if_neg (by decide)] at h1
      rw [runR_next h1, ih (i + 1) (by omega), fidx_false h0]
/-! ### Samples -/
/-- The peak's index so far. -/
def atT (y : List Int) : Nat → Nat
  | 0 => 0
  | i + 1 => if at' y i > at' y (atT y i) then i else atT y i
theorem atT_lt {y : List Int} (h0 : 0 < y.length) : ∀ {i}, i ≤ y.length → atT y i < y.length
  | 0, _ => h0
  | i + 1, h => by
    unfold atT
    split
    · omega
    · exact atT_lt h0 (by omega)
abbrev pk (y : List Int) : Nat := atT y y.length
def rng (e : Int) (y : List Int) : List (Int × Int) := y.map fun v => (v - e, v + e)
theorem rng_len (e : Int) (y : List Int) : (rng e y).length = y.length := by simp [rng]
theorem rng_at {e : Int} {y : List Int} {i : Nat} (h : i < y.length) : (rng e y)[i]? = some (at' y i - e, at' y i + e) := by
  unfold rng
  rw [List.getElem?_map, at_get h]; rfl
theorem rng_ta {e : Int} {y : List Int} {i : Nat} (h : i < y.length) : ta (rng e y) i = at' y i - e ∧ va (rng e y) i = at' y i + e := by
  unfold ta va
  rw [rng_at h]; exact ⟨rfl, rfl⟩
theorem rng_take {e : Int} {y : List Int} {i : Nat} (h : i < y.length) : (rng e y).take (i + 1) = (rng e y).take i ++ [(at' y i - e, at' y i + e)] := by
  rw [List.take_add_one, rng_at h]; rfl
/-- An error and samples that are valid. -/
structure RX (e : Int) (y : List Int) : Prop where
  e0 : 0 ≤ e
  e1 : e ≤ 100
  l3 : 3 ≤ y.length
  l64 : y.length ≤ 64
  bnd : ∀ i, i < y.length → -4096 ≤ at' y i ∧ at' y i ≤ 4096
theorem RX.of {re st : Int} {f : Q4} {l : List Q4} {y : List Int} (h1 : rulE re f l = 0) (h2 : recE st y = 0) : RX re y := by
  unfold rulE at h1
  unfold recE at h2
  split at h1
  · rename_i g
    split at h2
    · split at h2
      · cases h2
      · split at h2
        · cases h2
        · split at h2
          · rename_i g2 g3 g4
            exact ⟨g.1, g.2, by omega, by omega, fun i hi => allIn_at g4 hi⟩
          · cases h2
    · cases h2
  · cases h1
theorem around_eq {v e : Int} (h1 : -4096 ≤ v) (h2 : v ≤ 4096) (h3 : 0 ≤ e) (h4 : e ≤ 100) : m_77 [iD v, iD e] = some (.agg [iD (v - e), iD (v + e)]) := by
  rw [m_77_eq]
  unfold around_M
  rw [wrapJ (v - e) (by omega) (by omega), wrapJ (v + e) (by omega) (by omega)]
theorem sm_go (re fa fb fc fd : Int) (k : Nat) (c : List D) (st : Int) (y : List Int) (h : RX re y) : ∀ m i, i + m = y.length → 0 < i →
    runR (samples_L3_S re fa fb fc fd k c st y.length (y.map iD)) (.next 0 [iD (i : Int), lP ((rng re y).take i), iD ((atT y i : Nat) : Int)]) = some (.out 0 [lP (rng re y), iD ((pk y : Nat) : Int)]) := by
  obtain ⟨e0, e1, l3, l64, hb⟩ := h
  intro m
  induction m with
  | zero =>
    intro i hi _
    have : i = y.length := by omega
    subst this
    have e9 : (rng re y).take y.length = rng re y := by rw [← rng_len re y]; exact List.take_length
    refine runR_exit ?_
    rw [e9, samples_L3_S_0]
    unfold samples_L3_S0
    rw [pullD_some ((y.length : Int), (rng re y).length, cP (rng re y), ((pk y : Nat) : Int)) (by rfl) (by rfl)]
    dsimp only
    rw [if_neg (by omega)]
  | succ m ih =>
    intro i hi h0
    have hi' : i < y.length := by omega
    have ha := atT_lt (y := y) (by omega) (i := i) (by omega)
    obtain ⟨b1, b2⟩ := hb i hi'
    have hlen : ((rng re y).take i).length = i := by rw [List.length_take, rng_len]; omega
    have st : samples_L3_S re fa fb fc fd k c st y.length (y.map iD) (.next 0 [iD (i : Int), lP ((rng re y).take i), iD ((atT y i : Nat) : Int)]) = some (.next 0 [iD ((i + 1 : Nat) : Int), lP ((rng re y).take (i + 1)), iD ((atT y (i + 1) : Nat) : Int)]) := by
      rw [samples_L3_S_0]
      unfold samples_L3_S0
      rw [pullD_some ((i : Int), ((rng re y).take i).length, cP ((rng re y).take i), ((atT y i : Nat) : Int)) (by rfl) (by rfl)]
      dsimp only
      rw [if_pos (by omega), guardP_pos (by omega), readA hi', pullI, around_eq b1 b2 e0 e1, pullD_some (at' y i - re, at' y i + re) (by rfl) (by rfl)]
      dsimp only
      rw [guardP_pos ⟨cellP2 _ _, by rw [cP_len]; omega, by omega, by omega⟩, guardP_pos (by omega), readA ha, pullI, growP, ← rng_take hi', natI (by omega)]
      show _ = some (Rd.next 0 [iD ((i + 1 : Nat) : Int), lP ((rng re y).take (i + 1)), iD (((if at' y i > at' y (atT y i) then i else atT y i) : Nat) : Int)])
      by_cases g : at' y i > at' y (atT y i)
      · rw [if_pos g, if_pos g]
      · rw [if_neg g, if_neg g]
    rw [runR_next st, ih (i + 1) (by omega) (by omega)]
/-- The true samples. -/
abbrev smD (e : Int) (y : List Int) : D := .agg [lP (rng e y), iD ((pk y : Nat) : Int), iD (at' y (pk y) - e), iD (at' y (pk y) + e)]
theorem samples_eq (re : Int) (f : Q4) (l : List Q4) (st : Int) (y : List Int) (h : RX re y) : m_48 [ruD re f l, reD st y] = some (smD re y) := by
  have h' := h
  obtain ⟨e0, e1, l3, l64, hb⟩ := h
  rw [m_48_eq]
  unfold samples_M
  obtain ⟨b1, b2⟩ := hb 0 (by omega)
  have st0 : samples_L3_S re f.a f.b f.c f.d l.length (cQ l) st y.length (y.map iD) (.next 1 [iD 0, .one (.tuple #[]), iD 0]) = some (.next 0 [iD ((1 : Nat) : Int), lP ((rng re y).take 1), iD ((atT y 1 : Nat) : Int)]) := by
    show samples_L3_S1 re f.a f.b f.c f.d l.length (cQ l) st y.length (y.map iD) _ = _
    unfold samples_L3_S1
    rw [pullD_some ((0 : Int), (0 : Int)) (by rfl) (by rfl)]
    dsimp only
    have r0 : readD (y.map iD) ((0 : Int).toNat * 1) 1 false = some (iD (at' y 0)) := readA (i := 0) (by omega)
    rw [if_pos (by omega), guardP_pos (by omega), r0, pullI, guardP_pos (by omega), around_eq b1 b2 e0 e1, pullD_some (at' y 0 - re, at' y 0 + re) (by rfl) (by rfl)]
    dsimp only
    rw [pullI, if_neg (by omega), wrapJ (0 + 1) (by decide) (by decide), rng_take (i := 0) (by omega)]
    have : atT y 1 = 0 := by
      show (if at' y 0 > at' y 0 then 0 else 0) = 0
      split <;> rfl
    rw [this]
    rfl
  have hr := sm_go re f.a f.b f.c f.d l.length (cQ l) st y h' (y.length - 1) 1 (by omega) (by omega)
  have hr2 := (runR_next st0).trans hr
  have ha := atT_lt (y := y) (by omega) (i := y.length) (Nat.le_refl _)
  rw [bindL_some hr2, if_pos rfl, pullD_some ((rng re y).length, cP (rng re y), ((pk y : Nat) : Int)) (by rfl) (by rfl)]
  dsimp only
  have hk : pk y < (rng re y).length := by rw [rng_len]; exact ha
  obtain ⟨t1, t2⟩ := rng_ta (e := re) ha
  rw [guardP_pos (by omega), show (((pk y : Nat) : Int).toNat) = pk y from rfl, Nat.zero_add, readP hk, pullD_some (ta (rng re y) (pk y), va (rng re y) (pk y)) (by rfl) (by rfl)]
  dsimp only
  rw [guardP_pos ⟨by rw [cP_len]; omega, by decide⟩, t1, t2]
/-! ### Levels and halves -/
abbrev mayL (P : List (Int × Int)) (lo n : Int) : Nat → Bool := fun i => decide (10 * va P i ≥ n * lo)
abbrev mustL (P : List (Int × Int)) (hi n : Int) : Nat → Bool := fun i => decide (10 * ta P i ≥ n * hi)
abbrev mayH (P : List (Int × Int)) (hi : Int) : Nat → Bool := fun i => decide (2 * ta P i ≤ hi)
abbrev mustH (P : List (Int × Int)) (lo : Int) : Nat → Bool := fun i => decide (2 * va P i ≤ lo)
structure PB (P : List (Int × Int)) (lo hi : Int) : Prop where
  len : P.length ≤ 1000
  l1 : -10000 ≤ lo
  l2 : lo ≤ 10000
  h1 : -10000 ≤ hi
  h2 : hi ≤ 10000
  bnd : ∀ i, i < P.length → -10000 ≤ ta P i ∧ ta P i ≤ 10000 ∧ -10000 ≤ va P i ∧ va P i ≤ 10000
theorem mulT {x n : Int} (h1 : -10000 ≤ x) (h2 : x ≤ 10000) (n1 : 0 ≤ n) (n2 : n ≤ 10) : -100000 ≤ n * x ∧ n * x ≤ 100000 := by
  have := mulB (x := n) (y := x) (A := 10) (B := 10000) (by omega) (by omega) h1 h2
  omega
theorem lv_may {P : List (Int × Int)} {lo hi : Int} (a n : Int) (h : PB P lo hi) (n1 : 0 ≤ n) (n2 : n ≤ 10) : runR (levelW_L96_2_S P.length (cP P) a lo hi n) (.next 0 [iD 0]) = if fidx (mayL P lo n) P.length 0 < 0 then some (.out 0 []) else some (.out 1 [iD (fidx (mayL P lo n) P.length 0)]) := by
  obtain ⟨hl, l1, l2, h1, h2, hb⟩ := h
  obtain ⟨q1, q2⟩ := mulT l1 l2 n1 n2
  have hn : ((P.length : Int)).toNat - Int.toNat (0 : Int) = P.length := by omega
  have := scanX (n := P.length) (p := mayL P lo n) (S := levelW_L96_2_S P.length (cP P) a lo hi n) (fun i hi' => by
    rw [levelW_L96_2_S_0]
    unfold levelW_L96_2_S0
    rw [hn, pullD_some (i : Int) (by rfl) (by rfl), if_pos (by omega), guardP_pos (by omega), show Int.toNat (0 : Int) * 2 = 0 from rfl, List.drop_zero, ← cP_len, List.take_length, show ((i : Int).toNat) = i from rfl, readP hi', pullD_some (ta P i, va P i) (by rfl) (by rfl)]
    dsimp only
    obtain ⟨b1, b2, b3, b4⟩ := hb i hi'
    rw [wrapJ (10 * va P i) (by omega) (by omega), wrapJ (n * lo) (by omega) (by omega), natI (by omega)]
    by_cases g : 10 * va P i ≥ n * lo
    · rw [if_pos g, if_pos (by simpa [mayL] using g)]
    · rw [if_neg g, if_neg (by simpa [mayL] using g)]) (by
    rw [levelW_L96_2_S_0]
    unfold levelW_L96_2_S0
    rw [hn, pullD_some (P.length : Int) (by rfl) (by rfl), if_neg (by omega)]) P.length 0 (by omega)
  exact this
theorem lv_must {P : List (Int × Int)} {lo hi : Int} (a n : Int) (h : PB P lo hi) (n1 : 0 ≤ n) (n2 : n ≤ 10) : runR (levelW_L96_2_1_S P.length (cP P) a lo hi n) (.next 0 [iD 0]) = if fidx (mustL P hi n) P.length 0 < 0 then some (.out 0 []) else some (.out 1 [iD (fidx (mustL P hi n) P.length 0)]) := by
  obtain ⟨hl, l1, l2, h1, h2, hb⟩ := h
  obtain ⟨q1, q2⟩ := mulT h1 h2 n1 n2
  have hn : ((P.length : Int)).toNat - Int.toNat (0 : Int) = P.length := by omega
  have := scanX (n := P.length) (p := mustL P hi n) (S := levelW_L96_2_1_S P.length (cP P) a lo hi n) (fun i hi' => by
    rw [levelW_L96_2_1_S_0]
    unfold levelW_L96_2_1_S0
    rw [hn, pullD_some (i : Int) (by rfl) (by rfl), if_pos (by omega), guardP_pos (by omega), show Int.toNat (0 : Int) * 2 = 0 from rfl, List.drop_zero, ← cP_len, List.take_length, show ((i : Int).toNat) = i from rfl, readP hi', pullD_some (ta P i, va P i) (by rfl) (by rfl)]
    dsimp only
    obtain ⟨b1, b2, b3, b4⟩ := hb i hi'
    rw [wrapJ (10 * ta P i) (by omega) (by omega), wrapJ (n * hi) (by omega) (by omega), natI (by omega)]
    by_cases g : 10 * ta P i ≥ n * hi
    · rw [if_pos g, if_pos (by simpa [mustL] using g)]
    · rw [if_neg g, if_neg (by simpa [mustL] using g)]) (by
    rw [levelW_L96_2_1_S_0]
    unfold levelW_L96_2_1_S0
    rw [hn, pullD_some (P.length : Int) (by rfl) (by rfl), if_neg (by omega)]) P.length 0 (by omega)
  exact this
theorem fidx_ge (p : Nat → Bool) (m i : Nat) : -1 ≤ fidx p m i ∧ fidx p m i < ((i + m : Nat) : Int) ∧ (fidx p m i < 0 → fidx p m i = -1) := by
  rcases fidx_range p m i with e | ⟨a, b, -, -⟩
  · omega
  · omega
theorem levelW_eq {P : List (Int × Int)} {lo hi : Int} (a : Nat) (n : Int) (h : PB P lo hi) (n1 : 0 ≤ n) (n2 : n ≤ 10) : m_49 [.agg [lP P, iD (a : Int), iD lo, iD hi], iD n] = some (.tup [.agg [iD (fidx (mayL P lo n) P.length 0), iD (fidx (mustL P hi n) P.length 0)], .one (.bool (decide (0 ≤ fidx (mustL P hi n) P.length 0)))]) := by
  have r1 := lv_may a n h n1 n2
  have r2 := lv_must a n h n1 n2
  have g1 := fidx_ge (mayL P lo n) P.length 0
  have g2 := fidx_ge (mustL P hi n) P.length 0
  have hl := h.len
  rw [m_49_eq]
  unfold levelW_M
  rw [guardP_pos ⟨by omega, by omega, by omega, cP_len P⟩]
  generalize fidx (mayL P lo n) P.length 0 = x at *
  generalize fidx (mustL P hi n) P.length 0 = z at *
  by_cases h1 : x < 0
  · rw [if_pos h1] at r1
    rw [bindL_some r1, if_pos rfl, pullD_some () (by rfl) (by rfl)]
    have ex : x = -1 := g1.2.2 h1
    by_cases h2 : z < 0
    · rw [if_pos h2] at r2
      have ez : z = -1 := g2.2.2 h2
      rw [bindL_some r2, if_pos rfl, pullD_some () (by rfl) (by rfl), ex, ez]
      try rfl
    · rw [if_neg h2] at r2
      rw [bindL_some r2, if_neg (by decide), if_pos rfl, pullD_some z (by rfl) (by rfl), wrapJ (0 + z) (by omega) (by omega), Int.zero_add, ex]
      try rfl
  · rw [if_neg h1] at r1
    rw [bindL_some r1, if_neg (by decide), if_pos rfl, pullD_some x (by rfl) (by rfl)]
    by_cases h2 : z < 0
    · rw [if_pos h2] at r2
      have ez : z = -1 := g2.2.2 h2
      rw [bindL_some r2, if_pos rfl, pullD_some () (by rfl) (by rfl), wrapJ (0 + x) (by omega) (by omega), Int.zero_add, ez]
      try rfl
    · rw [if_neg h2] at r2
      rw [bindL_some r2, if_neg (by decide), if_pos rfl, pullD_some z (by rfl) (by rfl), wrapJ (0 + z) (by omega) (by omega), wrapJ (0 + x) (by omega) (by omega), Int.zero_add, Int.zero_add]
      try rfl
theorem ta_drop (P : List (Int × Int)) (s i : Nat) : ta (P.drop s) i = ta P (s + i) ∧ va (P.drop s) i = va P (s + i) := by
  unfold ta va
  rw [List.getElem?_drop]; exact ⟨rfl, rfl⟩
theorem hf_may {P : List (Int × Int)} {lo hi : Int} (a : Nat) (ha : a < P.length) (h : PB P lo hi) : runR (halfW_L96_2_S P.length (cP P) (a : Int) lo hi) (.next 0 [iD 0]) = if fidx (fun i => mayH P hi ((a + 1) + i)) (P.length - (a + 1)) 0 < 0 then some (.out 0 []) else some (.out 1 [iD (fidx (fun i => mayH P hi ((a + 1) + i)) (P.length - (a + 1)) 0)]) := by
  obtain ⟨hl, l1, l2, h1, h2, hb⟩ := h
  have hw : (IntKind.i64.wrap ((a : Int) + 1)).toNat = a + 1 := by rw [wrapJ _ (by omega) (by omega)]; omega
  have hn : ((P.length : Int)).toNat = P.length := rfl
  have hd : (P.drop (a + 1)).length = P.length - (a + 1) := List.length_drop
  have hc : List.take ((P.length - (a + 1)) * 2) (List.drop ((a + 1) * 2) (cP P)) = cP (P.drop (a + 1)) := by
    rw [cP_drop, ← hd, ← cP_len, List.take_length]
  have := scanX (n := P.length - (a + 1)) (p := fun i => mayH P hi ((a + 1) + i)) (S := halfW_L96_2_S P.length (cP P) (a : Int) lo hi) (fun i hi' => by
    rw [halfW_L96_2_S_0]
    unfold halfW_L96_2_S0
    rw [hw, hn, hc, pullD_some (i : Int) (by rfl) (by rfl), if_pos (by omega), guardP_pos (by omega), show ((i : Int).toNat) = i from rfl, readP (by rw [hd]; exact hi'), pullD_some (ta (P.drop (a + 1)) i, va (P.drop (a + 1)) i) (by rfl) (by rfl)]
    dsimp only
    obtain ⟨t1, t2⟩ := ta_drop P (a + 1) i
    obtain ⟨b1, b2, b3, b4⟩ := hb (a + 1 + i) (by omega)
    rw [t1, wrapJ (2 * ta P (a + 1 + i)) (by omega) (by omega), natI (by omega)]
    by_cases g : 2 * ta P (a + 1 + i) ≤ hi
    · rw [if_pos g, if_pos (by simpa [mayH] using g)]
    · rw [if_neg g, if_neg (by simpa [mayH] using g)]) (by
    rw [halfW_L96_2_S_0]
    unfold halfW_L96_2_S0
    rw [hw, hn, pullD_some ((P.length - (a + 1) : Nat) : Int) (by rfl) (by rfl), if_neg (by omega)]) (P.length - (a + 1)) 0 (by omega)
  exact this
theorem hf_must {P : List (Int × Int)} {lo hi : Int} (a : Nat) (ha : a < P.length) (h : PB P lo hi) : runR (halfW_L96_2_1_S P.length (cP P) (a : Int) lo hi) (.next 0 [iD 0]) = if fidx (fun i => mustH P lo ((a + 1) + i)) (P.length - (a + 1)) 0 < 0 then some (.out 0 []) else some (.out 1 [iD (fidx (fun i => mustH P lo ((a + 1) + i)) (P.length - (a + 1)) 0)]) := by
  obtain ⟨hl, l1, l2, h1, h2, hb⟩ := h
  have hw : (IntKind.i64.wrap ((a : Int) + 1)).toNat = a + 1 := by rw [wrapJ _ (by omega) (by omega)]; omega
  have hn : ((P.length : Int)).toNat = P.length := rfl
  have hd : (P.drop (a + 1)).length = P.length - (a + 1) := List.length_drop
  have hc : List.take ((P.length - (a + 1)) * 2) (List.drop ((a + 1) * 2) (cP P)) = cP (P.drop (a + 1)) := by
    rw [cP_drop, ← hd, ← cP_len, List.take_length]
  have := scanX (n := P.length - (a + 1)) (p := fun i => mustH P lo ((a + 1) + i)) (S := halfW_L96_2_1_S P.length (cP P) (a : Int) lo hi) (fun i hi' => by
    rw [halfW_L96_2_1_S_0]
    unfold halfW_L96_2_1_S0
    rw [hw, hn, hc, pullD_some (i : Int) (by rfl) (by rfl), if_pos (by omega), guardP_pos (by omega), show ((i : Int).toNat) = i from rfl, readP (by rw [hd]; exact hi'), pullD_some (ta (P.drop (a + 1)) i, va (P.drop (a + 1)) i) (by rfl) (by rfl)]
    dsimp only
    obtain ⟨t1, t2⟩ := ta_drop P (a + 1) i
    obtain ⟨b1, b2, b3, b4⟩ := hb (a + 1 + i) (by omega)
    rw [t2, wrapJ (2 * va P (a + 1 + i)) (by omega) (by omega), natI (by omega)]
    by_cases g : 2 * va P (a + 1 + i) ≤ lo
    · rw [if_pos g, if_pos (by simpa [mustH] using g)]
    · rw [if_neg g, if_neg (by simpa [mustH] using g)]) (by
    rw [halfW_L96_2_1_S_0]
    unfold halfW_L96_2_1_S0
    rw [hw, hn, pullD_some ((P.length - (a + 1) : Nat) : Int) (by rfl) (by rfl), if_neg (by omega)]) (P.length - (a + 1)) 0 (by omega)
  exact this
theorem halfW_eq {P : List (Int × Int)} {lo hi : Int} (a : Nat) (ha : a < P.length) (h : PB P lo hi) : m_50 [.agg [lP P, iD (a : Int), iD lo, iD hi]] = some (.tup [.agg [iD ((a : Int) + 1 + fidx (fun i => mayH P hi ((a + 1) + i)) (P.length - (a + 1)) 0), iD ((a : Int) + 1 + fidx (fun i => mustH P lo ((a + 1) + i)) (P.length - (a + 1)) 0)], .one (.bool (decide (0 ≤ fidx (fun i => mustH P lo ((a + 1) + i)) (P.length - (a + 1)) 0)))]) := by
  have r1 := hf_may a ha h
  have r2 := hf_must a ha h
  have g1 := fidx_ge (fun i => mayH P hi ((a + 1) + i)) (P.length - (a + 1)) 0
  have g2 := fidx_ge (fun i => mustH P lo ((a + 1) + i)) (P.length - (a + 1)) 0
  have hl := h.len
  have hw : IntKind.i64.wrap ((a : Int) + 1) = (a : Int) + 1 := wrapJ _ (by omega) (by omega)
  rw [m_50_eq]
  unfold halfW_M
  rw [hw, guardP_pos ⟨by omega, by omega, by omega, cP_len P⟩]
  generalize fidx (fun i => mayH P hi ((a + 1) + i)) (P.length - (a + 1)) 0 = x at *
  generalize fidx (fun i => mustH P lo ((a + 1) + i)) (P.length - (a + 1)) 0 = z at *
  by_cases h1 : x < 0
  · rw [if_pos h1] at r1
    rw [bindL_some r1, if_pos rfl, pullD_some () (by rfl) (by rfl)]
    have ex : x = -1 := g1.2.2 h1
    by_cases h2 : z < 0
    · rw [if_pos h2] at r2
      have ez : z = -1 := g2.2.2 h2
      rw [bindL_some r2, if_pos rfl, pullD_some () (by rfl) (by rfl), wrapJ ((a : Int) + 1 + -1) (by omega) (by omega), ex, ez]
      try rfl
    · rw [if_neg h2] at r2
      rw [bindL_some r2, if_neg (by decide), if_pos rfl, pullD_some z (by rfl) (by rfl), wrapJ ((a : Int) + 1 + -1) (by omega) (by omega), wrapJ ((a : Int) + 1 + z) (by omega) (by omega), ex]
      try rfl
  · rw [if_neg h1] at r1
    rw [bindL_some r1, if_neg (by decide), if_pos rfl, pullD_some x (by rfl) (by rfl)]
    by_cases h2 : z < 0
    · rw [if_pos h2] at r2
      have ez : z = -1 := g2.2.2 h2
      rw [bindL_some r2, if_pos rfl, pullD_some () (by rfl) (by rfl), wrapJ ((a : Int) + 1 + x) (by omega) (by omega), wrapJ ((a : Int) + 1 + -1) (by omega) (by omega), ez]
      try rfl
    · rw [if_neg h2] at r2
      rw [bindL_some r2, if_neg (by decide), if_pos rfl, pullD_some z (by rfl) (by rfl), wrapJ ((a : Int) + 1 + x) (by omega) (by omega), wrapJ ((a : Int) + 1 + z) (by omega) (by omega)]
      try rfl
end Go.Proofs.Ytmohaohdbklkeaa
/- Figures. -/
namespace Go.Proofs.Ytmohaohdbklkeaa
open Go.Ev Go.RowKit
set_option maxRecDepth 100000
/-! ### The reference's -/
/-! ### Figures -/
abbrev pLo (e : Int) (y : List Int) : Int := at' y (pk y) - e
abbrev pHi (e : Int) (y : List Int) : Int := at' y (pk y) + e
abbrev l3p (e : Int) (y : List Int) : Int := fidx (mayL (rng e y) (pLo e y) 3) y.length 0
abbrev l3q (e : Int) (y : List Int) : Int := fidx (mustL (rng e y) (pHi e y) 3) y.length 0
abbrev l9p (e : Int) (y : List Int) : Int := fidx (mayL (rng e y) (pLo e y) 9) y.length 0
abbrev l9q (e : Int) (y : List Int) : Int := fidx (mustL (rng e y) (pHi e y) 9) y.length 0
abbrev hp (e : Int) (y : List Int) : Int := fidx (mayH (rng e y) (pHi e y)) (y.length - (pk y + 1)) (pk y + 1)
abbrev hq (e : Int) (y : List Int) : Int := fidx (mustH (rng e y) (pLo e y)) (y.length - (pk y + 1)) (pk y + 1)
def figD (e : Int) (y : List Int) : D := if pLo e y ≤ 0 then .tup [.agg [iD 0, iD 0, iD 0, iD 0, iD 0, iD 0, iD 0, iD 0, iD 0], iD 21] else if l3q e y < 0 ∨ l9q e y < 0 ∨ hq e y < 0 then .tup [.agg [iD 0, iD 0, iD 0, iD 0, iD 0, iD 0, iD 0, iD 0, iD 0], iD 12] else .tup [.agg [iD ((pk y : Nat) : Int), iD (pLo e y), iD (pHi e y), iD (l3p e y), iD (l3q e y), iD (l9p e y), iD (l9q e y), iD (hp e y), iD (hq e y)], iD 0]
def botE (re : Int) (f : Q4) (l : List Q4) (st : Int) (y : List Int) : Int := if rulE re f l = 0 then recE st y else rulE re f l
theorem botE_first (re : Int) (f : Q4) (l : List Q4) (st : Int) (y : List Int) : firstV [rulE re f l, recE st y] = botE re f l st y := by
  unfold botE firstV firstV
  by_cases g : rulE re f l = 0
  · rw [if_pos g, if_pos g]
    split
    · rename_i h; rw [h]; rfl
    · rfl
  · rw [if_neg g, if_neg g]
theorem botE_ok {re : Int} {f : Q4} {l : List Q4} {st : Int} {y : List Int} (h : botE re f l st y = 0) : rulE re f l = 0 ∧ recE st y = 0 := by
  unfold botE at h
  split at h
  · rename_i g; exact ⟨g, h⟩
  · contradiction
theorem bothErr_eq (re : Int) (f : Q4) (l : List Q4) (st : Int) (y : List Int) (hl : l.length ≤ 1000) (hy : y.length ≤ 1000) : m_17 [ruD re f l, reD st y] = some (iD (botE re f l st y)) := by
  rw [m_17_eq]
  unfold bothErr_M botE
  have a1 : m_53 [.agg [iD re, iD f.a, iD f.b, iD f.c, iD f.d, .list l.length (cQ l)]] = _ := rulesErr_eq re f l hl
  have a2 : m_41 [.agg [iD st, .list y.length (y.map iD)]] = _ := recErr_eq st y hy
  rw [a1, pullI, a2, pullI]
  by_cases g : rulE re f l = 0
  · rw [if_neg (fun h => h g), if_pos g]
  · rw [if_pos g, if_neg g]
theorem RX.pb {e : Int} {y : List Int} (h : RX e y) : PB (rng e y) (pLo e y) (pHi e y) := by
  obtain ⟨e0, e1, l3, l64, hb⟩ := h
  have ha : pk y < y.length := atT_lt (y := y) (by omega) (i := y.length) (Nat.le_refl _)
  obtain ⟨b1, b2⟩ := hb _ ha
  have p1 : pLo e y = at' y (pk y) - e := rfl
  have p2 : pHi e y = at' y (pk y) + e := rfl
  refine ⟨by rw [rng_len]; omega, by omega, by omega, by omega, by omega, fun i hi => ?_⟩
  rw [rng_len] at hi
  obtain ⟨t1, t2⟩ := rng_ta (e := e) hi
  obtain ⟨b3, b4⟩ := hb i hi
  rw [t1, t2]
  omega
theorem ta_va {e : Int} (he : 0 ≤ e) (y : List Int) (i : Nat) : ta (rng e y) i ≤ va (rng e y) i := by
  rcases Nat.lt_or_ge i y.length with h | h
  · obtain ⟨t1, t2⟩ := rng_ta (e := e) h
    rw [t1, t2]; omega
  · have : (rng e y)[i]? = none := by rw [List.getElem?_eq_none_iff, rng_len]; exact h
    unfold ta va
    rw [this]
    decide
theorem figuresOf_eq (re : Int) (f : Q4) (l : List Q4) (st : Int) (y : List Int) (hl : l.length ≤ 1000) (hy : y.length ≤ 1000) : m_15 [ruD re f l, reD st y] = some (if botE re f l st y = 0 then figD re y else .tup [.agg [iD 0, iD 0, iD 0, iD 0, iD 0, iD 0, iD 0, iD 0, iD 0], iD (botE re f l st y)]) := by
  rw [m_15_eq]
  unfold figuresOf_M
  have a1 : m_46 [.agg [iD re, iD f.a, iD f.b, iD f.c, iD f.d, .list l.length (cQ l)]] = _ := chkRules_eq re f l hl
  have a2 : m_47 [.agg [iD st, .list y.length (y.map iD)]] = _ := chkRecord_eq st y hy
  rw [a1, pullI, a2, pullI, f2, botE_first, pullI]
  by_cases g : botE re f l st y = 0
  · obtain ⟨g1, g2⟩ := botE_ok g
    have hx := RX.of g1 g2
    have hpb := hx.pb
    have hpk : pk y < y.length := atT_lt (y := y) (by have := hx.l3; omega) (i := y.length) (Nat.le_refl _)
    have a3 : m_48 [.agg [iD re, iD f.a, iD f.b, iD f.c, iD f.d, .list l.length (cQ l)], .agg [iD st, .list y.length (y.map iD)]] = _ := samples_eq re f l st y hx
    have a4 : m_49 [.agg [.list (rng re y).length (cP (rng re y)), iD ((pk y : Nat) : Int), iD (pLo re y), iD (pHi re y)], iD 3] = _ := levelW_eq (pk y) 3 hpb (by decide) (by decide)
    have a5 : m_49 [.agg [.list (rng re y).length (cP (rng re y)), iD ((pk y : Nat) : Int), iD (pLo re y), iD (pHi re y)], iD 9] = _ := levelW_eq (pk y) 9 hpb (by decide) (by decide)
    have a6 : m_50 [.agg [.list (rng re y).length (cP (rng re y)), iD ((pk y : Nat) : Int), iD (pLo re y), iD (pHi re y)]] = _ := halfW_eq (pk y) (by rw [rng_len]; exact hpk) hpb
    rw [rng_len] at a4 a5 a6
    rw [if_neg (fun h => h g), if_pos g, a3, pullD_some ((rng re y).length, cP (rng re y), ((pk y : Nat) : Int), pLo re y, pHi re y) (by rfl) (by rfl)]
    dsimp only
    unfold figD
    by_cases h0 : pLo re y ≤ 0
    · rw [if_pos h0, if_pos h0]
    rw [if_neg h0, if_neg h0, rng_len, a4, pullD_some (l3p re y, l3q re y, decide (0 ≤ l3q re y)) (by rfl) (by rfl)]
    dsimp only
    rw [a5, pullD_some (l9p re y, l9q re y, decide (0 ≤ l9q re y)) (by rfl) (by rfl)]
    dsimp only
    have s1 := fidx_shift (mayH (rng re y) (pHi re y)) (pk y + 1) (y.length - (pk y + 1)) 0
    have s2 := fidx_shift (mustH (rng re y) (pLo re y)) (pk y + 1) (y.length - (pk y + 1)) 0
    rw [Nat.add_zero] at s1 s2
    have s1 : fidx (fun j => mayH (rng re y) (pHi re y) ((pk y + 1) + j)) (y.length - (pk y + 1)) 0 = if hp re y < 0 then -1 else hp re y - ((pk y + 1 : Nat) : Int) := s1
    have s2 : fidx (fun j => mustH (rng re y) (pLo re y) ((pk y + 1) + j)) (y.length - (pk y + 1)) 0 = if hq re y < 0 then -1 else hq re y - ((pk y + 1 : Nat) : Int) := s2
    have im : 0 ≤ hq re y → 0 ≤ hp re y := fun h => fidx_imp (p := mayH (rng re y) (pHi re y)) (q := mustH (rng re y) (pLo re y)) (fun i hi => by
      have h1 := ta_va hx.e0 y i
      have he := hx.e0
      have p1 : pLo re y = at' y (pk y) - re := rfl
      have p2 : pHi re y = at' y (pk y) + re := rfl
      simp only [decide_eq_true_eq] at hi ⊢
      omega) h
    rw [a6]
    generalize hz : fidx (fun j => mustH (rng re y) (pLo re y) ((pk y + 1) + j)) (y.length - (pk y + 1)) 0 = z at *
    generalize hw : fidx (fun j => mayH (rng re y) (pHi re y) ((pk y + 1) + j)) (y.length - (pk y + 1)) 0 = w at *
    rw [pullD_some (((pk y : Nat) : Int) + 1 + w, ((pk y : Nat) : Int) + 1 + z, decide (0 ≤ z)) (by rfl) (by rfl)]
    dsimp only
    by_cases c1 : l3q re y < 0
    · rw [if_pos (by simp; omega), if_pos (.inl c1)]
    rw [if_neg (by simp; omega)]
    by_cases c2 : l9q re y < 0
    · rw [if_pos (by simp; omega), if_pos (.inr (.inl c2))]
    rw [if_neg (by simp; omega)]
    by_cases c3 : hq re y < 0
    · rw [if_pos c3] at s2
      rw [if_pos (by simp; omega), if_pos (.inr (.inr c3))]
    · rw [if_neg c3] at s2
      have c4 := im (by omega)
      rw [if_neg (show ¬ hp re y < 0 by omega)] at s1
      have hq0 : hq re y = -1 ∨ (((pk y + 1 : Nat) : Int) ≤ hq re y ∧ _) := fidx_range (mustH (rng re y) (pLo re y)) (y.length - (pk y + 1)) (pk y + 1)
      have e1 : ((pk y : Nat) : Int) + 1 + w = hp re y := by rw [s1]; omega
      have e2 : ((pk y : Nat) : Int) + 1 + z = hq re y := by rw [s2]; omega
      rw [if_neg (by
        simp only [decide_eq_false_iff_not, Decidable.not_not]
        rcases hq0 with h9 | ⟨h9, -⟩
        · exact absurd h9 (by omega)
        · rw [s2]; omega), e1, e2, if_neg (by omega)]
  · rw [if_pos g, if_neg g]
theorem figD_in (e : Int) (y : List Int) : ∃ a b c d u v w x z r : Int, figD e y = .tup [.agg [iD a, iD b, iD c, iD d, iD u, iD v, iD w, iD x, iD z], iD r] := by
  unfold figD
  split
  · exact ⟨_, _, _, _, _, _, _, _, _, _, rfl⟩
  split
  · exact ⟨_, _, _, _, _, _, _, _, _, _, rfl⟩
  · exact ⟨_, _, _, _, _, _, _, _, _, _, rfl⟩
end Go.Proofs.Ytmohaohdbklkeaa
/- Whatever the true samples are. -/
namespace Go.Proofs.Ytmohaohdbklkeaa
open Go.Ev Go.RowKit
set_option maxRecDepth 100000
/-- Why figures are refused. -/
def figE (ga pl ph tl th nl nh ul uh : Int) : Int := if (0 ≤ ga ∧ ga ≤ 63 ∧ 1 ≤ pl ∧ pl ≤ 4196 ∧ 1 ≤ ph ∧ ph ≤ 4196 ∧ 0 ≤ tl ∧ tl ≤ 63 ∧ 0 ≤ th ∧ th ≤ 63 ∧ 0 ≤ nl ∧ nl ≤ 63 ∧ 0 ≤ nh ∧ nh ≤ 63 ∧ 0 ≤ ul ∧ ul ≤ 63 ∧ 0 ≤ uh ∧ uh ≤ 63) then (if pl ≤ ph ∧ tl ≤ th ∧ nl ≤ nh ∧ ul ≤ uh then 0 else 9) else 2
theorem figErr_eq (ga pl ph tl th nl nh ul uh : Int) : m_31 [.agg [iD ga, iD pl, iD ph, iD tl, iD th, iD nl, iD nh, iD ul, iD uh]] = some (iD (figE ga pl ph tl th nl nh ul uh)) := by
  rw [m_31_eq]
  unfold figErr_M figE
  simp only [within_eq, pullB, decide_eq_false_iff_not]
  by_cases a : 0 ≤ ga ∧ ga ≤ 63 ∧ 1 ≤ pl ∧ pl ≤ 4196 ∧ 1 ≤ ph ∧ ph ≤ 4196 ∧ 0 ≤ tl ∧ tl ≤ 63 ∧ 0 ≤ th ∧ th ≤ 63 ∧ 0 ≤ nl ∧ nl ≤ 63 ∧ 0 ≤ nh ∧ nh ≤ 63 ∧ 0 ≤ ul ∧ ul ≤ 63 ∧ 0 ≤ uh ∧ uh ≤ 63
  · rw [if_pos a, if_neg (by omega), if_neg (by omega), if_neg (by omega), if_neg (by omega), if_neg (by omega), if_neg (by omega), if_neg (by omega), if_neg (by omega), if_neg (by omega)]
    repeat' split
    all_goals first | rfl | (exfalso; omega)
  · rw [if_neg a]
    by_cases q0 : ¬ (0 ≤ ga ∧ ga ≤ 63)
    · rw [if_pos q0]
    rw [if_neg q0]
    by_cases q1 : ¬ (1 ≤ pl ∧ pl ≤ 4196)
    · rw [if_pos q1]
    rw [if_neg q1]
    by_cases q2 : ¬ (1 ≤ ph ∧ ph ≤ 4196)
    · rw [if_pos q2]
    rw [if_neg q2]
    by_cases q3 : ¬ (0 ≤ tl ∧ tl ≤ 63)
    · rw [if_pos q3]
    rw [if_neg q3]
    by_cases q4 : ¬ (0 ≤ th ∧ th ≤ 63)
    · rw [if_pos q4]
    rw [if_neg q4]
    by_cases q5 : ¬ (0 ≤ nl ∧ nl ≤ 63)
    · rw [if_pos q5]
    rw [if_neg q5]
    by_cases q6 : ¬ (0 ≤ nh ∧ nh ≤ 63)
    · rw [if_pos q6]
    rw [if_neg q6]
    by_cases q7 : ¬ (0 ≤ ul ∧ ul ≤ 63)
    · rw [if_pos q7]
    rw [if_neg q7]
    by_cases q8 : ¬ (0 ≤ uh ∧ uh ≤ 63)
    · rw [if_pos q8]
    rw [if_neg q8]
    exfalso; omega
theorem fidx_mono {p q : Nat → Bool} : ∀ {m i : Nat}, (∀ j, i ≤ j → j < i + m → q j = true → p j = true) → 0 ≤ fidx q m i → 0 ≤ fidx p m i ∧ fidx p m i ≤ fidx q m i
  | 0, i, _, h => absurd h (by unfold fidx; decide)
  | m + 1, i, hpq, h => by
    cases hp : p i with
    | true =>
      rw [fidx_true hp]
      rcases fidx_range q (m + 1) i with e | ⟨a, -⟩
      · omega
      · omega
    | false =>
      have hq : q i = false := by
        cases hq : q i with
        | false => rfl
        | true => rw [hpq i (Nat.le_refl _) (by omega) hq] at hp; cases hp
      rw [fidx_false hq] at h ⊢
      rw [fidx_false hp]
      exact fidx_mono (fun j h1 h2 => hpq j (by omega) (by omega)) h
/-! ### True samples -/
end Go.Proofs.Ytmohaohdbklkeaa
/- Times, voltages. -/
namespace Go.Proofs.Ytmohaohdbklkeaa
open Go.Ev Go.RowKit
set_option maxRecDepth 100000
/-- A loop that looks for what is not so. -/
theorem scanB {n : Nat} {ok : Nat → Bool} {bad : List D} {S : Rd → Option Rd} (hs : ∀ i, i < n → S (.next 0 [iD (i : Int)]) = if ok i = true then some (.next 0 [iD ((i + 1 : Nat) : Int)]) else some (.out 1 bad)) (he : S (.next 0 [iD (n : Int)]) = some (.out 0 [])) :
    ∀ m i, i + m = n → runR S (.next 0 [iD (i : Int)]) = if (List.range' i m).all ok = true then some (.out 0 []) else some (.out 1 bad) := by
  intro m
  induction m with
  | zero =>
    intro i hi
    have : i = n := by omega
    subst this
    rw [runR_exit he]; rfl
  | succ m ih =>
    intro i hi
    have h1 := hs i (by omega)
    rw [List.range'_succ, List.all_cons]
    cases h0 : ok i with
    | true =>
      rw [h0, if_pos rfl] at h1
      rw [runR_next h1, ih (i + 1) (by omega), Bool.true_and]
    | false =>
      rw [h0, if_neg (by decide)] at h1
      rw [runR_exit h1, Bool.false_and, if_neg (by decide)]
/-- Are all pairs in order? -/
def ordE (l : List (Int × Int)) : Int := if (List.range' 0 l.length).all (fun i => decide (ta l i ≤ va l i)) = true then 0 else 9
theorem inOrder_eq (l : List (Int × Int)) (hl : l.length ≤ 1000000) : m_91 [lP l] = some (iD (ordE l)) := by
  rw [m_91_eq]
  unfold inOrder_M
  have h := scanB (n := l.length) (ok := fun i => decide (ta l i ≤ va l i)) (bad := [iD 9]) (S := inOrder_L2_S l.length (cP l)) (fun i hi => by
    show inOrder_L2_S0 _ _ _ = _
    unfold inOrder_L2_S0
    rw [pullD_some (i : Int) (by rfl) (by rfl), if_pos (by omega), guardP_pos (by omega), show ((i : Int).toNat) = i from rfl, readP hi, pullD_some (ta l i, va l i) (by rfl) (by rfl), natI (by omega)]
    dsimp only
    by_cases h : ta l i ≤ va l i
    · rw [if_neg (by omega), if_pos (by simpa using h)]
    · rw [if_pos (by omega), if_neg (by simpa using h)]) (by
    show inOrder_L2_S0 _ _ _ = _
    unfold inOrder_L2_S0
    rw [pullD_some (l.length : Int) (by rfl) (by rfl), if_neg (by omega)]) l.length 0 (by omega)
  rw [Int.natCast_zero] at h
  unfold ordE
  by_cases q : (List.range' 0 l.length).all (fun i => decide (ta l i ≤ va l i)) = true
  · rw [if_pos q] at h ⊢
    rw [bindL_some h, if_pos rfl, pullD_some () (by rfl) (by rfl)]
  · rw [if_neg q] at h ⊢
    rw [bindL_some h, if_neg (by decide), if_pos rfl, pullD_some (9 : Int) (by rfl) (by rfl)]
theorem ord4 (a b c d e f g i : Int) : m_91 [.list 4 [iD a, iD b, iD c, iD d, iD e, iD f, iD g, iD i]] = some (iD (if a ≤ b ∧ c ≤ d ∧ e ≤ f ∧ g ≤ i then 0 else 9)) := by
  have := inOrder_eq [(a, b), (c, d), (e, f), (g, i)] (by simp)
  refine this.trans ?_
  congr 3
  unfold ordE
  simp [List.range', ta, va]
def flW (n d : Int) : Int := if n.tmod d < 0 then IntKind.i64.wrap (IntKind.i64.wrap (n.tdiv d) - 1) else IntKind.i64.wrap (n.tdiv d)
def ceW (n d : Int) : Int := IntKind.i64.wrap (0 - flW (IntKind.i64.wrap (0 - n)) d)
theorem rdown_eq (n : Int) {d : Int} (hd : d ≠ 0) : m_65 [iD n, iD d] = some (iD (flW n d)) := by
  rw [m_65_eq]
  unfold rdown_M flW
  rw [guardP_pos hd]
  split <;> rfl
theorem rup_eq (n : Int) {d : Int} (hd : d ≠ 0) : m_66 [iD n, iD d] = some (iD (ceW n d)) := by
  rw [m_66_eq]
  unfold rup_M ceW
  rw [rdown_eq _ hd, pullI]
theorem rounded_eq (lo hi : Int) {d : Int} (hd : d ≠ 0) : m_62 [iD lo, iD hi, iD d] = some (.agg [iD (flW lo d), iD (ceW hi d)]) := by
  rw [m_62_eq]
  unfold rounded_M
  rw [rdown_eq _ hd, pullI, rup_eq _ hd, pullI]
theorem fv2 (x y : Int) : firstV [2, x, y] = 2 := rfl
theorem fv02 (y : Int) : firstV [0, 2, y] = 2 := rfl
theorem fv00 (y : Int) : firstV [0, 0, y] = y := by
  unfold firstV firstV firstV
  simp only [if_true]
  split
  · rename_i h; rw [h]; rfl
  · rfl
theorem cf_s0 (ga pl ph tl th nl nh ul uh : Int) : chkFigures_M_s0 ga pl ph tl th nl nh ul uh = some (iD 2) := by
  unfold chkFigures_M_s0
  simp only [ord4, pullI, f3, fv2, ite_self]
theorem cf_s1 (ga pl ph tl th nl nh ul uh : Int) : chkFigures_M_s1 ga pl ph tl th nl nh ul uh = some (iD 2) := by
  unfold chkFigures_M_s1
  simp only [ord4, pullI, f3, fv2, ite_self]
theorem cf_s2 (ga pl ph tl th nl nh ul uh : Int) : chkFigures_M_s2 ga pl ph tl th nl nh ul uh = some (iD 2) := by
  unfold chkFigures_M_s2
  simp only [ord4, pullI, f3, fv2, ite_self]
theorem cf_s3 (ga pl ph tl th nl nh ul uh : Int) : chkFigures_M_s3 ga pl ph tl th nl nh ul uh = some (iD 2) := by
  unfold chkFigures_M_s3
  simp only [ord4, pullI, f3, fv2, ite_self]
theorem cf_s4 (ga pl ph tl th nl nh ul uh : Int) : chkFigures_M_s4 ga pl ph tl th nl nh ul uh = some (iD 2) := by
  unfold chkFigures_M_s4
  simp only [ord4, pullI, f3, fv2, ite_self]
theorem cf_s5 (ga pl ph tl th nl nh ul uh : Int) : chkFigures_M_s5 ga pl ph tl th nl nh ul uh = some (iD 2) := by
  unfold chkFigures_M_s5
  simp only [ord4, pullI, f3, fv2, ite_self]
theorem cf_s6 (ga pl ph tl th nl nh ul uh : Int) : chkFigures_M_s6 ga pl ph tl th nl nh ul uh = some (iD 2) := by
  unfold chkFigures_M_s6
  simp only [ord4, pullI, f3, fv2, ite_self]
theorem cf_s7 (ga pl ph tl th nl nh ul uh : Int) : chkFigures_M_s7 ga pl ph tl th nl nh ul uh = some (iD 2) := by
  unfold chkFigures_M_s7
  simp only [ord4, pullI, f3, fv2, ite_self]
theorem cf_s8 (ga pl ph tl th nl nh ul uh : Int) : chkFigures_M_s8 ga pl ph tl th nl nh ul uh = some (iD 2) := by
  unfold chkFigures_M_s8
  simp only [ord4, pullI, f3, fv2, ite_self]
theorem cf_s9 (ga pl ph tl th nl nh ul uh : Int) : chkFigures_M_s9 ga pl ph tl th nl nh ul uh = some (iD 2) := by
  unfold chkFigures_M_s9
  simp only [ord4, pullI, f3, fv2, ite_self]
theorem cf_s10 (ga pl ph tl th nl nh ul uh : Int) : chkFigures_M_s10 ga pl ph tl th nl nh ul uh = some (iD 2) := by
  unfold chkFigures_M_s10
  simp only [ord4, pullI, f3, fv2, ite_self]
theorem cf_s11 (ga pl ph tl th nl nh ul uh : Int) : chkFigures_M_s11 ga pl ph tl th nl nh ul uh = some (iD (if ul ≤ 63 ∧ 0 ≤ uh ∧ uh ≤ 63 then (if 1 ≤ pl ∧ pl ≤ 4196 ∧ 1 ≤ ph ∧ ph ≤ 4196 then (if pl ≤ ph ∧ tl ≤ th ∧ nl ≤ nh ∧ ul ≤ uh then 0 else 9) else 2) else 2)) := by
  unfold chkFigures_M_s11
  simp only [ord4, pullI, f3, fv2, fv02, fv00, ite_self]
  generalize (if pl ≤ ph ∧ tl ≤ th ∧ nl ≤ nh ∧ ul ≤ uh then (0 : Int) else 9) = z
  by_cases a : ul ≤ 63 ∧ 0 ≤ uh ∧ uh ≤ 63
  · rw [if_pos a, if_neg (by omega), if_neg (by omega), if_neg (by omega)]
    by_cases b : 1 ≤ pl ∧ pl ≤ 4196 ∧ 1 ≤ ph ∧ ph ≤ 4196
    · rw [if_pos b, if_neg (by omega), if_neg (by omega), if_neg (by omega), if_neg (by omega)]
    · rw [if_neg b]
      repeat' split
      all_goals first | rfl | (exfalso; omega)
  · rw [if_neg a]
    split
    · rfl
    split
    · rfl
    split
    · rfl
    exfalso; omega
theorem chkFigures_eq (ga pl ph tl th nl nh ul uh : Int) : m_64 [.agg [iD ga, iD pl, iD ph, iD tl, iD th, iD nl, iD nh, iD ul, iD uh]] = some (iD (figE ga pl ph tl th nl nh ul uh)) := by
  rw [m_64_eq]
  unfold chkFigures_M figE
  simp only [cf_s0, cf_s1, cf_s2, cf_s3, cf_s4, cf_s5, cf_s6, cf_s7, cf_s8, cf_s9, cf_s10, cf_s11]
  generalize (if pl ≤ ph ∧ tl ≤ th ∧ nl ≤ nh ∧ ul ≤ uh then (0 : Int) else 9) = z
  by_cases a : 0 ≤ ga ∧ ga ≤ 63 ∧ 0 ≤ tl ∧ tl ≤ 63 ∧ 0 ≤ th ∧ th ≤ 63 ∧ 0 ≤ nl ∧ nl ≤ 63 ∧ 0 ≤ nh ∧ nh ≤ 63 ∧ 0 ≤ ul
  · rw [if_neg (by omega), if_neg (by omega), if_neg (by omega), if_neg (by omega), if_neg (by omega), if_neg (by omega), if_neg (by omega), if_neg (by omega), if_neg (by omega), if_neg (by omega), if_neg (by omega)]
    repeat' split
    all_goals first | rfl | (exfalso; omega)
  · rw [if_neg (c := 0 ≤ ga ∧ ga ≤ 63 ∧ 1 ≤ pl ∧ pl ≤ 4196 ∧ 1 ≤ ph ∧ ph ≤ 4196 ∧ 0 ≤ tl ∧ tl ≤ 63 ∧ 0 ≤ th ∧ th ≤ 63 ∧ 0 ≤ nl ∧ nl ≤ 63 ∧ 0 ≤ nh ∧ nh ≤ 63 ∧ 0 ≤ ul ∧ ul ≤ 63 ∧ 0 ≤ uh ∧ uh ≤ 63) (by omega)]
    by_cases q0 : ga < 0
    · rw [if_pos q0]
    rw [if_neg q0]
    by_cases q1 : ga > 63
    · rw [if_pos q1]
    rw [if_neg q1]
    by_cases q2 : tl < 0
    · rw [if_pos q2]
    rw [if_neg q2]
    by_cases q3 : tl > 63
    · rw [if_pos q3]
    rw [if_neg q3]
    by_cases q4 : th < 0
    · rw [if_pos q4]
    rw [if_neg q4]
    by_cases q5 : th > 63
    · rw [if_pos q5]
    rw [if_neg q5]
    by_cases q6 : nl < 0
    · rw [if_pos q6]
    rw [if_neg q6]
    by_cases q7 : nl > 63
    · rw [if_pos q7]
    rw [if_neg q7]
    by_cases q8 : nh < 0
    · rw [if_pos q8]
    rw [if_neg q8]
    by_cases q9 : nh > 63
    · rw [if_pos q9]
    rw [if_neg q9]
    by_cases q10 : ul < 0
    · rw [if_pos q10]
    rw [if_neg q10]
    exfalso; omega
theorem chkTimed_eq (ga pl ph tl th nl nh ul uh n : Int) : m_61 [.agg [iD ga, iD pl, iD ph, iD tl, iD th, iD nl, iD nh, iD ul, iD uh], iD n] = some (iD (firstV [figE ga pl ph tl th nl nh ul uh, stepE n])) := by
  rw [m_61_eq]
  unfold chkTimed_M
  have h : m_64 [shNL7_0 ga pl ph tl th nl nh ul uh] = _ := chkFigures_eq ga pl ph tl th nl nh ul uh
  rw [h, pullI, chkStep_eq, pullI, f2, pullI]
abbrev lo1 (nl th n : Int) : Int := IntKind.i64.wrap (IntKind.i64.wrap (5 * IntKind.i64.wrap (nl - th)) * n)
abbrev lo2 (ul th nl n : Int) : Int := IntKind.i64.wrap (IntKind.i64.wrap (IntKind.i64.wrap (IntKind.i64.wrap (2 * ul) - IntKind.i64.wrap (3 * th)) + nl) * n)
theorem frontOf_eq (ga pl ph tl th nl nh ul uh n : Int) : m_35 [.agg [iD ga, iD pl, iD ph, iD tl, iD th, iD nl, iD nh, iD ul, iD uh], iD n] = some (if firstV [figE ga pl ph tl th nl nh ul uh, stepE n] = 0 then .tup [.agg [iD (flW (lo1 nl th n) 3), iD (ceW (lo1 nh tl n) 3)], iD 0] else .tup [.agg [iD 0, iD 0], iD (firstV [figE ga pl ph tl th nl nh ul uh, stepE n])]) := by
  rw [m_35_eq]
  unfold frontOf_M
  have h : m_61 [shNL7_0 ga pl ph tl th nl nh ul uh, iD n] = _ := chkTimed_eq ga pl ph tl th nl nh ul uh n
  rw [h, pullI]
  by_cases g : firstV [figE ga pl ph tl th nl nh ul uh, stepE n] = 0
  · rw [if_pos g, if_neg (by omega), rounded_eq _ _ (by decide), pullD_some (flW (lo1 nl th n) 3, ceW (lo1 nh tl n) 3) (by rfl) (by rfl)]
  · rw [if_neg g, if_pos g]
theorem tailOf_eq (ga pl ph tl th nl nh ul uh n : Int) : m_36 [.agg [iD ga, iD pl, iD ph, iD tl, iD th, iD nl, iD nh, iD ul, iD uh], iD n] = some (if firstV [figE ga pl ph tl th nl nh ul uh, stepE n] = 0 then .tup [.agg [iD (flW (lo2 ul th nl n) 2), iD (ceW (lo2 uh tl nh n) 2)], iD 0] else .tup [.agg [iD 0, iD 0], iD (firstV [figE ga pl ph tl th nl nh ul uh, stepE n])]) := by
  rw [m_36_eq]
  unfold tailOf_M
  have h : m_61 [shNL7_0 ga pl ph tl th nl nh ul uh, iD n] = _ := chkTimed_eq ga pl ph tl th nl nh ul uh n
  rw [h, pullI]
  by_cases g : firstV [figE ga pl ph tl th nl nh ul uh, stepE n] = 0
  · rw [if_pos g, if_neg (by omega), rounded_eq _ _ (by decide), pullD_some (flW (lo2 ul th nl n) 2, ceW (lo2 uh tl nh n) 2) (by rfl) (by rfl)]
  · rw [if_neg g, if_pos g]
def rdN (n d : Int) : Int := IntKind.i64.wrap (n.tdiv (absW (eu n d)))
def rdD (n d : Int) : Int := IntKind.i64.wrap (d.tdiv (absW (eu n d)))
theorem absW_pos {n d : Int} (hd : 0 < d) (h2 : d < 9223372036854775808) : absW (eu n d) ≠ 0 := by
  rw [absW_gcd hd h2]
  have : 0 < Int.gcd n d := Int.gcd_pos_of_ne_zero_right _ (by omega)
  omega
theorem reduced_eq (n : Int) {d : Int} (hd : 0 < d) (h2 : d < 9223372036854775808) : m_93 [iD n, iD d] = some (.agg [iD (rdN n d), iD (rdD n d)]) := by
  rw [m_93_eq]
  unfold reduced_M
  rw [divisor_eq, pullI, guardP_pos (absW_pos hd h2)]
  rfl
theorem tdiv_nat {n : Int} {g : Nat} (hn : 0 ≤ n) : 0 ≤ n.tdiv g ∧ n.tdiv g ≤ n := by
  refine ⟨Int.tdiv_nonneg hn (Int.natCast_nonneg g), ?_⟩
  rw [Int.tdiv_eq_ediv_of_nonneg hn]
  exact Int.ediv_le_self _ hn
theorem rd_ok {n d : Int} (hn : 0 ≤ n) (h1 : n < 9223372036854775808) (hd : 0 < d) (h2 : d < 9223372036854775808) : rdN n d = n.tdiv ((Int.gcd n d : Nat) : Int) ∧ rdD n d = d.tdiv ((Int.gcd n d : Nat) : Int) ∧ 0 ≤ rdN n d ∧ 1 ≤ rdD n d := by
  unfold rdN rdD
  rw [absW_gcd hd h2]
  obtain ⟨a1, a2⟩ := tdiv_nat (g := Int.gcd n d) hn
  obtain ⟨b1, b2⟩ := tdiv_nat (g := Int.gcd n d) (show 0 ≤ d by omega)
  rw [wrapJ _ (by omega) (by omega), wrapJ _ (by omega) (by omega)]
  refine ⟨rfl, rfl, a1, ?_⟩
  have hg : 0 < Int.gcd n d := Int.gcd_pos_of_ne_zero_right _ (by omega)
  have hle : Int.gcd n d ≤ d.natAbs := Nat.le_of_dvd (by omega) (Int.gcd_dvd_natAbs_right n d)
  rw [Int.tdiv_eq_ediv_of_nonneg (by omega)]
  exact (Int.le_ediv_iff_mul_le (by omega)).2 (by omega)
theorem tooLarge_eq (n d : Int) : m_89 [.agg [iD n, iD d]] = some (.one (.bool (decide (¬ (n ≤ 1000000000 ∧ d ≤ 1000000000))))) := by
  rw [m_89_eq]
  unfold tooLarge_M
  congr 3
  rw [Bool.eq_iff_iff]
  simp only [decide_eq_true_eq]
  split <;> omega
theorem flW_eq {n d : Int} (hd : 0 < d) (h1 : -4611686018427387904 ≤ n) (h2 : n ≤ 4611686018427387904) : flW n d = n / d := by
  unfold flW
  have e1 := Int.mul_tdiv_add_tmod n d
  have e2 : (n.tmod d).natAbs < d.natAbs := by rw [Int.natAbs_tmod]; exact Nat.mod_lt _ (by omega)
  have b1 : (n.tdiv d).natAbs ≤ n.natAbs := by rw [Int.natAbs_tdiv]; exact Nat.div_le_self _ _
  have hq : IntKind.i64.wrap (n.tdiv d) = n.tdiv d := wrapJ _ (by omega) (by omega)
  rw [hq]
  by_cases h : n.tmod d < 0
  · rw [if_pos h, wrapJ _ (by omega) (by omega)]
    exact ((Int.ediv_emod_unique hd).2 ⟨(show n.tmod d + d + d * (n.tdiv d - 1) = n by rw [Int.mul_sub]; omega), by omega, by omega⟩).1.symm
  · rw [if_neg h]
    exact ((Int.ediv_emod_unique hd).2 ⟨(show n.tmod d + d * n.tdiv d = n by omega), by omega, by omega⟩).1.symm
theorem facE_ok {x : Q4} (h : facE x = 0) : lowB x.a x.b = true ∧ lowB x.c x.d = true ∧ 1 ≤ x.a ∧ x.a ≤ 1000 ∧ 1 ≤ x.b ∧ x.b ≤ 1000 ∧ 1 ≤ x.c ∧ x.c ≤ 1000 ∧ 1 ≤ x.d ∧ x.d ≤ 1000 ∧ x.a * x.d ≤ x.c * x.b := by
  unfold facE at h
  split at h
  · rename_i g
    split at h
    · rename_i g2
      split at h
      · rename_i g3
        unfold facR at g2
        exact ⟨g.1, g.2, by omega, by omega, by omega, by omega, by omega, by omega, by omega, by omega, g3⟩
      · cases h
    · cases h
  · cases h
def bnd : Nat → Int
  | 0 => 1
  | 1 => 1000
  | 2 => 1000000
  | 3 => 1000000000
  | _ => 1000000000000
theorem bnd_le {i : Nat} (h : i < 4) : bnd i ≤ 1000000000 ∧ bnd i * 1000 = bnd (i + 1) := by
  have : i = 0 ∨ i = 1 ∨ i = 2 ∨ i = 3 := by omega
  rcases this with rfl | rfl | rfl | rfl <;> decide
/-- Chains that are valid. -/
structure ChOK (l : List Q4) : Prop where
  len : l.length ≤ 4
  fac : ∀ i, i < l.length → facE (qAt l i) = 0
theorem rulE_ok {re : Int} {f : Q4} {l : List Q4} (h : rulE re f l = 0) : 0 ≤ re ∧ re ≤ 100 ∧ facE f = 0 ∧ ChOK l := by
  unfold rulE at h
  split at h
  · rename_i g
    split at h
    · rename_i g2
      split at h
      · cases h
      · exact ⟨g.1, g.2, g2, by omega, fun i hi => fstE_zero h i (by omega) (by omega)⟩
    · contradiction
  · cases h
/-! ### Scales are bounded -/
structure SB (B a b c d : Int) : Prop where
  a0 : 0 ≤ a
  a1 : a ≤ B
  b0 : 1 ≤ b
  b1 : b ≤ B
  c0 : 0 ≤ c
  c1 : c ≤ B
  d0 : 1 ≤ d
  d1 : d ≤ B
theorem product_b {B p q n m : Int} (hB : B ≤ 1000000000) (p0 : 0 ≤ p) (p1 : p ≤ B) (q0 : 1 ≤ q) (q1 : q ≤ B) (n0 : 1 ≤ n) (n1 : n ≤ 1000) (m0 : 1 ≤ m) (m1 : m ≤ 1000) :
    ∃ x z, m_88 [.agg [iD p, iD q], .agg [iD n, iD m]] = some (.agg [iD x, iD z]) ∧ 0 ≤ x ∧ x ≤ B * 1000 ∧ 1 ≤ z ∧ z ≤ B * 1000 := by
  have b1 : 0 ≤ p * n ∧ p * n ≤ B * 1000 := ⟨Int.mul_nonneg p0 (by omega), Int.mul_le_mul p1 n1 (by omega) (by omega)⟩
  have b2 : 0 < q * m ∧ q * m ≤ B * 1000 := ⟨Int.mul_pos (by omega) (by omega), Int.mul_le_mul q1 m1 (by omega) (by omega)⟩
  obtain ⟨s1, s2, s3, s4⟩ := rd_ok b1.1 (by omega) b2.1 (by omega)
  obtain ⟨t1, t2⟩ := tdiv_nat (g := Int.gcd (p * n) (q * m)) b1.1
  obtain ⟨t3, t4⟩ := tdiv_nat (g := Int.gcd (p * n) (q * m)) (show 0 ≤ q * m by omega)
  refine ⟨rdN (p * n) (q * m), rdD (p * n) (q * m), ?_, s3, by rw [s1]; omega, s4, by rw [s2]; omega⟩
  rw [m_88_eq]
  unfold product_M
  rw [wrapJ (p * n) (by omega) (by omega), wrapJ (q * m) (by omega) (by omega), reduced_eq _ b2.1 (by omega), pullD_some (rdN (p * n) (q * m), rdD (p * n) (q * m)) (by rfl) (by rfl)]
theorem sb_go (re p q u v : Int) (l : List Q4) (x0 : Int) (h : ChOK l) : ∀ m i, i + m = l.length → ∀ a b c d, SB (bnd i) a b c d → ∃ a' b' c' d', SB (bnd l.length) a' b' c' d' ∧
    runR (scaleOf_L7_S re p q u v l.length (cQ l) x0) (.next 0 [iD (i : Int), iD a, iD b, iD c, iD d]) = some (.out 0 [iD a', iD b', iD c', iD d']) := by
  have hl := h.len
  intro m
  induction m with
  | zero =>
    intro i hi a b c d hs
    have : i = l.length := by omega
    subst this
    refine ⟨a, b, c, d, hs, runR_exit ?_⟩
    rw [scaleOf_L7_S_0]
    unfold scaleOf_L7_S0
    rw [pullD_some ((l.length : Int), a, b, c, d) (by rfl) (by rfl)]
    dsimp only
    rw [if_neg (by omega)]
  | succ m ih =>
    intro i hi a b c d hs
    have hi' : i < l.length := by omega
    obtain ⟨a0, a1, b0, b1, c0, c1, d0, d1⟩ := hs
    obtain ⟨e1, e2⟩ := bnd_le (i := i) (by omega)
    obtain ⟨k1, k2, k3, k4, k5, k6, k7, k8, k9, k10, -⟩ := facE_ok (h.fac i hi')
    obtain ⟨x, z, p1, x0', x1, z0, z1⟩ := product_b e1 a0 a1 b0 b1 k3 k4 k5 k6
    obtain ⟨y, w, p2, y0, y1, w0, w1⟩ := product_b e1 c0 c1 d0 d1 k7 k8 k9 k10
    have st : scaleOf_L7_S re p q u v l.length (cQ l) x0 (.next 0 [iD (i : Int), iD a, iD b, iD c, iD d]) = some (.next 0 [iD ((i + 1 : Nat) : Int), iD x, iD z, iD y, iD w]) := by
      rw [scaleOf_L7_S_0]
      unfold scaleOf_L7_S0
      rw [pullD_some ((i : Int), a, b, c, d) (by rfl) (by rfl)]
      dsimp only
      rw [if_pos (by omega), guardP_pos (by omega), show ((i : Int).toNat) = i from rfl, readQ hi', pullD_some ((qAt l i).a, (qAt l i).b, (qAt l i).c, (qAt l i).d) (by rfl) (by rfl)]
      dsimp only
      rw [p1, pullD_some (x, z) (by rfl) (by rfl)]
      dsimp only
      rw [p2, pullD_some (y, w) (by rfl) (by rfl), natI (by omega)]
    obtain ⟨a', b', c', d', hs', hr⟩ := ih (i + 1) (by omega) x z y w (by rw [← e2]; exact ⟨x0', x1, z0, z1, y0, y1, w0, w1⟩)
    exact ⟨a', b', c', d', hs', by rw [runR_next st, hr]⟩
theorem scale_b {re : Int} {f : Q4} {l : List Q4} (hl : l.length ≤ 1000) (g : rulE re f l = 0) : (∃ a b c d, SB 1000000000 a b c d ∧ m_63 [ruD re f l] = some (.tup [.agg [iD a, iD b, iD c, iD d], iD 0])) ∨ m_63 [ruD re f l] = some (.tup [.agg [iD 0, iD 0, iD 0, iD 0], iD 8]) := by
  have hc := (rulE_ok g).2.2.2
  have h0 : m_46 [.agg [iD re, iD f.a, iD f.b, iD f.c, iD f.d, .list l.length (cQ l)]] = _ := chkRules_eq re f l hl
  obtain ⟨a, b, c, d, hs, hr⟩ := sb_go re f.a f.b f.c f.d l 0 hc l.length 0 (by omega) 1 1 1 1 ⟨by decide, by decide, by decide, by decide, by decide, by decide, by decide, by decide⟩
  have hr : runR (scaleOf_L7_S re f.a f.b f.c f.d l.length (cQ l) 0) (.next 0 [iD 0, iD 1, iD 1, iD 1, iD 1]) = _ := hr
  obtain ⟨a0, a1, b0, b1, c0, c1, d0, d1⟩ := hs
  have key : m_63 [ruD re f l] = some (if a ≤ 1000000000 ∧ b ≤ 1000000000 then (if c ≤ 1000000000 ∧ d ≤ 1000000000 then .tup [.agg [iD a, iD b, iD c, iD d], iD 0] else .tup [.agg [iD 0, iD 0, iD 0, iD 0], iD 8]) else .tup [.agg [iD 0, iD 0, iD 0, iD 0], iD 8]) := by
    rw [m_63_eq]
    unfold scaleOf_M
    rw [h0, pullI, g, if_neg (by decide), bindL_some hr, if_pos rfl, pullD_some (a, b, c, d) (by rfl) (by rfl)]
    dsimp only
    rw [tooLarge_eq, pullB, tooLarge_eq, pullB]
    by_cases s1 : a ≤ 1000000000 ∧ b ≤ 1000000000
    · rw [if_neg (by simp only [decide_eq_true_eq]; exact fun h => h s1), if_pos s1]
      by_cases s2 : c ≤ 1000000000 ∧ d ≤ 1000000000
      · rw [if_neg (by simp only [decide_eq_true_eq]; exact fun h => h s2), if_pos s2]
      · rw [if_pos (by simp only [decide_eq_true_eq]; exact s2), if_neg s2]
    · rw [if_pos (by simp only [decide_eq_true_eq]; exact s1), if_neg s1]
  by_cases s1 : a ≤ 1000000000 ∧ b ≤ 1000000000
  · rw [if_pos s1] at key
    by_cases s2 : c ≤ 1000000000 ∧ d ≤ 1000000000
    · rw [if_pos s2] at key
      exact .inl ⟨a, b, c, d, ⟨a0, s1.1, b0, s1.2, c0, s2.1, d0, s2.2⟩, key⟩
    · rw [if_neg s2] at key
      exact .inr key
  · rw [if_neg s1] at key
    exact .inr key
theorem inside_eq (a b c d : Int) : m_34 [.agg [iD a, iD b], .agg [iD c, iD d]] = some (.one (.bool (decide (c ≤ a ∧ b ≤ d)))) := by
  rw [m_34_eq]
  unfold inside_M
  by_cases h : c ≤ a
  · rw [if_pos h]; simp [h]
  · rw [if_neg h]; simp [h]
/-- Rounded down and up, as it is in mathematics. -/
theorem fl_eq {x d : Int} (hd : 0 < d) (h1 : -10000000000000 ≤ x) (h2 : x ≤ 10000000000000) : flW x d = x / d := flW_eq hd (by omega) (by omega)
theorem fl_bound {x d : Int} (hd : 0 < d) (h1 : -10000000000000 ≤ x) (h2 : x ≤ 10000000000000) : -10000000000000 ≤ x / d ∧ x / d ≤ 10000000000000 :=
  ⟨(Int.le_ediv_iff_mul_le hd).2 (by have := Int.mul_le_mul_of_nonneg_left (show 1 ≤ d by omega) (show (0 : Int) ≤ 10000000000000 by decide); omega), by
    have := Int.ediv_le_ediv hd h2
    have := Int.ediv_le_self (a := 10000000000000) d (by decide)
    omega⟩
theorem ce_eq {x d : Int} (hd : 0 < d) (h1 : -10000000000000 ≤ x) (h2 : x ≤ 10000000000000) : ceW x d = -((-x) / d) := by
  unfold ceW
  have := fl_bound (x := -x) hd (by omega) (by omega)
  rw [wrapJ (0 - x) (by omega) (by omega), show 0 - x = -x by omega, fl_eq hd (by omega) (by omega), wrapJ _ (by omega) (by omega)]
  omega
theorem fl_mono {x y d : Int} (hd : 0 < d) (h : x ≤ y) (x1 : -10000000000000 ≤ x) (x2 : x ≤ 10000000000000) (y1 : -10000000000000 ≤ y) (y2 : y ≤ 10000000000000) : flW x d ≤ flW y d ∧ ceW x d ≤ ceW y d := by
  rw [fl_eq hd x1 x2, fl_eq hd y1 y2, ce_eq hd x1 x2, ce_eq hd y1 y2]
  have := Int.ediv_le_ediv hd h
  have := Int.ediv_le_ediv hd (show -y ≤ -x by omega)
  omega
end Go.Proofs.Ytmohaohdbklkeaa
/- The law of a wider error. -/
namespace Go.Proofs.Ytmohaohdbklkeaa
open Go.Ev Go.RowKit
set_option maxRecDepth 100000
/-- Figures that are told are valid. -/
structure FG (e : Int) (y : List Int) : Prop where
  rx : RX e y
  lo : 0 < pLo e y
  q3 : 0 ≤ l3q e y
  q9 : 0 ≤ l9q e y
  qh : 0 ≤ hq e y
/-- What is known of the places. -/
structure FP (e : Int) (y : List Int) : Prop where
  pk : pk y < y.length
  n : y.length ≤ 64
  lo1 : 1 ≤ pLo e y
  lohi : pLo e y ≤ pHi e y
  hi : pHi e y ≤ 4196
  a3 : 0 ≤ l3p e y ∧ l3p e y ≤ l3q e y ∧ l3q e y ≤ 63
  a9 : 0 ≤ l9p e y ∧ l9p e y ≤ l9q e y ∧ l9q e y ≤ 63
  ah : 0 ≤ hp e y ∧ hp e y ≤ hq e y ∧ hq e y ≤ 63
theorem FG.fp {e : Int} {y : List Int} (h : FG e y) : FP e y := by
  obtain ⟨hx, hlo, q3, q9, qh⟩ := h
  have hx' := hx
  obtain ⟨e0, e1, l3, l64, hb⟩ := hx
  have ha : Go.Proofs.Ytmohaohdbklkeaa.pk y < y.length := atT_lt (y := y) (by omega) (i := y.length) (Nat.le_refl _)
  obtain ⟨ba1, ba2⟩ := hb _ ha
  have p1 : pLo e y = at' y (Go.Proofs.Ytmohaohdbklkeaa.pk y) - e := rfl
  have p2 : pHi e y = at' y (Go.Proofs.Ytmohaohdbklkeaa.pk y) + e := rfl
  have tA : ∀ j, ta (rng e y) j ≤ va (rng e y) j := fun j => ta_va e0 y j
  have s3 := fidx_mono (p := mayL (rng e y) (pLo e y) 3) (q := mustL (rng e y) (pHi e y) 3) (m := y.length) (i := 0) (fun j h1 h2 hq => by
    have := tA j
    simp only [mustL, mayL, decide_eq_true_eq] at hq ⊢
    omega) q3
  have s9 := fidx_mono (p := mayL (rng e y) (pLo e y) 9) (q := mustL (rng e y) (pHi e y) 9) (m := y.length) (i := 0) (fun j h1 h2 hq => by
    have := tA j
    simp only [mustL, mayL, decide_eq_true_eq] at hq ⊢
    omega) q9
  have sh := fidx_mono (p := mayH (rng e y) (pHi e y)) (q := mustH (rng e y) (pLo e y)) (m := y.length - (Go.Proofs.Ytmohaohdbklkeaa.pk y + 1)) (i := Go.Proofs.Ytmohaohdbklkeaa.pk y + 1) (fun j h1 h2 hq => by
    have := tA j
    simp only [mustH, mayH, decide_eq_true_eq] at hq ⊢
    omega) qh
  have u3 : l3q e y < ((0 + y.length : Nat) : Int) := (fidx_ge (mustL (rng e y) (pHi e y) 3) y.length 0).2.1
  have u9 : l9q e y < ((0 + y.length : Nat) : Int) := (fidx_ge (mustL (rng e y) (pHi e y) 9) y.length 0).2.1
  have uh : hq e y < ((Go.Proofs.Ytmohaohdbklkeaa.pk y + 1 + (y.length - (Go.Proofs.Ytmohaohdbklkeaa.pk y + 1)) : Nat) : Int) := (fidx_ge (mustH (rng e y) (pLo e y)) (y.length - (Go.Proofs.Ytmohaohdbklkeaa.pk y + 1)) (Go.Proofs.Ytmohaohdbklkeaa.pk y + 1)).2.1
  exact ⟨ha, l64, by omega, by omega, by omega, ⟨s3.1, s3.2, by omega⟩, ⟨s9.1, s9.2, by omega⟩, ⟨sh.1, sh.2, by omega⟩⟩
theorem figE_fp {e : Int} {y : List Int} (h : FP e y) : figE ((pk y : Nat) : Int) (pLo e y) (pHi e y) (l3p e y) (l3q e y) (l9p e y) (l9q e y) (hp e y) (hq e y) = 0 := by
  obtain ⟨a, b, c, d, i, ⟨x1, x2, x3⟩, ⟨x4, x5, x6⟩, ⟨x7, x8, x9⟩⟩ := h
  generalize l3p e y = v1 at *
  generalize l3q e y = v2 at *
  generalize l9p e y = v3 at *
  generalize l9q e y = v4 at *
  generalize hp e y = v5 at *
  generalize hq e y = v6 at *
  generalize pLo e y = v7 at *
  generalize pHi e y = v8 at *
  unfold Go.Proofs.Ytmohaohdbklkeaa.figE
  rw [if_pos (by omega), if_pos (by omega)]
/-- With a greater error nothing is narrower. -/
theorem wider {e d : Int} {y : List Int} (hd : 0 ≤ d) (hx : RX e y) (h : FG (e + d) y) : FG e y ∧ l3p (e + d) y ≤ l3p e y ∧ l3q e y ≤ l3q (e + d) y ∧ l9p (e + d) y ≤ l9p e y ∧ l9q e y ≤ l9q (e + d) y ∧ hp (e + d) y ≤ hp e y ∧ hq e y ≤ hq (e + d) y := by
  obtain ⟨-, hlo, q3, q9, qh⟩ := h
  have hx' := hx
  obtain ⟨e0, e1, l3, l64, hb⟩ := hx
  have ha : pk y < y.length := atT_lt (y := y) (by omega) (i := y.length) (Nat.le_refl _)
  have p1 : pLo e y = at' y (pk y) - e := rfl
  have p2 : pHi e y = at' y (pk y) + e := rfl
  have p3 : pLo (e + d) y = at' y (pk y) - (e + d) := rfl
  have p4 : pHi (e + d) y = at' y (pk y) + (e + d) := rfl
  have tA : ∀ j, j < y.length → ta (rng e y) j = at' y j - e ∧ va (rng e y) j = at' y j + e ∧ ta (rng (e + d) y) j = at' y j - (e + d) ∧ va (rng (e + d) y) j = at' y j + (e + d) := fun j hj => by
    obtain ⟨t1, t2⟩ := rng_ta (e := e) hj
    obtain ⟨t3, t4⟩ := rng_ta (e := e + d) hj
    exact ⟨t1, t2, t3, t4⟩
  have m3 := fidx_mono (p := mustL (rng e y) (pHi e y) 3) (q := mustL (rng (e + d) y) (pHi (e + d) y) 3) (m := y.length) (i := 0) (fun j h1 h2 hq => by
    have := tA j (by omega)
    simp only [mustL, decide_eq_true_eq] at hq ⊢
    omega) q3
  have m9 := fidx_mono (p := mustL (rng e y) (pHi e y) 9) (q := mustL (rng (e + d) y) (pHi (e + d) y) 9) (m := y.length) (i := 0) (fun j h1 h2 hq => by
    have := tA j (by omega)
    simp only [mustL, decide_eq_true_eq] at hq ⊢
    omega) q9
  have mh := fidx_mono (p := mustH (rng e y) (pLo e y)) (q := mustH (rng (e + d) y) (pLo (e + d) y)) (m := y.length - (pk y + 1)) (i := pk y + 1) (fun j h1 h2 hq => by
    have := tA j (by omega)
    simp only [mustH, decide_eq_true_eq] at hq ⊢
    omega) qh
  have hf : FG e y := ⟨hx', by omega, m3.1, m9.1, mh.1⟩
  obtain ⟨-, -, -, -, -, ⟨x1, x2, x3⟩, ⟨x4, x5, x6⟩, ⟨x7, x8, x9⟩⟩ := hf.fp
  have n3 := fidx_mono (p := mayL (rng (e + d) y) (pLo (e + d) y) 3) (q := mayL (rng e y) (pLo e y) 3) (m := y.length) (i := 0) (fun j h1 h2 hq => by
    have := tA j (by omega)
    simp only [mayL, decide_eq_true_eq] at hq ⊢
    omega) x1
  have n9 := fidx_mono (p := mayL (rng (e + d) y) (pLo (e + d) y) 9) (q := mayL (rng e y) (pLo e y) 9) (m := y.length) (i := 0) (fun j h1 h2 hq => by
    have := tA j (by omega)
    simp only [mayL, decide_eq_true_eq] at hq ⊢
    omega) x4
  have nh := fidx_mono (p := mayH (rng (e + d) y) (pHi (e + d) y)) (q := mayH (rng e y) (pHi e y)) (m := y.length - (pk y + 1)) (i := pk y + 1) (fun j h1 h2 hq => by
    have := tA j (by omega)
    simp only [mayH, decide_eq_true_eq] at hq ⊢
    omega) x7
  exact ⟨hf, n3.2, m3.2, n9.2, m9.2, nh.2, mh.2⟩
theorem firstE {n : Int} (h1 : 1 ≤ n) (h2 : n ≤ 1000000) : stepE n = 0 := by unfold stepE; rw [if_pos ⟨h1, h2⟩]
/-- The front and the tail, as they are in mathematics. -/
theorem lo1_eq {a b n : Int} (h1 : 0 ≤ a) (h2 : a ≤ 63) (h3 : 0 ≤ b) (h4 : b ≤ 63) (n1 : 1 ≤ n) (n2 : n ≤ 1000000) : lo1 a b n = 5 * (a - b) * n ∧ -315000000 ≤ 5 * (a - b) * n ∧ 5 * (a - b) * n ≤ 315000000 := by
  have := mulB (x := 5 * (a - b)) (y := n) (A := 315) (B := 1000000) (by omega) (by omega) (by omega) (by omega)
  unfold lo1
  rw [wrapJ (a - b) (by omega) (by omega), wrapJ (5 * (a - b)) (by omega) (by omega), wrapJ _ (by omega) (by omega)]
  omega
theorem lo2_eq {a b c n : Int} (h1 : 0 ≤ a) (h2 : a ≤ 63) (h3 : 0 ≤ b) (h4 : b ≤ 63) (h5 : 0 ≤ c) (h6 : c ≤ 63) (n1 : 1 ≤ n) (n2 : n ≤ 1000000) : lo2 a b c n = (2 * a - 3 * b + c) * n ∧ -400000000 ≤ (2 * a - 3 * b + c) * n ∧ (2 * a - 3 * b + c) * n ≤ 400000000 := by
  have := mulB (x := 2 * a - 3 * b + c) (y := n) (A := 400) (B := 1000000) (by omega) (by omega) (by omega) (by omega)
  unfold lo2
  rw [wrapJ (2 * a) (by omega) (by omega), wrapJ (3 * b) (by omega) (by omega), wrapJ (2 * a - 3 * b) (by omega) (by omega), wrapJ (2 * a - 3 * b + c) (by omega) (by omega), wrapJ _ (by omega) (by omega)]
  omega
theorem lo1_mono {a b a' b' n d : Int} (h1 : 0 ≤ a) (h2 : a ≤ 63) (h3 : 0 ≤ b) (h4 : b ≤ 63) (h1' : 0 ≤ a') (h2' : a' ≤ 63) (h3' : 0 ≤ b') (h4' : b' ≤ 63) (n1 : 1 ≤ n) (n2 : n ≤ 1000000) (hd : 0 < d) (ha : a ≤ a') (hb : b' ≤ b) : flW (lo1 a b n) d ≤ flW (lo1 a' b' n) d ∧ ceW (lo1 a b n) d ≤ ceW (lo1 a' b' n) d := by
  obtain ⟨x1, x2, x3⟩ := lo1_eq h1 h2 h3 h4 n1 n2
  obtain ⟨z1, z2, z3⟩ := lo1_eq h1' h2' h3' h4' n1 n2
  rw [x1, z1]
  exact fl_mono hd (Int.mul_le_mul_of_nonneg_right (by omega) (by omega)) (by omega) (by omega) (by omega) (by omega)
theorem lo2_mono {a b c a' b' c' n d : Int} (h1 : 0 ≤ a) (h2 : a ≤ 63) (h3 : 0 ≤ b) (h4 : b ≤ 63) (h5 : 0 ≤ c) (h6 : c ≤ 63) (h1' : 0 ≤ a') (h2' : a' ≤ 63) (h3' : 0 ≤ b') (h4' : b' ≤ 63) (h5' : 0 ≤ c') (h6' : c' ≤ 63) (n1 : 1 ≤ n) (n2 : n ≤ 1000000) (hd : 0 < d) (ha : a ≤ a') (hb : b' ≤ b) (hc : c ≤ c') : flW (lo2 a b c n) d ≤ flW (lo2 a' b' c' n) d ∧ ceW (lo2 a b c n) d ≤ ceW (lo2 a' b' c' n) d := by
  obtain ⟨x1, x2, x3⟩ := lo2_eq h1 h2 h3 h4 h5 h6 n1 n2
  obtain ⟨z1, z2, z3⟩ := lo2_eq h1' h2' h3' h4' h5' h6' n1 n2
  rw [x1, z1]
  exact fl_mono hd (Int.mul_le_mul_of_nonneg_right (by omega) (by omega)) (by omega) (by omega) (by omega) (by omega)
theorem recE_step {st : Int} {y : List Int} (h : recE st y = 0) : 1 ≤ st ∧ st ≤ 1000000 := by
  unfold recE at h
  split at h
  · assumption
  · cases h
theorem rulE_more {re more : Int} {f : Q4} {l : List Q4} (h : rulE re f l = 0) (h1 : 0 ≤ more) (h2 : re + more ≤ 100) : rulE (re + more) f l = 0 := by
  unfold rulE at h ⊢
  split at h
  · rename_i g
    rw [if_pos (by omega)]
    exact h
  · cases h
theorem tc (e : Int) (y : List Int) (hf : FP e y) {n : Int} (n1 : 1 ≤ n) (n2 : n ≤ 1000000) :
    m_35 [shNL9_0 ((pk y : Nat) : Int) (pLo e y) (pHi e y) (l3p e y) (l3q e y) (l9p e y) (l9q e y) (hp e y) (hq e y), iD n] = some (.tup [.agg [iD (flW (lo1 (l9p e y) (l3q e y) n) 3), iD (ceW (lo1 (l9q e y) (l3p e y) n) 3)], iD 0]) ∧
    m_36 [shNL9_0 ((pk y : Nat) : Int) (pLo e y) (pHi e y) (l3p e y) (l3q e y) (l9p e y) (l9q e y) (hp e y) (hq e y), iD n] = some (.tup [.agg [iD (flW (lo2 (hp e y) (l3q e y) (l9p e y) n) 2), iD (ceW (lo2 (hq e y) (l3p e y) (l9q e y) n) 2)], iD 0]) := by
  have h0 := (figE_fp hf)
  have hs := firstE n1 n2
  have g : firstV [figE ((pk y : Nat) : Int) (pLo e y) (pHi e y) (l3p e y) (l3q e y) (l9p e y) (l9q e y) (hp e y) (hq e y), stepE n] = 0 := by rw [h0, hs]; rfl
  have k1 := frontOf_eq ((pk y : Nat) : Int) (pLo e y) (pHi e y) (l3p e y) (l3q e y) (l9p e y) (l9q e y) (hp e y) (hq e y) n
  have k2 := tailOf_eq ((pk y : Nat) : Int) (pLo e y) (pHi e y) (l3p e y) (l3q e y) (l9p e y) (l9q e y) (hp e y) (hq e y) n
  rw [if_pos g] at k1 k2
  exact ⟨k1, k2⟩
/-- A voltage. -/
theorem volt {re : Int} {f : Q4} {l : List Q4} (e : Int) (y : List Int) (hf : FP e y) {a b c d : Int} (hs : SB 1000000000 a b c d) (h : m_63 [ruD re f l] = some (.tup [.agg [iD a, iD b, iD c, iD d], iD 0])) :
    m_37 [.agg [iD re, iD f.a, iD f.b, iD f.c, iD f.d, .list l.length (cQ l)], shNL9_0 ((pk y : Nat) : Int) (pLo e y) (pHi e y) (l3p e y) (l3q e y) (l9p e y) (l9q e y) (hp e y) (hq e y)] = some (.tup [.agg [iD (flW (pLo e y * a) b), iD (ceW (pHi e y * c) d)], iD 0]) ∧ 0 ≤ pLo e y * a ∧ pLo e y * a ≤ 10000000000000 ∧ 0 ≤ pHi e y * c ∧ pHi e y * c ≤ 10000000000000 := by
  have h0 := (figE_fp hf)
  obtain ⟨z1, z2, z3, z4, z5, -, -, -⟩ := hf
  obtain ⟨a0, a1, b0, b1, c0, c1, d0, d1⟩ := hs
  have v1 := mulB (x := pLo e y) (y := a) (A := 4196) (B := 1000000000) (by omega) (by omega) (by omega) (by omega)
  have v2 := mulB (x := pHi e y) (y := c) (A := 4196) (B := 1000000000) (by omega) (by omega) (by omega) (by omega)
  have v3 : 0 ≤ pLo e y * a := Int.mul_nonneg (by omega) a0
  have v4 : 0 ≤ pHi e y * c := Int.mul_nonneg (by omega) c0
  refine ⟨?_, v3, by omega, v4, by omega⟩
  have hk : m_63 [.agg [iD re, iD f.a, iD f.b, iD f.c, iD f.d, .list l.length (cQ l)]] = _ := h
  have h1 : m_64 [shNL8_1 ((pk y : Nat) : Int) (pLo e y) (pHi e y) (l3p e y) (l3q e y) (l9p e y) (l9q e y) (hp e y) (hq e y)] = _ := chkFigures_eq ((pk y : Nat) : Int) (pLo e y) (pHi e y) (l3p e y) (l3q e y) (l9p e y) (l9q e y) (hp e y) (hq e y)
  refine (m_37_eq _ _ _ _ _ _ _ _ _ _ _ _ _ _ _ _).trans ?_
  unfold voltOf_M
  rw [hk, pullD_some (a, b, c, d, (0 : Int)) (by rfl) (by rfl)]
  dsimp only
  rw [h1, pullI, h0, f2, pullI, if_neg (by decide), wrapJ (pLo e y * a) (by omega) (by omega), rdown_eq _ (by omega), pullI, wrapJ (pHi e y * c) (by omega) (by omega), rup_eq _ (by omega), pullI]
theorem volt8 {re : Int} {f : Q4} {l : List Q4} (e : Int) (y : List Int) (h : m_63 [ruD re f l] = some (.tup [.agg [iD 0, iD 0, iD 0, iD 0], iD 8])) :
    m_37 [.agg [iD re, iD f.a, iD f.b, iD f.c, iD f.d, .list l.length (cQ l)], shNL9_0 ((pk y : Nat) : Int) (pLo e y) (pHi e y) (l3p e y) (l3q e y) (l9p e y) (l9q e y) (hp e y) (hq e y)] = some (.tup [.agg [iD 0, iD 0], iD 8]) := by
  have hk : m_63 [.agg [iD re, iD f.a, iD f.b, iD f.c, iD f.d, .list l.length (cQ l)]] = _ := h
  have h1 : m_64 [shNL8_1 ((pk y : Nat) : Int) (pLo e y) (pHi e y) (l3p e y) (l3q e y) (l9p e y) (l9q e y) (hp e y) (hq e y)] = _ := chkFigures_eq ((pk y : Nat) : Int) (pLo e y) (pHi e y) (l3p e y) (l3q e y) (l9p e y) (l9q e y) (hp e y) (hq e y)
  have f8 : ∀ x, firstV [8, x] = 8 := fun x => rfl
  refine (m_37_eq _ _ _ _ _ _ _ _ _ _ _ _ _ _ _ _).trans ?_
  unfold voltOf_M
  rw [hk, pullD_some ((0 : Int), (0 : Int), (0 : Int), (0 : Int), (8 : Int)) (by rfl) (by rfl)]
  dsimp only
  rw [h1, pullI, f2, f8, pullI, if_pos (by decide)]
theorem law7_eq (re : Int) (f : Q4) (l : List Q4) (st : Int) (y : List Int) (more : Int) : m_7 [ruD re f l, reD st y, iD more] = some (.one (.bool true)) := by
  rw [m_7_eq]
  unfold law7_M
  rw [m_9_eq, pullB, if_neg (by decide)]
  unfold law7_M_s0
  have a2 : m_11 [.agg [iD re, iD f.a, iD f.b, iD f.c, iD f.d, .list l.length (cQ l)]] = _ := fewF_eq re f l
  rw [a2, pullB]
  by_cases g2 : ¬ (l.length : Int) ≤ 6
  · rw [if_pos (by simpa using g2)]
  have g2 := Classical.not_not.1 g2
  have hl : l.length ≤ 1000 := by omega
  rw [if_neg (by simpa using g2)]
  by_cases gy : 1000 < y.length
  · have a1 : m_53 [.agg [iD re, iD f.a, iD f.b, iD f.c, iD f.d, .list l.length (cQ l)]] = _ := rulesErr_eq re f l hl
    have a0 : ∃ e : Int, e ≠ 0 ∧ m_17 [.agg [iD re, iD f.a, iD f.b, iD f.c, iD f.d, .list l.length (cQ l)], .agg [iD st, .list y.length (y.map iD)]] = some (iD e) := by
      rw [m_17_eq]
      unfold bothErr_M
      rw [a1, pullI]
      by_cases g : rulE re f l = 0
      · rw [if_neg (fun h => h g), m_41_eq]
        unfold recErr_M
        rw [within_eq, pullB]
        by_cases g3 : 1 ≤ st ∧ st ≤ 1000000
        · rw [if_neg (by simp; omega), if_neg (by omega), if_pos (by omega), pullI]
          exact ⟨8, by decide, rfl⟩
        · rw [if_pos (by simp; omega), pullI]
          exact ⟨2, by decide, rfl⟩
      · rw [if_pos g]
        exact ⟨_, g, rfl⟩
    obtain ⟨e, he, a0⟩ := a0
    rw [a0, pullI, if_pos he]
  have hy : y.length ≤ 1000 := by omega
  have a8 : m_17 [.agg [iD re, iD f.a, iD f.b, iD f.c, iD f.d, .list l.length (cQ l)], .agg [iD st, .list y.length (y.map iD)]] = _ := bothErr_eq re f l st y hl hy
  rw [a8, pullI]
  by_cases g : ¬ botE re f l st y = 0
  · rw [if_pos g]
  have g := Classical.not_not.1 g
  obtain ⟨h1, h2⟩ := botE_ok g
  have hx := RX.of h1 h2
  have hx' := hx
  obtain ⟨e0, e1, l3, l64, hb⟩ := hx
  rw [if_neg (fun h => h g), wrapJ (100 - re) (by omega) (by omega), within_eq, pullB]
  by_cases gm : ¬ (0 ≤ more ∧ more ≤ 100 - re)
  · rw [if_pos (by simpa using gm)]
  have gm := Classical.not_not.1 gm
  have h1' := rulE_more h1 gm.1 (by omega)
  have hx2 := RX.of h1' h2
  have g' : botE (re + more) f l st y = 0 := by unfold botE; rw [if_pos h1', h2]
  have a3 : m_13 [.agg [iD re, iD f.a, iD f.b, iD f.c, iD f.d, .list l.length (cQ l)]] = _ := copyRules_eq re f l hl
  have a3' : m_13 [.agg [iD (re + more), iD f.a, iD f.b, iD f.c, iD f.d, .list l.length (cQ l)]] = _ := copyRules_eq (re + more) f l hl
  have a4 : m_14 [.agg [iD st, .list y.length (y.map iD)]] = _ := copyRecord_eq st y hy
  have a6 : m_15 [.agg [iD re, iD f.a, iD f.b, iD f.c, iD f.d, .list l.length (cQ l)], .agg [iD st, .list y.length (y.map iD)]] = _ := figuresOf_eq re f l st y hl hy
  have a6' : m_15 [.agg [iD (re + more), iD f.a, iD f.b, iD f.c, iD f.d, .list l.length (cQ l)], .agg [iD st, .list y.length (y.map iD)]] = _ := figuresOf_eq (re + more) f l st y hl hy
  rw [if_pos g] at a6
  rw [if_pos g'] at a6'
  rw [if_neg (by simpa using gm), a3, pullD_some (re, f.a, f.b, f.c, f.d, l.length, cQ l) (by rfl) (by rfl)]
  dsimp only
  rw [pullD_some (re, f.a, f.b, f.c, f.d, l.length, cQ l) (by rfl) (by rfl)]
  dsimp only
  rw [a4, pullD_some (st, y.length, y.map iD) (by rfl) (by rfl)]
  dsimp only
  rw [a6]
  obtain ⟨fa, fb, fc, fd, fe, ff, fg, fh, fi, fr, hfig⟩ := figD_in re y
  rw [wrapJ (re + more) (by omega) (by omega), a3']
  -- the figures with the greater error
  by_cases h0 : pLo (re + more) y ≤ 0
  · unfold figD at a6'
    rw [if_pos h0] at a6'
    rw [pullD_some (fa, fb, fc, fd, fe, ff, fg, fh, fi, fr) (by rw [hfig]) (by rfl)]
    dsimp only
    rw [pullD_some ((re + more), f.a, f.b, f.c, f.d, l.length, cQ l) (by rfl) (by rfl)]
    dsimp only
    rw [pullD_some (st, y.length, y.map iD) (by rfl) (by rfl)]
    dsimp only
    rw [a6', pullD_some ((0 : Int), (0 : Int), (0 : Int), (0 : Int), (0 : Int), (0 : Int), (0 : Int), (0 : Int), (0 : Int), (21 : Int)) (by rfl) (by rfl)]
    dsimp only
    rw [if_pos (by decide), if_pos rfl]
    simp
  by_cases hq0 : l3q (re + more) y < 0 ∨ l9q (re + more) y < 0 ∨ hq (re + more) y < 0
  · unfold figD at a6'
    rw [if_neg h0, if_pos hq0] at a6'
    rw [pullD_some (fa, fb, fc, fd, fe, ff, fg, fh, fi, fr) (by rw [hfig]) (by rfl)]
    dsimp only
    rw [pullD_some ((re + more), f.a, f.b, f.c, f.d, l.length, cQ l) (by rfl) (by rfl)]
    dsimp only
    rw [pullD_some (st, y.length, y.map iD) (by rfl) (by rfl)]
    dsimp only
    rw [a6', pullD_some ((0 : Int), (0 : Int), (0 : Int), (0 : Int), (0 : Int), (0 : Int), (0 : Int), (0 : Int), (0 : Int), (12 : Int)) (by rfl) (by rfl)]
    dsimp only
    rw [if_pos (by decide), if_neg (by decide), if_pos rfl]
    simp
  have fg2 : FG (re + more) y := ⟨hx2, by omega, by omega, by omega, by omega⟩
  obtain ⟨fg1, w1, w2, w3, w4, w5, w6⟩ := wider gm.1 hx' fg2
  have v2 : figD (re + more) y = .tup [.agg [iD (((pk y : Nat) : Int)), iD (pLo (re + more) y), iD (pHi (re + more) y), iD (l3p (re + more) y), iD (l3q (re + more) y), iD (l9p (re + more) y), iD (l9q (re + more) y), iD (hp (re + more) y), iD (hq (re + more) y)], iD 0] := by
    unfold figD
    rw [if_neg h0, if_neg hq0]
  have v1 : figD re y = .tup [.agg [iD (((pk y : Nat) : Int)), iD (pLo re y), iD (pHi re y), iD (l3p re y), iD (l3q re y), iD (l9p re y), iD (l9q re y), iD (hp re y), iD (hq re y)], iD 0] := by
    have b1 := fg1.lo
    have b2 := fg1.q3
    have b3 := fg1.q9
    have b4 := fg1.qh
    unfold figD
    rw [if_neg (by omega), if_neg (by omega)]
  have fp1 := fg1.fp
  have fp2 := fg2.fp
  obtain ⟨n1, n2⟩ := recE_step h2
  obtain ⟨t1, t2⟩ := tc re y fp1 n1 n2
  obtain ⟨t3, t4⟩ := tc (re + more) y fp2 n1 n2
  have fe1 : m_31 [shNL9_0 ((pk y : Nat) : Int) (pLo re y) (pHi re y) (l3p re y) (l3q re y) (l9p re y) (l9q re y) (hp re y) (hq re y)] = some (iD 0) := by
    have h9 := figErr_eq ((pk y : Nat) : Int) (pLo re y) (pHi re y) (l3p re y) (l3q re y) (l9p re y) (l9q re y) (hp re y) (hq re y)
    rw [figE_fp fp1] at h9
    exact h9
  have fe2 : m_31 [shNL9_0 ((pk y : Nat) : Int) (pLo (re + more) y) (pHi (re + more) y) (l3p (re + more) y) (l3q (re + more) y) (l9p (re + more) y) (l9q (re + more) y) (hp (re + more) y) (hq (re + more) y)] = some (iD 0) := by
    have h9 := figErr_eq ((pk y : Nat) : Int) (pLo (re + more) y) (pHi (re + more) y) (l3p (re + more) y) (l3q (re + more) y) (l9p (re + more) y) (l9q (re + more) y) (hp (re + more) y) (hq (re + more) y)
    rw [figE_fp fp2] at h9
    exact h9
  have p1 : pLo re y = at' y (pk y) - re := rfl
  have p2 : pHi re y = at' y (pk y) + re := rfl
  have p3 : pLo (re + more) y = at' y (pk y) - (re + more) := rfl
  have p4 : pHi (re + more) y = at' y (pk y) + (re + more) := rfl
  rw [v1, pullD_some (((pk y : Nat) : Int), pLo re y, pHi re y, l3p re y, l3q re y, l9p re y, l9q re y, hp re y, hq re y, (0 : Int)) (by rfl) (by rfl)]
  dsimp only
  rw [pullD_some ((re + more), f.a, f.b, f.c, f.d, l.length, cQ l) (by rfl) (by rfl)]
  dsimp only
  rw [pullD_some (st, y.length, y.map iD) (by rfl) (by rfl)]
  dsimp only
  rw [a6', v2, pullD_some (((pk y : Nat) : Int), pLo (re + more) y, pHi (re + more) y, l3p (re + more) y, l3q (re + more) y, l9p (re + more) y, l9q (re + more) y, hp (re + more) y, hq (re + more) y, (0 : Int)) (by rfl) (by rfl)]
  dsimp only
  have c3 := fp1.a3
  have c9 := fp1.a9
  have ch := fp1.ah
  have d3 := fp2.a3
  have d9 := fp2.a9
  have dh := fp2.ah
  have o1 := lo1_mono (a := l9p (re + more) y) (b := l3q (re + more) y) (a' := l9p re y) (b' := l3q re y) (n := st) (d := 3) (by omega) (by omega) (by omega) (by omega) (by omega) (by omega) (by omega) (by omega) n1 n2 (by decide) w3 w2
  have o2 := lo1_mono (a := l9q re y) (b := l3p re y) (a' := l9q (re + more) y) (b' := l3p (re + more) y) (n := st) (d := 3) (by omega) (by omega) (by omega) (by omega) (by omega) (by omega) (by omega) (by omega) n1 n2 (by decide) w4 w1
  have o3 := lo2_mono (a := hp (re + more) y) (b := l3q (re + more) y) (c := l9p (re + more) y) (a' := hp re y) (b' := l3q re y) (c' := l9p re y) (n := st) (d := 2) (by omega) (by omega) (by omega) (by omega) (by omega) (by omega) (by omega) (by omega) (by omega) (by omega) (by omega) (by omega) n1 n2 (by decide) w5 w2 w3
  have o4 := lo2_mono (a := hq re y) (b := l3p re y) (c := l9q re y) (a' := hq (re + more) y) (b' := l3p (re + more) y) (c' := l9q (re + more) y) (n := st) (d := 2) (by omega) (by omega) (by omega) (by omega) (by omega) (by omega) (by omega) (by omega) (by omega) (by omega) (by omega) (by omega) n1 n2 (by decide) w6 w1 w4
  rw [if_neg (by decide), if_neg (by decide), fe1, pullI, if_neg (by decide), fe2, pullI, if_neg (by decide), if_neg (by simp),
    inside_eq, pullB, if_neg (by simp only [decide_eq_false_iff_not, Decidable.not_not]; omega),
    inside_eq, pullB, if_neg (by simp only [decide_eq_false_iff_not, Decidable.not_not]; exact ⟨w1, w2⟩),
    inside_eq, pullB, if_neg (by simp only [decide_eq_false_iff_not, Decidable.not_not]; exact ⟨w3, w4⟩),
    inside_eq, pullB, if_neg (by simp only [decide_eq_false_iff_not, Decidable.not_not]; exact ⟨w5, w6⟩)]
  rw [t1, pullD_some (flW (lo1 (l9p re y) (l3q re y) st) 3, ceW (lo1 (l9q re y) (l3p re y) st) 3, (0 : Int)) (by rfl) (by rfl)]
  dsimp only
  rw [t3, pullD_some (flW (lo1 (l9p (re + more) y) (l3q (re + more) y) st) 3, ceW (lo1 (l9q (re + more) y) (l3p (re + more) y) st) 3, (0 : Int)) (by rfl) (by rfl)]
  dsimp only
  rw [t2, pullD_some (flW (lo2 (hp re y) (l3q re y) (l9p re y) st) 2, ceW (lo2 (hq re y) (l3p re y) (l9q re y) st) 2, (0 : Int)) (by rfl) (by rfl)]
  dsimp only
  rw [t4, pullD_some (flW (lo2 (hp (re + more) y) (l3q (re + more) y) (l9p (re + more) y) st) 2, ceW (lo2 (hq (re + more) y) (l3p (re + more) y) (l9q (re + more) y) st) 2, (0 : Int)) (by rfl) (by rfl)]
  dsimp only
  rw [if_neg (by decide), if_neg (by decide), if_neg (by decide), if_neg (by decide),
    inside_eq, pullB, if_neg (by simp only [decide_eq_false_iff_not, Decidable.not_not]; exact ⟨o1.1, o2.2⟩),
    inside_eq, pullB, if_neg (by simp only [decide_eq_false_iff_not, Decidable.not_not]; exact ⟨o3.1, o4.2⟩)]
  rw [pullD_some (re, f.a, f.b, f.c, f.d, l.length, cQ l) (by rfl) (by rfl)]
  dsimp only
  rcases scale_b hl h1 with ⟨a, b, c, d, hs, hk⟩ | hk
  · obtain ⟨x1, x2, x3, x4, x5⟩ := volt re y fp1 hs hk
    obtain ⟨z1, z2, z3, z4, z5⟩ := volt (re + more) y fp2 hs hk
    obtain ⟨a0, -, b0, -, c0, -, d0, -⟩ := hs
    have r1 := fl_mono (x := pLo (re + more) y * a) (y := pLo re y * a) (d := b) (by omega) (Int.mul_le_mul_of_nonneg_right (by omega) a0) (by omega) (by omega) (by omega) (by omega)
    have r2 := fl_mono (x := pHi re y * c) (y := pHi (re + more) y * c) (d := d) (by omega) (Int.mul_le_mul_of_nonneg_right (by omega) c0) (by omega) (by omega) (by omega) (by omega)
    rw [x1, pullD_some (flW (pLo re y * a) b, ceW (pHi re y * c) d, (0 : Int)) (by rfl) (by rfl)]
    dsimp only
    rw [pullD_some (re, f.a, f.b, f.c, f.d, l.length, cQ l) (by rfl) (by rfl)]
    dsimp only
    rw [z1, pullD_some (flW (pLo (re + more) y * a) b, ceW (pHi (re + more) y * c) d, (0 : Int)) (by rfl) (by rfl)]
    dsimp only
    rw [if_pos rfl, if_neg (by decide), if_pos rfl, inside_eq, pullB, decide_eq_true ⟨r1.1, r2.2⟩]
  · have x1 := volt8 (re := re) (f := f) (l := l) re y hk
    have z1 := volt8 (re := re) (f := f) (l := l) (re + more) y hk
    rw [x1, pullD_some ((0 : Int), (0 : Int), (8 : Int)) (by rfl) (by rfl)]
    dsimp only
    rw [pullD_some (re, f.a, f.b, f.c, f.d, l.length, cQ l) (by rfl) (by rfl)]
    dsimp only
    rw [z1, pullD_some ((0 : Int), (0 : Int), (8 : Int)) (by rfl) (by rfl)]
    dsimp only
    rw [if_pos rfl, if_pos rfl]
theorem law7_con (re : Int) (f : Q4) (l : List Q4) (st : Int) (y : List Int) (more : Int) : Con 7 [ruD re f l, reD st y, iD more] (.one (.bool true)) := m_7_ok (law7_eq re f l st y more)
end Go.Proofs.Ytmohaohdbklkeaa
/- WaveWider: what the runs give, for every argument. -/
namespace Go.Proofs.Ytmohaohdbklkeaa.waveWider
open Go.ChangeShapes Go.WideShapes Go.ChangeAt Go.RowKit Go.Joins Go.Ev
set_option maxRecDepth 100000 in
/-- WHAT THE RUNS GIVE, FOR EVERY ARGUMENT AND EVERY WORLD THAT HOLDS THE TABLES. -/
theorem contract (H : Type) (enc : TypeId × Value → H) (W : World) (base : Nat) (args : Array Value) (ds gs : List (DataW H)) (before : List MemPlace)
    (hval : ∀ (j : Nat) t v, Try.f7.params[j]? = some t → args[j]? = some v → Value.okWide Try.prog W .any base t v)
    (hW : DataW.Whole enc Try.prog Try.f7.params.toList Rows.waveWiderSpec.vars false W args.toList ds gs before) (hL : laidMetH Try.prog Rows.waveWiderRow.laid W) :
    Calls Try.prog 7 args W fun e W' => ∃ v, e = .returned v ∧ Rows.waveWiderSpec.post enc Try.prog Try.f7 false true false false W args v W' := by
  have hW' := hW
  have hlt := hW.lt
  obtain ⟨p, q, hA0, hV, rfl, hfz, hnd⟩ := hW
  have hA : DataW.TrodAll enc Try.prog W 0 (fun _ => true) true Try.f7.params.toList args.toList ds p := hA0
  rw [Try.params7] at hA hval
  obtain ⟨v0, vs0, d0, ds0, p0, q0, hargs, rfl, rfl, h0, r0⟩ := trodAll_cons hA
  obtain ⟨v1, vs1, d1, ds1, p1, q1, rfl, rfl, rfl, h1, r1⟩ := trodAll_cons r0
  obtain ⟨v2, vs2, d2, ds2, p2, q2, rfl, rfl, rfl, h2, r2⟩ := trodAll_cons r1
  obtain ⟨rfl, rfl, rfl⟩ := trodAll_nil r2
  obtain rfl : args = #[v0, v1, v2] := by cases args; simp_all
  obtain ⟨rfl, rfl⟩ := trodVars_none hV
  obtain ⟨e0, o0, k0⟩ := open_agg (ls := [.int .i64, .int .i64, .int .i64, .int .i64, .int .i64, .sl [.int .i64, .int .i64, .int .i64, .int .i64]]) 8 (by kernel_rfl) (by kernel_rfl) (by kernel_rfl) (hval 0 28 v0 rfl rfl) h0
  obtain ⟨re, f, l, rfl⟩ := rul_of o0
  obtain ⟨e1, o1, k1⟩ := open_agg (ls := [.int .i64, .sl [.int .i64]]) 8 (by kernel_rfl) (by kernel_rfl) (by kernel_rfl) (hval 1 31 v1 rfl rfl) h1
  obtain ⟨st, y, rfl⟩ := rec_of o1
  obtain ⟨e2, o2, k2⟩ := open_cell (c := .int .i64) 8 (by kernel_rfl) (by kernel_rfl) (by kernel_rfl) (hval 2 3 v2 rfl rfl) h2
  obtain ⟨more, rfl, -⟩ := int_of o2
  have hr : RpL (fun _ => True) W [.agg [.one (.int .i64 re), .one (.int .i64 f.a), .one (.int .i64 f.b), .one (.int .i64 f.c), .one (.int .i64 f.d), .list l.length (cQ l)], .agg [.one (.int .i64 st), lD y], .one (.int .i64 more)] [v0, v1, v2] := by
    simp only [RpL]
    exact ⟨v0, _, rfl, k0, ⟨v1, _, rfl, k1, ⟨v2, _, rfl, k2, rfl⟩⟩⟩
  refine (law7_con re f l st y more W (fun _ => True) _ tabs0 hr).mono fun e W' ⟨v, he, hv, hg⟩ => ?_
  simp only [Rp] at hv
  subst he
  subst hv
  have hlaid : laidOutB Try.prog = true := by kernel_rfl
  exact ⟨_, rfl, post_below (pa := (p0 ++ (p1 ++ (p2 ++ [])))) (pv := []) hW' (fun _ _ _ => trodAll_cons_mk (shut_bool Try.underlying4 _) trodAll_mk0) (fun sp hsp => by
    rw [Try.params7]
    exact trodAll_cons_mk (stays hlaid (by kernel_rfl) (of_decide_eq_true (by kernel_rfl)) h0 hg (fun x hx => hlt x (by simp only [List.mem_append]; left; left; exact hx)) (fun x hx => hsp x (by simp only [List.mem_append]; left; left; exact hx))) (trodAll_cons_mk (stays hlaid (by kernel_rfl) (of_decide_eq_true (by kernel_rfl)) h1 hg (fun x hx => hlt x (by simp only [List.mem_append]; left; right; left; exact hx)) (fun x hx => hsp x (by simp only [List.mem_append]; left; right; left; exact hx))) (trodAll_cons_mk (stays hlaid (by kernel_rfl) (of_decide_eq_true (by kernel_rfl)) h2 hg (fun x hx => hlt x (by simp only [List.mem_append]; left; right; right; left; exact hx)) (fun x hx => hsp x (by simp only [List.mem_append]; left; right; right; left; exact hx))) (trodAll_mk0)))) (fun _ _ => rfl) rfl
    hg (ok_one (by kernel_rfl) rfl (okWide_bool_mk Try.underlying4 _))⟩
end Go.Proofs.Ytmohaohdbklkeaa.waveWider
/- WaveWider: closed facts of the witness. -/
namespace Go.Proofs.Ytmohaohdbklkeaa.waveWider
open Go.ChangeShapes Go.WideShapes Go.ChangeAt Go.RowKit Go.Joins
/-- THE WITNESS's ARGUMENTS. -/
noncomputable def args0 : Array Value := #[.agg #[.int .i64 0, .int .i64 0, .int .i64 0, .int .i64 0, .int .i64 0, .slice none 0 0], .agg #[.int .i64 0, .slice none 0 0], .int .i64 0]
/-- A WORLD FOR THE WITNESS: the heap that the program's own initialisers leave. -/
noncomputable def start (os : Os) : World := World.doorLaid Try.prog 400 os
theorem laid_met (os : Os) : laidMet Try.prog Rows.waveWiderRow.laid ((start os).forCall (fun _ _ => 0) ⟨#[], args0, []⟩).memory := ⟨[], rfl, List.nodup_nil, fun _ _ h => by cases h⟩
theorem reads (os : Os) {H : Type} (enc : TypeId × Value → H) : ∃ places, DataW.whole enc Try.prog ((start os).forCall (fun _ _ => 0) ⟨#[], args0, []⟩).memory Try.f7.params.toList Rows.waveWiderSpec.vars false args0.toList 8 = some ([.agg [.lit (.int .i64 0), .agg [.agg [.lit (.int .i64 0), .lit (.int .i64 0)], .agg [.lit (.int .i64 0), .lit (.int .i64 0)]], .nil], .agg [.lit (.int .i64 0), .nil], .lit (.int .i64 0)], [], places) :=
  ⟨[], by kernel_rfl⟩
theorem vB (os : Os) : ((start os).forCall (fun _ _ => 0) ⟨#[], args0, []⟩).variablesB Try.prog = true := by kernel_rfl
theorem rB (os : Os) : (((start os).forCall (fun _ _ => 0) ⟨#[], args0, []⟩).heap.toList.drop Try.prog.globals.size).take ((begin Try.prog (fun _ _ => 0) default).world.heap.size - Try.prog.globals.size) = (begin Try.prog (fun _ _ => 0) default).world.heap.toList.drop Try.prog.globals.size := by kernel_rfl
theorem oB (os : Os) : Input.okWideB Try.prog ((start os).forCall (fun _ _ => 0) ⟨#[], args0, []⟩) 7 ⟨#[], args0, []⟩ = true := by kernel_rfl
theorem hB (os : Os) : (start os).os = os := by kernel_rfl
end Go.Proofs.Ytmohaohdbklkeaa.waveWider
/- For any rules, record and greater error, valid or not, the law WaveWider of the program answers true, and its arguments read as they did. CONDITIONS: none. -/
namespace Go.Proofs.Ytmohaohdbklkeaa.waveWider
open Go.ChangeShapes Go.WideShapes Go.ChangeAt Go.RowKit Go.Joins
set_option maxRecDepth 100000 in
theorem lifted (os : Os) (started : os.Started) (H : Type) (enc : TypeId × Value → H) (F : Stop.Interp) :
    ReturnsInHanded {} Try.checked os 7 .any ((OpenSpec.ofChange Rows.waveWiderSpec).preRow enc Try.prog Try.f7 Rows.waveWiderRow.domain false Rows.waveWiderRow.laid) (((OpenSpec.ofChange Rows.waveWiderSpec).at F).post enc Try.prog Try.f7 false true false false) := by
  obtain ⟨places, hx⟩ := reads os enc
  refine returnsInHanded_of_row (C := Try.checked) (s := OpenSpec.ofChange Rows.waveWiderSpec) own started (by kernel_rfl) Try.func7
    (witness_row_at (enc := enc) (C := Try.checked) false (start os) args0 (hB os) (vB os) (rB os) (oB os)
      (OpenSpec.preRow_of_cond 8 hx (by kernel_rfl) (fun k hk => by cases hk) (by kernel_rfl) (laid_met os))) ?_
  intro W base args ds gs before hval hW _ _ _ hL _ _
  exact contract H enc W base args ds gs before hval hW hL
theorem said : Rows.WaveWiderSaid :=
  OpenClaim.holds_of_cond 7 Try.f7 rfl rfl rfl rfl rfl rfl rfl ⟨rfl, rfl, rfl, rfl, rfl⟩ rfl rfl rfl rfl rfl (by kernel_rfl) Try.func7 (by kernel_rfl)
    (of_decide_eq_true (by kernel_rfl)) (by unfold Func.isWrapper; first | (rw [if_pos (by decide +kernel)]; kernel_rfl) | (rw [if_neg (by decide +kernel)]; exact ⟨rfl, rfl⟩))
    (fun os started H enc _ F => by rw [OpenClaim.pre_eq_preRow]; exact lifted os started H enc F)
end Go.Proofs.Ytmohaohdbklkeaa.waveWider
