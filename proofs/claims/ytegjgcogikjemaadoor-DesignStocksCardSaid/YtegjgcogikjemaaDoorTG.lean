/- For any stock, valid or not, and any slot, the law DesignStocks of the program answers true, and its arguments read as they did. CONDITIONS: the tables unitsOf, unitWords and quantityWords of package design, and the standard library's tables that the row lists, hold what the program's text lays. -/
import Derived.Test.YtegjgcogikjemaaDoorTF
import Derived.Test.YtegjgcogikjemaaDoorTA
import Derived.Test.YtegjgcogikjemaaDoorTC
set_option linter.unusedVariables false
set_option linter.unusedSimpArgs false
set_option linter.unusedSectionVars false
set_option linter.unnecessarySimpa false
/- Stocks: the reference's check; which stocks are small; the law. -/
namespace Go.Proofs.YtegjgcogikjemaaDoor
open Go.Ev Go.RowKit
set_option maxRecDepth 100000
theorem read14n {ps : List Part} {i : Nat} {q : Part} (h : ps[i]? = some q) : readD (slotC ps) ((i : Int).toNat * 14 + 0) 1 false = some (.one (.string q.n)) := by
  show (slotC ps)[(i : Int).toNat * 14 + 0]? = _
  have hi := (List.getElem?_eq_some_iff.1 h).1
  have h1 : (slotC ps)[i * 14 + 0]? = ((slotC ps).drop (i * 14))[0]? := by rw [List.getElem?_drop]
  rw [Int.toNat_natCast, h1, slotC_drop, List.drop_eq_getElem_cons hi, show ps[i] = q from (List.getElem?_eq_some_iff.1 h).2]
  rfl
theorem m_154_l (q : Part) : m_154 [.agg [.one (.string q.n), .one (.int .i64 q.p), .one (.int .i64 q.a0), .one (.int .i64 q.a1), .one (.int .i64 q.a2), .one (.int .i64 q.a3), .one (.int .i64 q.a4), .one (.int .i64 q.a5), .one (.int .i64 q.a6), .one (.int .i64 q.a7), .one (.int .i64 q.a8), .one (.int .i64 q.a9), .one (.int .i64 q.a10), .one (.int .i64 q.a11)]] = some (.one (.int .i64 q.numE)) := m_154_eq q
/-- The loop over the names of the parts before. -/
theorem slotErr_names (ps : List Part) (i : Nat) (q : Part) (hi : ps[i]? = some q) (hl : ps.length ≤ 1000000) (b : Bool) :
    runR (slotErr_L11_S ps.length (slotC ps) (i : Int) q.n b) (.next 0 [.one (.int .i64 0)]) = some (if (ps.take i).any (sameName q) = true then .out 1 [.one (.int .i64 5)] else .out 0 []) := by
  have hil := (List.getElem?_eq_some_iff.1 hi).1
  have step : ∀ (j : Nat) (r : Part), j < i → ps[j]? = some r → slotErr_L11_S ps.length (slotC ps) (i : Int) q.n b (.next 0 [.one (.int .i64 (j : Int))]) = some (if sameName q r = true then .out 1 [.one (.int .i64 5)] else .next 0 [.one (.int .i64 ((j + 1 : Nat) : Int))]) := fun j r hj hr => by
    rw [slotErr_L11_S_0]
    unfold slotErr_L11_S0
    rw [pullD_some (j : Int) (by rfl) (by rfl), if_pos (by omega), guardP_pos (by omega), guardP_pos (by omega), pullD_some r.n (read14n hr) (by rfl), guardP_pos (by omega), pullD_some q.n (read14n hi) (by rfl), wrap_succ hj (by omega)]
    unfold sameName
    by_cases h : r.n.toList = q.n.toList
    · rw [if_pos h, if_pos (by simp [h])]
    · rw [if_neg h, if_neg (by simpa using fun e => h e.symm)]
  rcases first_of (sameName q) (ps.take i) with h | ⟨j, r, h1, h2, h3⟩
  · have e : ¬ ((ps.take i).any (sameName q) = true) := by simpa using h
    rw [if_neg e]
    refine (runR_scan (fun _ => 0) (fun j => [.one (.int .i64 (j : Int))]) (Nat.zero_le i) (fun j _ hj => ?_)).trans (runR_exit ?_)
    · rw [step j (ps[j]'(by omega)) hj (List.getElem?_eq_getElem _), h _ (List.mem_take_iff_getElem.2 ⟨j, by omega, rfl⟩)]; rfl
    · rw [slotErr_L11_S_0]
      unfold slotErr_L11_S0
      rw [pullD_some (i : Int) (by rfl) (by rfl), if_neg (by omega)]
  · have hj : j < i := by have := (List.getElem?_eq_some_iff.1 h1).1; rw [List.length_take] at this; omega
    have hr : ps[j]? = some r := by rw [List.getElem?_take_of_lt hj] at h1; exact h1
    rw [if_pos (List.any_eq_true.2 ⟨r, List.mem_of_getElem? h1, h2⟩)]
    refine (runR_scan (fun _ => 0) (fun j => [.one (.int .i64 (j : Int))]) (Nat.zero_le j) (fun l _ hlj => ?_)).trans (runR_exit ?_)
    · rw [step l (ps[l]'(by omega)) (by omega) (List.getElem?_eq_getElem _), h3 l _ hlj (by rw [List.getElem?_take_of_lt (by omega)]; exact List.getElem?_eq_getElem _)]; rfl
    · rw [step j r hj hr, h2]; rfl
theorem slotErr_round (ps : List Part) (i : Nat) (hi : i < ps.length) (hl : ps.length ≤ 1000000) :
    slotErr_L6_S ps.length (slotC ps) (.next 0 [.one (.int .i64 (i : Int))]) = some (if partAt ps i ≠ 0 then .out 1 [.one (.int .i64 (partAt ps i))] else .next 0 [.one (.int .i64 ((i + 1 : Nat) : Int))]) := by
  have hq := List.getElem?_eq_getElem hi
  generalize ps[i] = q at hq
  rw [show partAt ps i = partE q (ps.take i) from by unfold partAt; rw [hq]]
  rw [slotErr_L6_S_0]
  unfold slotErr_L6_S0 partE
  rw [pullD_some (i : Int) (by rfl) (by rfl), if_pos (by omega), guardP_pos (by omega), guardP_pos (by omega), pullD_some q.n (read14n hq) (by rfl), pullD_some (nameV q.n) (m_153_eq q.n) (by rfl), wrap_succ hi (by omega)]
  cases h1 : nameV q.n with
  | false => rfl
  | true =>
    rw [if_neg (show ¬ (true = false) by decide), if_neg (show ¬ (true = false) by decide)]
    have hn := slotErr_names ps i q hq hl true
    by_cases h2 : (ps.take i).any (sameName q) = true
    · rw [if_pos h2] at hn ⊢
      rw [bindL_some hn, if_neg (by decide), if_pos rfl, pullD_some (5 : Int) (by rfl) (by rfl)]
      rfl
    · rw [if_neg h2] at hn ⊢
      rw [bindL_some hn, if_pos rfl, pullD_some () (by rfl) (by rfl), pullD_some (q.n, q.p, q.a0, q.a1, q.a2, q.a3, q.a4, q.a5, q.a6, q.a7, q.a8, q.a9, q.a10, q.a11) (read14l hq) (by rfl)]
      dsimp only
      rw [pullD_some q.numE (m_154_l q) (by rfl)]
      split <;> rfl
theorem slotErr_eq (ps : List Part) (hl : ps.length ≤ 1000000) : m_96 [.list ps.length (slotC ps)] = some (.one (.int .i64 (slotE ps))) := by
  rw [m_96_eq]
  unfold slotErr_M slotE
  by_cases h0 : ps.length = 0
  · rw [if_pos (by omega), if_pos h0]
  rw [if_neg (by omega), if_neg h0]
  by_cases h6 : 6 < ps.length
  · rw [if_pos (by omega), if_pos h6]
  rw [if_neg (by omega), if_neg h6]
  rcases first_of (fun i => partAt ps i != 0) (List.range ps.length) with h | ⟨i, v, h1, h2, h3⟩
  · have hr : runR (slotErr_L6_S ps.length (slotC ps)) (.next 0 [.one (.int .i64 0)]) = some (.out 0 []) := by
      refine (runR_scan (fun _ => 0) (fun j => [.one (.int .i64 (j : Int))]) (Nat.zero_le ps.length) (fun j _ hj => ?_)).trans (runR_exit ?_)
      · rw [slotErr_round ps j hj hl, if_neg (by simpa using h j (List.mem_range.2 hj))]
      · rw [slotErr_L6_S_0]
        unfold slotErr_L6_S0
        rw [pullD_some (ps.length : Int) (by rfl) (by rfl), if_neg (by omega)]
    rw [bindL_some hr, if_pos rfl, pullD_some () (by rfl) (by rfl), firstNZ_none (by
      intro x hx
      obtain ⟨i, hi, rfl⟩ := List.mem_map.1 hx
      simpa using h i hi)]
  · have hi : i < ps.length := by have := (List.getElem?_eq_some_iff.1 h1).1; simpa using this
    have hv : v = i := by rw [List.getElem?_range hi] at h1; simpa using h1.symm
    subst hv
    have hr : runR (slotErr_L6_S ps.length (slotC ps)) (.next 0 [.one (.int .i64 0)]) = some (.out 1 [.one (.int .i64 (partAt ps v))]) := by
      refine (runR_scan (fun _ => 0) (fun j => [.one (.int .i64 (j : Int))]) (Nat.zero_le v) (fun j _ hj => ?_)).trans (runR_exit ?_)
      · rw [slotErr_round ps j (by omega) hl, if_neg (by simpa using h3 j j hj (List.getElem?_range (by omega)))]
      · rw [slotErr_round ps v hi hl, if_pos (by simpa using h2)]
    rw [bindL_some hr, if_neg (by decide), if_pos rfl, pullD_some (partAt ps v) (by rfl) (by rfl), firstNZ_at (i := v) (v := partAt ps v) (by rw [List.getElem?_map, List.getElem?_range hi]; rfl) (by simpa using h2) (fun j y hj hy => by
      rw [List.getElem?_map, List.getElem?_range (by omega)] at hy
      simp at hy
      subst hy
      simpa using h3 j j hj (List.getElem?_range (by omega)))]
theorem chkStockR_round (ss : List (List Part)) (ip pr : Int) (b0 b1 : Bool) (i : Nat) (hi : i < ss.length) (hsm : Stk.small ⟨ss, ip, pr⟩) :
    chkStockR_L8_S ss.length (ss.map slotD) ip pr b0 b1 (.next 0 [.one (.int .i64 (i : Int))]) = some (if slotAt ss i ≠ 0 then .out 1 [.one (.int .i64 (i : Int)), .one (.int .i64 (slotAt ss i))] else .next 0 [.one (.int .i64 ((i + 1 : Nat) : Int))]) := by
  have hz := hsm.1
  simp only at hz
  have hq := List.getElem?_eq_getElem hi
  have hl := hsm.2 ss[i] (List.getElem_mem hi)
  generalize ss[i] = ps at hq hl
  rw [show slotAt ss i = slotE ps from by unfold slotAt; rw [hq]]
  rw [chkStockR_L8_S_0]
  unfold chkStockR_L8_S0
  rw [pullD_some (i : Int) (by rfl) (by rfl), if_pos (by omega), guardP_pos (by omega), pullD_some (ps.length, slotC ps) (readS hq) (by rfl)]
  dsimp only
  rw [pullD_some (slotE ps) (slotErr_eq ps hl) (by rfl), wrap_succ hi (by omega)]
  split <;> rfl
theorem chkStockR_eq (ss : List (List Part)) (ip pr : Int) (hsm : Stk.small ⟨ss, ip, pr⟩) :
    m_35 [.agg [.list ss.length (ss.map slotD), .one (.int .i64 ip), .one (.int .i64 pr)]] = some (.tup [.one (.int .i64 (stockE ss ip pr).1), .one (.int .i64 (stockE ss ip pr).2)]) := by
  have hz := hsm.1
  simp only at hz
  rw [m_35_eq]
  unfold chkStockR_M stockE headE
  rw [pullD_some (!bad 0 1000 ip) (m_22_eq ip 0 1000) (by rfl)]
  cases h1 : bad 0 1000 ip with
  | true => simp
  | false =>
  rw [if_neg (by simp), pullD_some (!bad 0 1000 pr) (m_22_eq pr 0 1000) (by rfl)]
  cases h2 : bad 0 1000 pr with
  | true => simp
  | false =>
  rw [if_neg (by simp)]
  simp only [Bool.or_self, Bool.false_eq_true, if_false]
  by_cases h0 : ss.length = 0
  · rw [if_pos (by omega), if_pos h0, if_pos (by decide)]
  rw [if_neg (by omega), if_neg h0]
  by_cases h5 : 5 < ss.length
  · rw [if_pos (by omega), if_pos h5, if_pos (by decide)]
  rw [if_neg (by omega), if_neg h5, if_neg (by decide)]
  rcases first_of (fun i => slotAt ss i != 0) (List.range ss.length) with h | ⟨i, v, h3, h4, h6⟩
  · rw [List.find?_eq_none.2 fun i hi => by simpa using h i hi]
    have hr : runR (chkStockR_L8_S ss.length (ss.map slotD) ip pr (!false) (!false)) (.next 0 [.one (.int .i64 0)]) = some (.out 0 []) := by
      refine (runR_scan (fun _ => 0) (fun j => [.one (.int .i64 (j : Int))]) (Nat.zero_le ss.length) (fun j _ hj => ?_)).trans (runR_exit ?_)
      · rw [chkStockR_round ss ip pr _ _ j hj hsm, if_neg (by simpa using h j (List.mem_range.2 hj))]
      · rw [chkStockR_L8_S_0]
        unfold chkStockR_L8_S0
        rw [pullD_some (ss.length : Int) (by rfl) (by rfl), if_neg (by omega)]
    rw [bindL_some hr, if_pos rfl, pullD_some () (by rfl) (by rfl)]
  · have hi : i < ss.length := by have := (List.getElem?_eq_some_iff.1 h3).1; simpa using this
    have hv : v = i := by rw [List.getElem?_range hi] at h3; simpa using h3.symm
    subst hv
    have e : (List.range ss.length).find? (fun i => slotAt ss i != 0) = some v := by
      rw [List.find?_eq_some_iff_getElem]
      exact ⟨h4, v, by simpa using hi, by simp, fun j hj => by have := h6 j j hj (List.getElem?_range (by omega)); simpa using this⟩
    rw [e]
    have hr : runR (chkStockR_L8_S ss.length (ss.map slotD) ip pr (!false) (!false)) (.next 0 [.one (.int .i64 0)]) = some (.out 1 [.one (.int .i64 (v : Int)), .one (.int .i64 (slotAt ss v))]) := by
      refine (runR_scan (fun _ => 0) (fun j => [.one (.int .i64 (j : Int))]) (Nat.zero_le v) (fun j _ hj => ?_)).trans (runR_exit ?_)
      · rw [chkStockR_round ss ip pr _ _ j (by omega) hsm, if_neg (by simpa using h6 j j hj (List.getElem?_range (by omega)))]
      · rw [chkStockR_round ss ip pr _ _ v hi hsm, if_pos (by simpa using h4)]
    rw [bindL_some hr, if_neg (by decide), if_pos rfl, pullD_some ((v : Int), slotAt ss v) (by rfl) (by rfl)]
/-! ### Few -/
def longName (q : Part) : Bool := decide (20 < q.n.size)
def wideSlot (ps : List Part) : Bool := decide (8 < ps.length) || ps.any longName
def fewV (ss : List (List Part)) : Bool := !(decide (7 < ss.length) || ss.any wideSlot)
theorem few_names (a : Nat) (b : List D) (ss : List (List Part)) (ip pr : Int) (i : Nat) (ps : List Part) (hi : ss[i]? = some ps) (hl : ps.length ≤ 8) :
    runR (few_L14_S a b ss.length (ss.map slotD) ip pr (i : Int) ps.length (slotC ps)) (.next 0 [.one (.int .i64 0)]) = some (if ps.any longName = true then .out 1 [.one (.bool false)] else .out 0 []) := by
  have hil := (List.getElem?_eq_some_iff.1 hi).1
  have step : ∀ (j : Nat) (r : Part), ps[j]? = some r → few_L14_S a b ss.length (ss.map slotD) ip pr (i : Int) ps.length (slotC ps) (.next 0 [.one (.int .i64 (j : Int))]) = some (if longName r = true then .out 1 [.one (.bool false)] else .next 0 [.one (.int .i64 ((j + 1 : Nat) : Int))]) := fun j r hr => by
    have hj := (List.getElem?_eq_some_iff.1 hr).1
    rw [few_L14_S_0]
    unfold few_L14_S0
    rw [pullD_some (j : Int) (by rfl) (by rfl), guardP_pos (by omega), pullD_some (ps.length, slotC ps) (readS hi) (by rfl)]
    dsimp only
    rw [if_pos (by omega), pullD_some (ps.length, slotC ps) (readS hi) (by rfl)]
    dsimp only
    rw [guardP_pos (by omega), guardP_pos (by omega), pullD_some r.n (read14n hr) (by rfl), wrap_succ hj (by omega)]
    unfold longName
    by_cases h : 20 < r.n.size
    · rw [if_pos (by omega), if_pos (by simpa using h)]
    · rw [if_neg (by omega), if_neg (by simpa using h)]
  rcases first_of longName ps with h | ⟨j, r, h1, h2, h3⟩
  · have e : ¬ (ps.any longName = true) := by simpa using h
    rw [if_neg e]
    refine (runR_scan (fun _ => 0) (fun j => [.one (.int .i64 (j : Int))]) (Nat.zero_le ps.length) (fun j _ hj => ?_)).trans (runR_exit ?_)
    · rw [step j ps[j] (List.getElem?_eq_getElem hj), h _ (List.getElem_mem hj)]; rfl
    · rw [few_L14_S_0]
      unfold few_L14_S0
      rw [pullD_some (ps.length : Int) (by rfl) (by rfl), guardP_pos (by omega), pullD_some (ps.length, slotC ps) (readS hi) (by rfl)]
      dsimp only
      rw [if_neg (by omega)]
  · have hj := (List.getElem?_eq_some_iff.1 h1).1
    rw [if_pos (List.any_eq_true.2 ⟨r, List.mem_of_getElem? h1, h2⟩)]
    refine (runR_scan (fun _ => 0) (fun j => [.one (.int .i64 (j : Int))]) (Nat.zero_le j) (fun l _ hlj => ?_)).trans (runR_exit ?_)
    · rw [step l (ps[l]'(by omega)) (List.getElem?_eq_getElem _), h3 l _ hlj (List.getElem?_eq_getElem _)]; rfl
    · rw [step j r h1, h2]; rfl
theorem few_round (a : Nat) (b : List D) (ss : List (List Part)) (ip pr : Int) (i : Nat) (ps : List Part) (hi : ss[i]? = some ps) (hz : ss.length ≤ 7) :
    few_L9_S a b ss.length (ss.map slotD) ip pr (.next 0 [.one (.int .i64 (i : Int))]) = some (if wideSlot ps = true then .out 1 [.one (.bool false)] else .next 0 [.one (.int .i64 ((i + 1 : Nat) : Int))]) := by
  have hil := (List.getElem?_eq_some_iff.1 hi).1
  rw [few_L9_S_0]
  unfold few_L9_S0 wideSlot
  rw [pullD_some (i : Int) (by rfl) (by rfl), if_pos (by omega), guardP_pos (by omega), pullD_some (ps.length, slotC ps) (readS hi) (by rfl)]
  dsimp only
  by_cases h8 : 8 < ps.length
  · rw [if_pos (by omega), decide_eq_true h8]; rfl
  rw [if_neg (by omega), decide_eq_false h8, Bool.false_or, wrap_succ hil (by omega)]
  have hn := few_names a b ss ip pr i ps hi (by omega)
  by_cases h : ps.any longName = true
  · rw [if_pos h] at hn ⊢
    rw [bindL_some hn, if_neg (by decide), if_pos rfl, pullD_some false (by rfl) (by rfl)]
  · rw [if_neg h] at hn ⊢
    rw [bindL_some hn, if_pos rfl, pullD_some () (by rfl) (by rfl)]
theorem few_eq (ss : List (List Part)) (ip pr : Int) : m_31 [.agg [.list 0 []], .agg [.list ss.length (ss.map slotD), .one (.int .i64 ip), .one (.int .i64 pr)]] = some (.one (.bool (fewV ss))) := by
  rw [m_31_eq]
  unfold few_M fewV
  rw [if_neg (by decide)]
  by_cases h7 : 7 < ss.length
  · rw [if_pos (by omega), decide_eq_true h7]; rfl
  rw [if_neg (by omega), decide_eq_false h7, Bool.false_or]
  have h4 : runR (few_L4_S 0 [] ss.length (ss.map slotD) ip pr) (.next 0 [.one (.int .i64 0)]) = some (.out 0 []) := runR_exit (by
    rw [few_L4_S_0]
    unfold few_L4_S0
    rw [pullD_some (0 : Int) (by rfl) (by rfl), if_neg (by decide)])
  rw [bindL_some h4, if_pos rfl, pullD_some () (by rfl) (by rfl)]
  rcases first_of wideSlot ss with h | ⟨i, ps, h1, h2, h3⟩
  · have e : ss.any wideSlot = false := by simpa using h
    rw [e]
    have hr : runR (few_L9_S 0 [] ss.length (ss.map slotD) ip pr) (.next 0 [.one (.int .i64 0)]) = some (.out 0 []) := by
      refine (runR_scan (fun _ => 0) (fun j => [.one (.int .i64 (j : Int))]) (Nat.zero_le ss.length) (fun j _ hj => ?_)).trans (runR_exit ?_)
      · rw [few_round 0 [] ss ip pr j ss[j] (List.getElem?_eq_getElem hj) (by omega), h _ (List.getElem_mem hj)]; rfl
      · rw [few_L9_S_0]
        unfold few_L9_S0
        rw [pullD_some (ss.length : Int) (by rfl) (by rfl), if_neg (by omega)]
    rw [bindL_some hr, if_pos rfl, pullD_some () (by rfl) (by rfl)]
    rfl
  · have hi := (List.getElem?_eq_some_iff.1 h1).1
    rw [List.any_eq_true.2 ⟨ps, List.mem_of_getElem? h1, h2⟩]
    have hr : runR (few_L9_S 0 [] ss.length (ss.map slotD) ip pr) (.next 0 [.one (.int .i64 0)]) = some (.out 1 [.one (.bool false)]) := by
      refine (runR_scan (fun _ => 0) (fun j => [.one (.int .i64 (j : Int))]) (Nat.zero_le i) (fun j _ hj => ?_)).trans (runR_exit ?_)
      · rw [few_round 0 [] ss ip pr j (ss[j]'(by omega)) (List.getElem?_eq_getElem _) (by omega), h3 j _ hj (List.getElem?_eq_getElem _)]; rfl
      · rw [few_round 0 [] ss ip pr i ps h1 (by omega), h2]; rfl
    rw [bindL_some hr, if_neg (by decide), if_pos rfl, pullD_some false (by rfl) (by rfl)]
    rfl
/-- The law, for all stocks and slots. -/
theorem law6_all (ss : List (List Part)) (ip pr slot : Int) : m_6 [.agg [.list ss.length (ss.map slotD), .one (.int .i64 ip), .one (.int .i64 pr)], .one (.int .i64 slot)] = some (.one (.bool true)) := by
  rw [m_6_eq]
  unfold law6_M
  rw [pullD_some true m_30_eq (by rfl), if_neg (by decide), pullD_some (fewV ss) (few_eq ss ip pr) (by rfl)]
  cases hf : fewV ss with
  | false => rfl
  | true =>
  rw [if_neg (by decide)]
  have hsm : Stk.small ⟨ss, ip, pr⟩ := by
    unfold fewV at hf
    simp only [Bool.not_eq_true', Bool.or_eq_false_iff, decide_eq_false_iff_not, List.any_eq_false] at hf
    refine ⟨by simp only; omega, fun ps hp => ?_⟩
    have := hf.2 ps hp
    unfold wideSlot at this
    simp only [Bool.or_eq_true, decide_eq_true_eq, not_or] at this
    omega
  rw [pullD_some (ss.length, ss.map slotD, ip, pr) (m_33_eq ⟨ss, ip, pr⟩ hsm) (by rfl)]
  dsimp only
  rw [pullD_some ((stockE ss ip pr).1, (stockE ss ip pr).2) (m_32_eq ⟨ss, ip, pr⟩ hsm) (by rfl)]
  dsimp only
  rw [pullD_some (ss.length, ss.map slotD, ip, pr) (m_33_eq ⟨ss, ip, pr⟩ hsm) (by rfl)]
  dsimp only
  by_cases he : (stockE ss ip pr).2 = 0
  · by_cases hs : slot < 0 ∨ (ss.length : Int) ≤ slot
    · rw [pullD_some ((0 : Nat), ([] : List D), (6 : Int)) (undom_miss ss ip pr slot hsm he hs) (by rfl)]
      dsimp only
      rw [pullD_some ((stockE ss ip pr).1, (stockE ss ip pr).2) (chkStockR_eq ss ip pr hsm) (by rfl)]
      dsimp only
      rw [if_neg (by simp), if_neg (by simp), if_pos he, pullD_some (!bad 0 (IntKind.i64.wrap ((ss.length : Int) - 1)) slot) (m_22_eq slot 0 _) (by rfl)]
      have hz := hsm.1
      simp only at hz
      have : (!bad 0 (IntKind.i64.wrap ((ss.length : Int) - 1)) slot) = false := by
        rw [wrap_id (by omega) (by omega)]
        unfold bad
        simp only [Bool.not_eq_false', Bool.or_eq_true, decide_eq_true_eq]
        omega
      rw [if_pos this, if_pos rfl]
      rfl
    · obtain ⟨s, rfl⟩ : ∃ s : Nat, slot = (s : Int) := ⟨slot.toNat, by omega⟩
      have hsl : s < ss.length := by omega
      have hq := List.getElem?_eq_getElem hsl
      have he0 : stockE ss ip pr = (0, 0) := by
        unfold stockE at he ⊢
        split
        · rename_i hne; rw [if_pos hne] at he; exact absurd he hne
        · rename_i hne
          rw [if_neg hne] at he
          split at he
          · rename_i i hfi
            have := List.find?_some hfi
            simp only [bne_iff_ne, ne_eq] at this
            exact absurd he this
          · rfl
      rw [pullD_some ((freeTo ss[s] ss[s].length).length, (freeTo ss[s] ss[s].length).map IDn, (0 : Int)) (undom_ok ss ip pr s ss[s] hq hsm he0) (by rfl)]
      dsimp only
      rw [pullD_some ((stockE ss ip pr).1, (stockE ss ip pr).2) (chkStockR_eq ss ip pr hsm) (by rfl)]
      dsimp only
      rw [if_neg (by simp), if_neg (by simp), if_pos he, pullD_some (!bad 0 (IntKind.i64.wrap ((ss.length : Int) - 1)) (s : Int)) (m_22_eq (s : Int) 0 _) (by rfl)]
      have hz := hsm.1
      simp only at hz
      have : (!bad 0 (IntKind.i64.wrap ((ss.length : Int) - 1)) (s : Int)) = true := by
        rw [wrap_id (by omega) (by omega)]
        unfold bad
        simp only [Bool.not_eq_true', Bool.or_eq_false_iff, decide_eq_false_iff_not]
        omega
      rw [if_neg (by rw [this]; decide), if_neg (by simpa using he), if_pos rfl, pullD_some ((freeTo ss[s] ss[s].length).length, (freeTo ss[s] ss[s].length).map IDn) (undomR_ok ss ip pr s ss[s] hq (hsm.2 _ (List.getElem_mem hsl))) (by rfl)]
      dsimp only
      have hi := ints_refl ((freeTo ss[s] ss[s].length).map fun (n : Nat) => (n : Int)) (by have := freeTo_len ss[s] ss[s].length; have := hsm.2 _ (List.getElem_mem hsl); simp; omega)
      rw [List.length_map, List.map_map] at hi
      rw [pullD_some true hi (by rfl)]
  · rw [pullD_some ((0 : Nat), ([] : List D), (stockE ss ip pr).2) (undom_err ss ip pr slot hsm he) (by rfl)]
    dsimp only
    rw [pullD_some ((stockE ss ip pr).1, (stockE ss ip pr).2) (chkStockR_eq ss ip pr hsm) (by rfl)]
    dsimp only
    rw [if_neg (by simp), if_neg (by simp), if_neg he, if_pos he, if_pos rfl]
    rfl
theorem law6_con (ss : List (List Part)) (ip pr slot : Int) : Con 6 [.agg [.list ss.length (ss.map slotD), .one (.int .i64 ip), .one (.int .i64 pr)], .one (.int .i64 slot)] (.one (.bool true)) := m_6_ok (law6_all ss ip pr slot)
end Go.Proofs.YtegjgcogikjemaaDoor
/- Stocks: an argument's value in depth. -/
namespace Go.Proofs.YtegjgcogikjemaaDoor
open Go.Ev Go.RowKit
set_option maxRecDepth 100000
theorem int_of {k : IntKind} {d : D} (h : okD (.int k) d) : ∃ x, d = .one (.int k x) ∧ (Lit.int k x).wf = true := by
  simp only [okD] at h
  exact h
theorem list_of {α : Type} {es : List CT} {enc : α → List D} (he : ∀ r, okDs es r → ∃ a, r = enc a) {d : D} (h : okD (.sl es) d) : ∃ ys : List α, d = .list ys.length (ys.map enc).flatten ∧ ys.length ≤ maxLen := by
  simp only [okD] at h
  obtain ⟨rows, rfl, hl, hr⟩ := h
  have : ∀ rows : List (List D), (∀ r ∈ rows, okDs es r) → ∃ ys : List α, rows = ys.map enc := by
    intro rows
    induction rows with
    | nil => intro _; exact ⟨[], rfl⟩
    | cons r rs ih =>
      intro h
      obtain ⟨a, rfl⟩ := he r (h r (by simp))
      obtain ⟨ys, rfl⟩ := ih fun q hq => h q (by simp [hq])
      exact ⟨a :: ys, rfl⟩
  obtain ⟨ys, rfl⟩ := this rows hr
  exact ⟨ys, by rw [List.length_map], by rwa [List.length_map] at hl⟩
theorem part_of {r : List D} (h : okDs [.str, .int .i64, .int .i64, .int .i64, .int .i64, .int .i64, .int .i64, .int .i64, .int .i64, .int .i64, .int .i64, .int .i64, .int .i64, .int .i64] r) : ∃ q : Part, r = q.cells := by
  simp only [okDs, okD] at h
  obtain ⟨_, _, rfl, ⟨n, rfl, -⟩, _, _, rfl, ⟨p, rfl, -⟩, _, _, rfl, ⟨a0, rfl, -⟩, _, _, rfl, ⟨a1, rfl, -⟩, _, _, rfl, ⟨a2, rfl, -⟩, _, _, rfl, ⟨a3, rfl, -⟩, _, _, rfl, ⟨a4, rfl, -⟩, _, _, rfl, ⟨a5, rfl, -⟩, _, _, rfl, ⟨a6, rfl, -⟩, _, _, rfl, ⟨a7, rfl, -⟩, _, _, rfl, ⟨a8, rfl, -⟩, _, _, rfl, ⟨a9, rfl, -⟩, _, _, rfl, ⟨a10, rfl, -⟩, _, _, rfl, ⟨a11, rfl, -⟩, rfl⟩ := h
  exact ⟨⟨n, p, a0, a1, a2, a3, a4, a5, a6, a7, a8, a9, a10, a11⟩, rfl⟩
theorem slotC_flat : ∀ ps : List Part, (ps.map Part.cells).flatten = slotC ps
  | [] => rfl
  | q :: qs => by simp [slotC, slotC_flat qs]
theorem slot_of {r : List D} (h : okDs [.sl [.str, .int .i64, .int .i64, .int .i64, .int .i64, .int .i64, .int .i64, .int .i64, .int .i64, .int .i64, .int .i64, .int .i64, .int .i64, .int .i64]] r) : ∃ ps : List Part, r = [slotD ps] := by
  rw [okDs] at h
  obtain ⟨d, t, rfl, h1, h2⟩ := h
  simp only [okDs] at h2
  subst h2
  obtain ⟨ps, rfl, -⟩ := list_of (enc := Part.cells) (fun r => part_of) h1
  exact ⟨ps, by rw [slotC_flat]; rfl⟩
theorem single_flat {α : Type} (f : α → D) : ∀ l : List α, (l.map fun x => [f x]).flatten = l.map f
  | [] => rfl
  | a :: l => by simp only [List.map_cons, List.flatten_cons, single_flat f l]; rfl
theorem stock_of {ds : List D} (h : okDs [.sl [.sl [.str, .int .i64, .int .i64, .int .i64, .int .i64, .int .i64, .int .i64, .int .i64, .int .i64, .int .i64, .int .i64, .int .i64, .int .i64, .int .i64]], .int .i64, .int .i64] ds) :
    ∃ (ss : List (List Part)) (ip pr : Int), ds = [.list ss.length (ss.map slotD), .one (.int .i64 ip), .one (.int .i64 pr)] := by
  rw [okDs] at h
  obtain ⟨d, t, rfl, h1, h2⟩ := h
  simp only [okDs, okD] at h2
  obtain ⟨_, _, rfl, ⟨ip, rfl, -⟩, _, _, rfl, ⟨pr, rfl, -⟩, rfl⟩ := h2
  obtain ⟨ss, rfl, -⟩ := list_of (enc := fun ps => [slotD ps]) (fun r => slot_of) h1
  refine ⟨ss, ip, pr, ?_⟩
  rw [single_flat]
end Go.Proofs.YtegjgcogikjemaaDoor
/- DesignStocks: what the runs give, for every argument. -/
namespace Go.Proofs.YtegjgcogikjemaaDoor.designStocks
open Go.ChangeShapes Go.WideShapes Go.ChangeAt Go.RowKit Go.Joins Go.Ev
set_option maxRecDepth 100000 in
/-- WHAT THE RUNS GIVE, FOR EVERY ARGUMENT AND EVERY WORLD THAT HOLDS THE TABLES. -/
theorem contract (H : Type) (enc : TypeId × Value → H) (W : World) (base : Nat) (args : Array Value) (ds gs : List (DataW H)) (before : List MemPlace)
    (hval : ∀ (j : Nat) t v, Tryd.f6.params[j]? = some t → args[j]? = some v → Value.okWide Tryd.prog W .any base t v)
    (hW : DataW.Whole enc Tryd.prog Tryd.f6.params.toList Rows.designStocksSpec.vars false W args.toList ds gs before) (hL : laidMetH Tryd.prog Rows.designStocksRow.laid W) :
    Calls Tryd.prog 6 args W fun e W' => ∃ v, e = .returned v ∧ Rows.designStocksSpec.post enc Tryd.prog Tryd.f6 false true false false W args v W' := by
  have hW' := hW
  have hlt := hW.lt
  obtain ⟨p, q, hA0, hV, rfl, hfz, hnd⟩ := hW
  have hA : DataW.TrodAll enc Tryd.prog W 0 (fun _ => true) true Tryd.f6.params.toList args.toList ds p := hA0
  rw [Tryd.params6] at hA hval
  obtain ⟨v0, vs0, d0, ds0, p0, q0, hargs, rfl, rfl, h0, r0⟩ := trodAll_cons hA
  obtain ⟨v1, vs1, d1, ds1, p1, q1, rfl, rfl, rfl, h1, r1⟩ := trodAll_cons r0
  obtain ⟨rfl, rfl, rfl⟩ := trodAll_nil r1
  obtain rfl : args = #[v0, v1] := by cases args; simp_all
  obtain ⟨rfl, rfl⟩ := trodVars_none hV
  obtain ⟨e0, o0, k0⟩ := open_agg (ls := [.sl [.sl [.str, .int .i64, .int .i64, .int .i64, .int .i64, .int .i64, .int .i64, .int .i64, .int .i64, .int .i64, .int .i64, .int .i64, .int .i64, .int .i64]], .int .i64, .int .i64]) 8 (by kernel_rfl) (by kernel_rfl) (by kernel_rfl) (hval 0 70 v0 rfl rfl) h0
  obtain ⟨ss, ip, pr, rfl⟩ := stock_of o0
  obtain ⟨e1, o1, k1⟩ := open_cell (c := .int .i64) 8 (by kernel_rfl) (by kernel_rfl) (by kernel_rfl) (hval 1 3 v1 rfl rfl) h1
  obtain ⟨x1, rfl, -⟩ := int_of o1
  have hr : RpL (fun _ => True) W [.agg [.list ss.length (ss.map slotD), .one (.int .i64 ip), .one (.int .i64 pr)], .one (.int .i64 x1)] [v0, v1] := by
    simp only [RpL]
    exact ⟨v0, _, rfl, k0, ⟨v1, _, rfl, k1, rfl⟩⟩
  refine (law6_con ss ip pr x1 W (fun _ => True) _ (of_laid_DesignStocks hL) hr).mono fun e W' ⟨v, he, hv, hg⟩ => ?_
  simp only [Rp] at hv
  subst he
  subst hv
  have hlaid : laidOutB Tryd.prog = true := by kernel_rfl
  exact ⟨_, rfl, post_below (pa := (p0 ++ (p1 ++ []))) (pv := []) hW' (fun _ _ _ => trodAll_cons_mk (shut_bool Tryd.underlying4 _) trodAll_mk0) (fun sp hsp => by
    rw [Tryd.params6]
    exact trodAll_cons_mk (stays hlaid (by kernel_rfl) (of_decide_eq_true (by kernel_rfl)) h0 hg (fun x hx => hlt x (by simp only [List.mem_append]; left; left; exact hx)) (fun x hx => hsp x (by simp only [List.mem_append]; left; left; exact hx))) (trodAll_cons_mk (stays hlaid (by kernel_rfl) (of_decide_eq_true (by kernel_rfl)) h1 hg (fun x hx => hlt x (by simp only [List.mem_append]; left; right; left; exact hx)) (fun x hx => hsp x (by simp only [List.mem_append]; left; right; left; exact hx))) (trodAll_mk0))) (fun _ _ => rfl) rfl
    hg (ok_one (by kernel_rfl) rfl (okWide_bool_mk Tryd.underlying4 _))⟩
end Go.Proofs.YtegjgcogikjemaaDoor.designStocks
/- DesignStocks: closed facts of the witness. -/
namespace Go.Proofs.YtegjgcogikjemaaDoor.designStocks
open Go.ChangeShapes Go.WideShapes Go.ChangeAt Go.RowKit Go.Joins
/-- THE WITNESS's ARGUMENTS. -/
noncomputable def args0 : Array Value := #[.agg #[.slice none 0 0, .int .i64 0, .int .i64 0], .int .i64 0]
/-- A WORLD FOR THE WITNESS: the heap that the program's own initialisers leave. -/
noncomputable def start (os : Os) : World := World.doorLaid Tryd.prog 400 os
theorem laid_met (os : Os) : laidMet Tryd.prog Rows.designStocksRow.laid ((start os).forCall (fun _ _ => 0) ⟨#[], args0, []⟩).memory :=
  laidMet_of_run' 8 (by kernel_rfl) (by kernel_rfl)
theorem reads (os : Os) {H : Type} (enc : TypeId × Value → H) : ∃ places, DataW.whole enc Tryd.prog ((start os).forCall (fun _ _ => 0) ⟨#[], args0, []⟩).memory Tryd.f6.params.toList Rows.designStocksSpec.vars false args0.toList 8 = some ([.agg [.nil, .lit (.int .i64 0), .lit (.int .i64 0)], .lit (.int .i64 0)], [], places) :=
  ⟨[], by kernel_rfl⟩
theorem vB (os : Os) : ((start os).forCall (fun _ _ => 0) ⟨#[], args0, []⟩).variablesB Tryd.prog = true := by kernel_rfl
theorem rB (os : Os) : (((start os).forCall (fun _ _ => 0) ⟨#[], args0, []⟩).heap.toList.drop Tryd.prog.globals.size).take ((begin Tryd.prog (fun _ _ => 0) default).world.heap.size - Tryd.prog.globals.size) = (begin Tryd.prog (fun _ _ => 0) default).world.heap.toList.drop Tryd.prog.globals.size := by kernel_rfl
theorem oB (os : Os) : Input.okWideB Tryd.prog ((start os).forCall (fun _ _ => 0) ⟨#[], args0, []⟩) 6 ⟨#[], args0, []⟩ = true := by kernel_rfl
theorem hB (os : Os) : (start os).os = os := by kernel_rfl
end Go.Proofs.YtegjgcogikjemaaDoor.designStocks
/- For any stock, valid or not, and any slot, the law DesignStocks of the program answers true, and its arguments read as they did. CONDITIONS: the tables unitsOf, unitWords and quantityWords of package design, and the standard library's tables that the row lists, hold what the program's text lays. -/
namespace Go.Proofs.YtegjgcogikjemaaDoor.designStocks
open Go.ChangeShapes Go.WideShapes Go.ChangeAt Go.RowKit Go.Joins
set_option maxRecDepth 100000 in
theorem lifted (os : Os) (started : os.Started) (H : Type) (enc : TypeId × Value → H) (F : Stop.Interp) :
    ReturnsInHanded {} Tryd.checked os 6 .any ((OpenSpec.ofChange Rows.designStocksSpec).preRow enc Tryd.prog Tryd.f6 Rows.designStocksRow.domain false Rows.designStocksRow.laid) (((OpenSpec.ofChange Rows.designStocksSpec).at F).post enc Tryd.prog Tryd.f6 false true false false) := by
  obtain ⟨places, hx⟩ := reads os enc
  refine returnsInHanded_of_row (C := Tryd.checked) (s := OpenSpec.ofChange Rows.designStocksSpec) own started (by kernel_rfl) Tryd.func6
    (witness_row_at (enc := enc) (C := Tryd.checked) false (start os) args0 (hB os) (vB os) (rB os) (oB os)
      (OpenSpec.preRow_of_cond 8 hx (by kernel_rfl) (fun k hk => by cases hk) (by kernel_rfl) (laid_met os))) ?_
  intro W base args ds gs before hval hW _ _ _ hL _ _
  exact contract H enc W base args ds gs before hval hW hL
theorem said : Rows.DesignStocksSaid :=
  OpenClaim.holds_of_cond 6 Tryd.f6 rfl rfl rfl rfl rfl rfl rfl ⟨rfl, rfl, rfl, rfl, rfl⟩ rfl rfl rfl rfl rfl (by kernel_rfl) Tryd.func6 (by kernel_rfl)
    (of_decide_eq_true (by kernel_rfl)) (by unfold Func.isWrapper; first | (rw [if_pos (by decide +kernel)]; kernel_rfl) | (rw [if_neg (by decide +kernel)]; exact ⟨rfl, rfl⟩))
    (fun os started H enc _ F => by rw [OpenClaim.pre_eq_preRow]; exact lifted os started H enc F)
/-- No parameter wants a stand-in; the program's own looks are off: what the card asks. -/
theorem plain (f : FuncId) (fn : Func) (hf : Tryd.pinned.checked.prog.funcNamed "buchholz/buchholzlaw02.DesignStocks" = some f) (hfn : Tryd.pinned.checked.prog.funcs[f]? = some fn) :
    false = Tryd.pinned.checked.prog.looks [] ∧ ∀ (j : Nat) t, fn.params[j]? = some t → Tryd.pinned.checked.prog.wantsStandIn t = false := by
  obtain rfl : f = 6 := Option.some.inj ((show Tryd.prog.funcNamed "buchholz/buchholzlaw02.DesignStocks" = some 6 by kernel_rfl).symm.trans hf) |>.symm
  obtain rfl : fn = Tryd.f6 := (Option.some.inj (Tryd.func6.symm.trans hfn)).symm
  refine ⟨by kernel_rfl, fun j t ht => ?_⟩
  rw [Tryd.params6] at ht
  have hm := Array.mem_of_getElem? ht
  simp at hm
  rcases hm with rfl | rfl
  · exact (show Tryd.prog.wantsStandIn 70 = false by kernel_rfl)
  · exact (show Tryd.prog.wantsStandIn 3 = false by kernel_rfl)
/-- THE CARD. -/
theorem card : Rows.DesignStocksCardSaid :=
  Claim7.holds_tied_plain_at .later [] _ _ _ _ said (fun _ h => by cases h) (by kernel_rfl) (fun _ h => by cases h) designStocks_row_tie rfl ⟨rfl, rfl⟩ (by kernel_rfl) rfl plain (by kernel_rfl)
end Go.Proofs.YtegjgcogikjemaaDoor.designStocks
