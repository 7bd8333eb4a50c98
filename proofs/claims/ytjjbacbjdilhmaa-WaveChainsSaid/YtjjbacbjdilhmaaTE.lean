import Derived.Test.YtjjbacbjdilhmaaTD
set_option linter.unusedVariables false
set_option linter.unusedSimpArgs false
set_option linter.unusedSectionVars false
set_option linter.unnecessarySimpa false
/- Models of functions: what helps to compute with them. -/
namespace Go.Ev
open Go.RowKit
noncomputable section
theorem runR_scan {S : Rd → Option Rd} (q : Nat → Nat) (ds : Nat → List D) {a b : Nat} (hab : a ≤ b) (h : ∀ i, a ≤ i → i < b → S (.next (q i) (ds i)) = some (.next (q (i + 1)) (ds (i + 1)))) : runR S (.next (q a) (ds a)) = runR S (.next (q b) (ds b)) := by
  have key : ∀ m i, a ≤ i → i + m = b → runR S (.next (q i) (ds i)) = runR S (.next (q b) (ds b)) := by
    intro m
    induction m with
    | zero => intro i _ hi; have : i = b := by omega
              subst this; rfl
    | succ m ih => intro i hs hi; rw [runR_next (h i hs (by omega)), ih (i + 1) (by omega) (by omega)]
  exact key (b - a) a (Nat.le_refl _) (by omega)
theorem runR_exit {S : Rd → Option Rd} {q : Nat} {ds : List D} {j : Nat} {es : List D} (h : S (.next q ds) = some (.out j es)) : runR S (.next q ds) = some (.out j es) := by
  rw [runR_next h, runR_out]
open Classical in
end
end Go.Ev
/- Whole numbers as lists of digits to the base 10^9, and as values in depth. -/
namespace Go.Ev
open Go.RowKit
abbrev lD (l : List Int) : D := .list l.length (l.map iD)
/-- The value of digits, the lowest one first. -/
def vl : List Int → Int
  | [] => 0
  | d :: l => d + (1000000000 : Int) * vl l
/-- The digits of a number. -/
def dg (n : Nat) : List Int := if n = 0 then [] else ((n % 1000000000 : Nat) : Int) :: dg (n / 1000000000)
termination_by n
decreasing_by omega
def Dig (l : List Int) : Prop := ∀ d ∈ l, 0 ≤ d ∧ d < (1000000000 : Int)
def Trim (l : List Int) : Prop := ∀ h : l ≠ [], l.getLast h ≠ 0
theorem dg_zero : dg 0 = [] := by unfold dg; simp
theorem dg_pos {n : Nat} (h : 0 < n) : dg n = ((n % 1000000000 : Nat) : Int) :: dg (n / 1000000000) := by
  conv => lhs; unfold dg
  rw [if_neg (by omega)]
theorem vl_append : ∀ a b : List Int, vl (a ++ b) = vl a + (1000000000 : Int) ^ a.length * vl b
  | [], b => by simp [vl]
  | x :: a, b => by
    simp only [List.cons_append, vl, vl_append a b, List.length_cons, Int.pow_succ]
    rw [Int.mul_add, Int.add_assoc, Int.mul_comm ((1000000000 : Int) ^ a.length) (1000000000 : Int), Int.mul_assoc]
theorem Dig.cons {d : Int} {l : List Int} (h : Dig (d :: l)) : (0 ≤ d ∧ d < (1000000000 : Int)) ∧ Dig l := ⟨h d List.mem_cons_self, fun x hx => h x (List.mem_cons_of_mem _ hx)⟩
theorem Dig.nil : Dig [] := fun _ h => by cases h
theorem Dig.append {a b : List Int} (ha : Dig a) (hb : Dig b) : Dig (a ++ b) := fun x hx => by
  rcases List.mem_append.1 hx with h | h
  · exact ha x h
  · exact hb x h
theorem Dig.one {d : Int} (h0 : 0 ≤ d) (h1 : d < (1000000000 : Int)) : Dig [d] := fun x hx => by simp at hx; subst hx; exact ⟨h0, h1⟩
theorem Dig.take {l : List Int} (h : Dig l) (n : Nat) : Dig (l.take n) := fun x hx => h x (List.mem_of_mem_take hx)
theorem Dig.drop {l : List Int} (h : Dig l) (n : Nat) : Dig (l.drop n) := fun x hx => h x (List.mem_of_mem_drop hx)
theorem vl_nonneg : ∀ {l : List Int}, Dig l → 0 ≤ vl l
  | [], _ => Int.le_refl _
  | d :: l, h => by
    have := vl_nonneg h.cons.2
    have := h.cons.1
    simp only [vl]; omega
theorem vl_lt : ∀ {l : List Int}, Dig l → vl l < (1000000000 : Int) ^ l.length
  | [], _ => by simp [vl]
  | d :: l, h => by
    have h1 := vl_lt h.cons.2
    have := h.cons.1
    simp only [vl, List.length_cons, Int.pow_succ]
    rw [Int.mul_comm ((1000000000 : Int) ^ l.length) (1000000000 : Int)]
    omega
theorem dg_dig (n : Nat) : Dig (dg n) := by
  induction n using Nat.strongRecOn with
  | ind n ih =>
    rcases Nat.eq_zero_or_pos n with h | h
    · subst h; rw [dg_zero]; exact Dig.nil
    · rw [dg_pos h]
      intro x hx
      rcases List.mem_cons.1 hx with rfl | hx
      · have := Nat.mod_lt n (show 0 < 1000000000 by decide); show 0 ≤ _ ∧ _ < (1000000000 : Int); omega
      · exact ih (n / 1000000000) (by omega) x hx
theorem vl_dg (n : Nat) : vl (dg n) = n := by
  induction n using Nat.strongRecOn with
  | ind n ih =>
    rcases Nat.eq_zero_or_pos n with h | h
    · subst h; rw [dg_zero]; rfl
    · rw [dg_pos h, vl, ih (n / 1000000000) (by omega)]
      show _ + (1000000000 : Int) * _ = _
      omega
theorem dg_ne {n : Nat} (h : 0 < n) : dg n ≠ [] := by rw [dg_pos h]; simp
theorem Trim.cons {d : Int} {l : List Int} (h : Trim (d :: l)) : Trim l := fun hl => by
  have := h (by simp)
  rwa [List.getLast_cons hl] at this
/-- Digits without zeros at the end are those of their value. -/
theorem dg_vl : ∀ {l : List Int}, Dig l → Trim l → l = dg (vl l).toNat
  | [], _, _ => by simp [vl, dg_zero]
  | d :: l, h, t => by
    have hd := h.cons.1
    have hl := vl_nonneg h.cons.2
    have ih := dg_vl h.cons.2 t.cons
    have hpos : 0 < (vl (d :: l)).toNat := by
      simp only [vl]
      cases l with
      | nil =>
        have := t (by simp)
        simp only [List.getLast_singleton] at this
        simp only [vl]; omega
      | cons e l =>
        have : vl (e :: l) ≠ 0 := fun h0 => by rw [h0] at ih; simp [dg_zero] at ih
        have h2 : (1000000000 : Int) * vl (e :: l) ≥ (1000000000 : Int) := by
          have : 1 ≤ vl (e :: l) := by omega
          have := Int.mul_le_mul_of_nonneg_left this (show (0 : Int) ≤ (1000000000 : Int) by decide)
          omega
        have : (1000000000 : Int) = 1000000000 := rfl
        omega
    rw [dg_pos hpos]
    simp only [vl]
    congr 1
    · show d = _
      have : (d + (1000000000 : Int) * vl l).toNat % 1000000000 = d.toNat := by
        show (d + 1000000000 * vl l).toNat % 1000000000 = d.toNat
        have : d < 1000000000 := hd.2
        omega
      rw [this]; omega
    · have : (d + (1000000000 : Int) * vl l).toNat / 1000000000 = (vl l).toNat := by
        show (d + 1000000000 * vl l).toNat / 1000000000 = (vl l).toNat
        have : d < 1000000000 := hd.2
        omega
      rw [this]; exact ih
/-- How many digits are kept where zeros at the end are cut off. -/
def keep : List Int → Nat
  | [] => 0
  | d :: l => if keep l = 0 ∧ d = 0 then 0 else keep l + 1
theorem keep_le : ∀ l : List Int, keep l ≤ l.length
  | [] => Nat.le_refl _
  | d :: l => by
    have := keep_le l
    unfold keep
    split
    · exact Nat.zero_le _
    · simp only [List.length_cons]; omega
theorem keep_zero : ∀ {l : List Int} {i : Nat} {d : Int}, keep l ≤ i → l[i]? = some d → d = 0
  | x :: l, i, d, h, hd => by
    unfold keep at h
    cases i with
    | zero =>
      simp only [List.getElem?_cons_zero, Option.some.injEq] at hd
      split at h
      · rename_i hk; rw [← hd]; exact hk.2
      · omega
    | succ i =>
      simp only [List.getElem?_cons_succ] at hd
      refine keep_zero ?_ hd
      split at h
      · rename_i hk; omega
      · omega
theorem keep_last : ∀ {l : List Int}, 0 < keep l → ∃ d, l[keep l - 1]? = some d ∧ d ≠ 0
  | x :: l, h => by
    unfold keep at h ⊢
    split at h
    · omega
    · rename_i hk
      rw [if_neg hk]
      simp only [Nat.add_sub_cancel]
      rcases Nat.eq_zero_or_pos (keep l) with h0 | h0
      · rw [h0]
        exact ⟨x, rfl, fun hx => hk ⟨h0, hx⟩⟩
      · obtain ⟨d, h1, h2⟩ := keep_last h0
        refine ⟨d, ?_, h2⟩
        rw [show keep l = keep l - 1 + 1 by omega, List.getElem?_cons_succ]
        exact h1
theorem vl_keep : ∀ l : List Int, vl (l.take (keep l)) = vl l
  | [] => rfl
  | d :: l => by
    have ih := vl_keep l
    unfold keep
    split
    · rename_i h
      rw [h.1] at ih
      simp only [List.take_zero, vl] at ih ⊢
      rw [← ih, h.2]; omega
    · simp only [List.take_succ_cons, vl, ih]
theorem trim_keep (l : List Int) : Trim (l.take (keep l)) := by
  intro h
  have hk : 0 < keep l := by
    rcases Nat.eq_zero_or_pos (keep l) with h0 | h0
    · rw [h0] at h; simp at h
    · exact h0
  obtain ⟨d, h1, h2⟩ := keep_last hk
  have hlen : (l.take (keep l)).length = keep l := by rw [List.length_take]; have := keep_le l; omega
  have : (l.take (keep l)).getLast h = d := by
    rw [List.getLast_eq_getElem]
    have h3 : (l.take (keep l))[keep l - 1]? = some d := by rw [List.getElem?_take, if_pos (by omega)]; exact h1
    have h4 := List.getElem?_eq_some_iff.1 h3
    obtain ⟨h5, h6⟩ := h4
    simp only [hlen]
    exact h6
  rw [this]; exact h2
theorem take_keep {l : List Int} (h : Dig l) : l.take (keep l) = dg (vl l).toNat := by
  have := dg_vl (h.take (keep l)) (trim_keep l)
  rwa [vl_keep] at this
/-- A number of any size, as a value in depth. -/
def eD (z : Int) : List D := [iD z.sign, lD (dg z.natAbs)]
abbrev wD (z : Int) : D := .agg (eD z)
/-- How many digits. -/
abbrev nd (z : Int) : Nat := (dg z.natAbs).length
theorem dg_len_le {n k : Nat} (h : n < 1000000000 ^ k) : (dg n).length ≤ k := by
  induction k generalizing n with
  | zero => simp at h; subst h; simp [dg_zero]
  | succ k ih =>
    rcases Nat.eq_zero_or_pos n with h0 | h0
    · subst h0; simp [dg_zero]
    · rw [dg_pos h0, List.length_cons]
      have := ih (n := n / 1000000000) (by rw [Nat.pow_succ] at h; exact Nat.div_lt_of_lt_mul (by rw [Nat.mul_comm]; exact h))
      omega
theorem lt_of_dg_len (n : Nat) : n < 1000000000 ^ (dg n).length := by
  have h := vl_lt (dg_dig n)
  rw [vl_dg] at h
  have : ((1000000000 : Int) ^ (dg n).length) = ((1000000000 ^ (dg n).length : Nat) : Int) := by simp
  rw [this] at h
  exact Int.ofNat_lt.1 h
theorem dg_low {n : Nat} (h : 0 < n) : 1000000000 ^ ((dg n).length - 1) ≤ n := by
  induction n using Nat.strongRecOn with
  | ind n ih =>
    rw [dg_pos h, List.length_cons, Nat.add_sub_cancel]
    rcases Nat.eq_zero_or_pos (n / 1000000000) with h0 | h0
    · rw [h0, dg_zero]; exact h
    · have h1 := ih (n / 1000000000) (by omega) h0
      have h2 : (dg (n / 1000000000)).length ≠ 0 := fun h3 => dg_ne h0 (List.length_eq_zero_iff.1 h3)
      rw [show (dg (n / 1000000000)).length = (dg (n / 1000000000)).length - 1 + 1 by omega, Nat.pow_succ]
      have := Nat.mul_le_mul_right 1000000000 h1
      omega
theorem vl_take_succ (a : List Int) (i : Nat) : vl (a.take (i + 1)) = vl (a.take i) + (1000000000 : Int) ^ i * a[i]?.getD 0 := by
  by_cases h : i < a.length
  · rw [List.take_succ_eq_append_getElem h, vl_append, List.getElem?_eq_getElem h, List.length_take, Nat.min_eq_left (by omega)]
    simp [vl]
  · rw [List.take_of_length_le (by omega), List.take_of_length_le (by omega), List.getElem?_eq_none (by omega)]
    simp
theorem Dig.at {a : List Int} (h : Dig a) (i : Nat) : 0 ≤ a[i]?.getD 0 ∧ a[i]?.getD 0 < (1000000000 : Int) := by
  by_cases hi : i < a.length
  · rw [List.getElem?_eq_getElem hi]; exact h _ (List.getElem_mem hi)
  · rw [List.getElem?_eq_none (by omega)]; decide
theorem powP (n : Nat) : (0 : Int) < (1000000000 : Int) ^ n := Int.pow_pos (by decide)
theorem pow_le {a b : Nat} (h : a ≤ b) : (1000000000 : Int) ^ a ≤ (1000000000 : Int) ^ b := by
  have : ((1000000000 ^ a : Nat) : Int) ≤ ((1000000000 ^ b : Nat) : Int) := Int.ofNat_le.2 (Nat.pow_le_pow_right (by decide) h)
  simpa using this
theorem lt_of_top {P a b x y : Int} (ha : a < P) (hb : 0 ≤ b) (h : x < y) (hP : 0 < P) : a + P * x < b + P * y := by
  have : P * (x + 1) ≤ P * y := Int.mul_le_mul_of_nonneg_left (by omega) (by omega)
  rw [Int.mul_add, Int.mul_one] at this
  omega
theorem pullI {β : Type} (x : Int) (k : Int → Option β) : pullD (some (.one (.int .i64 x))) (fun d => D.vi d) (fun r => .one (.int .i64 r)) k = k x := pullD_some x rfl rfl
theorem pullB {β : Type} (x : Bool) (k : Bool → Option β) : pullD (some (.one (.bool x))) (fun d => D.vb d) (fun r => .one (.bool r)) k = k x := pullD_some x rfl rfl
/-- What grows from nothing: by which head, what it is. -/
def gq (l : List Int) : Nat := if l = [] then 1 else 0
def gd (l : List Int) : D := if l = [] then .one (.tuple #[]) else lD l
def gout (l : List Int) : Rd := .out (gq l) [gd l]
theorem cellD_int (x : Int) : ∀ u, u ∈ [dCell (.int .i64 x)] → cellD u := by
  intro u hu
  simp at hu
  subst hu
  rfl
theorem grow_list (l : List Int) (x : Int) : D.list (l.length + (0 + 1)) (List.append (List.take (l.length * 1) (l.map iD)) [dCell (.int .i64 x)]) = lD (l ++ [x]) := by
  have : List.take (l.length * 1) (l.map iD) = l.map iD := List.take_of_length_le (by simp)
  rw [this]
  show D.list (l.length + 1) (l.map iD ++ [iD x]) = _
  simp [lD]
theorem vl_set : ∀ (l : List Int) (p : Nat) (x : Int), p < l.length → vl (l.set p x) = vl l + (1000000000 : Int) ^ p * (x - l[p]?.getD 0)
  | [], p, x, h => absurd h (Nat.not_lt_zero _)
  | d :: l, 0, x, h => by
    simp only [List.set_cons_zero, vl, List.getElem?_cons_zero, Option.getD_some, Int.pow_zero]
    omega
  | d :: l, p + 1, x, h => by
    have := vl_set l p x (by simpa using h)
    simp only [List.set_cons_succ, vl, this, List.getElem?_cons_succ, Int.pow_succ]
    grind
theorem Dig.set {l : List Int} (h : Dig l) (p : Nat) {x : Int} (h0 : 0 ≤ x) (h1 : x < 1000000000) : Dig (l.set p x) := fun y hy => by
  rcases List.mem_or_eq_of_mem_set hy with hy | rfl
  · exact h y hy
  · exact ⟨h0, h1⟩
theorem set_list (o : List Int) (p : Nat) (x : Int) (h : p < o.length) : List.append (List.take (0 + p * 1) (o.map iD) ++ [dCell (.int .i64 x)]) (List.drop (0 + p * 1 + [dCell (.int .i64 x)].length) (o.map iD)) = (o.set p x).map iD := by
  show List.take (0 + p * 1) (o.map iD) ++ [iD x] ++ List.drop (0 + p * 1 + 1) (o.map iD) = _
  rw [Nat.zero_add, Nat.mul_one, List.map_set, List.set_eq_take_append_cons_drop, if_pos (by simpa using h)]
  simp
theorem zeros_list (n : Nat) : List.map dCell (List.replicate n (Value.int .i64 (0 : Int)).cells.toList).flatten = (List.replicate n (0 : Int)).map iD := by
  induction n with
  | zero => rfl
  | succ n ih =>
    rw [List.replicate_succ, List.flatten_cons, List.map_append, ih, List.replicate_succ, List.map_cons]
    rfl
theorem vl_zeros (n : Nat) : vl (List.replicate n 0) = 0 := by
  induction n with
  | zero => rfl
  | succ n ih => rw [List.replicate_succ, vl, ih]; rfl
theorem gq_app (l : List Int) (x : Int) : gq (l ++ [x]) = 0 := by simp [gq]
theorem gd_app (l : List Int) (x : Int) : gd (l ++ [x]) = lD (l ++ [x]) := by simp [gd]
theorem tmodB {x : Int} (h : 0 ≤ x) : x.tmod (1000000000 : Int) = x % (1000000000 : Int) := Int.tmod_eq_emod_of_nonneg h
theorem tdivB {x : Int} (h : 0 ≤ x) : x.tdiv (1000000000 : Int) = x / (1000000000 : Int) := Int.tdiv_eq_ediv_of_nonneg h
theorem readW {l : List Int} {i : Nat} {v : Int} (h : l[i]? = some v) : readD (l.map iD) ((i : Int).toNat * 1) 1 false = some (iD v) := by
  unfold readD
  simp [h]
end Go.Ev
/- Lists told by place: tables, sums of the first, and how a program builds them. -/
namespace Go.Ev
open Go.RowKit
/-- The numbers f 0, .., f (n - 1). -/
def tab (n : Nat) (f : Nat → Int) : List Int := (List.range n).map f
/-- The number at a place, 0 behind the end. -/
def at' (l : List Int) (i : Nat) : Int := l[i]?.getD 0
theorem at_get {l : List Int} {i : Nat} (h : i < l.length) : l[i]? = some (at' l i) := by
  unfold at'; rw [List.getElem?_eq_getElem h]; rfl
theorem wrapJ (x : Int) (h1 : -9223372036854775808 ≤ x) (h2 : x < 9223372036854775808) : IntKind.i64.wrap x = x := by
  unfold IntKind.wrap
  show (if (true && _) then _ else _) = _
  simp only [Bool.true_and, decide_eq_true_eq]
  show (if x % 18446744073709551616 ≥ 9223372036854775808 then x % 18446744073709551616 - 18446744073709551616 else x % 18446744073709551616) = x
  split <;> omega
theorem readA {l : List Int} {i : Nat} (h : i < l.length) : readD (l.map iD) ((i : Int).toNat * 1) 1 false = some (iD (at' l i)) := readW (at_get h)
theorem natI {i : Nat} (h : i < 1000000000000000) : IntKind.i64.wrap ((i : Int) + 1) = ((i + 1 : Nat) : Int) := by rw [wrapJ _ (by omega) (by omega)]; omega
theorem cells_int (l : List Int) : ∀ u : D, u ∈ l.map iD → cellD u := by
  intro u hu
  obtain ⟨x, -, rfl⟩ := List.mem_map.1 hu
  rfl
/-- All numbers lie between two. -/
def allIn (lo hi : Int) (l : List Int) : Bool := l.all fun x => decide (lo ≤ x ∧ x ≤ hi)
/-- A loop that looks for a number that is not. -/
theorem scanIn (l : List Int) (lo hi : Int) (S : Rd → Option Rd) (bad : Rd) (hb : ∀ q ds, bad ≠ .next q ds) (hs : ∀ i, i < l.length → S (.next 0 [iD (i : Int)]) = if lo ≤ at' l i ∧ at' l i ≤ hi then some (.next 0 [iD ((i + 1 : Nat) : Int)]) else some bad)
    (he : S (.next 0 [iD (l.length : Int)]) = some (.out 0 [])) : runR S (.next 0 [iD 0]) = if allIn lo hi l = true then some (.out 0 []) else some bad := by
  have key : ∀ m i, i + m = l.length → runR S (.next 0 [iD (i : Int)]) = if allIn lo hi (l.drop i) = true then some (.out 0 []) else some bad := by
    intro m
    induction m with
    | zero =>
      intro i hi
      have : i = l.length := by omega
      subst this
      rw [runR_exit he, List.drop_of_length_le (Nat.le_refl _)]
      rfl
    | succ m ih =>
      intro i hi'
      have hlt : i < l.length := by omega
      have hd : l.drop i = at' l i :: l.drop (i + 1) := by
        rw [List.drop_eq_getElem_cons hlt]
        congr 1
        unfold at'
        rw [List.getElem?_eq_getElem hlt]; rfl
      have e : allIn lo hi (l.drop i) = (decide (lo ≤ at' l i ∧ at' l i ≤ hi) && allIn lo hi (l.drop (i + 1))) := by
        rw [hd]; rfl
      have h1 := hs i hlt
      by_cases hq : lo ≤ at' l i ∧ at' l i ≤ hi
      · rw [if_pos hq] at h1
        rw [runR_next h1, ih (i + 1) (by omega), e, decide_eq_true hq, Bool.true_and]
      · rw [if_neg hq] at h1
        rw [e, decide_eq_false hq, Bool.false_and, if_neg (by decide)]
        cases bad with
        | next q ds => exact absurd rfl (hb q ds)
        | out j ds => exact runR_exit h1
  have := key l.length 0 (by omega)
  rw [List.drop_zero, Int.natCast_zero] at this
  exact this
end Go.Ev
/- Lists of pairs of numbers told by place; loops that look for the first error. -/
namespace Go.Ev
open Go.RowKit
def cP (l : List (Int × Int)) : List D := (l.map fun p => [iD p.1, iD p.2]).flatten
abbrev lP (l : List (Int × Int)) : D := .list l.length (cP l)
def ta (l : List (Int × Int)) (i : Nat) : Int := (l[i]?.getD (0, 0)).1
def va (l : List (Int × Int)) (i : Nat) : Int := (l[i]?.getD (0, 0)).2
theorem cP_nil : cP [] = [] := rfl
theorem cP_cons (p : Int × Int) (l : List (Int × Int)) : cP (p :: l) = iD p.1 :: iD p.2 :: cP l := rfl
theorem cP_drop : ∀ (i : Nat) (l : List (Int × Int)), (cP l).drop (i * 2) = cP (l.drop i)
  | 0, l => by simp
  | i + 1, [] => by simp [cP_nil]
  | i + 1, p :: l => by
    rw [cP_cons, show (i + 1) * 2 = i * 2 + 1 + 1 by omega, List.drop_succ_cons, List.drop_succ_cons, cP_drop i l, List.drop_succ_cons]
theorem pt_get {l : List (Int × Int)} {i : Nat} (h : i < l.length) : l[i]? = some (ta l i, va l i) := by
  unfold ta va
  rw [List.getElem?_eq_getElem h]
  rfl
theorem pt_drop {l : List (Int × Int)} {i : Nat} (h : i < l.length) : l.drop i = (ta l i, va l i) :: l.drop (i + 1) := by
  rw [List.drop_eq_getElem_cons h]
  congr 1
  have := pt_get h
  rw [List.getElem?_eq_getElem h] at this
  exact Option.some.inj this
theorem readP {l : List (Int × Int)} {i : Nat} (h : i < l.length) : readD (cP l) (i * 2) 2 true = some (.agg [iD (ta l i), iD (va l i)]) := by
  unfold readD
  simp only
  rw [cP_drop, pt_drop h, cP_cons]
  simp
end Go.Ev
/- Structs and arrays of numbers, as arguments. -/
namespace Go.Proofs.Ytjjbacbjdilhmaa
open Go.Ev Go.RowKit
theorem ints4_of {ds : List D} (h : okDs [.int .i64, .int .i64, .int .i64, .int .i64] ds) : ∃ x0 x1 x2 x3 : Int, ds = [iD x0, iD x1, iD x2, iD x3] := by
  simp only [okDs, okD] at h
  obtain ⟨_, _, rfl, ⟨x0, rfl, -⟩, _, _, rfl, ⟨x1, rfl, -⟩, _, _, rfl, ⟨x2, rfl, -⟩, _, _, rfl, ⟨x3, rfl, -⟩, rfl⟩ := h
  exact ⟨x0, x1, x2, x3, rfl⟩
theorem int_of {k : IntKind} {d : D} (h : okD (.int k) d) : ∃ x, d = .one (.int k x) ∧ (Lit.int k x).wf = true := by
  simp only [okD] at h
  exact h
end Go.Proofs.Ytjjbacbjdilhmaa
/- Lists of quadruples of numbers told by place. -/
namespace Go.Ev
open Go.RowKit
/-- Four numbers. -/
structure Q4 where
  a : Int
  b : Int
  c : Int
  d : Int
def cQ : List Q4 → List D
  | [] => []
  | p :: l => iD p.a :: iD p.b :: iD p.c :: iD p.d :: cQ l
theorem cQ_cons (p : Q4) (l : List Q4) : cQ (p :: l) = iD p.a :: iD p.b :: iD p.c :: iD p.d :: cQ l := rfl
abbrev lQ (l : List Q4) : D := .list l.length (cQ l)
def qAt (l : List Q4) (i : Nat) : Q4 := l[i]?.getD ⟨0, 0, 0, 0⟩
theorem cQ_len : ∀ l : List Q4, (cQ l).length = l.length * 4
  | [] => rfl
  | p :: l => by unfold cQ; simp only [List.length_cons, cQ_len l]; omega
theorem cQ_drop : ∀ (i : Nat) (l : List Q4), (cQ l).drop (i * 4) = cQ (l.drop i)
  | 0, l => by simp
  | i + 1, [] => by simp [cQ]
  | i + 1, p :: l => by
    rw [cQ_cons, show (i + 1) * 4 = i * 4 + 1 + 1 + 1 + 1 by omega, List.drop_succ_cons, List.drop_succ_cons, List.drop_succ_cons, List.drop_succ_cons, cQ_drop i l, List.drop_succ_cons]
theorem q_drop {l : List Q4} {i : Nat} (h : i < l.length) : l.drop i = qAt l i :: l.drop (i + 1) := by
  rw [List.drop_eq_getElem_cons h]
  congr 1
  unfold qAt
  rw [List.getElem?_eq_getElem h]; rfl
theorem readQ {l : List Q4} {i : Nat} (h : i < l.length) : readD (cQ l) (i * 4) 4 true = some (.agg [iD (qAt l i).a, iD (qAt l i).b, iD (qAt l i).c, iD (qAt l i).d]) := by
  unfold readD
  simp only
  rw [cQ_drop, q_drop h]
  unfold cQ
  simp
theorem readQlo {l : List Q4} {i : Nat} (h : i < l.length) : readD (cQ l) (i * 4 + 0) 2 true = some (.agg [iD (qAt l i).a, iD (qAt l i).b]) := by
  unfold readD
  simp only
  rw [Nat.add_zero, cQ_drop, q_drop h]
  unfold cQ
  simp
theorem readQhi {l : List Q4} {i : Nat} (h : i < l.length) : readD (cQ l) (i * 4 + 2) 2 true = some (.agg [iD (qAt l i).c, iD (qAt l i).d]) := by
  unfold readD
  simp only
  rw [← List.drop_drop, cQ_drop, q_drop h]
  unfold cQ
  simp
theorem q_take {l : List Q4} {i : Nat} (h : i < l.length) : l.take (i + 1) = l.take i ++ [qAt l i] := by
  rw [List.take_add_one]
  congr 1
  unfold qAt
  rw [List.getElem?_eq_getElem h]; rfl
end Go.Ev
/- Rules and records, as arguments. -/
namespace Go.Proofs.Ytjjbacbjdilhmaa
open Go.Ev Go.RowKit
theorem list_of {α : Type} {es : List CT} {enc : α → List D} (he : ∀ r, okDs es r → ∃ a, r = enc a) {d : D} (h : okD (.sl es) d) : ∃ ys : List α, d = .list ys.length (ys.map enc).flatten ∧ ys.length ≤ maxLen := by
  simp only [okD] at h
  obtain ⟨rows, rfl, hl, hr⟩ := h
  have : ∀ rows : List (List D), (∀ r ∈ rows, okDs es r) → ∃ ys : List α, rows = ys.map enc := by
    intro rows
    induction rows with
    | nil => intro _; exact ⟨[], rfl⟩
    | cons r rs ih =>
      intro h
      obtain ⟨a, rfl⟩ := he r (h r (by simp))
      obtain ⟨ys, rfl⟩ := ih fun q hq => h q (by simp [hq])
      exact ⟨a :: ys, rfl⟩
  obtain ⟨ys, rfl⟩ := this rows hr
  exact ⟨ys, by rw [List.length_map], by rwa [List.length_map] at hl⟩
theorem single_flat {α : Type} (f : α → D) : ∀ l : List α, (l.map fun x => [f x]).flatten = l.map f
  | [] => rfl
  | a :: l => by simp only [List.map_cons, List.flatten_cons, single_flat f l]; rfl
theorem cQ_flat : ∀ l : List Q4, (l.map fun x => [iD x.a, iD x.b, iD x.c, iD x.d]).flatten = cQ l
  | [] => rfl
  | x :: l => by rw [List.map_cons, List.flatten_cons, cQ_flat l]; rfl
theorem ints_of {d : D} (h : okD (.sl [.int .i64]) d) : ∃ l : List Int, d = lD l := by
  obtain ⟨l, rfl, -⟩ := list_of (enc := fun x : Int => [iD x]) (fun r hr => by
    simp only [okDs, okD] at hr
    obtain ⟨_, _, rfl, ⟨x, rfl, -⟩, rfl⟩ := hr
    exact ⟨x, rfl⟩) h
  exact ⟨l, by rw [single_flat]⟩
theorem rec_of {ds : List D} (h : okDs [.int .i64, .sl [.int .i64]] ds) : ∃ (st : Int) (l : List Int), ds = [iD st, lD l] := by
  rw [okDs] at h
  obtain ⟨d, t, rfl, h1, h2⟩ := h
  obtain ⟨st, rfl, -⟩ := int_of h1
  simp only [okDs] at h2
  obtain ⟨e, u, rfl, h3, rfl⟩ := h2
  obtain ⟨l, rfl⟩ := ints_of h3
  exact ⟨st, l, rfl⟩
theorem rul_of {ds : List D} (h : okDs [.int .i64, .int .i64, .int .i64, .int .i64, .int .i64, .sl [.int .i64, .int .i64, .int .i64, .int .i64]] ds) : ∃ (re : Int) (f : Q4) (l : List Q4), ds = [iD re, iD f.a, iD f.b, iD f.c, iD f.d, lQ l] := by
  rw [okDs] at h
  obtain ⟨d0, t0, rfl, h0, h⟩ := h
  rw [okDs] at h
  obtain ⟨d1, t1, rfl, h1, h⟩ := h
  rw [okDs] at h
  obtain ⟨d2, t2, rfl, h2, h⟩ := h
  rw [okDs] at h
  obtain ⟨d3, t3, rfl, h3, h⟩ := h
  rw [okDs] at h
  obtain ⟨d4, t4, rfl, h4, h⟩ := h
  rw [okDs] at h
  obtain ⟨d5, t5, rfl, h5, h⟩ := h
  rw [okDs] at h
  subst h
  obtain ⟨re, rfl, -⟩ := int_of h0
  obtain ⟨fa, rfl, -⟩ := int_of h1
  obtain ⟨fb, rfl, -⟩ := int_of h2
  obtain ⟨fc, rfl, -⟩ := int_of h3
  obtain ⟨fd, rfl, -⟩ := int_of h4
  obtain ⟨l, rfl, -⟩ := list_of (enc := fun x : Q4 => [iD x.a, iD x.b, iD x.c, iD x.d]) (fun r hr => by
    obtain ⟨x, y, z, w, rfl⟩ := ints4_of hr
    exact ⟨⟨x, y, z, w⟩, rfl⟩) h5
  exact ⟨re, ⟨fa, fb, fc, fd⟩, l, by rw [cQ_flat]⟩
end Go.Proofs.Ytjjbacbjdilhmaa
/- Runs inside models: what is asked, with its proofs. -/
namespace Go.Proofs.Ytjjbacbjdilhmaa
open Go.Ev Go.RowKit
set_option maxRecDepth 100000
noncomputable section
/-- A truth that is asked, and why it is so. -/
structure PC where
  c : Bool
  q : Bool
  h : c = q
abbrev PC.p (x : PC) : Bool × Bool := (x.c, x.q)
def pairsC : List PC → List (Bool × Bool)
  | [] => []
  | x :: xs => (x.c, x.q) :: pairsC xs
theorem pairsC_ok : ∀ xs : List PC, allC (pairsC xs)
  | [] => trivial
  | x :: xs => ⟨x.h, pairsC_ok xs⟩
abbrev c_T : PC := ⟨true, true, rfl⟩
abbrev c_F : PC := ⟨false, false, rfl⟩
abbrev c_d {p : Prop} [Decidable p] (h : p) : PC := ⟨decide p, true, decide_eq_true h⟩
abbrev c_n {p : Prop} [Decidable p] (h : ¬ p) : PC := ⟨decide p, false, decide_eq_false h⟩
abbrev c_f {p : Prop} (h : p) : PC := ⟨fact p, true, fact_mk h⟩
abbrev c_b {α : Type} [BEq α] [LawfulBEq α] {a b : α} (h : a ≠ b) : PC := ⟨a != b, true, bne_iff_ne.2 h⟩
abbrev c_bn {α : Type} [BEq α] [LawfulBEq α] {a b : α} (h : a = b) : PC := ⟨a != b, false, bne_eq_false_iff_eq.2 h⟩
abbrev c_e {α : Type} [BEq α] [LawfulBEq α] {a b : α} (h : a = b) : PC := ⟨a == b, true, beq_iff_eq.2 h⟩
abbrev c_en {α : Type} [BEq α] [LawfulBEq α] {a b : α} (h : a ≠ b) : PC := ⟨a == b, false, beq_eq_false_iff_ne.2 h⟩
abbrev c_q {c q : Bool} (h : c = q) : PC := ⟨c, q, h⟩
abbrev c_no {c : Bool} (h : c = false) : PC := ⟨!c, true, by rw [h]; rfl⟩
abbrev c_nn {c : Bool} (h : c = true) : PC := ⟨!c, false, by rw [h]; rfl⟩
abbrev c_le (n : Nat) : PC := ⟨fact (n + 1 ≤ n + 1), true, fact_mk (Nat.le_refl _)⟩
def bT : Nat → List Bool → List Bool
  | 0, l => l
  | n + 1, l => true :: bT n l
def bF : Nat → List Bool → List Bool
  | 0, l => l
  | n + 1, l => false :: bF n l
/-- What is asked of calls and loops, and why it is so. -/
structure PK where
  q : Go.Ev.Ask
  h : AskOK (ctx [] []) Tabs q
def asksK : List PK → List Go.Ev.Ask
  | [] => []
  | x :: xs => x.q :: asksK xs
theorem asksK_ok : ∀ xs : List PK, allK (asksK xs)
  | [] => trivial
  | x :: xs => ⟨x.h, asksK_ok xs⟩
abbrev k_c {g : FuncId} {ds : List D} {r : D} (h : Con g ds r) : PK := ⟨.call g ds r, h⟩
abbrev k_l {c : Code} {E : List AV × AHeap} {base : Nat} {x : LExit} {ds : List D} (h : LoopC c E base noFrame x ds) (ora : List Bool) (vals vals' : List D) : PK := ⟨loopAsk c E base noFrame x ds ora vals vals', h _ _ _ _⟩
theorem con_pc {op : Bool} {I : List Nat} {sp : List LSpec} (n : Nat) {g : FuncId} {ds : List D} {r : D} (ora : List Bool) (res : List D) (pcs : List PC) (pks : List PK)
    (h : okOut (run (ctxS op I sp) n (.enter g (avOfL 0 ds).1) ⟨[], (avOfL 0 ds).2.1, (avOfL 0 ds).2.2, ora, ⟨res, noFrame⟩⟩) = some (r, pairsC pcs, asksK pks)) : Con g ds r :=
  con_of h (pairsC_ok pcs) (asksK_ok pks)
theorem step_pc {I : List Nat} {sp : List LSpec} {l : LoopAt} {S1 : List AV × AHeap} {g : Option GS} {x : AX} (fuel : Nat) (ora : List Bool) (vals : List D) (pcs : List PC) (pks : List PK)
    (r : Option Out) (hr : r = run (ctx I sp) fuel (.code l.f l.c) ⟨S1.1, S1.2, l.nx, ora, ⟨vals, l.fr⟩⟩) (h1 : r = some (outOf r))
    (h2 : ((outOf r).x, (outOf r).st.res.fr, (outOf r).log, (outOf r).st.tmps) = (x, l.fr, ⟨pairsC pcs, asksK pks⟩, AV.renL (qOf l.base (nsOf g) ((outOf r).st.tmps, (outOf r).st.heap)) (aOf l.base (nsOf g) ((outOf r).st.tmps, (outOf r).st.heap)) (stateOf g).1))
    (h3 : (stateOf g).2.map (fun e => hget (outOf r).st.heap (qOf l.base (nsOf g) ((outOf r).st.tmps, (outOf r).st.heap) e.1)) = (stateOf g).2.map (fun e => some (⟨AV.renL (qOf l.base (nsOf g) ((outOf r).st.tmps, (outOf r).st.heap)) (aOf l.base (nsOf g) ((outOf r).st.tmps, (outOf r).st.heap)) e.2.cells, e.2.opn, e.2.kind⟩ : ABlock)))
    (h4 : (namesIn l.nx (stateOf g).2 && distinctBy (qOf l.base (nsOf g) ((outOf r).st.tmps, (outOf r).st.heap)) (stateOf g).2 && aboveBy l.low l.base (qOf l.base (nsOf g) ((outOf r).st.tmps, (outOf r).st.heap)) (stateOf g).2) = true)
    (h5 : (AV.okL l.nx S1.1 && Nat.ble l.low (outOf r).low) = true) (h6 : (List.range l.low).map (hget (stateOf g).2) = (List.range l.low).map (hget S1.2)) : Step (ctx I sp) Tabs l S1 (stateOf g) x :=
  step_of r hr h1 h2 h3 h4 h5 h6 rfl (pairsC_ok pcs) (asksK_ok pks)
end
end Go.Proofs.Ytjjbacbjdilhmaa
/- The stage's examples hold. -/
namespace Go.Proofs.Ytjjbacbjdilhmaa
open Go.Ev Go.RowKit
set_option maxRecDepth 100000
noncomputable section
theorem aw_all : Con 9 [] (.one (.bool true)) :=
  con_ofK (S := [(109, 3000009), (109, 3000036)]) (K := []) (sp := []) (n := 60000) (ora := []) (res := []) (conds := [(false, false), (false, false), (false, false), (false, false), (false, false), (false, false), (false, false), (false, false), (false, false), (false, false), (false, false), (false, false), (false, false), (false, false), (false, false), (false, false), (false, false), (false, false), (false, false), (false, false), (false, false), (false, false), (false, false), (false, false), (false, false), (false, false), (false, false), (false, false), (false, false), (false, false), (false, false), (false, false), (false, false), (false, false), (false, false), (false, false), (false, false), (false, false), (false, false), (false, false), (false, false), (false, false), (false, false), (false, false), (false, false), (false, false), (false, false), (false, false), (false, false), (false, false), (false, false), (false, false), (false, false), (false, false), (false, false), (false, false)]) (cls := [])
    (by kernel_rfl) ⟨rfl, rfl, rfl, rfl, rfl, rfl, rfl, rfl, rfl, rfl, rfl, rfl, rfl, rfl, rfl, rfl, rfl, rfl, rfl, rfl, rfl, rfl, rfl, rfl, rfl, rfl, rfl, rfl, rfl, rfl, rfl, rfl, rfl, rfl, rfl, rfl, rfl, rfl, rfl, rfl, rfl, rfl, rfl, rfl, rfl, rfl, rfl, rfl, rfl, rfl, rfl, rfl, rfl, rfl, rfl, rfl, trivial⟩ trivial
def m_9 (ds : List D) : Option D := pullD (some (.tup ds)) (fun _ => ()) (fun _ => .tup []) fun _ => some (.one (.bool true))
theorem m_9_ok {ds : List D} {r : D} (h : m_9 ds = some r) : Con 9 ds r := by
  unfold m_9 at h
  obtain ⟨⟨⟩, e0, h0⟩ := pullD_elim h
  obtain rfl := tup_inj e0
  obtain rfl := Option.some.inj h0
  exact aw_all
theorem m_9_eq : m_9 [] = some (.one (.bool true)) := pullD_some () rfl rfl
end
end Go.Proofs.Ytjjbacbjdilhmaa
namespace Go.Proofs.Ytjjbacbjdilhmaa
open Go.Ev Go.RowKit
set_option maxRecDepth 100000
set_option maxHeartbeats 8000000
set_option linter.all false
noncomputable section
def firstOf_x2_0 : LExit := ⟨some 0, [], (2 :: (4 :: (List.range' 7 8)))⟩
def firstOf_x2_1 : LExit := ⟨none, [.val 2], (4 :: (List.range' 7 8))⟩
def firstOf_sp : List LSpec := [⟨50, 2, [firstOf_x2_0, firstOf_x2_1]⟩]
def firstOf_L2_E (k : Nat) (c : List D)  : List AV × AHeap := ([.dsl 0, .pure (.tuple #[]), .pure (.int .i64 (0 : Int)), .pure (.tuple #[]), .pure (.tuple #[]), .dsl 0, .pure (.int .i64 (k : Int)), .pure (.int .i64 (0 : Int)), .pure (.tuple #[]), .pure (.tuple #[]), .pure (.tuple #[]), .pure (.tuple #[]), .pure (.tuple #[]), .pure (.tuple #[]), .pure (.tuple #[])], [(0, { cells := [], opn := none, kind := .deep k c })])
def firstOf_L2_A : LoopAt := ⟨50, loopAt Try.prog 50 0, 1, 11, 1, noFrame⟩
theorem firstOf_L2_ok : (firstOf_L2_A).OK := ⟨by show 1 ≤ 11; decide, by show 1 ≤ 1; decide, by kernel_rfl, rfl⟩
def firstOf_L2_gs (k : Nat) (c : List D)  : Go.Ev.Rd → Option GS
  | .next 0 ds => ghost [.val 7] (2 :: (4 :: (List.range' 8 7))) (firstOf_L2_E k c).1 (firstOf_L2_E k c).2 1 ds
  | .out 0 ds => ghost firstOf_x2_0.live firstOf_x2_0.junk (firstOf_L2_E k c).1 (firstOf_L2_E k c).2 1 ds
  | .out 1 ds => ghost firstOf_x2_1.live firstOf_x2_1.junk (firstOf_L2_E k c).1 (firstOf_L2_E k c).2 1 ds
  | _ => none
def firstOf_L2_ex : Nat → Option Nat
  | 0 => firstOf_x2_0.ex
  | 1 => firstOf_x2_1.ex
  | _ => none
def firstOf_L2_ax : Go.Ev.Rd → AX
  | .next _ _ => .normal
  | .out j _ => axOf (firstOf_L2_ex j)
def firstOf_L2_S0 (k : Nat) (c : List D)  (ds : List D) : Option Go.Ev.Rd := pullD (α := Int) (some (.tup ds)) (fun d => ((D.vi (D.at d 0)))) (fun s7 => .tup [iD s7]) fun s7 => ((if s7 < (k : Int) then guardP ((0 : Int) ≤ s7 ∧ s7.toNat < k) (pullD (α := Int) (readD c (s7.toNat * 1) 1 false) (fun d => ((D.vi d))) (fun v0 => iD v0) fun v0 => ((if v0 ≠ (0 : Int) then some (.out 1 [iD v0]) else some (.next 0 [iD (IntKind.i64.wrap (s7 + (1 : Int)))])))) else some (.out 0 [])))
def firstOf_L2_S (k : Nat) (c : List D)  : Go.Ev.Rd → Option Go.Ev.Rd
  | .next 0 ds => firstOf_L2_S0 k c ds
  | _ => none
theorem firstOf_L2_S_ok (k : Nat) (c : List D)  : ∀ s_ t_, firstOf_L2_S k c s_ = some t_ → Step (ctx [50] firstOf_sp) Tabs firstOf_L2_A (stateOf (firstOf_L2_gs k c s_)) (stateOf (firstOf_L2_gs k c t_)) (firstOf_L2_ax t_) ∧ EndOK firstOf_L2_A.nx firstOf_L2_A.low (firstOf_L2_gs k c) t_
  | .next 0 ds, t_, h => by
    have h_ : firstOf_L2_S0 k c ds = some t_ := h
    clear h
    unfold firstOf_L2_S0 at h_
    obtain ⟨s7, e0, h0⟩ := pullD_elim h_
    clear h_
    obtain rfl := tup_inj e0
    by_cases b1_ : s7 < (k : Int)
    · have h2_ := (if_pos b1_).symm.trans h0
      obtain ⟨f3_, h4_⟩ := guardP_elim h2_
      obtain ⟨v0, f5_, h6_⟩ := pullD_elim h4_
      replace f5_ := readD_elim f5_
      by_cases b7_ : v0 ≠ (0 : Int)
      · have h8_ := (if_pos b7_).symm.trans h6_
        obtain rfl := Option.some.inj h8_
        exact ⟨step_pc 3000 (bT 2 []) [iD v0] [c_d b1_, c_f f3_, c_f f5_, c_b b7_] [] _ rfl (by kernel_rfl) (by kernel_rfl) (by kernel_rfl) (by kernel_rfl) (by kernel_rfl) (by kernel_rfl), by kernel_rfl, by kernel_rfl⟩
      have h8_ := (if_neg b7_).symm.trans h6_
      have b9_ : v0 = (0 : Int) := by first | exact b7_ | simpa using b7_
      obtain rfl := Option.some.inj h8_
      exact ⟨step_pc 3000 (bT 1 (bF 1 [])) [iD v0] [c_d b1_, c_f f3_, c_f f5_, c_bn b9_] [] _ rfl (by kernel_rfl) (by kernel_rfl) (by kernel_rfl) (by kernel_rfl) (by kernel_rfl) (by kernel_rfl), trivial⟩
    have h2_ := (if_neg b1_).symm.trans h0
    obtain rfl := Option.some.inj h2_
    exact ⟨step_pc 3000 (bF 1 []) [] [c_n b1_] [] _ rfl (by kernel_rfl) (by kernel_rfl) (by kernel_rfl) (by kernel_rfl) (by kernel_rfl) (by kernel_rfl), by kernel_rfl, by kernel_rfl⟩
  | .next (_ + 1) _, _, h => by cases h
  | .out _ _, _, h => by cases h
theorem firstOf_L2_go (k : Nat) (c : List D)  {q : Nat} {ds : List D} {j : Nat} {es : List D} (h : runR (firstOf_L2_S k c) (.next q ds) = some (.out j es)) : Runs (ctx [50] firstOf_sp) Tabs firstOf_L2_A (stateOf (firstOf_L2_gs k c (.next q ds))) (stateOf (firstOf_L2_gs k c (.out j es))) (firstOf_L2_ax (.out j es)) ∧ (nxtOf (firstOf_L2_gs k c (.out j es)), lowGS (firstOf_L2_gs k c (.out j es))) = (firstOf_L2_A.nx, firstOf_L2_A.low) :=
  runs_of' (good true _ _) firstOf_L2_ok (ax := firstOf_L2_ax) (fun _ _ => rfl) (fun _ _ => axOf_end _) (firstOf_L2_S_ok k c) h
theorem firstOf_L2_in0 (k : Nat) (c : List D)  {es : List D} (h : runR (firstOf_L2_S k c) (.next 0 [iD ((0 : Int))]) = some (.out 0 es)) : LoopC (loopAt Try.prog 50 0) (firstOf_L2_E k c) 1 noFrame firstOf_x2_0 es :=
  have r := firstOf_L2_go k c h
  loopin_as rfl (loop_in (l := firstOf_L2_A) (E := (firstOf_L2_E k c)) (S := stateOf (firstOf_L2_gs k c (.next 0 [iD ((0 : Int))]))) (ns := nsOf (firstOf_L2_gs k c (.next 0 [iD ((0 : Int))]))) firstOf_L2_ok r.1 r.2 (by kernel_rfl) (by kernel_rfl) (by kernel_rfl) (by kernel_rfl))
theorem firstOf_L2_in1 (k : Nat) (c : List D)  {es : List D} (h : runR (firstOf_L2_S k c) (.next 0 [iD ((0 : Int))]) = some (.out 1 es)) : LoopC (loopAt Try.prog 50 0) (firstOf_L2_E k c) 1 noFrame firstOf_x2_1 es :=
  have r := firstOf_L2_go k c h
  loopin_as rfl (loop_in (l := firstOf_L2_A) (E := (firstOf_L2_E k c)) (S := stateOf (firstOf_L2_gs k c (.next 0 [iD ((0 : Int))]))) (ns := nsOf (firstOf_L2_gs k c (.next 0 [iD ((0 : Int))]))) firstOf_L2_ok r.1 r.2 (by kernel_rfl) (by kernel_rfl) (by kernel_rfl) (by kernel_rfl))
def firstOf_M (k : Nat) (c : List D) : Option D := bindL (runR (firstOf_L2_S k c) (.next 0 [iD ((0 : Int))])) fun j ds => (if j = 0 then pullD (some (.tup ds)) (fun _ => ()) (fun _ => .tup []) fun _ => (some (iD (0 : Int))) else if j = 1 then pullD (α := Int) (some (.tup ds)) (fun d => ((D.vi (D.at d 0)))) (fun l0 => .tup [iD l0]) fun l0 => (some (iD l0)) else none)
theorem firstOf_M_ok (k : Nat) (c : List D) {r : D} (h : firstOf_M k c = some r) : Con 50 [.list k c] r := by
  unfold firstOf_M at h
  obtain ⟨j, ds, e1_, h2_⟩ := bindL_elim h
  by_cases j3_ : j = 0
  · have h6_ := (if_pos j3_).symm.trans h2_
    clear h2_
    subst j3_
    obtain ⟨⟨⟩, e4_, h7_⟩ := pullD_elim h6_
    clear h6_
    obtain rfl := tup_inj e4_
    have k5_ := firstOf_L2_in0 k c e1_
    obtain rfl := Option.some.inj h7_
    exact con_pc (op := true) (I := [50]) (sp := firstOf_sp) 3000 [] [.tup [iD (Int.ofNat 0)]] [] [k_l k5_ [] [.tup [iD (Int.ofNat 0)]] []] (by kernel_rfl)
  have h8_ := (if_neg j3_).symm.trans h2_
  clear h2_
  by_cases j9_ : j = 1
  · have h12_ := (if_pos j9_).symm.trans h8_
    clear h8_
    subst j9_
    obtain ⟨l0, e10_, h13_⟩ := pullD_elim h12_
    clear h12_
    obtain rfl := tup_inj e10_
    have k11_ := firstOf_L2_in1 k c e1_
    obtain rfl := Option.some.inj h13_
    exact con_pc (op := true) (I := [50]) (sp := firstOf_sp) 3000 [] [.tup [iD (Int.ofNat 1), iD l0]] [] [k_l k11_ [] [.tup [iD (Int.ofNat 1), iD l0]] []] (by kernel_rfl)
  have h14_ := (if_neg j9_).symm.trans h8_
  clear h8_
  cases h14_
def m_50 (ds : List D) : Option D := pullD (α := Nat × (List D)) (some (.tup ds)) (fun d => ((D.ln (D.at d 0)), (D.lc (D.at d 0)))) (fun (k, c) => .tup [.list k c]) fun (k, c) => firstOf_M k c
theorem m_50_ok {ds : List D} {r : D} (h : m_50 ds = some r) : Con 50 ds r := by
  unfold m_50 at h
  obtain ⟨⟨k, c⟩, e0, h0⟩ := pullD_elim h
  obtain rfl := tup_inj e0
  exact firstOf_M_ok k c h0
theorem m_50_eq (k : Nat) (c : List D) : m_50 [.list k c] = firstOf_M k c := pullD_some (k, c) rfl rfl
def inOrder_L2_S0 (k : Nat) (c : List D)  (ds : List D) : Option Go.Ev.Rd := pullD (α := Int) (some (.tup ds)) (fun d => ((D.vi (D.at d 0)))) (fun s7 => .tup [iD s7]) fun s7 => ((if s7 < (k : Int) then guardP ((0 : Int) ≤ s7 ∧ s7.toNat < k) (pullD (α := Int × Int) (readD c (s7.toNat * 2) 2 true) (fun d => ((D.vi (D.at d 0)), (D.vi (D.at d 1)))) (fun (v0, v1) => .agg [iD v0, iD v1]) fun (v0, v1) => ((if v0 > v1 then some (.out 1 [iD (9 : Int)]) else some (.next 0 [iD (IntKind.i64.wrap (s7 + (1 : Int)))])))) else some (.out 0 [])))
def inOrder_L2_S (k : Nat) (c : List D)  : Go.Ev.Rd → Option Go.Ev.Rd
  | .next 0 ds => inOrder_L2_S0 k c ds
  | _ => none
def inOrder_M (k : Nat) (c : List D) : Option D := bindL (runR (inOrder_L2_S k c) (.next 0 [iD ((0 : Int))])) fun j ds => (if j = 0 then pullD (some (.tup ds)) (fun _ => ()) (fun _ => .tup []) fun _ => (some (iD (0 : Int))) else if j = 1 then pullD (α := Int) (some (.tup ds)) (fun d => ((D.vi (D.at d 0)))) (fun l0 => .tup [iD l0]) fun l0 => (some (iD l0)) else none)
def m_64 (ds : List D) : Option D := pullD (α := Nat × (List D)) (some (.tup ds)) (fun d => ((D.ln (D.at d 0)), (D.lc (D.at d 0)))) (fun (k, c) => .tup [.list k c]) fun (k, c) => inOrder_M k c
theorem m_64_eq (k : Nat) (c : List D) : m_64 [.list k c] = inOrder_M k c := pullD_some (k, c) rfl rfl
def within_sp : List LSpec := []
def within_M (n lo hi : Int) : Option D := (if lo ≤ n then some (.one (.bool (decide (n ≤ hi)))) else some (.one (.bool false)))
theorem within_M_ok (n lo hi : Int) {r : D} (h : within_M n lo hi = some r) : Con 24 [iD n, iD lo, iD hi] r := by
  unfold within_M at h
  by_cases b1_ : lo ≤ n
  · have h2_ := (if_pos b1_).symm.trans h
    obtain rfl := Option.some.inj h2_
    exact con_pc (op := true) (I := [24]) (sp := within_sp) 3000 (bT 4 []) [] [c_d b1_, c_d b1_, c_d b1_, c_d b1_] [] (by kernel_rfl)
  have h2_ := (if_neg b1_).symm.trans h
  obtain rfl := Option.some.inj h2_
  exact con_pc (op := true) (I := [24]) (sp := within_sp) 3000 (bF 4 []) [] [c_n b1_, c_n b1_, c_n b1_, c_n b1_] [] (by kernel_rfl)
def m_24 (ds : List D) : Option D := pullD (α := Int × Int × Int) (some (.tup ds)) (fun d => ((D.vi (D.at d 0)), (D.vi (D.at d 1)), (D.vi (D.at d 2)))) (fun (n, lo, hi) => .tup [iD n, iD lo, iD hi]) fun (n, lo, hi) => within_M n lo hi
theorem m_24_ok {ds : List D} {r : D} (h : m_24 ds = some r) : Con 24 ds r := by
  unfold m_24 at h
  obtain ⟨⟨n, lo, hi⟩, e0, h0⟩ := pullD_elim h
  obtain rfl := tup_inj e0
  exact within_M_ok n lo hi h0
theorem m_24_eq (n lo hi : Int) : m_24 [iD n, iD lo, iD hi] = within_M n lo hi := pullD_some (n, lo, hi) rfl rfl
def chkStep_sp : List LSpec := []
def chkStep_M (n : Int) : Option D := (if n < (1 : Int) then some (iD (2 : Int)) else (if n > (1000000 : Int) then some (iD (2 : Int)) else some (iD (0 : Int))))
theorem chkStep_M_ok (n : Int) {r : D} (h : chkStep_M n = some r) : Con 53 [iD n] r := by
  unfold chkStep_M at h
  by_cases b1_ : n < (1 : Int)
  · have h2_ := (if_pos b1_).symm.trans h
    obtain rfl := Option.some.inj h2_
    exact con_pc (op := true) (I := [53, 63, 97]) (sp := chkStep_sp) 3000 (bT 6 []) [] [c_T, c_d b1_, c_d b1_, c_d b1_, c_d b1_, c_T] [] (by kernel_rfl)
  have h2_ := (if_neg b1_).symm.trans h
  by_cases b3_ : n > (1000000 : Int)
  · have h4_ := (if_pos b3_).symm.trans h2_
    obtain rfl := Option.some.inj h4_
    exact con_pc (op := true) (I := [53, 63, 97]) (sp := chkStep_sp) 3000 (bT 1 (bF 4 (bT 1 []))) [] [c_T, c_n b1_, c_n b1_, c_n b1_, c_n b1_, c_d b3_] [] (by kernel_rfl)
  have h4_ := (if_neg b3_).symm.trans h2_
  obtain rfl := Option.some.inj h4_
  exact con_pc (op := true) (I := [53, 63, 97]) (sp := chkStep_sp) 3000 (bT 1 (bF 6 [])) [] [c_T, c_n b1_, c_n b1_, c_n b1_, c_n b1_, c_n b3_, c_F] [] (by kernel_rfl)
def m_53 (ds : List D) : Option D := pullD (α := Int) (some (.tup ds)) (fun d => ((D.vi (D.at d 0)))) (fun n => .tup [iD n]) fun n => chkStep_M n
theorem m_53_ok {ds : List D} {r : D} (h : m_53 ds = some r) : Con 53 ds r := by
  unfold m_53 at h
  obtain ⟨n, e0, h0⟩ := pullD_elim h
  obtain rfl := tup_inj e0
  exact chkStep_M_ok n h0
theorem m_53_eq (n : Int) : m_53 [iD n] = chkStep_M n := pullD_some n rfl rfl
end
end Go.Proofs.Ytjjbacbjdilhmaa
namespace Go.Proofs.Ytjjbacbjdilhmaa
open Go.Ev Go.RowKit
set_option maxRecDepth 100000
set_option maxHeartbeats 8000000
set_option linter.all false
noncomputable section
abbrev shNK2_0 (a0 : Int) (a1 : Int) (a2 : Int) (a3 : Int) : D := .agg [.one (.int .i64 a0), .one (.int .i64 a1), .one (.int .i64 a2), .one (.int .i64 a3)]
def divisor_x1_0 : LExit := ⟨some 0, [.val 0], (1 :: (List.range' 5 6))⟩
def divisor_sp : List LSpec := [⟨98, 1, [divisor_x1_0]⟩]
def divisor_L1_E (a b : Int)  : List AV × AHeap := ([.pure (.int .i64 a), .pure (.int .i64 b), .pure (.tuple #[]), .pure (.tuple #[]), .pure (.int .i64 (0 : Int)), .pure (.tuple #[]), .pure (.tuple #[]), .pure (.tuple #[]), .pure (.tuple #[]), .pure (.tuple #[]), .pure (.tuple #[]), .pure (.tuple #[]), .pure (.tuple #[]), .pure (.tuple #[]), .pure (.tuple #[])], [])
def divisor_L1_A : LoopAt := ⟨98, loopAt Try.prog 98 0, 0, 8, 0, noFrame⟩
theorem divisor_L1_ok : (divisor_L1_A).OK := ⟨by show 0 ≤ 8; decide, by show 0 ≤ 0; decide, by kernel_rfl, rfl⟩
def divisor_L1_gs (a b : Int)  : Go.Ev.Rd → Option GS
  | .next 0 ds => ghost [.val 0, .val 1] (List.range' 5 6) (divisor_L1_E a b).1 (divisor_L1_E a b).2 0 ds
  | .out 0 ds => ghost divisor_x1_0.live divisor_x1_0.junk (divisor_L1_E a b).1 (divisor_L1_E a b).2 0 ds
  | _ => none
def divisor_L1_ex : Nat → Option Nat
  | 0 => divisor_x1_0.ex
  | _ => none
def divisor_L1_ax : Go.Ev.Rd → AX
  | .next _ _ => .normal
  | .out j _ => axOf (divisor_L1_ex j)
def divisor_L1_S0 (a b : Int)  (ds : List D) : Option Go.Ev.Rd := pullD (α := Int × Int) (some (.tup ds)) (fun d => ((D.vi (D.at d 0)), (D.vi (D.at d 1)))) (fun (s0, s1) => .tup [iD s0, iD s1]) fun (s0, s1) => ((if s1 ≠ (0 : Int) then some (.next 0 [iD s1, iD (s0.tmod s1)]) else some (.out 0 [iD s0])))
def divisor_L1_S (a b : Int)  : Go.Ev.Rd → Option Go.Ev.Rd
  | .next 0 ds => divisor_L1_S0 a b ds
  | _ => none
theorem divisor_L1_S_ok (a b : Int)  : ∀ s_ t_, divisor_L1_S a b s_ = some t_ → Step (ctx [98] divisor_sp) Tabs divisor_L1_A (stateOf (divisor_L1_gs a b s_)) (stateOf (divisor_L1_gs a b t_)) (divisor_L1_ax t_) ∧ EndOK divisor_L1_A.nx divisor_L1_A.low (divisor_L1_gs a b) t_
  | .next 0 ds, t_, h => by
    have h_ : divisor_L1_S0 a b ds = some t_ := h
    clear h
    unfold divisor_L1_S0 at h_
    obtain ⟨⟨s0, s1⟩, e0, h0⟩ := pullD_elim h_
    clear h_
    obtain rfl := tup_inj e0
    by_cases b1_ : s1 ≠ (0 : Int)
    · have h2_ := (if_pos b1_).symm.trans h0
      obtain rfl := Option.some.inj h2_
      exact ⟨step_pc 3000 (bT 1 []) [] [c_b b1_, c_en b1_] [] _ rfl (by kernel_rfl) (by kernel_rfl) (by kernel_rfl) (by kernel_rfl) (by kernel_rfl) (by kernel_rfl), trivial⟩
    have h2_ := (if_neg b1_).symm.trans h0
    have b3_ : s1 = (0 : Int) := by first | exact b1_ | simpa using b1_
    obtain rfl := Option.some.inj h2_
    exact ⟨step_pc 3000 (bF 1 []) [] [c_bn b3_] [] _ rfl (by kernel_rfl) (by kernel_rfl) (by kernel_rfl) (by kernel_rfl) (by kernel_rfl) (by kernel_rfl), by kernel_rfl, by kernel_rfl⟩
  | .next (_ + 1) _, _, h => by cases h
  | .out _ _, _, h => by cases h
theorem divisor_L1_go (a b : Int)  {q : Nat} {ds : List D} {j : Nat} {es : List D} (h : runR (divisor_L1_S a b) (.next q ds) = some (.out j es)) : Runs (ctx [98] divisor_sp) Tabs divisor_L1_A (stateOf (divisor_L1_gs a b (.next q ds))) (stateOf (divisor_L1_gs a b (.out j es))) (divisor_L1_ax (.out j es)) ∧ (nxtOf (divisor_L1_gs a b (.out j es)), lowGS (divisor_L1_gs a b (.out j es))) = (divisor_L1_A.nx, divisor_L1_A.low) :=
  runs_of' (good true _ _) divisor_L1_ok (ax := divisor_L1_ax) (fun _ _ => rfl) (fun _ _ => axOf_end _) (divisor_L1_S_ok a b) h
theorem divisor_L1_in0 (a b : Int)  {es : List D} (h : runR (divisor_L1_S a b) (.next 0 [iD a, iD b]) = some (.out 0 es)) : LoopC (loopAt Try.prog 98 0) (divisor_L1_E a b) 0 noFrame divisor_x1_0 es :=
  have r := divisor_L1_go a b h
  loopin_as rfl (loop_in (l := divisor_L1_A) (E := (divisor_L1_E a b)) (S := stateOf (divisor_L1_gs a b (.next 0 [iD a, iD b]))) (ns := nsOf (divisor_L1_gs a b (.next 0 [iD a, iD b]))) divisor_L1_ok r.1 r.2 (by kernel_rfl) (by kernel_rfl) (by kernel_rfl) (by kernel_rfl))
def divisor_M (a b : Int) : Option D := bindL (runR (divisor_L1_S a b) (.next 0 [iD a, iD b])) fun j ds => (if j = 0 then pullD (α := Int) (some (.tup ds)) (fun d => ((D.vi (D.at d 0)))) (fun l0 => .tup [iD l0]) fun l0 => (some (iD (if IntKind.i64.wrap ((0 : Int) - l0) > l0 then IntKind.i64.wrap ((0 : Int) - l0) else l0))) else none)
theorem divisor_M_ok (a b : Int) {r : D} (h : divisor_M a b = some r) : Con 98 [iD a, iD b] r := by
  unfold divisor_M at h
  obtain ⟨j, ds, e1_, h2_⟩ := bindL_elim h
  by_cases j3_ : j = 0
  · have h6_ := (if_pos j3_).symm.trans h2_
    clear h2_
    subst j3_
    obtain ⟨l0, e4_, h7_⟩ := pullD_elim h6_
    clear h6_
    obtain rfl := tup_inj e4_
    have k5_ := divisor_L1_in0 a b e1_
    obtain rfl := Option.some.inj h7_
    exact con_pc (op := true) (I := [98]) (sp := divisor_sp) 3000 [] [.tup [iD (Int.ofNat 0), iD l0]] [] [k_l k5_ [] [.tup [iD (Int.ofNat 0), iD l0]] []] (by kernel_rfl)
  have h8_ := (if_neg j3_).symm.trans h2_
  clear h2_
  cases h8_
def m_98 (ds : List D) : Option D := pullD (α := Int × Int) (some (.tup ds)) (fun d => ((D.vi (D.at d 0)), (D.vi (D.at d 1)))) (fun (a, b) => .tup [iD a, iD b]) fun (a, b) => divisor_M a b
theorem m_98_ok {ds : List D} {r : D} (h : m_98 ds = some r) : Con 98 ds r := by
  unfold m_98 at h
  obtain ⟨⟨a, b⟩, e0, h0⟩ := pullD_elim h
  obtain rfl := tup_inj e0
  exact divisor_M_ok a b h0
theorem m_98_eq (a b : Int) : m_98 [iD a, iD b] = divisor_M a b := pullD_some (a, b) rfl rfl
def size_sp : List LSpec := []
def size_M (n : Int) : Option D := some (iD (if IntKind.i64.wrap ((0 : Int) - n) > n then IntKind.i64.wrap ((0 : Int) - n) else n))
theorem size_M_ok (n : Int) {r : D} (h : size_M n = some r) : Con 116 [iD n] r := by
  unfold size_M at h
  obtain rfl := Option.some.inj h
  exact con_pc (op := true) (I := [116]) (sp := size_sp) 3000 [] [] [] [] (by kernel_rfl)
def m_116 (ds : List D) : Option D := pullD (α := Int) (some (.tup ds)) (fun d => ((D.vi (D.at d 0)))) (fun n => .tup [iD n]) fun n => size_M n
theorem m_116_ok {ds : List D} {r : D} (h : m_116 ds = some r) : Con 116 ds r := by
  unfold m_116 at h
  obtain ⟨n, e0, h0⟩ := pullD_elim h
  obtain rfl := tup_inj e0
  exact size_M_ok n h0
theorem m_116_eq (n : Int) : m_116 [iD n] = size_M n := pullD_some n rfl rfl
def gcd_x1_0 : LExit := ⟨some 0, [.val 0], (1 :: (List.range' 5 6))⟩
def gcd_sp : List LSpec := [⟨99, 1, [gcd_x1_0]⟩]
def gcd_L1_E (a b : Int)  : List AV × AHeap := ([.pure (.int .i64 a), .pure (.int .i64 b), .pure (.tuple #[]), .pure (.tuple #[]), .pure (.int .i64 (0 : Int)), .pure (.tuple #[]), .pure (.tuple #[]), .pure (.tuple #[]), .pure (.tuple #[]), .pure (.tuple #[]), .pure (.tuple #[]), .pure (.tuple #[]), .pure (.tuple #[])], [])
def gcd_L1_A : LoopAt := ⟨99, loopAt Try.prog 99 0, 0, 8, 0, noFrame⟩
theorem gcd_L1_ok : (gcd_L1_A).OK := ⟨by show 0 ≤ 8; decide, by show 0 ≤ 0; decide, by kernel_rfl, rfl⟩
def gcd_L1_gs (a b : Int)  : Go.Ev.Rd → Option GS
  | .next 0 ds => ghost [.val 0, .val 1] (List.range' 5 6) (gcd_L1_E a b).1 (gcd_L1_E a b).2 0 ds
  | .out 0 ds => ghost gcd_x1_0.live gcd_x1_0.junk (gcd_L1_E a b).1 (gcd_L1_E a b).2 0 ds
  | _ => none
def gcd_L1_ex : Nat → Option Nat
  | 0 => gcd_x1_0.ex
  | _ => none
def gcd_L1_ax : Go.Ev.Rd → AX
  | .next _ _ => .normal
  | .out j _ => axOf (gcd_L1_ex j)
def gcd_L1_S0 (a b : Int)  (ds : List D) : Option Go.Ev.Rd := pullD (α := Int × Int) (some (.tup ds)) (fun d => ((D.vi (D.at d 0)), (D.vi (D.at d 1)))) (fun (s0, s1) => .tup [iD s0, iD s1]) fun (s0, s1) => ((if s1 ≠ (0 : Int) then some (.next 0 [iD s1, iD (s0.tmod s1)]) else some (.out 0 [iD s0])))
def gcd_L1_S (a b : Int)  : Go.Ev.Rd → Option Go.Ev.Rd
  | .next 0 ds => gcd_L1_S0 a b ds
  | _ => none
theorem gcd_L1_S_ok (a b : Int)  : ∀ s_ t_, gcd_L1_S a b s_ = some t_ → Step (ctx [99] gcd_sp) Tabs gcd_L1_A (stateOf (gcd_L1_gs a b s_)) (stateOf (gcd_L1_gs a b t_)) (gcd_L1_ax t_) ∧ EndOK gcd_L1_A.nx gcd_L1_A.low (gcd_L1_gs a b) t_
  | .next 0 ds, t_, h => by
    have h_ : gcd_L1_S0 a b ds = some t_ := h
    clear h
    unfold gcd_L1_S0 at h_
    obtain ⟨⟨s0, s1⟩, e0, h0⟩ := pullD_elim h_
    clear h_
    obtain rfl := tup_inj e0
    by_cases b1_ : s1 ≠ (0 : Int)
    · have h2_ := (if_pos b1_).symm.trans h0
      obtain rfl := Option.some.inj h2_
      exact ⟨step_pc 3000 (bT 1 []) [] [c_b b1_, c_en b1_] [] _ rfl (by kernel_rfl) (by kernel_rfl) (by kernel_rfl) (by kernel_rfl) (by kernel_rfl) (by kernel_rfl), trivial⟩
    have h2_ := (if_neg b1_).symm.trans h0
    have b3_ : s1 = (0 : Int) := by first | exact b1_ | simpa using b1_
    obtain rfl := Option.some.inj h2_
    exact ⟨step_pc 3000 (bF 1 []) [] [c_bn b3_] [] _ rfl (by kernel_rfl) (by kernel_rfl) (by kernel_rfl) (by kernel_rfl) (by kernel_rfl) (by kernel_rfl), by kernel_rfl, by kernel_rfl⟩
  | .next (_ + 1) _, _, h => by cases h
  | .out _ _, _, h => by cases h
theorem gcd_L1_go (a b : Int)  {q : Nat} {ds : List D} {j : Nat} {es : List D} (h : runR (gcd_L1_S a b) (.next q ds) = some (.out j es)) : Runs (ctx [99] gcd_sp) Tabs gcd_L1_A (stateOf (gcd_L1_gs a b (.next q ds))) (stateOf (gcd_L1_gs a b (.out j es))) (gcd_L1_ax (.out j es)) ∧ (nxtOf (gcd_L1_gs a b (.out j es)), lowGS (gcd_L1_gs a b (.out j es))) = (gcd_L1_A.nx, gcd_L1_A.low) :=
  runs_of' (good true _ _) gcd_L1_ok (ax := gcd_L1_ax) (fun _ _ => rfl) (fun _ _ => axOf_end _) (gcd_L1_S_ok a b) h
theorem gcd_L1_in0 (a b : Int)  {es : List D} (h : runR (gcd_L1_S a b) (.next 0 [iD a, iD b]) = some (.out 0 es)) : LoopC (loopAt Try.prog 99 0) (gcd_L1_E a b) 0 noFrame gcd_x1_0 es :=
  have r := gcd_L1_go a b h
  loopin_as rfl (loop_in (l := gcd_L1_A) (E := (gcd_L1_E a b)) (S := stateOf (gcd_L1_gs a b (.next 0 [iD a, iD b]))) (ns := nsOf (gcd_L1_gs a b (.next 0 [iD a, iD b]))) gcd_L1_ok r.1 r.2 (by kernel_rfl) (by kernel_rfl) (by kernel_rfl) (by kernel_rfl))
def gcd_M (a b : Int) : Option D := bindL (runR (gcd_L1_S a b) (.next 0 [iD a, iD b])) fun j ds => (if j = 0 then pullD (α := Int) (some (.tup ds)) (fun d => ((D.vi (D.at d 0)))) (fun l0 => .tup [iD l0]) fun l0 => (pullD (α := Int) (m_116 [iD l0]) (fun d => ((D.vi d))) (fun r1 => iD r1) fun r1 => (some (iD r1))) else none)
theorem gcd_M_ok (a b : Int) {r : D} (h : gcd_M a b = some r) : Con 99 [iD a, iD b] r := by
  unfold gcd_M at h
  obtain ⟨j, ds, e1_, h2_⟩ := bindL_elim h
  by_cases j3_ : j = 0
  · have h6_ := (if_pos j3_).symm.trans h2_
    clear h2_
    subst j3_
    obtain ⟨l0, e4_, h7_⟩ := pullD_elim h6_
    clear h6_
    obtain rfl := tup_inj e4_
    have k5_ := gcd_L1_in0 a b e1_
    obtain ⟨r1, f8_, h9_⟩ := pullD_elim h7_
    replace f8_ := m_116_ok f8_
    obtain rfl := Option.some.inj h9_
    exact con_pc (op := true) (I := [99]) (sp := gcd_sp) 3000 [] [.tup [iD (Int.ofNat 0), iD l0], iD r1] [] [k_l k5_ [] [.tup [iD (Int.ofNat 0), iD l0], iD r1] [iD r1], k_c f8_] (by kernel_rfl)
  have h10_ := (if_neg j3_).symm.trans h2_
  clear h2_
  cases h10_
def m_99 (ds : List D) : Option D := pullD (α := Int × Int) (some (.tup ds)) (fun d => ((D.vi (D.at d 0)), (D.vi (D.at d 1)))) (fun (a, b) => .tup [iD a, iD b]) fun (a, b) => gcd_M a b
theorem m_99_ok {ds : List D} {r : D} (h : m_99 ds = some r) : Con 99 ds r := by
  unfold m_99 at h
  obtain ⟨⟨a, b⟩, e0, h0⟩ := pullD_elim h
  obtain rfl := tup_inj e0
  exact gcd_M_ok a b h0
theorem m_99_eq (a b : Int) : m_99 [iD a, iD b] = gcd_M a b := pullD_some (a, b) rfl rfl
def reduced_sp : List LSpec := []
def reduced_M (n d : Int) : Option D := pullD (α := Int) (m_98 [iD n, iD d]) (fun d => ((D.vi d))) (fun r0 => iD r0) fun r0 => (guardP (r0 ≠ (0 : Int)) (some (.agg [iD (IntKind.i64.wrap (n.tdiv r0)), iD (IntKind.i64.wrap (d.tdiv r0))])))
theorem reduced_M_ok (n d : Int) {r : D} (h : reduced_M n d = some r) : Con 72 [iD n, iD d] r := by
  unfold reduced_M at h
  obtain ⟨r0, f1_, h2_⟩ := pullD_elim h
  replace f1_ := m_98_ok f1_
  obtain ⟨f3_, h4_⟩ := guardP_elim h2_
  obtain rfl := Option.some.inj h4_
  exact con_pc (op := true) (I := [72]) (sp := reduced_sp) 3000 [] [iD r0] [c_en f3_, c_en f3_] [k_c f1_] (by kernel_rfl)
def m_72 (ds : List D) : Option D := pullD (α := Int × Int) (some (.tup ds)) (fun d => ((D.vi (D.at d 0)), (D.vi (D.at d 1)))) (fun (n, d) => .tup [iD n, iD d]) fun (n, d) => reduced_M n d
theorem m_72_ok {ds : List D} {r : D} (h : m_72 ds = some r) : Con 72 ds r := by
  unfold m_72 at h
  obtain ⟨⟨n, d⟩, e0, h0⟩ := pullD_elim h
  obtain rfl := tup_inj e0
  exact reduced_M_ok n d h0
theorem m_72_eq (n d : Int) : m_72 [iD n, iD d] = reduced_M n d := pullD_some (n, d) rfl rfl
def isSmall_sp : List LSpec := []
def isSmall_M (n d : Int) : Option D := pullD (α := Bool) (m_24 [iD n, iD (-1000000000 : Int), iD (1000000000 : Int)]) (fun d => ((D.vb d))) (fun r0 => .one (.bool r0)) fun r0 => ((if (r0) = true then pullD (α := Bool) (m_24 [iD d, iD (1 : Int), iD (1000000000 : Int)]) (fun d => ((D.vb d))) (fun r1 => .one (.bool r1)) fun r1 => (some (.one (.bool r1))) else some (.one (.bool false))))
theorem isSmall_M_ok (n d : Int) {r : D} (h : isSmall_M n d = some r) : Con 77 [.agg [iD n, iD d]] r := by
  unfold isSmall_M at h
  obtain ⟨r0, f1_, h2_⟩ := pullD_elim h
  replace f1_ := m_24_ok f1_
  by_cases b3_ : (r0) = true
  · have h4_ := (if_pos b3_).symm.trans h2_
    obtain ⟨r1, f5_, h6_⟩ := pullD_elim h4_
    replace f5_ := m_24_ok f5_
    obtain rfl := Option.some.inj h6_
    exact con_pc (op := true) (I := [77]) (sp := isSmall_sp) 3000 (bT 4 []) [.one (.bool r0), .one (.bool r1)] [c_q b3_, c_q b3_, c_q b3_, c_q b3_] [k_c f1_, k_c f5_] (by kernel_rfl)
  have h4_ := (if_neg b3_).symm.trans h2_
  have b7_ : (r0) = false := by first | exact b3_ | simpa using b3_
  obtain rfl := Option.some.inj h4_
  exact con_pc (op := true) (I := [77]) (sp := isSmall_sp) 3000 (bF 4 []) [.one (.bool r0)] [c_q b7_, c_q b7_, c_q b7_, c_q b7_] [k_c f1_] (by kernel_rfl)
def m_77 (ds : List D) : Option D := pullD (α := Int × Int) (some (.tup ds)) (fun d => ((D.vi (D.at (D.at d 0) 0)), (D.vi (D.at (D.at d 0) 1)))) (fun (n, d) => .tup [.agg [iD n, iD d]]) fun (n, d) => isSmall_M n d
theorem m_77_ok {ds : List D} {r : D} (h : m_77 ds = some r) : Con 77 ds r := by
  unfold m_77 at h
  obtain ⟨⟨n, d⟩, e0, h0⟩ := pullD_elim h
  obtain rfl := tup_inj e0
  exact isSmall_M_ok n d h0
theorem m_77_eq (n d : Int) : m_77 [.agg [iD n, iD d]] = isSmall_M n d := pullD_some (n, d) rfl rfl
def tooLarge_sp : List LSpec := []
def tooLarge_M (n d : Int) : Option D := some (.one (.bool (decide ((if d > n then d else n) > (1000000000 : Int)))))
theorem tooLarge_M_ok (n d : Int) {r : D} (h : tooLarge_M n d = some r) : Con 48 [.agg [iD n, iD d]] r := by
  unfold tooLarge_M at h
  obtain rfl := Option.some.inj h
  exact con_pc (op := true) (I := [48]) (sp := tooLarge_sp) 3000 [] [] [] [] (by kernel_rfl)
def m_48 (ds : List D) : Option D := pullD (α := Int × Int) (some (.tup ds)) (fun d => ((D.vi (D.at (D.at d 0) 0)), (D.vi (D.at (D.at d 0) 1)))) (fun (n, d) => .tup [.agg [iD n, iD d]]) fun (n, d) => tooLarge_M n d
theorem m_48_ok {ds : List D} {r : D} (h : m_48 ds = some r) : Con 48 ds r := by
  unfold m_48 at h
  obtain ⟨⟨n, d⟩, e0, h0⟩ := pullD_elim h
  obtain rfl := tup_inj e0
  exact tooLarge_M_ok n d h0
theorem m_48_eq (n d : Int) : m_48 [.agg [iD n, iD d]] = tooLarge_M n d := pullD_some (n, d) rfl rfl
def ratioOf_M_s1 (a b c d : Int)  : Option D := pullD (α := Int) (m_64 [.list 1 [iD a, iD b]]) (fun d => ((D.vi d))) (fun r37 => iD r37) fun r37 => (pullD (α := Int) (m_50 [.list 2 [iD (2 : Int), iD r37]]) (fun d => ((D.vi d))) (fun r38 => iD r38) fun r38 => ((if c < (1 : Int) then pullD (α := Int) (m_64 [.list 1 [iD c, iD d]]) (fun d => ((D.vi d))) (fun r39 => iD r39) fun r39 => (pullD (α := Int) (m_50 [.list 2 [iD (2 : Int), iD r39]]) (fun d => ((D.vi d))) (fun r40 => iD r40) fun r40 => (pullD (α := Int) (m_50 [.list 2 [iD r38, iD r40]]) (fun d => ((D.vi d))) (fun r41 => iD r41) fun r41 => ((if r41 ≠ (0 : Int) then some (.tup [(shNK2_0 (0 : Int) (0 : Int) (0 : Int) (0 : Int)), iD r41]) else pullD (α := Int × Int) (m_72 [iD a, iD d]) (fun d => ((D.vi (D.at d 0)), (D.vi (D.at d 1)))) (fun (r42, r43) => .agg [iD r42, iD r43]) fun (r42, r43) => (pullD (α := Int × Int) (m_72 [iD b, iD c]) (fun d => ((D.vi (D.at d 0)), (D.vi (D.at d 1)))) (fun (r44, r45) => .agg [iD r44, iD r45]) fun (r44, r45) => (some (.tup [(shNK2_0 r42 r43 r44 r45), iD (0 : Int)]))))))) else (if c > (1000000000 : Int) then pullD (α := Int) (m_64 [.list 1 [iD c, iD d]]) (fun d => ((D.vi d))) (fun r46 => iD r46) fun r46 => (pullD (α := Int) (m_50 [.list 2 [iD (2 : Int), iD r46]]) (fun d => ((D.vi d))) (fun r47 => iD r47) fun r47 => (pullD (α := Int) (m_50 [.list 2 [iD r38, iD r47]]) (fun d => ((D.vi d))) (fun r48 => iD r48) fun r48 => ((if r48 ≠ (0 : Int) then some (.tup [(shNK2_0 (0 : Int) (0 : Int) (0 : Int) (0 : Int)), iD r48]) else pullD (α := Int × Int) (m_72 [iD a, iD d]) (fun d => ((D.vi (D.at d 0)), (D.vi (D.at d 1)))) (fun (r49, r50) => .agg [iD r49, iD r50]) fun (r49, r50) => (pullD (α := Int × Int) (m_72 [iD b, iD c]) (fun d => ((D.vi (D.at d 0)), (D.vi (D.at d 1)))) (fun (r51, r52) => .agg [iD r51, iD r52]) fun (r51, r52) => (some (.tup [(shNK2_0 r49 r50 r51 r52), iD (0 : Int)]))))))) else (if d < (1 : Int) then pullD (α := Int) (m_64 [.list 1 [iD c, iD d]]) (fun d => ((D.vi d))) (fun r53 => iD r53) fun r53 => (pullD (α := Int) (m_50 [.list 2 [iD (2 : Int), iD r53]]) (fun d => ((D.vi d))) (fun r54 => iD r54) fun r54 => (pullD (α := Int) (m_50 [.list 2 [iD r38, iD r54]]) (fun d => ((D.vi d))) (fun r55 => iD r55) fun r55 => ((if r55 ≠ (0 : Int) then some (.tup [(shNK2_0 (0 : Int) (0 : Int) (0 : Int) (0 : Int)), iD r55]) else pullD (α := Int × Int) (m_72 [iD a, iD d]) (fun d => ((D.vi (D.at d 0)), (D.vi (D.at d 1)))) (fun (r56, r57) => .agg [iD r56, iD r57]) fun (r56, r57) => (pullD (α := Int × Int) (m_72 [iD b, iD c]) (fun d => ((D.vi (D.at d 0)), (D.vi (D.at d 1)))) (fun (r58, r59) => .agg [iD r58, iD r59]) fun (r58, r59) => (some (.tup [(shNK2_0 r56 r57 r58 r59), iD (0 : Int)]))))))) else (if d > (1000000000 : Int) then pullD (α := Int) (m_64 [.list 1 [iD c, iD d]]) (fun d => ((D.vi d))) (fun r60 => iD r60) fun r60 => (pullD (α := Int) (m_50 [.list 2 [iD (2 : Int), iD r60]]) (fun d => ((D.vi d))) (fun r61 => iD r61) fun r61 => (pullD (α := Int) (m_50 [.list 2 [iD r38, iD r61]]) (fun d => ((D.vi d))) (fun r62 => iD r62) fun r62 => ((if r62 ≠ (0 : Int) then some (.tup [(shNK2_0 (0 : Int) (0 : Int) (0 : Int) (0 : Int)), iD r62]) else pullD (α := Int × Int) (m_72 [iD a, iD d]) (fun d => ((D.vi (D.at d 0)), (D.vi (D.at d 1)))) (fun (r63, r64) => .agg [iD r63, iD r64]) fun (r63, r64) => (pullD (α := Int × Int) (m_72 [iD b, iD c]) (fun d => ((D.vi (D.at d 0)), (D.vi (D.at d 1)))) (fun (r65, r66) => .agg [iD r65, iD r66]) fun (r65, r66) => (some (.tup [(shNK2_0 r63 r64 r65 r66), iD (0 : Int)]))))))) else pullD (α := Int) (m_64 [.list 1 [iD c, iD d]]) (fun d => ((D.vi d))) (fun r67 => iD r67) fun r67 => (pullD (α := Int) (m_50 [.list 2 [iD (0 : Int), iD r67]]) (fun d => ((D.vi d))) (fun r68 => iD r68) fun r68 => (pullD (α := Int) (m_50 [.list 2 [iD r38, iD r68]]) (fun d => ((D.vi d))) (fun r69 => iD r69) fun r69 => ((if r69 ≠ (0 : Int) then some (.tup [(shNK2_0 (0 : Int) (0 : Int) (0 : Int) (0 : Int)), iD r69]) else pullD (α := Int × Int) (m_72 [iD a, iD d]) (fun d => ((D.vi (D.at d 0)), (D.vi (D.at d 1)))) (fun (r70, r71) => .agg [iD r70, iD r71]) fun (r70, r71) => (pullD (α := Int × Int) (m_72 [iD b, iD c]) (fun d => ((D.vi (D.at d 0)), (D.vi (D.at d 1)))) (fun (r72, r73) => .agg [iD r72, iD r73]) fun (r72, r73) => (some (.tup [(shNK2_0 r70 r71 r72 r73), iD (0 : Int)])))))))))))))
def ratioOf_M_s2 (a b c d : Int)  : Option D := pullD (α := Int) (m_64 [.list 1 [iD a, iD b]]) (fun d => ((D.vi d))) (fun r74 => iD r74) fun r74 => (pullD (α := Int) (m_50 [.list 2 [iD (2 : Int), iD r74]]) (fun d => ((D.vi d))) (fun r75 => iD r75) fun r75 => ((if c < (1 : Int) then pullD (α := Int) (m_64 [.list 1 [iD c, iD d]]) (fun d => ((D.vi d))) (fun r76 => iD r76) fun r76 => (pullD (α := Int) (m_50 [.list 2 [iD (2 : Int), iD r76]]) (fun d => ((D.vi d))) (fun r77 => iD r77) fun r77 => (pullD (α := Int) (m_50 [.list 2 [iD r75, iD r77]]) (fun d => ((D.vi d))) (fun r78 => iD r78) fun r78 => ((if r78 ≠ (0 : Int) then some (.tup [(shNK2_0 (0 : Int) (0 : Int) (0 : Int) (0 : Int)), iD r78]) else pullD (α := Int × Int) (m_72 [iD a, iD d]) (fun d => ((D.vi (D.at d 0)), (D.vi (D.at d 1)))) (fun (r79, r80) => .agg [iD r79, iD r80]) fun (r79, r80) => (pullD (α := Int × Int) (m_72 [iD b, iD c]) (fun d => ((D.vi (D.at d 0)), (D.vi (D.at d 1)))) (fun (r81, r82) => .agg [iD r81, iD r82]) fun (r81, r82) => (some (.tup [(shNK2_0 r79 r80 r81 r82), iD (0 : Int)]))))))) else (if c > (1000000000 : Int) then pullD (α := Int) (m_64 [.list 1 [iD c, iD d]]) (fun d => ((D.vi d))) (fun r83 => iD r83) fun r83 => (pullD (α := Int) (m_50 [.list 2 [iD (2 : Int), iD r83]]) (fun d => ((D.vi d))) (fun r84 => iD r84) fun r84 => (pullD (α := Int) (m_50 [.list 2 [iD r75, iD r84]]) (fun d => ((D.vi d))) (fun r85 => iD r85) fun r85 => ((if r85 ≠ (0 : Int) then some (.tup [(shNK2_0 (0 : Int) (0 : Int) (0 : Int) (0 : Int)), iD r85]) else pullD (α := Int × Int) (m_72 [iD a, iD d]) (fun d => ((D.vi (D.at d 0)), (D.vi (D.at d 1)))) (fun (r86, r87) => .agg [iD r86, iD r87]) fun (r86, r87) => (pullD (α := Int × Int) (m_72 [iD b, iD c]) (fun d => ((D.vi (D.at d 0)), (D.vi (D.at d 1)))) (fun (r88, r89) => .agg [iD r88, iD r89]) fun (r88, r89) => (some (.tup [(shNK2_0 r86 r87 r88 r89), iD (0 : Int)]))))))) else (if d < (1 : Int) then pullD (α := Int) (m_64 [.list 1 [iD c, iD d]]) (fun d => ((D.vi d))) (fun r90 => iD r90) fun r90 => (pullD (α := Int) (m_50 [.list 2 [iD (2 : Int), iD r90]]) (fun d => ((D.vi d))) (fun r91 => iD r91) fun r91 => (pullD (α := Int) (m_50 [.list 2 [iD r75, iD r91]]) (fun d => ((D.vi d))) (fun r92 => iD r92) fun r92 => ((if r92 ≠ (0 : Int) then some (.tup [(shNK2_0 (0 : Int) (0 : Int) (0 : Int) (0 : Int)), iD r92]) else pullD (α := Int × Int) (m_72 [iD a, iD d]) (fun d => ((D.vi (D.at d 0)), (D.vi (D.at d 1)))) (fun (r93, r94) => .agg [iD r93, iD r94]) fun (r93, r94) => (pullD (α := Int × Int) (m_72 [iD b, iD c]) (fun d => ((D.vi (D.at d 0)), (D.vi (D.at d 1)))) (fun (r95, r96) => .agg [iD r95, iD r96]) fun (r95, r96) => (some (.tup [(shNK2_0 r93 r94 r95 r96), iD (0 : Int)]))))))) else (if d > (1000000000 : Int) then pullD (α := Int) (m_64 [.list 1 [iD c, iD d]]) (fun d => ((D.vi d))) (fun r97 => iD r97) fun r97 => (pullD (α := Int) (m_50 [.list 2 [iD (2 : Int), iD r97]]) (fun d => ((D.vi d))) (fun r98 => iD r98) fun r98 => (pullD (α := Int) (m_50 [.list 2 [iD r75, iD r98]]) (fun d => ((D.vi d))) (fun r99 => iD r99) fun r99 => ((if r99 ≠ (0 : Int) then some (.tup [(shNK2_0 (0 : Int) (0 : Int) (0 : Int) (0 : Int)), iD r99]) else pullD (α := Int × Int) (m_72 [iD a, iD d]) (fun d => ((D.vi (D.at d 0)), (D.vi (D.at d 1)))) (fun (r100, r101) => .agg [iD r100, iD r101]) fun (r100, r101) => (pullD (α := Int × Int) (m_72 [iD b, iD c]) (fun d => ((D.vi (D.at d 0)), (D.vi (D.at d 1)))) (fun (r102, r103) => .agg [iD r102, iD r103]) fun (r102, r103) => (some (.tup [(shNK2_0 r100 r101 r102 r103), iD (0 : Int)]))))))) else pullD (α := Int) (m_64 [.list 1 [iD c, iD d]]) (fun d => ((D.vi d))) (fun r104 => iD r104) fun r104 => (pullD (α := Int) (m_50 [.list 2 [iD (0 : Int), iD r104]]) (fun d => ((D.vi d))) (fun r105 => iD r105) fun r105 => (pullD (α := Int) (m_50 [.list 2 [iD r75, iD r105]]) (fun d => ((D.vi d))) (fun r106 => iD r106) fun r106 => ((if r106 ≠ (0 : Int) then some (.tup [(shNK2_0 (0 : Int) (0 : Int) (0 : Int) (0 : Int)), iD r106]) else pullD (α := Int × Int) (m_72 [iD a, iD d]) (fun d => ((D.vi (D.at d 0)), (D.vi (D.at d 1)))) (fun (r107, r108) => .agg [iD r107, iD r108]) fun (r107, r108) => (pullD (α := Int × Int) (m_72 [iD b, iD c]) (fun d => ((D.vi (D.at d 0)), (D.vi (D.at d 1)))) (fun (r109, r110) => .agg [iD r109, iD r110]) fun (r109, r110) => (some (.tup [(shNK2_0 r107 r108 r109 r110), iD (0 : Int)])))))))))))))
end
end Go.Proofs.Ytjjbacbjdilhmaa
