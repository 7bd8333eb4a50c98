import Derived.Test.YtmohaohdbklkeaaTD
set_option linter.unusedVariables false
set_option linter.unusedSimpArgs false
set_option linter.unusedSectionVars false
set_option linter.unnecessarySimpa false
/- Models of functions: what helps to compute with them. -/
namespace Go.Ev
open Go.RowKit
noncomputable section
theorem runR_scan {S : Rd → Option Rd} (q : Nat → Nat) (ds : Nat → List D) {a b : Nat} (hab : a ≤ b) (h : ∀ i, a ≤ i → i < b → S (.next (q i) (ds i)) = some (.next (q (i + 1)) (ds (i + 1)))) : runR S (.next (q a) (ds a)) = runR S (.next (q b) (ds b)) := by
  have key : ∀ m i, a ≤ i → i + m = b → runR S (.next (q i) (ds i)) = runR S (.next (q b) (ds b)) := by
    intro m
    induction m with
    | zero => intro i _ hi; have : i = b := by omega
              subst this; rfl
    | succ m ih => intro i hs hi; rw [runR_next (h i hs (by omega)), ih (i + 1) (by omega) (by omega)]
  exact key (b - a) a (Nat.le_refl _) (by omega)
theorem runR_exit {S : Rd → Option Rd} {q : Nat} {ds : List D} {j : Nat} {es : List D} (h : S (.next q ds) = some (.out j es)) : runR S (.next q ds) = some (.out j es) := by
  rw [runR_next h, runR_out]
open Classical in
end
end Go.Ev
/- Whole numbers as lists of digits to the base 10^9, and as values in depth. -/
namespace Go.Ev
open Go.RowKit
abbrev lD (l : List Int) : D := .list l.length (l.map iD)
def Dig (l : List Int) : Prop := ∀ d ∈ l, 0 ≤ d ∧ d < (1000000000 : Int)
def Trim (l : List Int) : Prop := ∀ h : l ≠ [], l.getLast h ≠ 0
theorem Dig.cons {d : Int} {l : List Int} (h : Dig (d :: l)) : (0 ≤ d ∧ d < (1000000000 : Int)) ∧ Dig l := ⟨h d List.mem_cons_self, fun x hx => h x (List.mem_cons_of_mem _ hx)⟩
theorem Dig.nil : Dig [] := fun _ h => by cases h
theorem Dig.append {a b : List Int} (ha : Dig a) (hb : Dig b) : Dig (a ++ b) := fun x hx => by
  rcases List.mem_append.1 hx with h | h
  · exact ha x h
  · exact hb x h
theorem Dig.one {d : Int} (h0 : 0 ≤ d) (h1 : d < (1000000000 : Int)) : Dig [d] := fun x hx => by simp at hx; subst hx; exact ⟨h0, h1⟩
theorem Dig.take {l : List Int} (h : Dig l) (n : Nat) : Dig (l.take n) := fun x hx => h x (List.mem_of_mem_take hx)
theorem Dig.drop {l : List Int} (h : Dig l) (n : Nat) : Dig (l.drop n) := fun x hx => h x (List.mem_of_mem_drop hx)
theorem Trim.cons {d : Int} {l : List Int} (h : Trim (d :: l)) : Trim l := fun hl => by
  have := h (by simp)
  rwa [List.getLast_cons hl] at this
/-- How many digits are kept where zeros at the end are cut off. -/
def keep : List Int → Nat
  | [] => 0
  | d :: l => if keep l = 0 ∧ d = 0 then 0 else keep l + 1
theorem Dig.at {a : List Int} (h : Dig a) (i : Nat) : 0 ≤ a[i]?.getD 0 ∧ a[i]?.getD 0 < (1000000000 : Int) := by
  by_cases hi : i < a.length
  · rw [List.getElem?_eq_getElem hi]; exact h _ (List.getElem_mem hi)
  · rw [List.getElem?_eq_none (by omega)]; decide
theorem pullI {β : Type} (x : Int) (k : Int → Option β) : pullD (some (.one (.int .i64 x))) (fun d => D.vi d) (fun r => .one (.int .i64 r)) k = k x := pullD_some x rfl rfl
theorem pullB {β : Type} (x : Bool) (k : Bool → Option β) : pullD (some (.one (.bool x))) (fun d => D.vb d) (fun r => .one (.bool r)) k = k x := pullD_some x rfl rfl
theorem grow_list (l : List Int) (x : Int) : D.list (l.length + (0 + 1)) (List.append (List.take (l.length * 1) (l.map iD)) [dCell (.int .i64 x)]) = lD (l ++ [x]) := by
  have : List.take (l.length * 1) (l.map iD) = l.map iD := List.take_of_length_le (by simp)
  rw [this]
  show D.list (l.length + 1) (l.map iD ++ [iD x]) = _
  simp [lD]
theorem Dig.set {l : List Int} (h : Dig l) (p : Nat) {x : Int} (h0 : 0 ≤ x) (h1 : x < 1000000000) : Dig (l.set p x) := fun y hy => by
  rcases List.mem_or_eq_of_mem_set hy with hy | rfl
  · exact h y hy
  · exact ⟨h0, h1⟩
theorem readW {l : List Int} {i : Nat} {v : Int} (h : l[i]? = some v) : readD (l.map iD) ((i : Int).toNat * 1) 1 false = some (iD v) := by
  unfold readD
  simp [h]
end Go.Ev
/- Lists told by place: tables, sums of the first, and how a program builds them. -/
namespace Go.Ev
open Go.RowKit
/-- The numbers f 0, .., f (n - 1). -/
def tab (n : Nat) (f : Nat → Int) : List Int := (List.range n).map f
/-- The number at a place, 0 behind the end. -/
def at' (l : List Int) (i : Nat) : Int := l[i]?.getD 0
theorem tab_len (n : Nat) (f : Nat → Int) : (tab n f).length = n := by simp [tab]
theorem tab_get {n i : Nat} (f : Nat → Int) (h : i < n) : (tab n f)[i]? = some (f i) := by
  unfold tab; rw [List.getElem?_map, List.getElem?_range h]; rfl
theorem tab_at {n i : Nat} (f : Nat → Int) (h : i < n) : at' (tab n f) i = f i := by unfold at'; rw [tab_get f h]; rfl
theorem tab_succ (n : Nat) (f : Nat → Int) : tab (n + 1) f = tab n f ++ [f n] := by
  unfold tab; rw [List.range_succ, List.map_append]; rfl
theorem at_get {l : List Int} {i : Nat} (h : i < l.length) : l[i]? = some (at' l i) := by
  unfold at'; rw [List.getElem?_eq_getElem h]; rfl
theorem at_mem {l : List Int} {i : Nat} (h : i < l.length) : at' l i ∈ l := by
  have := at_get h
  exact List.mem_of_getElem? this
theorem mulB {x y A B : Int} (h1 : -A ≤ x) (h2 : x ≤ A) (h3 : -B ≤ y) (h4 : y ≤ B) : -(A * B) ≤ x * y ∧ x * y ≤ A * B := by
  have hA : 0 ≤ A := by omega
  have hB : 0 ≤ B := by omega
  have e1 : 0 ≤ (A - x) * (B - y) := Int.mul_nonneg (by omega) (by omega)
  have e2 : 0 ≤ (A + x) * (B + y) := Int.mul_nonneg (by omega) (by omega)
  have e3 : 0 ≤ (A - x) * (B + y) := Int.mul_nonneg (by omega) (by omega)
  have e4 : 0 ≤ (A + x) * (B - y) := Int.mul_nonneg (by omega) (by omega)
  have f1 : (A - x) * (B - y) = A * B - A * y - x * B + x * y := by grind
  have f2 : (A + x) * (B + y) = A * B + A * y + x * B + x * y := by grind
  have f3 : (A - x) * (B + y) = A * B + A * y - x * B - x * y := by grind
  have f4 : (A + x) * (B - y) = A * B - A * y + x * B - x * y := by grind
  omega
theorem wrapJ (x : Int) (h1 : -9223372036854775808 ≤ x) (h2 : x < 9223372036854775808) : IntKind.i64.wrap x = x := by
  unfold IntKind.wrap
  show (if (true && _) then _ else _) = _
  simp only [Bool.true_and, decide_eq_true_eq]
  show (if x % 18446744073709551616 ≥ 9223372036854775808 then x % 18446744073709551616 - 18446744073709551616 else x % 18446744073709551616) = x
  split <;> omega
theorem readT {n i : Nat} (f : Nat → Int) (h : i < n) : readD ((tab n f).map iD) ((i : Int).toNat * 1) 1 false = some (iD (f i)) := readW (tab_get f h)
theorem readA {l : List Int} {i : Nat} (h : i < l.length) : readD (l.map iD) ((i : Int).toNat * 1) 1 false = some (iD (at' l i)) := readW (at_get h)
theorem natI {i : Nat} (h : i < 1000000000000000) : IntKind.i64.wrap ((i : Int) + 1) = ((i + 1 : Nat) : Int) := by rw [wrapJ _ (by omega) (by omega)]; omega
theorem cells_int (l : List Int) : ∀ u : D, u ∈ l.map iD → cellD u := by
  intro u hu
  obtain ⟨x, -, rfl⟩ := List.mem_map.1 hu
  rfl
/-- All numbers lie between two. -/
def allIn (lo hi : Int) (l : List Int) : Bool := l.all fun x => decide (lo ≤ x ∧ x ≤ hi)
theorem allIn_at {lo hi : Int} {l : List Int} (h : allIn lo hi l = true) {i : Nat} (hi' : i < l.length) : lo ≤ at' l i ∧ at' l i ≤ hi := by
  have := List.all_eq_true.1 h _ (at_mem hi')
  simpa using this
/-- A loop that looks for a number that is not. -/
theorem scanIn (l : List Int) (lo hi : Int) (S : Rd → Option Rd) (bad : Rd) (hb : ∀ q ds, bad ≠ .next q ds) (hs : ∀ i, i < l.length → S (.next 0 [iD (i : Int)]) = if lo ≤ at' l i ∧ at' l i ≤ hi then some (.next 0 [iD ((i + 1 : Nat) : Int)]) else some bad)
    (he : S (.next 0 [iD (l.length : Int)]) = some (.out 0 [])) : runR S (.next 0 [iD 0]) = if allIn lo hi l = true then some (.out 0 []) else some bad := by
  have key : ∀ m i, i + m = l.length → runR S (.next 0 [iD (i : Int)]) = if allIn lo hi (l.drop i) = true then some (.out 0 []) else some bad := by
    intro m
    induction m with
    | zero =>
      intro i hi
      have : i = l.length := by omega
      subst this
      rw [runR_exit he, List.drop_of_length_le (Nat.le_refl _)]
      rfl
    | succ m ih =>
      intro i hi'
      have hlt : i < l.length := by omega
      have hd : l.drop i = at' l i :: l.drop (i + 1) := by
        rw [List.drop_eq_getElem_cons hlt]
        congr 1
        unfold at'
        rw [List.getElem?_eq_getElem hlt]; rfl
      have e : allIn lo hi (l.drop i) = (decide (lo ≤ at' l i ∧ at' l i ≤ hi) && allIn lo hi (l.drop (i + 1))) := by
        rw [hd]; rfl
      have h1 := hs i hlt
      by_cases hq : lo ≤ at' l i ∧ at' l i ≤ hi
      · rw [if_pos hq] at h1
        rw [runR_next h1, ih (i + 1) (by omega), e, decide_eq_true hq, Bool.true_and]
      · rw [if_neg hq] at h1
        rw [e, decide_eq_false hq, Bool.false_and, if_neg (by decide)]
        cases bad with
        | next q ds => exact absurd rfl (hb q ds)
        | out j ds => exact runR_exit h1
  have := key l.length 0 (by omega)
  rw [List.drop_zero, Int.natCast_zero] at this
  exact this
end Go.Ev
/- Lists of pairs of numbers told by place; loops that look for the first error. -/
namespace Go.Ev
open Go.RowKit
/-- The first place from i on, of m, at which there is an error. -/
def frst (e : Nat → Int) : Nat → Nat → Option Nat
  | 0, _ => none
  | m + 1, i => if e i = 0 then frst e m (i + 1) else some i
theorem frst_some {e : Nat → Int} : ∀ {m i j : Nat}, frst e m i = some j → e j ≠ 0 ∧ i ≤ j ∧ j < i + m
  | 0, i, j, h => by cases h
  | m + 1, i, j, h => by
    unfold frst at h
    split at h
    · obtain ⟨h1, h2, h3⟩ := frst_some h
      exact ⟨h1, by omega, by omega⟩
    · rename_i h1
      cases h
      exact ⟨h1, Nat.le_refl _, by omega⟩
theorem frst_none {e : Nat → Int} : ∀ {m i : Nat}, frst e m i = none → ∀ j, i ≤ j → j < i + m → e j = 0
  | 0, i, _, j, h1, h2 => by omega
  | m + 1, i, h, j, h1, h2 => by
    unfold frst at h
    split at h
    · rename_i h0
      rcases Nat.lt_or_ge i j with h3 | h3
      · exact frst_none h j (by omega) (by omega)
      · have : j = i := by omega
        subst this; exact h0
    · cases h
/-- A loop that looks for the first error. -/
theorem scanE {n : Nat} {e : Nat → Int} {S : Rd → Option Rd} (hs : ∀ i, i < n → S (.next 0 [iD (i : Int)]) = if e i = 0 then some (.next 0 [iD ((i + 1 : Nat) : Int)]) else some (.out 1 [iD (i : Int), iD (e i)])) (he : S (.next 0 [iD (n : Int)]) = some (.out 0 [])) :
    ∀ m i, i + m = n → runR S (.next 0 [iD (i : Int)]) = match frst e m i with | none => some (.out 0 []) | some j => some (.out 1 [iD (j : Int), iD (e j)]) := by
  intro m
  induction m with
  | zero =>
    intro i hi
    have : i = n := by omega
    subst this
    exact runR_exit he
  | succ m ih =>
    intro i hi
    have h1 := hs i (by omega)
    unfold frst
    by_cases h0 : e i = 0
    · rw [if_pos h0] at h1 ⊢
      rw [runR_next h1]
      exact ih (i + 1) (by omega)
    · rw [if_neg h0] at h1 ⊢
      exact runR_exit h1
end Go.Ev
/- Structs and arrays of numbers, as arguments. -/
namespace Go.Proofs.Ytmohaohdbklkeaa
open Go.Ev Go.RowKit
theorem ints2_of {ds : List D} (h : okDs [.int .i64, .int .i64] ds) : ∃ x0 x1 : Int, ds = [iD x0, iD x1] := by
  simp only [okDs, okD] at h
  obtain ⟨_, _, rfl, ⟨x0, rfl, -⟩, _, _, rfl, ⟨x1, rfl, -⟩, rfl⟩ := h
  exact ⟨x0, x1, rfl⟩
theorem ints3_of {ds : List D} (h : okDs [.int .i64, .int .i64, .int .i64] ds) : ∃ x0 x1 x2 : Int, ds = [iD x0, iD x1, iD x2] := by
  simp only [okDs, okD] at h
  obtain ⟨_, _, rfl, ⟨x0, rfl, -⟩, _, _, rfl, ⟨x1, rfl, -⟩, _, _, rfl, ⟨x2, rfl, -⟩, rfl⟩ := h
  exact ⟨x0, x1, x2, rfl⟩
theorem ints4_of {ds : List D} (h : okDs [.int .i64, .int .i64, .int .i64, .int .i64] ds) : ∃ x0 x1 x2 x3 : Int, ds = [iD x0, iD x1, iD x2, iD x3] := by
  simp only [okDs, okD] at h
  obtain ⟨_, _, rfl, ⟨x0, rfl, -⟩, _, _, rfl, ⟨x1, rfl, -⟩, _, _, rfl, ⟨x2, rfl, -⟩, _, _, rfl, ⟨x3, rfl, -⟩, rfl⟩ := h
  exact ⟨x0, x1, x2, x3, rfl⟩
theorem ints9_of {ds : List D} (h : okDs [.int .i64, .int .i64, .int .i64, .int .i64, .int .i64, .int .i64, .int .i64, .int .i64, .int .i64] ds) : ∃ x0 x1 x2 x3 x4 x5 x6 x7 x8 : Int, ds = [iD x0, iD x1, iD x2, iD x3, iD x4, iD x5, iD x6, iD x7, iD x8] := by
  simp only [okDs, okD] at h
  obtain ⟨_, _, rfl, ⟨x0, rfl, -⟩, _, _, rfl, ⟨x1, rfl, -⟩, _, _, rfl, ⟨x2, rfl, -⟩, _, _, rfl, ⟨x3, rfl, -⟩, _, _, rfl, ⟨x4, rfl, -⟩, _, _, rfl, ⟨x5, rfl, -⟩, _, _, rfl, ⟨x6, rfl, -⟩, _, _, rfl, ⟨x7, rfl, -⟩, _, _, rfl, ⟨x8, rfl, -⟩, rfl⟩ := h
  exact ⟨x0, x1, x2, x3, x4, x5, x6, x7, x8, rfl⟩
theorem int_of {k : IntKind} {d : D} (h : okD (.int k) d) : ∃ x, d = .one (.int k x) ∧ (Lit.int k x).wf = true := by
  simp only [okD] at h
  exact h
end Go.Proofs.Ytmohaohdbklkeaa
/- Lists of quadruples of numbers told by place. -/
namespace Go.Ev
open Go.RowKit
/-- Four numbers. -/
structure Q4 where
  a : Int
  b : Int
  c : Int
  d : Int
def cQ : List Q4 → List D
  | [] => []
  | p :: l => iD p.a :: iD p.b :: iD p.c :: iD p.d :: cQ l
theorem cQ_cons (p : Q4) (l : List Q4) : cQ (p :: l) = iD p.a :: iD p.b :: iD p.c :: iD p.d :: cQ l := rfl
abbrev lQ (l : List Q4) : D := .list l.length (cQ l)
def qAt (l : List Q4) (i : Nat) : Q4 := l[i]?.getD ⟨0, 0, 0, 0⟩
theorem cQ_len : ∀ l : List Q4, (cQ l).length = l.length * 4
  | [] => rfl
  | p :: l => by unfold cQ; simp only [List.length_cons, cQ_len l]; omega
theorem cQ_drop : ∀ (i : Nat) (l : List Q4), (cQ l).drop (i * 4) = cQ (l.drop i)
  | 0, l => by simp
  | i + 1, [] => by simp [cQ]
  | i + 1, p :: l => by
    rw [cQ_cons, show (i + 1) * 4 = i * 4 + 1 + 1 + 1 + 1 by omega, List.drop_succ_cons, List.drop_succ_cons, List.drop_succ_cons, List.drop_succ_cons, cQ_drop i l, List.drop_succ_cons]
theorem q_drop {l : List Q4} {i : Nat} (h : i < l.length) : l.drop i = qAt l i :: l.drop (i + 1) := by
  rw [List.drop_eq_getElem_cons h]
  congr 1
  unfold qAt
  rw [List.getElem?_eq_getElem h]; rfl
theorem readQ {l : List Q4} {i : Nat} (h : i < l.length) : readD (cQ l) (i * 4) 4 true = some (.agg [iD (qAt l i).a, iD (qAt l i).b, iD (qAt l i).c, iD (qAt l i).d]) := by
  unfold readD
  simp only
  rw [cQ_drop, q_drop h]
  unfold cQ
  simp
end Go.Ev
/- Rules and records, as arguments. -/
namespace Go.Proofs.Ytmohaohdbklkeaa
open Go.Ev Go.RowKit
theorem list_of {α : Type} {es : List CT} {enc : α → List D} (he : ∀ r, okDs es r → ∃ a, r = enc a) {d : D} (h : okD (.sl es) d) : ∃ ys : List α, d = .list ys.length (ys.map enc).flatten ∧ ys.length ≤ maxLen := by
  simp only [okD] at h
  obtain ⟨rows, rfl, hl, hr⟩ := h
  have : ∀ rows : List (List D), (∀ r ∈ rows, okDs es r) → ∃ ys : List α, rows = ys.map enc := by
    intro rows
    induction rows with
    | nil => intro _; exact ⟨[], rfl⟩
    | cons r rs ih =>
      intro h
      obtain ⟨a, rfl⟩ := he r (h r (by simp))
      obtain ⟨ys, rfl⟩ := ih fun q hq => h q (by simp [hq])
      exact ⟨a :: ys, rfl⟩
  obtain ⟨ys, rfl⟩ := this rows hr
  exact ⟨ys, by rw [List.length_map], by rwa [List.length_map] at hl⟩
theorem single_flat {α : Type} (f : α → D) : ∀ l : List α, (l.map fun x => [f x]).flatten = l.map f
  | [] => rfl
  | a :: l => by simp only [List.map_cons, List.flatten_cons, single_flat f l]; rfl
theorem cQ_flat : ∀ l : List Q4, (l.map fun x => [iD x.a, iD x.b, iD x.c, iD x.d]).flatten = cQ l
  | [] => rfl
  | x :: l => by rw [List.map_cons, List.flatten_cons, cQ_flat l]; rfl
theorem ints_of {d : D} (h : okD (.sl [.int .i64]) d) : ∃ l : List Int, d = lD l := by
  obtain ⟨l, rfl, -⟩ := list_of (enc := fun x : Int => [iD x]) (fun r hr => by
    simp only [okDs, okD] at hr
    obtain ⟨_, _, rfl, ⟨x, rfl, -⟩, rfl⟩ := hr
    exact ⟨x, rfl⟩) h
  exact ⟨l, by rw [single_flat]⟩
theorem rec_of {ds : List D} (h : okDs [.int .i64, .sl [.int .i64]] ds) : ∃ (st : Int) (l : List Int), ds = [iD st, lD l] := by
  rw [okDs] at h
  obtain ⟨d, t, rfl, h1, h2⟩ := h
  obtain ⟨st, rfl, -⟩ := int_of h1
  simp only [okDs] at h2
  obtain ⟨e, u, rfl, h3, rfl⟩ := h2
  obtain ⟨l, rfl⟩ := ints_of h3
  exact ⟨st, l, rfl⟩
theorem rul_of {ds : List D} (h : okDs [.int .i64, .int .i64, .int .i64, .int .i64, .int .i64, .sl [.int .i64, .int .i64, .int .i64, .int .i64]] ds) : ∃ (re : Int) (f : Q4) (l : List Q4), ds = [iD re, iD f.a, iD f.b, iD f.c, iD f.d, lQ l] := by
  rw [okDs] at h
  obtain ⟨d0, t0, rfl, h0, h⟩ := h
  rw [okDs] at h
  obtain ⟨d1, t1, rfl, h1, h⟩ := h
  rw [okDs] at h
  obtain ⟨d2, t2, rfl, h2, h⟩ := h
  rw [okDs] at h
  obtain ⟨d3, t3, rfl, h3, h⟩ := h
  rw [okDs] at h
  obtain ⟨d4, t4, rfl, h4, h⟩ := h
  rw [okDs] at h
  obtain ⟨d5, t5, rfl, h5, h⟩ := h
  rw [okDs] at h
  subst h
  obtain ⟨re, rfl, -⟩ := int_of h0
  obtain ⟨fa, rfl, -⟩ := int_of h1
  obtain ⟨fb, rfl, -⟩ := int_of h2
  obtain ⟨fc, rfl, -⟩ := int_of h3
  obtain ⟨fd, rfl, -⟩ := int_of h4
  obtain ⟨l, rfl, -⟩ := list_of (enc := fun x : Q4 => [iD x.a, iD x.b, iD x.c, iD x.d]) (fun r hr => by
    obtain ⟨x, y, z, w, rfl⟩ := ints4_of hr
    exact ⟨⟨x, y, z, w⟩, rfl⟩) h5
  exact ⟨re, ⟨fa, fb, fc, fd⟩, l, by rw [cQ_flat]⟩
end Go.Proofs.Ytmohaohdbklkeaa
/- A pair of records, as an argument. -/
namespace Go.Proofs.Ytmohaohdbklkeaa
open Go.Ev Go.RowKit
theorem pair_of {ds : List D} (h : okDs [.int .i64, .sl [.int .i64], .int .i64, .sl [.int .i64]] ds) : ∃ (st su : Int) (x y : List Int), ds = [iD st, lD x, iD su, lD y] := by
  rw [okDs] at h
  obtain ⟨d0, t0, rfl, h0, h⟩ := h
  rw [okDs] at h
  obtain ⟨d1, t1, rfl, h1, h⟩ := h
  rw [okDs] at h
  obtain ⟨d2, t2, rfl, h2, h⟩ := h
  simp only [okDs] at h
  obtain ⟨d3, t3, rfl, h3, rfl⟩ := h
  obtain ⟨st, rfl, -⟩ := int_of h0
  obtain ⟨x, rfl⟩ := ints_of h1
  obtain ⟨su, rfl, -⟩ := int_of h2
  obtain ⟨y, rfl⟩ := ints_of h3
  exact ⟨st, su, x, y, rfl⟩
end Go.Proofs.Ytmohaohdbklkeaa
/- Runs inside models: what is asked, with its proofs. -/
namespace Go.Proofs.Ytmohaohdbklkeaa
open Go.Ev Go.RowKit
set_option maxRecDepth 100000
noncomputable section
/-- A truth that is asked, and why it is so. -/
structure PC where
  c : Bool
  q : Bool
  h : c = q
abbrev PC.p (x : PC) : Bool × Bool := (x.c, x.q)
def pairsC : List PC → List (Bool × Bool)
  | [] => []
  | x :: xs => (x.c, x.q) :: pairsC xs
theorem pairsC_ok : ∀ xs : List PC, allC (pairsC xs)
  | [] => trivial
  | x :: xs => ⟨x.h, pairsC_ok xs⟩
abbrev c_T : PC := ⟨true, true, rfl⟩
abbrev c_F : PC := ⟨false, false, rfl⟩
abbrev c_d {p : Prop} [Decidable p] (h : p) : PC := ⟨decide p, true, decide_eq_true h⟩
abbrev c_n {p : Prop} [Decidable p] (h : ¬ p) : PC := ⟨decide p, false, decide_eq_false h⟩
abbrev c_f {p : Prop} (h : p) : PC := ⟨fact p, true, fact_mk h⟩
abbrev c_b {α : Type} [BEq α] [LawfulBEq α] {a b : α} (h : a ≠ b) : PC := ⟨a != b, true, bne_iff_ne.2 h⟩
abbrev c_bn {α : Type} [BEq α] [LawfulBEq α] {a b : α} (h : a = b) : PC := ⟨a != b, false, bne_eq_false_iff_eq.2 h⟩
abbrev c_e {α : Type} [BEq α] [LawfulBEq α] {a b : α} (h : a = b) : PC := ⟨a == b, true, beq_iff_eq.2 h⟩
abbrev c_en {α : Type} [BEq α] [LawfulBEq α] {a b : α} (h : a ≠ b) : PC := ⟨a == b, false, beq_eq_false_iff_ne.2 h⟩
abbrev c_q {c q : Bool} (h : c = q) : PC := ⟨c, q, h⟩
abbrev c_no {c : Bool} (h : c = false) : PC := ⟨!c, true, by rw [h]; rfl⟩
abbrev c_nn {c : Bool} (h : c = true) : PC := ⟨!c, false, by rw [h]; rfl⟩
abbrev c_le (n : Nat) : PC := ⟨fact (n + 1 ≤ n + 1), true, fact_mk (Nat.le_refl _)⟩
def bT : Nat → List Bool → List Bool
  | 0, l => l
  | n + 1, l => true :: bT n l
def bF : Nat → List Bool → List Bool
  | 0, l => l
  | n + 1, l => false :: bF n l
/-- What is asked of calls and loops, and why it is so. -/
structure PK where
  q : Go.Ev.Ask
  h : AskOK (ctx [] []) Tabs q
def asksK : List PK → List Go.Ev.Ask
  | [] => []
  | x :: xs => x.q :: asksK xs
theorem asksK_ok : ∀ xs : List PK, allK (asksK xs)
  | [] => trivial
  | x :: xs => ⟨x.h, asksK_ok xs⟩
abbrev k_c {g : FuncId} {ds : List D} {r : D} (h : Con g ds r) : PK := ⟨.call g ds r, h⟩
abbrev k_l {c : Code} {E : List AV × AHeap} {base : Nat} {x : LExit} {ds : List D} (h : LoopC c E base noFrame x ds) (ora : List Bool) (vals vals' : List D) : PK := ⟨loopAsk c E base noFrame x ds ora vals vals', h _ _ _ _⟩
theorem con_pc {op : Bool} {I : List Nat} {sp : List LSpec} (n : Nat) {g : FuncId} {ds : List D} {r : D} (ora : List Bool) (res : List D) (pcs : List PC) (pks : List PK)
    (h : okOut (run (ctxS op I sp) n (.enter g (avOfL 0 ds).1) ⟨[], (avOfL 0 ds).2.1, (avOfL 0 ds).2.2, ora, ⟨res, noFrame⟩⟩) = some (r, pairsC pcs, asksK pks)) : Con g ds r :=
  con_of h (pairsC_ok pcs) (asksK_ok pks)
theorem step_pc {I : List Nat} {sp : List LSpec} {l : LoopAt} {S1 : List AV × AHeap} {g : Option GS} {x : AX} (fuel : Nat) (ora : List Bool) (vals : List D) (pcs : List PC) (pks : List PK)
    (r : Option Out) (hr : r = run (ctx I sp) fuel (.code l.f l.c) ⟨S1.1, S1.2, l.nx, ora, ⟨vals, l.fr⟩⟩) (h1 : r = some (outOf r))
    (h2 : ((outOf r).x, (outOf r).st.res.fr, (outOf r).log, (outOf r).st.tmps) = (x, l.fr, ⟨pairsC pcs, asksK pks⟩, AV.renL (qOf l.base (nsOf g) ((outOf r).st.tmps, (outOf r).st.heap)) (aOf l.base (nsOf g) ((outOf r).st.tmps, (outOf r).st.heap)) (stateOf g).1))
    (h3 : (stateOf g).2.map (fun e => hget (outOf r).st.heap (qOf l.base (nsOf g) ((outOf r).st.tmps, (outOf r).st.heap) e.1)) = (stateOf g).2.map (fun e => some (⟨AV.renL (qOf l.base (nsOf g) ((outOf r).st.tmps, (outOf r).st.heap)) (aOf l.base (nsOf g) ((outOf r).st.tmps, (outOf r).st.heap)) e.2.cells, e.2.opn, e.2.kind⟩ : ABlock)))
    (h4 : (namesIn l.nx (stateOf g).2 && distinctBy (qOf l.base (nsOf g) ((outOf r).st.tmps, (outOf r).st.heap)) (stateOf g).2 && aboveBy l.low l.base (qOf l.base (nsOf g) ((outOf r).st.tmps, (outOf r).st.heap)) (stateOf g).2) = true)
    (h5 : (AV.okL l.nx S1.1 && Nat.ble l.low (outOf r).low) = true) (h6 : (List.range l.low).map (hget (stateOf g).2) = (List.range l.low).map (hget S1.2)) : Step (ctx I sp) Tabs l S1 (stateOf g) x :=
  step_of r hr h1 h2 h3 h4 h5 h6 rfl (pairsC_ok pcs) (asksK_ok pks)
end
end Go.Proofs.Ytmohaohdbklkeaa
/- The stage's examples hold. -/
namespace Go.Proofs.Ytmohaohdbklkeaa
open Go.Ev Go.RowKit
set_option maxRecDepth 100000
noncomputable section
theorem aw_all : Con 9 [] (.one (.bool true)) :=
  con_ofK (S := [(86, 3000009), (86, 3000036)]) (K := []) (sp := []) (n := 60000) (ora := []) (res := []) (conds := [(false, false), (false, false), (false, false), (false, false), (false, false), (false, false), (false, false), (false, false), (false, false), (false, false), (false, false), (false, false), (false, false), (false, false), (false, false), (false, false), (false, false), (false, false), (false, false), (false, false), (false, false), (false, false), (false, false), (false, false), (false, false), (false, false), (false, false), (false, false), (false, false), (false, false), (false, false), (false, false), (false, false), (false, false), (false, false), (false, false), (false, false), (false, false), (false, false), (false, false), (false, false), (false, false), (false, false), (false, false), (false, false), (false, false), (false, false), (false, false), (false, false), (false, false), (false, false), (false, false), (false, false), (false, false), (false, false), (false, false)]) (cls := [])
    (by kernel_rfl) ⟨rfl, rfl, rfl, rfl, rfl, rfl, rfl, rfl, rfl, rfl, rfl, rfl, rfl, rfl, rfl, rfl, rfl, rfl, rfl, rfl, rfl, rfl, rfl, rfl, rfl, rfl, rfl, rfl, rfl, rfl, rfl, rfl, rfl, rfl, rfl, rfl, rfl, rfl, rfl, rfl, rfl, rfl, rfl, rfl, rfl, rfl, rfl, rfl, rfl, rfl, rfl, rfl, rfl, rfl, rfl, rfl, trivial⟩ trivial
def m_9 (ds : List D) : Option D := pullD (some (.tup ds)) (fun _ => ()) (fun _ => .tup []) fun _ => some (.one (.bool true))
theorem m_9_ok {ds : List D} {r : D} (h : m_9 ds = some r) : Con 9 ds r := by
  unfold m_9 at h
  obtain ⟨⟨⟩, e0, h0⟩ := pullD_elim h
  obtain rfl := tup_inj e0
  obtain rfl := Option.some.inj h0
  exact aw_all
theorem m_9_eq : m_9 [] = some (.one (.bool true)) := pullD_some () rfl rfl
end
end Go.Proofs.Ytmohaohdbklkeaa
namespace Go.Proofs.Ytmohaohdbklkeaa
open Go.Ev Go.RowKit
set_option maxRecDepth 100000
set_option maxHeartbeats 8000000
set_option linter.all false
noncomputable section
abbrev shNL1_0 (a0 : Int) (a1 : Int) (a2 : Int) (a3 : Int) : D := .agg [.one (.int .i64 a0), .one (.int .i64 a1), .one (.int .i64 a2), .one (.int .i64 a3)]
def shNL1_0P (d : D) : Int × Int × Int × Int := (D.vi (D.at d 0), D.vi (D.at d 1), D.vi (D.at d 2), D.vi (D.at d 3))
def firstOf_x2_0 : LExit := ⟨some 0, [], (2 :: (4 :: (List.range' 7 8)))⟩
def firstOf_x2_1 : LExit := ⟨none, [.val 2], (4 :: (List.range' 7 8))⟩
def firstOf_sp : List LSpec := [⟨45, 2, [firstOf_x2_0, firstOf_x2_1]⟩]
def firstOf_L2_E (k : Nat) (c : List D)  : List AV × AHeap := ([.dsl 0, .pure (.tuple #[]), .pure (.int .i64 (0 : Int)), .pure (.tuple #[]), .pure (.tuple #[]), .dsl 0, .pure (.int .i64 (k : Int)), .pure (.int .i64 (0 : Int)), .pure (.tuple #[]), .pure (.tuple #[]), .pure (.tuple #[]), .pure (.tuple #[]), .pure (.tuple #[]), .pure (.tuple #[]), .pure (.tuple #[])], [(0, { cells := [], opn := none, kind := .deep k c })])
def firstOf_L2_A : LoopAt := ⟨45, loopAt Try.prog 45 0, 1, 11, 1, noFrame⟩
theorem firstOf_L2_ok : (firstOf_L2_A).OK := ⟨by show 1 ≤ 11; decide, by show 1 ≤ 1; decide, by kernel_rfl, rfl⟩
def firstOf_L2_gs (k : Nat) (c : List D)  : Go.Ev.Rd → Option GS
  | .next 0 ds => ghost [.val 7] (2 :: (4 :: (List.range' 8 7))) (firstOf_L2_E k c).1 (firstOf_L2_E k c).2 1 ds
  | .out 0 ds => ghost firstOf_x2_0.live firstOf_x2_0.junk (firstOf_L2_E k c).1 (firstOf_L2_E k c).2 1 ds
  | .out 1 ds => ghost firstOf_x2_1.live firstOf_x2_1.junk (firstOf_L2_E k c).1 (firstOf_L2_E k c).2 1 ds
  | _ => none
def firstOf_L2_ex : Nat → Option Nat
  | 0 => firstOf_x2_0.ex
  | 1 => firstOf_x2_1.ex
  | _ => none
def firstOf_L2_ax : Go.Ev.Rd → AX
  | .next _ _ => .normal
  | .out j _ => axOf (firstOf_L2_ex j)
def firstOf_L2_S0 (k : Nat) (c : List D)  (ds : List D) : Option Go.Ev.Rd := pullD (α := Int) (some (.tup ds)) (fun d => ((D.vi (D.at d 0)))) (fun s7 => .tup [iD s7]) fun s7 => ((if s7 < (k : Int) then guardP ((0 : Int) ≤ s7 ∧ s7.toNat < k) (pullD (α := Int) (readD c (s7.toNat * 1) 1 false) (fun d => ((D.vi d))) (fun v0 => iD v0) fun v0 => ((if v0 ≠ (0 : Int) then some (.out 1 [iD v0]) else some (.next 0 [iD (IntKind.i64.wrap (s7 + (1 : Int)))])))) else some (.out 0 [])))
def firstOf_L2_S (k : Nat) (c : List D)  : Go.Ev.Rd → Option Go.Ev.Rd
  | .next 0 ds => firstOf_L2_S0 k c ds
  | _ => none
theorem firstOf_L2_S_ok (k : Nat) (c : List D)  : ∀ s_ t_, firstOf_L2_S k c s_ = some t_ → Step (ctx [45] firstOf_sp) Tabs firstOf_L2_A (stateOf (firstOf_L2_gs k c s_)) (stateOf (firstOf_L2_gs k c t_)) (firstOf_L2_ax t_) ∧ EndOK firstOf_L2_A.nx firstOf_L2_A.low (firstOf_L2_gs k c) t_
  | .next 0 ds, t_, h => by
    have h_ : firstOf_L2_S0 k c ds = some t_ := h
    clear h
    unfold firstOf_L2_S0 at h_
    obtain ⟨s7, e0, h0⟩ := pullD_elim h_
    clear h_
    obtain rfl := tup_inj e0
    by_cases b1_ : s7 < (k : Int)
    · have h2_ := (if_pos b1_).symm.trans h0
      obtain ⟨f3_, h4_⟩ := guardP_elim h2_
      obtain ⟨v0, f5_, h6_⟩ := pullD_elim h4_
      replace f5_ := readD_elim f5_
      by_cases b7_ : v0 ≠ (0 : Int)
      · have h8_ := (if_pos b7_).symm.trans h6_
        obtain rfl := Option.some.inj h8_
        exact ⟨step_pc 3000 (bT 2 []) [iD v0] [c_d b1_, c_f f3_, c_f f5_, c_b b7_] [] _ rfl (by kernel_rfl) (by kernel_rfl) (by kernel_rfl) (by kernel_rfl) (by kernel_rfl) (by kernel_rfl), by kernel_rfl, by kernel_rfl⟩
      have h8_ := (if_neg b7_).symm.trans h6_
      have b9_ : v0 = (0 : Int) := by first | exact b7_ | simpa using b7_
      obtain rfl := Option.some.inj h8_
      exact ⟨step_pc 3000 (bT 1 (bF 1 [])) [iD v0] [c_d b1_, c_f f3_, c_f f5_, c_bn b9_] [] _ rfl (by kernel_rfl) (by kernel_rfl) (by kernel_rfl) (by kernel_rfl) (by kernel_rfl) (by kernel_rfl), trivial⟩
    have h2_ := (if_neg b1_).symm.trans h0
    obtain rfl := Option.some.inj h2_
    exact ⟨step_pc 3000 (bF 1 []) [] [c_n b1_] [] _ rfl (by kernel_rfl) (by kernel_rfl) (by kernel_rfl) (by kernel_rfl) (by kernel_rfl) (by kernel_rfl), by kernel_rfl, by kernel_rfl⟩
  | .next (_ + 1) _, _, h => by cases h
  | .out _ _, _, h => by cases h
theorem firstOf_L2_go (k : Nat) (c : List D)  {q : Nat} {ds : List D} {j : Nat} {es : List D} (h : runR (firstOf_L2_S k c) (.next q ds) = some (.out j es)) : Runs (ctx [45] firstOf_sp) Tabs firstOf_L2_A (stateOf (firstOf_L2_gs k c (.next q ds))) (stateOf (firstOf_L2_gs k c (.out j es))) (firstOf_L2_ax (.out j es)) ∧ (nxtOf (firstOf_L2_gs k c (.out j es)), lowGS (firstOf_L2_gs k c (.out j es))) = (firstOf_L2_A.nx, firstOf_L2_A.low) :=
  runs_of' (good true _ _) firstOf_L2_ok (ax := firstOf_L2_ax) (fun _ _ => rfl) (fun _ _ => axOf_end _) (firstOf_L2_S_ok k c) h
theorem firstOf_L2_in0 (k : Nat) (c : List D)  {es : List D} (h : runR (firstOf_L2_S k c) (.next 0 [iD ((0 : Int))]) = some (.out 0 es)) : LoopC (loopAt Try.prog 45 0) (firstOf_L2_E k c) 1 noFrame firstOf_x2_0 es :=
  have r := firstOf_L2_go k c h
  loopin_as rfl (loop_in (l := firstOf_L2_A) (E := (firstOf_L2_E k c)) (S := stateOf (firstOf_L2_gs k c (.next 0 [iD ((0 : Int))]))) (ns := nsOf (firstOf_L2_gs k c (.next 0 [iD ((0 : Int))]))) firstOf_L2_ok r.1 r.2 (by kernel_rfl) (by kernel_rfl) (by kernel_rfl) (by kernel_rfl))
theorem firstOf_L2_in1 (k : Nat) (c : List D)  {es : List D} (h : runR (firstOf_L2_S k c) (.next 0 [iD ((0 : Int))]) = some (.out 1 es)) : LoopC (loopAt Try.prog 45 0) (firstOf_L2_E k c) 1 noFrame firstOf_x2_1 es :=
  have r := firstOf_L2_go k c h
  loopin_as rfl (loop_in (l := firstOf_L2_A) (E := (firstOf_L2_E k c)) (S := stateOf (firstOf_L2_gs k c (.next 0 [iD ((0 : Int))]))) (ns := nsOf (firstOf_L2_gs k c (.next 0 [iD ((0 : Int))]))) firstOf_L2_ok r.1 r.2 (by kernel_rfl) (by kernel_rfl) (by kernel_rfl) (by kernel_rfl))
def firstOf_M (k : Nat) (c : List D) : Option D := bindL (runR (firstOf_L2_S k c) (.next 0 [iD ((0 : Int))])) fun j ds => (if j = 0 then pullD (some (.tup ds)) (fun _ => ()) (fun _ => .tup []) fun _ => (some (iD (0 : Int))) else if j = 1 then pullD (α := Int) (some (.tup ds)) (fun d => ((D.vi (D.at d 0)))) (fun l0 => .tup [iD l0]) fun l0 => (some (iD l0)) else none)
theorem firstOf_M_ok (k : Nat) (c : List D) {r : D} (h : firstOf_M k c = some r) : Con 45 [.list k c] r := by
  unfold firstOf_M at h
  obtain ⟨j, ds, e1_, h2_⟩ := bindL_elim h
  by_cases j3_ : j = 0
  · have h6_ := (if_pos j3_).symm.trans h2_
    clear h2_
    subst j3_
    obtain ⟨⟨⟩, e4_, h7_⟩ := pullD_elim h6_
    clear h6_
    obtain rfl := tup_inj e4_
    have k5_ := firstOf_L2_in0 k c e1_
    obtain rfl := Option.some.inj h7_
    exact con_pc (op := true) (I := [45]) (sp := firstOf_sp) 3000 [] [.tup [iD (Int.ofNat 0)]] [] [k_l k5_ [] [.tup [iD (Int.ofNat 0)]] []] (by kernel_rfl)
  have h8_ := (if_neg j3_).symm.trans h2_
  clear h2_
  by_cases j9_ : j = 1
  · have h12_ := (if_pos j9_).symm.trans h8_
    clear h8_
    subst j9_
    obtain ⟨l0, e10_, h13_⟩ := pullD_elim h12_
    clear h12_
    obtain rfl := tup_inj e10_
    have k11_ := firstOf_L2_in1 k c e1_
    obtain rfl := Option.some.inj h13_
    exact con_pc (op := true) (I := [45]) (sp := firstOf_sp) 3000 [] [.tup [iD (Int.ofNat 1), iD l0]] [] [k_l k11_ [] [.tup [iD (Int.ofNat 1), iD l0]] []] (by kernel_rfl)
  have h14_ := (if_neg j9_).symm.trans h8_
  clear h8_
  cases h14_
def m_45 (ds : List D) : Option D := pullD (α := Nat × (List D)) (some (.tup ds)) (fun d => ((D.ln (D.at d 0)), (D.lc (D.at d 0)))) (fun (k, c) => .tup [.list k c]) fun (k, c) => firstOf_M k c
theorem m_45_ok {ds : List D} {r : D} (h : m_45 ds = some r) : Con 45 ds r := by
  unfold m_45 at h
  obtain ⟨⟨k, c⟩, e0, h0⟩ := pullD_elim h
  obtain rfl := tup_inj e0
  exact firstOf_M_ok k c h0
theorem m_45_eq (k : Nat) (c : List D) : m_45 [.list k c] = firstOf_M k c := pullD_some (k, c) rfl rfl
def within_sp : List LSpec := []
def within_M (n lo hi : Int) : Option D := (if lo ≤ n then some (.one (.bool (decide (n ≤ hi)))) else some (.one (.bool false)))
theorem within_M_ok (n lo hi : Int) {r : D} (h : within_M n lo hi = some r) : Con 33 [iD n, iD lo, iD hi] r := by
  unfold within_M at h
  by_cases b1_ : lo ≤ n
  · have h2_ := (if_pos b1_).symm.trans h
    obtain rfl := Option.some.inj h2_
    exact con_pc (op := true) (I := [33]) (sp := within_sp) 3000 (bT 4 []) [] [c_d b1_, c_d b1_, c_d b1_, c_d b1_] [] (by kernel_rfl)
  have h2_ := (if_neg b1_).symm.trans h
  obtain rfl := Option.some.inj h2_
  exact con_pc (op := true) (I := [33]) (sp := within_sp) 3000 (bF 4 []) [] [c_n b1_, c_n b1_, c_n b1_, c_n b1_] [] (by kernel_rfl)
def m_33 (ds : List D) : Option D := pullD (α := Int × Int × Int) (some (.tup ds)) (fun d => ((D.vi (D.at d 0)), (D.vi (D.at d 1)), (D.vi (D.at d 2)))) (fun (n, lo, hi) => .tup [iD n, iD lo, iD hi]) fun (n, lo, hi) => within_M n lo hi
theorem m_33_ok {ds : List D} {r : D} (h : m_33 ds = some r) : Con 33 ds r := by
  unfold m_33 at h
  obtain ⟨⟨n, lo, hi⟩, e0, h0⟩ := pullD_elim h
  obtain rfl := tup_inj e0
  exact within_M_ok n lo hi h0
theorem m_33_eq (n lo hi : Int) : m_33 [iD n, iD lo, iD hi] = within_M n lo hi := pullD_some (n, lo, hi) rfl rfl
def chkStep_sp : List LSpec := []
def chkStep_M (n : Int) : Option D := (if n < (1 : Int) then some (iD (2 : Int)) else (if n > (1000000 : Int) then some (iD (2 : Int)) else some (iD (0 : Int))))
theorem chkStep_M_ok (n : Int) {r : D} (h : chkStep_M n = some r) : Con 74 [iD n] r := by
  unfold chkStep_M at h
  by_cases b1_ : n < (1 : Int)
  · have h2_ := (if_pos b1_).symm.trans h
    obtain rfl := Option.some.inj h2_
    exact con_pc (op := true) (I := [74, 90, 101]) (sp := chkStep_sp) 3000 (bT 6 []) [] [c_T, c_d b1_, c_d b1_, c_d b1_, c_d b1_, c_T] [] (by kernel_rfl)
  have h2_ := (if_neg b1_).symm.trans h
  by_cases b3_ : n > (1000000 : Int)
  · have h4_ := (if_pos b3_).symm.trans h2_
    obtain rfl := Option.some.inj h4_
    exact con_pc (op := true) (I := [74, 90, 101]) (sp := chkStep_sp) 3000 (bT 1 (bF 4 (bT 1 []))) [] [c_T, c_n b1_, c_n b1_, c_n b1_, c_n b1_, c_d b3_] [] (by kernel_rfl)
  have h4_ := (if_neg b3_).symm.trans h2_
  obtain rfl := Option.some.inj h4_
  exact con_pc (op := true) (I := [74, 90, 101]) (sp := chkStep_sp) 3000 (bT 1 (bF 6 [])) [] [c_T, c_n b1_, c_n b1_, c_n b1_, c_n b1_, c_n b3_, c_F] [] (by kernel_rfl)
def m_74 (ds : List D) : Option D := pullD (α := Int) (some (.tup ds)) (fun d => ((D.vi (D.at d 0)))) (fun n => .tup [iD n]) fun n => chkStep_M n
theorem m_74_ok {ds : List D} {r : D} (h : m_74 ds = some r) : Con 74 ds r := by
  unfold m_74 at h
  obtain ⟨n, e0, h0⟩ := pullD_elim h
  obtain rfl := tup_inj e0
  exact chkStep_M_ok n h0
theorem m_74_eq (n : Int) : m_74 [iD n] = chkStep_M n := pullD_some n rfl rfl
def divisor_x1_0 : LExit := ⟨some 0, [.val 0], (1 :: (List.range' 5 6))⟩
def divisor_sp : List LSpec := [⟨102, 1, [divisor_x1_0]⟩]
def divisor_L1_E (a b : Int)  : List AV × AHeap := ([.pure (.int .i64 a), .pure (.int .i64 b), .pure (.tuple #[]), .pure (.tuple #[]), .pure (.int .i64 (0 : Int)), .pure (.tuple #[]), .pure (.tuple #[]), .pure (.tuple #[]), .pure (.tuple #[]), .pure (.tuple #[]), .pure (.tuple #[]), .pure (.tuple #[]), .pure (.tuple #[]), .pure (.tuple #[]), .pure (.tuple #[])], [])
def divisor_L1_A : LoopAt := ⟨102, loopAt Try.prog 102 0, 0, 8, 0, noFrame⟩
theorem divisor_L1_ok : (divisor_L1_A).OK := ⟨by show 0 ≤ 8; decide, by show 0 ≤ 0; decide, by kernel_rfl, rfl⟩
def divisor_L1_gs (a b : Int)  : Go.Ev.Rd → Option GS
  | .next 0 ds => ghost [.val 0, .val 1] (List.range' 5 6) (divisor_L1_E a b).1 (divisor_L1_E a b).2 0 ds
  | .out 0 ds => ghost divisor_x1_0.live divisor_x1_0.junk (divisor_L1_E a b).1 (divisor_L1_E a b).2 0 ds
  | _ => none
def divisor_L1_ex : Nat → Option Nat
  | 0 => divisor_x1_0.ex
  | _ => none
def divisor_L1_ax : Go.Ev.Rd → AX
  | .next _ _ => .normal
  | .out j _ => axOf (divisor_L1_ex j)
def divisor_L1_S0 (a b : Int)  (ds : List D) : Option Go.Ev.Rd := pullD (α := Int × Int) (some (.tup ds)) (fun d => ((D.vi (D.at d 0)), (D.vi (D.at d 1)))) (fun (s0, s1) => .tup [iD s0, iD s1]) fun (s0, s1) => ((if s1 ≠ (0 : Int) then some (.next 0 [iD s1, iD (s0.tmod s1)]) else some (.out 0 [iD s0])))
def divisor_L1_S (a b : Int)  : Go.Ev.Rd → Option Go.Ev.Rd
  | .next 0 ds => divisor_L1_S0 a b ds
  | _ => none
theorem divisor_L1_S_ok (a b : Int)  : ∀ s_ t_, divisor_L1_S a b s_ = some t_ → Step (ctx [102] divisor_sp) Tabs divisor_L1_A (stateOf (divisor_L1_gs a b s_)) (stateOf (divisor_L1_gs a b t_)) (divisor_L1_ax t_) ∧ EndOK divisor_L1_A.nx divisor_L1_A.low (divisor_L1_gs a b) t_
  | .next 0 ds, t_, h => by
    have h_ : divisor_L1_S0 a b ds = some t_ := h
    clear h
    unfold divisor_L1_S0 at h_
    obtain ⟨⟨s0, s1⟩, e0, h0⟩ := pullD_elim h_
    clear h_
    obtain rfl := tup_inj e0
    by_cases b1_ : s1 ≠ (0 : Int)
    · have h2_ := (if_pos b1_).symm.trans h0
      obtain rfl := Option.some.inj h2_
      exact ⟨step_pc 3000 (bT 1 []) [] [c_b b1_, c_en b1_] [] _ rfl (by kernel_rfl) (by kernel_rfl) (by kernel_rfl) (by kernel_rfl) (by kernel_rfl) (by kernel_rfl), trivial⟩
    have h2_ := (if_neg b1_).symm.trans h0
    have b3_ : s1 = (0 : Int) := by first | exact b1_ | simpa using b1_
    obtain rfl := Option.some.inj h2_
    exact ⟨step_pc 3000 (bF 1 []) [] [c_bn b3_] [] _ rfl (by kernel_rfl) (by kernel_rfl) (by kernel_rfl) (by kernel_rfl) (by kernel_rfl) (by kernel_rfl), by kernel_rfl, by kernel_rfl⟩
  | .next (_ + 1) _, _, h => by cases h
  | .out _ _, _, h => by cases h
theorem divisor_L1_go (a b : Int)  {q : Nat} {ds : List D} {j : Nat} {es : List D} (h : runR (divisor_L1_S a b) (.next q ds) = some (.out j es)) : Runs (ctx [102] divisor_sp) Tabs divisor_L1_A (stateOf (divisor_L1_gs a b (.next q ds))) (stateOf (divisor_L1_gs a b (.out j es))) (divisor_L1_ax (.out j es)) ∧ (nxtOf (divisor_L1_gs a b (.out j es)), lowGS (divisor_L1_gs a b (.out j es))) = (divisor_L1_A.nx, divisor_L1_A.low) :=
  runs_of' (good true _ _) divisor_L1_ok (ax := divisor_L1_ax) (fun _ _ => rfl) (fun _ _ => axOf_end _) (divisor_L1_S_ok a b) h
theorem divisor_L1_in0 (a b : Int)  {es : List D} (h : runR (divisor_L1_S a b) (.next 0 [iD a, iD b]) = some (.out 0 es)) : LoopC (loopAt Try.prog 102 0) (divisor_L1_E a b) 0 noFrame divisor_x1_0 es :=
  have r := divisor_L1_go a b h
  loopin_as rfl (loop_in (l := divisor_L1_A) (E := (divisor_L1_E a b)) (S := stateOf (divisor_L1_gs a b (.next 0 [iD a, iD b]))) (ns := nsOf (divisor_L1_gs a b (.next 0 [iD a, iD b]))) divisor_L1_ok r.1 r.2 (by kernel_rfl) (by kernel_rfl) (by kernel_rfl) (by kernel_rfl))
def divisor_M (a b : Int) : Option D := bindL (runR (divisor_L1_S a b) (.next 0 [iD a, iD b])) fun j ds => (if j = 0 then pullD (α := Int) (some (.tup ds)) (fun d => ((D.vi (D.at d 0)))) (fun l0 => .tup [iD l0]) fun l0 => (some (iD (if IntKind.i64.wrap ((0 : Int) - l0) > l0 then IntKind.i64.wrap ((0 : Int) - l0) else l0))) else none)
theorem divisor_M_ok (a b : Int) {r : D} (h : divisor_M a b = some r) : Con 102 [iD a, iD b] r := by
  unfold divisor_M at h
  obtain ⟨j, ds, e1_, h2_⟩ := bindL_elim h
  by_cases j3_ : j = 0
  · have h6_ := (if_pos j3_).symm.trans h2_
    clear h2_
    subst j3_
    obtain ⟨l0, e4_, h7_⟩ := pullD_elim h6_
    clear h6_
    obtain rfl := tup_inj e4_
    have k5_ := divisor_L1_in0 a b e1_
    obtain rfl := Option.some.inj h7_
    exact con_pc (op := true) (I := [102]) (sp := divisor_sp) 3000 [] [.tup [iD (Int.ofNat 0), iD l0]] [] [k_l k5_ [] [.tup [iD (Int.ofNat 0), iD l0]] []] (by kernel_rfl)
  have h8_ := (if_neg j3_).symm.trans h2_
  clear h2_
  cases h8_
def m_102 (ds : List D) : Option D := pullD (α := Int × Int) (some (.tup ds)) (fun d => ((D.vi (D.at d 0)), (D.vi (D.at d 1)))) (fun (a, b) => .tup [iD a, iD b]) fun (a, b) => divisor_M a b
theorem m_102_ok {ds : List D} {r : D} (h : m_102 ds = some r) : Con 102 ds r := by
  unfold m_102 at h
  obtain ⟨⟨a, b⟩, e0, h0⟩ := pullD_elim h
  obtain rfl := tup_inj e0
  exact divisor_M_ok a b h0
theorem m_102_eq (a b : Int) : m_102 [iD a, iD b] = divisor_M a b := pullD_some (a, b) rfl rfl
def size_sp : List LSpec := []
def size_M (n : Int) : Option D := some (iD (if IntKind.i64.wrap ((0 : Int) - n) > n then IntKind.i64.wrap ((0 : Int) - n) else n))
theorem size_M_ok (n : Int) {r : D} (h : size_M n = some r) : Con 103 [iD n] r := by
  unfold size_M at h
  obtain rfl := Option.some.inj h
  exact con_pc (op := true) (I := [103]) (sp := size_sp) 3000 [] [] [] [] (by kernel_rfl)
def m_103 (ds : List D) : Option D := pullD (α := Int) (some (.tup ds)) (fun d => ((D.vi (D.at d 0)))) (fun n => .tup [iD n]) fun n => size_M n
theorem m_103_ok {ds : List D} {r : D} (h : m_103 ds = some r) : Con 103 ds r := by
  unfold m_103 at h
  obtain ⟨n, e0, h0⟩ := pullD_elim h
  obtain rfl := tup_inj e0
  exact size_M_ok n h0
theorem m_103_eq (n : Int) : m_103 [iD n] = size_M n := pullD_some n rfl rfl
def gcd_x1_0 : LExit := ⟨some 0, [.val 0], (1 :: (List.range' 5 6))⟩
def gcd_sp : List LSpec := [⟨100, 1, [gcd_x1_0]⟩]
def gcd_L1_E (a b : Int)  : List AV × AHeap := ([.pure (.int .i64 a), .pure (.int .i64 b), .pure (.tuple #[]), .pure (.tuple #[]), .pure (.int .i64 (0 : Int)), .pure (.tuple #[]), .pure (.tuple #[]), .pure (.tuple #[]), .pure (.tuple #[]), .pure (.tuple #[]), .pure (.tuple #[]), .pure (.tuple #[]), .pure (.tuple #[])], [])
def gcd_L1_A : LoopAt := ⟨100, loopAt Try.prog 100 0, 0, 8, 0, noFrame⟩
theorem gcd_L1_ok : (gcd_L1_A).OK := ⟨by show 0 ≤ 8; decide, by show 0 ≤ 0; decide, by kernel_rfl, rfl⟩
def gcd_L1_gs (a b : Int)  : Go.Ev.Rd → Option GS
  | .next 0 ds => ghost [.val 0, .val 1] (List.range' 5 6) (gcd_L1_E a b).1 (gcd_L1_E a b).2 0 ds
  | .out 0 ds => ghost gcd_x1_0.live gcd_x1_0.junk (gcd_L1_E a b).1 (gcd_L1_E a b).2 0 ds
  | _ => none
def gcd_L1_ex : Nat → Option Nat
  | 0 => gcd_x1_0.ex
  | _ => none
def gcd_L1_ax : Go.Ev.Rd → AX
  | .next _ _ => .normal
  | .out j _ => axOf (gcd_L1_ex j)
def gcd_L1_S0 (a b : Int)  (ds : List D) : Option Go.Ev.Rd := pullD (α := Int × Int) (some (.tup ds)) (fun d => ((D.vi (D.at d 0)), (D.vi (D.at d 1)))) (fun (s0, s1) => .tup [iD s0, iD s1]) fun (s0, s1) => ((if s1 ≠ (0 : Int) then some (.next 0 [iD s1, iD (s0.tmod s1)]) else some (.out 0 [iD s0])))
def gcd_L1_S (a b : Int)  : Go.Ev.Rd → Option Go.Ev.Rd
  | .next 0 ds => gcd_L1_S0 a b ds
  | _ => none
theorem gcd_L1_S_ok (a b : Int)  : ∀ s_ t_, gcd_L1_S a b s_ = some t_ → Step (ctx [100] gcd_sp) Tabs gcd_L1_A (stateOf (gcd_L1_gs a b s_)) (stateOf (gcd_L1_gs a b t_)) (gcd_L1_ax t_) ∧ EndOK gcd_L1_A.nx gcd_L1_A.low (gcd_L1_gs a b) t_
  | .next 0 ds, t_, h => by
    have h_ : gcd_L1_S0 a b ds = some t_ := h
    clear h
    unfold gcd_L1_S0 at h_
    obtain ⟨⟨s0, s1⟩, e0, h0⟩ := pullD_elim h_
    clear h_
    obtain rfl := tup_inj e0
    by_cases b1_ : s1 ≠ (0 : Int)
    · have h2_ := (if_pos b1_).symm.trans h0
      obtain rfl := Option.some.inj h2_
      exact ⟨step_pc 3000 (bT 1 []) [] [c_b b1_, c_en b1_] [] _ rfl (by kernel_rfl) (by kernel_rfl) (by kernel_rfl) (by kernel_rfl) (by kernel_rfl) (by kernel_rfl), trivial⟩
    have h2_ := (if_neg b1_).symm.trans h0
    have b3_ : s1 = (0 : Int) := by first | exact b1_ | simpa using b1_
    obtain rfl := Option.some.inj h2_
    exact ⟨step_pc 3000 (bF 1 []) [] [c_bn b3_] [] _ rfl (by kernel_rfl) (by kernel_rfl) (by kernel_rfl) (by kernel_rfl) (by kernel_rfl) (by kernel_rfl), by kernel_rfl, by kernel_rfl⟩
  | .next (_ + 1) _, _, h => by cases h
  | .out _ _, _, h => by cases h
theorem gcd_L1_go (a b : Int)  {q : Nat} {ds : List D} {j : Nat} {es : List D} (h : runR (gcd_L1_S a b) (.next q ds) = some (.out j es)) : Runs (ctx [100] gcd_sp) Tabs gcd_L1_A (stateOf (gcd_L1_gs a b (.next q ds))) (stateOf (gcd_L1_gs a b (.out j es))) (gcd_L1_ax (.out j es)) ∧ (nxtOf (gcd_L1_gs a b (.out j es)), lowGS (gcd_L1_gs a b (.out j es))) = (gcd_L1_A.nx, gcd_L1_A.low) :=
  runs_of' (good true _ _) gcd_L1_ok (ax := gcd_L1_ax) (fun _ _ => rfl) (fun _ _ => axOf_end _) (gcd_L1_S_ok a b) h
theorem gcd_L1_in0 (a b : Int)  {es : List D} (h : runR (gcd_L1_S a b) (.next 0 [iD a, iD b]) = some (.out 0 es)) : LoopC (loopAt Try.prog 100 0) (gcd_L1_E a b) 0 noFrame gcd_x1_0 es :=
  have r := gcd_L1_go a b h
  loopin_as rfl (loop_in (l := gcd_L1_A) (E := (gcd_L1_E a b)) (S := stateOf (gcd_L1_gs a b (.next 0 [iD a, iD b]))) (ns := nsOf (gcd_L1_gs a b (.next 0 [iD a, iD b]))) gcd_L1_ok r.1 r.2 (by kernel_rfl) (by kernel_rfl) (by kernel_rfl) (by kernel_rfl))
def gcd_M (a b : Int) : Option D := bindL (runR (gcd_L1_S a b) (.next 0 [iD a, iD b])) fun j ds => (if j = 0 then pullD (α := Int) (some (.tup ds)) (fun d => ((D.vi (D.at d 0)))) (fun l0 => .tup [iD l0]) fun l0 => (pullD (α := Int) (m_103 [iD l0]) (fun d => ((D.vi d))) (fun r1 => iD r1) fun r1 => (some (iD r1))) else none)
theorem gcd_M_ok (a b : Int) {r : D} (h : gcd_M a b = some r) : Con 100 [iD a, iD b] r := by
  unfold gcd_M at h
  obtain ⟨j, ds, e1_, h2_⟩ := bindL_elim h
  by_cases j3_ : j = 0
  · have h6_ := (if_pos j3_).symm.trans h2_
    clear h2_
    subst j3_
    obtain ⟨l0, e4_, h7_⟩ := pullD_elim h6_
    clear h6_
    obtain rfl := tup_inj e4_
    have k5_ := gcd_L1_in0 a b e1_
    obtain ⟨r1, f8_, h9_⟩ := pullD_elim h7_
    replace f8_ := m_103_ok f8_
    obtain rfl := Option.some.inj h9_
    exact con_pc (op := true) (I := [100]) (sp := gcd_sp) 3000 [] [.tup [iD (Int.ofNat 0), iD l0], iD r1] [] [k_l k5_ [] [.tup [iD (Int.ofNat 0), iD l0], iD r1] [iD r1], k_c f8_] (by kernel_rfl)
  have h10_ := (if_neg j3_).symm.trans h2_
  clear h2_
  cases h10_
def m_100 (ds : List D) : Option D := pullD (α := Int × Int) (some (.tup ds)) (fun d => ((D.vi (D.at d 0)), (D.vi (D.at d 1)))) (fun (a, b) => .tup [iD a, iD b]) fun (a, b) => gcd_M a b
theorem m_100_ok {ds : List D} {r : D} (h : m_100 ds = some r) : Con 100 ds r := by
  unfold m_100 at h
  obtain ⟨⟨a, b⟩, e0, h0⟩ := pullD_elim h
  obtain rfl := tup_inj e0
  exact gcd_M_ok a b h0
theorem m_100_eq (a b : Int) : m_100 [iD a, iD b] = gcd_M a b := pullD_some (a, b) rfl rfl
def isLowest_sp : List LSpec := []
def isLowest_M (n d : Int) : Option D := (if d > (0 : Int) then pullD (α := Int) (m_100 [iD n, iD d]) (fun d => ((D.vi d))) (fun r0 => iD r0) fun r0 => (some (.one (.bool (r0 == (1 : Int))))) else some (.one (.bool false)))
theorem isLowest_M_ok (n d : Int) {r : D} (h : isLowest_M n d = some r) : Con 97 [.agg [iD n, iD d]] r := by
  unfold isLowest_M at h
  by_cases b1_ : d > (0 : Int)
  · have h2_ := (if_pos b1_).symm.trans h
    obtain ⟨r0, f3_, h4_⟩ := pullD_elim h2_
    replace f3_ := m_100_ok f3_
    obtain rfl := Option.some.inj h4_
    exact con_pc (op := true) (I := [97]) (sp := isLowest_sp) 3000 (bT 7 []) [iD r0] [c_d b1_, c_d b1_, c_d b1_, c_d b1_, c_d b1_, c_d b1_, c_d b1_] [k_c f3_] (by kernel_rfl)
  have h2_ := (if_neg b1_).symm.trans h
  obtain rfl := Option.some.inj h2_
  exact con_pc (op := true) (I := [97]) (sp := isLowest_sp) 3000 (bF 7 []) [] [c_n b1_, c_n b1_, c_n b1_, c_n b1_, c_n b1_, c_n b1_, c_n b1_] [] (by kernel_rfl)
def m_97 (ds : List D) : Option D := pullD (α := Int × Int) (some (.tup ds)) (fun d => ((D.vi (D.at (D.at d 0) 0)), (D.vi (D.at (D.at d 0) 1)))) (fun (n, d) => .tup [.agg [iD n, iD d]]) fun (n, d) => isLowest_M n d
theorem m_97_ok {ds : List D} {r : D} (h : m_97 ds = some r) : Con 97 ds r := by
  unfold m_97 at h
  obtain ⟨⟨n, d⟩, e0, h0⟩ := pullD_elim h
  obtain rfl := tup_inj e0
  exact isLowest_M_ok n d h0
theorem m_97_eq (n d : Int) : m_97 [.agg [iD n, iD d]] = isLowest_M n d := pullD_some (n, d) rfl rfl
def isReduced_sp : List LSpec := []
def isReduced_M (n d : Int) : Option D := (if d > (0 : Int) then pullD (α := Int) (m_102 [iD n, iD d]) (fun d => ((D.vi d))) (fun r0 => iD r0) fun r0 => (some (.one (.bool (r0 == (1 : Int))))) else some (.one (.bool false)))
theorem isReduced_M_ok (n d : Int) {r : D} (h : isReduced_M n d = some r) : Con 94 [.agg [iD n, iD d]] r := by
  unfold isReduced_M at h
  by_cases b1_ : d > (0 : Int)
  · have h2_ := (if_pos b1_).symm.trans h
    obtain ⟨r0, f3_, h4_⟩ := pullD_elim h2_
    replace f3_ := m_102_ok f3_
    obtain rfl := Option.some.inj h4_
    exact con_pc (op := true) (I := [94]) (sp := isReduced_sp) 3000 (bT 7 []) [iD r0] [c_d b1_, c_d b1_, c_d b1_, c_d b1_, c_d b1_, c_d b1_, c_d b1_] [k_c f3_] (by kernel_rfl)
  have h2_ := (if_neg b1_).symm.trans h
  obtain rfl := Option.some.inj h2_
  exact con_pc (op := true) (I := [94]) (sp := isReduced_sp) 3000 (bF 7 []) [] [c_n b1_, c_n b1_, c_n b1_, c_n b1_, c_n b1_, c_n b1_, c_n b1_] [] (by kernel_rfl)
def m_94 (ds : List D) : Option D := pullD (α := Int × Int) (some (.tup ds)) (fun d => ((D.vi (D.at (D.at d 0) 0)), (D.vi (D.at (D.at d 0) 1)))) (fun (n, d) => .tup [.agg [iD n, iD d]]) fun (n, d) => isReduced_M n d
theorem m_94_ok {ds : List D} {r : D} (h : m_94 ds = some r) : Con 94 ds r := by
  unfold m_94 at h
  obtain ⟨⟨n, d⟩, e0, h0⟩ := pullD_elim h
  obtain rfl := tup_inj e0
  exact isReduced_M_ok n d h0
theorem m_94_eq (n d : Int) : m_94 [.agg [iD n, iD d]] = isReduced_M n d := pullD_some (n, d) rfl rfl
def isLess_sp : List LSpec := []
def isLess_M (n d m e : Int) : Option D := some (.one (.bool (decide (IntKind.i64.wrap (n * e) < IntKind.i64.wrap (m * d)))))
theorem isLess_M_ok (n d m e : Int) {r : D} (h : isLess_M n d m e = some r) : Con 95 [.agg [iD n, iD d], .agg [iD m, iD e]] r := by
  unfold isLess_M at h
  obtain rfl := Option.some.inj h
  exact con_pc (op := true) (I := [95]) (sp := isLess_sp) 3000 [] [] [] [] (by kernel_rfl)
def m_95 (ds : List D) : Option D := pullD (α := Int × Int × Int × Int) (some (.tup ds)) (fun d => ((D.vi (D.at (D.at d 0) 0)), (D.vi (D.at (D.at d 0) 1)), (D.vi (D.at (D.at d 1) 0)), (D.vi (D.at (D.at d 1) 1)))) (fun (n, d, m, e) => .tup [.agg [iD n, iD d], .agg [iD m, iD e]]) fun (n, d, m, e) => isLess_M n d m e
theorem m_95_ok {ds : List D} {r : D} (h : m_95 ds = some r) : Con 95 ds r := by
  unfold m_95 at h
  obtain ⟨⟨n, d, m, e⟩, e0, h0⟩ := pullD_elim h
  obtain rfl := tup_inj e0
  exact isLess_M_ok n d m e h0
theorem m_95_eq (n d m e : Int) : m_95 [.agg [iD n, iD d], .agg [iD m, iD e]] = isLess_M n d m e := pullD_some (n, d, m, e) rfl rfl
def cmpI_sp : List LSpec := []
def cmpI_M (n d m e : Int) : Option D := (if IntKind.i64.wrap (n * e) < IntKind.i64.wrap (m * d) then some (iD (-1 : Int)) else (if IntKind.i64.wrap (n * e) > IntKind.i64.wrap (m * d) then some (iD (1 : Int)) else some (iD (0 : Int))))
theorem cmpI_M_ok (n d m e : Int) {r : D} (h : cmpI_M n d m e = some r) : Con 39 [.agg [iD n, iD d], .agg [iD m, iD e]] r := by
  unfold cmpI_M at h
  by_cases b1_ : IntKind.i64.wrap (n * e) < IntKind.i64.wrap (m * d)
  · have h2_ := (if_pos b1_).symm.trans h
    obtain rfl := Option.some.inj h2_
    exact con_pc (op := true) (I := [39]) (sp := cmpI_sp) 3000 (bT 1 []) [] [c_d b1_] [] (by kernel_rfl)
  have h2_ := (if_neg b1_).symm.trans h
  by_cases b3_ : IntKind.i64.wrap (n * e) > IntKind.i64.wrap (m * d)
  · have h4_ := (if_pos b3_).symm.trans h2_
    obtain rfl := Option.some.inj h4_
    exact con_pc (op := true) (I := [39]) (sp := cmpI_sp) 3000 (bF 1 (bT 1 [])) [] [c_n b1_, c_d b3_] [] (by kernel_rfl)
  have h4_ := (if_neg b3_).symm.trans h2_
  obtain rfl := Option.some.inj h4_
  exact con_pc (op := true) (I := [39]) (sp := cmpI_sp) 3000 (bF 2 []) [] [c_n b1_, c_n b3_] [] (by kernel_rfl)
def m_39 (ds : List D) : Option D := pullD (α := Int × Int × Int × Int) (some (.tup ds)) (fun d => ((D.vi (D.at (D.at d 0) 0)), (D.vi (D.at (D.at d 0) 1)), (D.vi (D.at (D.at d 1) 0)), (D.vi (D.at (D.at d 1) 1)))) (fun (n, d, m, e) => .tup [.agg [iD n, iD d], .agg [iD m, iD e]]) fun (n, d, m, e) => cmpI_M n d m e
theorem m_39_ok {ds : List D} {r : D} (h : m_39 ds = some r) : Con 39 ds r := by
  unfold m_39 at h
  obtain ⟨⟨n, d, m, e⟩, e0, h0⟩ := pullD_elim h
  obtain rfl := tup_inj e0
  exact cmpI_M_ok n d m e h0
theorem m_39_eq (n d m e : Int) : m_39 [.agg [iD n, iD d], .agg [iD m, iD e]] = cmpI_M n d m e := pullD_some (n, d, m, e) rfl rfl
def chkError_sp : List LSpec := []
def chkError_M (n : Int) : Option D := (if n < (0 : Int) then some (iD (2 : Int)) else (if n > (100 : Int) then some (iD (2 : Int)) else some (iD (0 : Int))))
theorem chkError_M_ok (n : Int) {r : D} (h : chkError_M n = some r) : Con 69 [iD n] r := by
  unfold chkError_M at h
  by_cases b1_ : n < (0 : Int)
  · have h2_ := (if_pos b1_).symm.trans h
    obtain rfl := Option.some.inj h2_
    exact con_pc (op := true) (I := [69, 90, 101]) (sp := chkError_sp) 3000 (bT 6 []) [] [c_T, c_d b1_, c_d b1_, c_d b1_, c_d b1_, c_T] [] (by kernel_rfl)
  have h2_ := (if_neg b1_).symm.trans h
  by_cases b3_ : n > (100 : Int)
  · have h4_ := (if_pos b3_).symm.trans h2_
    obtain rfl := Option.some.inj h4_
    exact con_pc (op := true) (I := [69, 90, 101]) (sp := chkError_sp) 3000 (bT 1 (bF 4 (bT 1 []))) [] [c_T, c_n b1_, c_n b1_, c_n b1_, c_n b1_, c_d b3_] [] (by kernel_rfl)
  have h4_ := (if_neg b3_).symm.trans h2_
  obtain rfl := Option.some.inj h4_
  exact con_pc (op := true) (I := [69, 90, 101]) (sp := chkError_sp) 3000 (bT 1 (bF 6 [])) [] [c_T, c_n b1_, c_n b1_, c_n b1_, c_n b1_, c_n b3_, c_F] [] (by kernel_rfl)
def m_69 (ds : List D) : Option D := pullD (α := Int) (some (.tup ds)) (fun d => ((D.vi (D.at d 0)))) (fun n => .tup [iD n]) fun n => chkError_M n
theorem m_69_ok {ds : List D} {r : D} (h : m_69 ds = some r) : Con 69 ds r := by
  unfold m_69 at h
  obtain ⟨n, e0, h0⟩ := pullD_elim h
  obtain rfl := tup_inj e0
  exact chkError_M_ok n h0
theorem m_69_eq (n : Int) : m_69 [iD n] = chkError_M n := pullD_some n rfl rfl
def chkFactor_sp : List LSpec := []
def chkFactor_M (p q u v : Int) : Option D := pullD (α := Bool) (m_94 [.agg [iD p, iD q]]) (fun d => ((D.vb d))) (fun r0 => .one (.bool r0)) fun r0 => ((if r0 = false then some (iD (3 : Int)) else pullD (α := Bool) (m_94 [.agg [iD u, iD v]]) (fun d => ((D.vb d))) (fun r1 => .one (.bool r1)) fun r1 => ((if r1 = false then some (iD (3 : Int)) else (if p < (1 : Int) then some (iD (2 : Int)) else (if p > (1000 : Int) then some (iD (2 : Int)) else (if q < (1 : Int) then some (iD (2 : Int)) else (if q > (1000 : Int) then some (iD (2 : Int)) else (if u < (1 : Int) then some (iD (2 : Int)) else (if u > (1000 : Int) then some (iD (2 : Int)) else (if v < (1 : Int) then some (iD (2 : Int)) else (if v > (1000 : Int) then some (iD (2 : Int)) else pullD (α := Bool) (m_95 [.agg [iD u, iD v], .agg [iD p, iD q]]) (fun d => ((D.vb d))) (fun r2 => .one (.bool r2)) fun r2 => ((if (r2) = true then some (iD (9 : Int)) else some (iD (0 : Int))))))))))))))))
theorem chkFactor_M_ok (p q u v : Int) {r : D} (h : chkFactor_M p q u v = some r) : Con 73 [(shNL1_0 p q u v)] r := by
  unfold chkFactor_M at h
  obtain ⟨r0, f1_, h2_⟩ := pullD_elim h
  replace f1_ := m_94_ok f1_
  by_cases b3_ : r0 = false
  · have h4_ := (if_pos b3_).symm.trans h2_
    obtain rfl := Option.some.inj h4_
    exact con_pc (op := true) (I := [73, 90, 101]) (sp := chkFactor_sp) 3000 (bT 2 []) [.one (.bool r0)] [c_T, c_no b3_] [k_c f1_] (by kernel_rfl)
  have h4_ := (if_neg b3_).symm.trans h2_
  have b5_ : r0 = true := by first | exact b3_ | simpa using b3_
  obtain ⟨r1, f6_, h7_⟩ := pullD_elim h4_
  replace f6_ := m_94_ok f6_
  by_cases b8_ : r1 = false
  · have h9_ := (if_pos b8_).symm.trans h7_
    obtain rfl := Option.some.inj h9_
    exact con_pc (op := true) (I := [73, 90, 101]) (sp := chkFactor_sp) 3000 (bT 1 (bF 1 (bT 2 []))) [.one (.bool r0), .one (.bool r1)] [c_T, c_nn b5_, c_T, c_no b8_] [k_c f1_, k_c f6_] (by kernel_rfl)
  have h9_ := (if_neg b8_).symm.trans h7_
  have b10_ : r1 = true := by first | exact b8_ | simpa using b8_
  by_cases b11_ : p < (1 : Int)
  · have h12_ := (if_pos b11_).symm.trans h9_
    obtain rfl := Option.some.inj h12_
    exact con_pc (op := true) (I := [73, 90, 101]) (sp := chkFactor_sp) 3000 (bT 1 (bF 1 (bT 1 (bF 2 (bT 8 []))))) [.one (.bool r0), .one (.bool r1)] [c_T, c_nn b5_, c_T, c_nn b10_, c_F, c_T, c_T, c_d b11_, c_d b11_, c_d b11_, c_d b11_, c_T, c_T] [k_c f1_, k_c f6_] (by kernel_rfl)
  have h12_ := (if_neg b11_).symm.trans h9_
  by_cases b13_ : p > (1000 : Int)
  · have h14_ := (if_pos b13_).symm.trans h12_
    obtain rfl := Option.some.inj h14_
    exact con_pc (op := true) (I := [73, 90, 101]) (sp := chkFactor_sp) 3000 (bT 1 (bF 1 (bT 1 (bF 2 (bT 2 (bF 4 (bT 2 []))))))) [.one (.bool r0), .one (.bool r1)] [c_T, c_nn b5_, c_T, c_nn b10_, c_F, c_T, c_T, c_n b11_, c_n b11_, c_n b11_, c_n b11_, c_d b13_, c_T] [k_c f1_, k_c f6_] (by kernel_rfl)
  have h14_ := (if_neg b13_).symm.trans h12_
  by_cases b15_ : q < (1 : Int)
  · have h16_ := (if_pos b15_).symm.trans h14_
    obtain rfl := Option.some.inj h16_
    exact con_pc (op := true) (I := [73, 90, 101]) (sp := chkFactor_sp) 3000 (bT 1 (bF 1 (bT 1 (bF 2 (bT 2 (bF 5 (bT 7 []))))))) [.one (.bool r0), .one (.bool r1)] [c_T, c_nn b5_, c_T, c_nn b10_, c_F, c_T, c_T, c_n b11_, c_n b11_, c_n b11_, c_n b11_, c_n b13_, c_T, c_d b15_, c_d b15_, c_d b15_, c_d b15_, c_T, c_T] [k_c f1_, k_c f6_] (by kernel_rfl)
  have h16_ := (if_neg b15_).symm.trans h14_
  by_cases b17_ : q > (1000 : Int)
  · have h18_ := (if_pos b17_).symm.trans h16_
    obtain rfl := Option.some.inj h18_
    exact con_pc (op := true) (I := [73, 90, 101]) (sp := chkFactor_sp) 3000 (bT 1 (bF 1 (bT 1 (bF 2 (bT 2 (bF 5 (bT 1 (bF 4 (bT 2 []))))))))) [.one (.bool r0), .one (.bool r1)] [c_T, c_nn b5_, c_T, c_nn b10_, c_F, c_T, c_T, c_n b11_, c_n b11_, c_n b11_, c_n b11_, c_n b13_, c_T, c_n b15_, c_n b15_, c_n b15_, c_n b15_, c_d b17_, c_T] [k_c f1_, k_c f6_] (by kernel_rfl)
  have h18_ := (if_neg b17_).symm.trans h16_
  by_cases b19_ : u < (1 : Int)
  · have h20_ := (if_pos b19_).symm.trans h18_
    obtain rfl := Option.some.inj h20_
    exact con_pc (op := true) (I := [73, 90, 101]) (sp := chkFactor_sp) 3000 (bT 1 (bF 1 (bT 1 (bF 2 (bT 2 (bF 5 (bT 1 (bF 7 (bT 8 []))))))))) [.one (.bool r0), .one (.bool r1)] [c_T, c_nn b5_, c_T, c_nn b10_, c_F, c_T, c_T, c_n b11_, c_n b11_, c_n b11_, c_n b11_, c_n b13_, c_T, c_n b15_, c_n b15_, c_n b15_, c_n b15_, c_n b17_, c_F, c_F, c_T, c_T, c_d b19_, c_d b19_, c_d b19_, c_d b19_, c_T, c_T] [k_c f1_, k_c f6_] (by kernel_rfl)
  have h20_ := (if_neg b19_).symm.trans h18_
  by_cases b21_ : u > (1000 : Int)
  · have h22_ := (if_pos b21_).symm.trans h20_
    obtain rfl := Option.some.inj h22_
    exact con_pc (op := true) (I := [73, 90, 101]) (sp := chkFactor_sp) 3000 (bT 1 (bF 1 (bT 1 (bF 2 (bT 2 (bF 5 (bT 1 (bF 7 (bT 2 (bF 4 (bT 2 []))))))))))) [.one (.bool r0), .one (.bool r1)] [c_T, c_nn b5_, c_T, c_nn b10_, c_F, c_T, c_T, c_n b11_, c_n b11_, c_n b11_, c_n b11_, c_n b13_, c_T, c_n b15_, c_n b15_, c_n b15_, c_n b15_, c_n b17_, c_F, c_F, c_T, c_T, c_n b19_, c_n b19_, c_n b19_, c_n b19_, c_d b21_, c_T] [k_c f1_, k_c f6_] (by kernel_rfl)
  have h22_ := (if_neg b21_).symm.trans h20_
  by_cases b23_ : v < (1 : Int)
  · have h24_ := (if_pos b23_).symm.trans h22_
    obtain rfl := Option.some.inj h24_
    exact con_pc (op := true) (I := [73, 90, 101]) (sp := chkFactor_sp) 3000 (bT 1 (bF 1 (bT 1 (bF 2 (bT 2 (bF 5 (bT 1 (bF 7 (bT 2 (bF 5 (bT 7 []))))))))))) [.one (.bool r0), .one (.bool r1)] [c_T, c_nn b5_, c_T, c_nn b10_, c_F, c_T, c_T, c_n b11_, c_n b11_, c_n b11_, c_n b11_, c_n b13_, c_T, c_n b15_, c_n b15_, c_n b15_, c_n b15_, c_n b17_, c_F, c_F, c_T, c_T, c_n b19_, c_n b19_, c_n b19_, c_n b19_, c_n b21_, c_T, c_d b23_, c_d b23_, c_d b23_, c_d b23_, c_T, c_T] [k_c f1_, k_c f6_] (by kernel_rfl)
  have h24_ := (if_neg b23_).symm.trans h22_
  by_cases b25_ : v > (1000 : Int)
  · have h26_ := (if_pos b25_).symm.trans h24_
    obtain rfl := Option.some.inj h26_
    exact con_pc (op := true) (I := [73, 90, 101]) (sp := chkFactor_sp) 3000 (bT 1 (bF 1 (bT 1 (bF 2 (bT 2 (bF 5 (bT 1 (bF 7 (bT 2 (bF 5 (bT 1 (bF 4 (bT 2 []))))))))))))) [.one (.bool r0), .one (.bool r1)] [c_T, c_nn b5_, c_T, c_nn b10_, c_F, c_T, c_T, c_n b11_, c_n b11_, c_n b11_, c_n b11_, c_n b13_, c_T, c_n b15_, c_n b15_, c_n b15_, c_n b15_, c_n b17_, c_F, c_F, c_T, c_T, c_n b19_, c_n b19_, c_n b19_, c_n b19_, c_n b21_, c_T, c_n b23_, c_n b23_, c_n b23_, c_n b23_, c_d b25_, c_T] [k_c f1_, k_c f6_] (by kernel_rfl)
  have h26_ := (if_neg b25_).symm.trans h24_
  obtain ⟨r2, f27_, h28_⟩ := pullD_elim h26_
  replace f27_ := m_95_ok f27_
  by_cases b29_ : (r2) = true
  · have h30_ := (if_pos b29_).symm.trans h28_
    obtain rfl := Option.some.inj h30_
    exact con_pc (op := true) (I := [73, 90, 101]) (sp := chkFactor_sp) 3000 (bT 1 (bF 1 (bT 1 (bF 2 (bT 2 (bF 5 (bT 1 (bF 7 (bT 2 (bF 5 (bT 1 (bF 8 (bT 1 []))))))))))))) [.one (.bool r0), .one (.bool r1), .one (.bool r2)] [c_T, c_nn b5_, c_T, c_nn b10_, c_F, c_T, c_T, c_n b11_, c_n b11_, c_n b11_, c_n b11_, c_n b13_, c_T, c_n b15_, c_n b15_, c_n b15_, c_n b15_, c_n b17_, c_F, c_F, c_T, c_T, c_n b19_, c_n b19_, c_n b19_, c_n b19_, c_n b21_, c_T, c_n b23_, c_n b23_, c_n b23_, c_n b23_, c_n b25_, c_F, c_F, c_F, c_q b29_] [k_c f1_, k_c f6_, k_c f27_] (by kernel_rfl)
  have h30_ := (if_neg b29_).symm.trans h28_
  have b31_ : (r2) = false := by first | exact b29_ | simpa using b29_
  obtain rfl := Option.some.inj h30_
  exact con_pc (op := true) (I := [73, 90, 101]) (sp := chkFactor_sp) 3000 (bT 1 (bF 1 (bT 1 (bF 2 (bT 2 (bF 5 (bT 1 (bF 7 (bT 2 (bF 5 (bT 1 (bF 9 [])))))))))))) [.one (.bool r0), .one (.bool r1), .one (.bool r2)] [c_T, c_nn b5_, c_T, c_nn b10_, c_F, c_T, c_T, c_n b11_, c_n b11_, c_n b11_, c_n b11_, c_n b13_, c_T, c_n b15_, c_n b15_, c_n b15_, c_n b15_, c_n b17_, c_F, c_F, c_T, c_T, c_n b19_, c_n b19_, c_n b19_, c_n b19_, c_n b21_, c_T, c_n b23_, c_n b23_, c_n b23_, c_n b23_, c_n b25_, c_F, c_F, c_F, c_q b31_] [k_c f1_, k_c f6_, k_c f27_] (by kernel_rfl)
def m_73 (ds : List D) : Option D := pullD (α := Int × Int × Int × Int) (some (.tup ds)) (fun d => ((D.vi (D.at (D.at d 0) 0)), (D.vi (D.at (D.at d 0) 1)), (D.vi (D.at (D.at d 0) 2)), (D.vi (D.at (D.at d 0) 3)))) (fun (p, q, u, v) => .tup [(shNL1_0 p q u v)]) fun (p, q, u, v) => chkFactor_M p q u v
theorem m_73_ok {ds : List D} {r : D} (h : m_73 ds = some r) : Con 73 ds r := by
  unfold m_73 at h
  obtain ⟨⟨p, q, u, v⟩, e0, h0⟩ := pullD_elim h
  obtain rfl := tup_inj e0
  exact chkFactor_M_ok p q u v h0
theorem m_73_eq (p q u v : Int) : m_73 [(shNL1_0 p q u v)] = chkFactor_M p q u v := pullD_some (p, q, u, v) rfl rfl
def facErr_sp : List LSpec := []
def facErr_M (p q u v : Int) : Option D := pullD (α := Bool) (m_97 [.agg [iD p, iD q]]) (fun d => ((D.vb d))) (fun r0 => .one (.bool r0)) fun r0 => ((if r0 = false then some (iD (3 : Int)) else pullD (α := Bool) (m_97 [.agg [iD u, iD v]]) (fun d => ((D.vb d))) (fun r1 => .one (.bool r1)) fun r1 => ((if r1 = false then some (iD (3 : Int)) else pullD (α := Bool) (m_33 [iD p, iD (1 : Int), iD (1000 : Int)]) (fun d => ((D.vb d))) (fun r2 => .one (.bool r2)) fun r2 => ((if r2 = false then some (iD (2 : Int)) else pullD (α := Bool) (m_33 [iD u, iD (1 : Int), iD (1000 : Int)]) (fun d => ((D.vb d))) (fun r3 => .one (.bool r3)) fun r3 => ((if r3 = false then some (iD (2 : Int)) else (if q > (1000 : Int) then some (iD (2 : Int)) else (if v > (1000 : Int) then some (iD (2 : Int)) else pullD (α := Int) (m_39 [.agg [iD p, iD q], .agg [iD u, iD v]]) (fun d => ((D.vi d))) (fun r4 => iD r4) fun r4 => ((if r4 > (0 : Int) then some (iD (9 : Int)) else some (iD (0 : Int))))))))))))))
theorem facErr_M_ok (p q u v : Int) {r : D} (h : facErr_M p q u v = some r) : Con 83 [(shNL1_0 p q u v)] r := by
  unfold facErr_M at h
  obtain ⟨r0, f1_, h2_⟩ := pullD_elim h
  replace f1_ := m_97_ok f1_
  by_cases b3_ : r0 = false
  · have h4_ := (if_pos b3_).symm.trans h2_
    obtain rfl := Option.some.inj h4_
    exact con_pc (op := true) (I := [83]) (sp := facErr_sp) 3000 (bT 6 []) [.one (.bool r0)] [c_no b3_, c_no b3_, c_no b3_, c_no b3_, c_no b3_, c_T] [k_c f1_] (by kernel_rfl)
  have h4_ := (if_neg b3_).symm.trans h2_
  have b5_ : r0 = true := by first | exact b3_ | simpa using b3_
  obtain ⟨r1, f6_, h7_⟩ := pullD_elim h4_
  replace f6_ := m_97_ok f6_
  by_cases b8_ : r1 = false
  · have h9_ := (if_pos b8_).symm.trans h7_
    obtain rfl := Option.some.inj h9_
    exact con_pc (op := true) (I := [83]) (sp := facErr_sp) 3000 (bF 5 (bT 1 [])) [.one (.bool r0), .one (.bool r1)] [c_nn b5_, c_nn b5_, c_nn b5_, c_nn b5_, c_nn b5_, c_no b8_] [k_c f1_, k_c f6_] (by kernel_rfl)
  have h9_ := (if_neg b8_).symm.trans h7_
  have b10_ : r1 = true := by first | exact b8_ | simpa using b8_
  obtain ⟨r2, f11_, h12_⟩ := pullD_elim h9_
  replace f11_ := m_33_ok f11_
  by_cases b13_ : r2 = false
  · have h14_ := (if_pos b13_).symm.trans h12_
    obtain rfl := Option.some.inj h14_
    exact con_pc (op := true) (I := [83]) (sp := facErr_sp) 3000 (bF 6 (bT 17 [])) [.one (.bool r0), .one (.bool r1), .one (.bool r2)] [c_nn b5_, c_nn b5_, c_nn b5_, c_nn b5_, c_nn b5_, c_nn b10_, c_no b13_, c_no b13_, c_no b13_, c_no b13_, c_no b13_, c_no b13_, c_T, c_T, c_T, c_T, c_T, c_T, c_T, c_T, c_T, c_T, c_T] [k_c f1_, k_c f6_, k_c f11_] (by kernel_rfl)
  have h14_ := (if_neg b13_).symm.trans h12_
  have b15_ : r2 = true := by first | exact b13_ | simpa using b13_
  obtain ⟨r3, f16_, h17_⟩ := pullD_elim h14_
  replace f16_ := m_33_ok f16_
  by_cases b18_ : r3 = false
  · have h19_ := (if_pos b18_).symm.trans h17_
    obtain rfl := Option.some.inj h19_
    exact con_pc (op := true) (I := [83]) (sp := facErr_sp) 3000 (bF 12 (bT 11 [])) [.one (.bool r0), .one (.bool r1), .one (.bool r2), .one (.bool r3)] [c_nn b5_, c_nn b5_, c_nn b5_, c_nn b5_, c_nn b5_, c_nn b10_, c_nn b15_, c_nn b15_, c_nn b15_, c_nn b15_, c_nn b15_, c_nn b15_, c_no b18_, c_no b18_, c_no b18_, c_no b18_, c_no b18_, c_T, c_T, c_T, c_T, c_T, c_T] [k_c f1_, k_c f6_, k_c f11_, k_c f16_] (by kernel_rfl)
  have h19_ := (if_neg b18_).symm.trans h17_
  have b20_ : r3 = true := by first | exact b18_ | simpa using b18_
  by_cases b21_ : q > (1000 : Int)
  · have h22_ := (if_pos b21_).symm.trans h19_
    obtain rfl := Option.some.inj h22_
    exact con_pc (op := true) (I := [83]) (sp := facErr_sp) 3000 (bF 17 (bT 6 [])) [.one (.bool r0), .one (.bool r1), .one (.bool r2), .one (.bool r3)] [c_nn b5_, c_nn b5_, c_nn b5_, c_nn b5_, c_nn b5_, c_nn b10_, c_nn b15_, c_nn b15_, c_nn b15_, c_nn b15_, c_nn b15_, c_nn b15_, c_nn b20_, c_nn b20_, c_nn b20_, c_nn b20_, c_nn b20_, c_d b21_, c_d b21_, c_d b21_, c_d b21_, c_d b21_, c_T] [k_c f1_, k_c f6_, k_c f11_, k_c f16_] (by kernel_rfl)
  have h22_ := (if_neg b21_).symm.trans h19_
  by_cases b23_ : v > (1000 : Int)
  · have h24_ := (if_pos b23_).symm.trans h22_
    obtain rfl := Option.some.inj h24_
    exact con_pc (op := true) (I := [83]) (sp := facErr_sp) 3000 (bF 22 (bT 1 [])) [.one (.bool r0), .one (.bool r1), .one (.bool r2), .one (.bool r3)] [c_nn b5_, c_nn b5_, c_nn b5_, c_nn b5_, c_nn b5_, c_nn b10_, c_nn b15_, c_nn b15_, c_nn b15_, c_nn b15_, c_nn b15_, c_nn b15_, c_nn b20_, c_nn b20_, c_nn b20_, c_nn b20_, c_nn b20_, c_n b21_, c_n b21_, c_n b21_, c_n b21_, c_n b21_, c_d b23_] [k_c f1_, k_c f6_, k_c f11_, k_c f16_] (by kernel_rfl)
  have h24_ := (if_neg b23_).symm.trans h22_
  obtain ⟨r4, f25_, h26_⟩ := pullD_elim h24_
  replace f25_ := m_39_ok f25_
  by_cases b27_ : r4 > (0 : Int)
  · have h28_ := (if_pos b27_).symm.trans h26_
    obtain rfl := Option.some.inj h28_
    exact con_pc (op := true) (I := [83]) (sp := facErr_sp) 3000 (bF 23 (bT 1 [])) [.one (.bool r0), .one (.bool r1), .one (.bool r2), .one (.bool r3), iD r4] [c_nn b5_, c_nn b5_, c_nn b5_, c_nn b5_, c_nn b5_, c_nn b10_, c_nn b15_, c_nn b15_, c_nn b15_, c_nn b15_, c_nn b15_, c_nn b15_, c_nn b20_, c_nn b20_, c_nn b20_, c_nn b20_, c_nn b20_, c_n b21_, c_n b21_, c_n b21_, c_n b21_, c_n b21_, c_n b23_, c_d b27_] [k_c f1_, k_c f6_, k_c f11_, k_c f16_, k_c f25_] (by kernel_rfl)
  have h28_ := (if_neg b27_).symm.trans h26_
  obtain rfl := Option.some.inj h28_
  exact con_pc (op := true) (I := [83]) (sp := facErr_sp) 3000 (bF 24 []) [.one (.bool r0), .one (.bool r1), .one (.bool r2), .one (.bool r3), iD r4] [c_nn b5_, c_nn b5_, c_nn b5_, c_nn b5_, c_nn b5_, c_nn b10_, c_nn b15_, c_nn b15_, c_nn b15_, c_nn b15_, c_nn b15_, c_nn b15_, c_nn b20_, c_nn b20_, c_nn b20_, c_nn b20_, c_nn b20_, c_n b21_, c_n b21_, c_n b21_, c_n b21_, c_n b21_, c_n b23_, c_n b27_] [k_c f1_, k_c f6_, k_c f11_, k_c f16_, k_c f25_] (by kernel_rfl)
def m_83 (ds : List D) : Option D := pullD (α := Int × Int × Int × Int) (some (.tup ds)) (fun d => ((D.vi (D.at (D.at d 0) 0)), (D.vi (D.at (D.at d 0) 1)), (D.vi (D.at (D.at d 0) 2)), (D.vi (D.at (D.at d 0) 3)))) (fun (p, q, u, v) => .tup [(shNL1_0 p q u v)]) fun (p, q, u, v) => facErr_M p q u v
theorem m_83_ok {ds : List D} {r : D} (h : m_83 ds = some r) : Con 83 ds r := by
  unfold m_83 at h
  obtain ⟨⟨p, q, u, v⟩, e0, h0⟩ := pullD_elim h
  obtain rfl := tup_inj e0
  exact facErr_M_ok p q u v h0
theorem m_83_eq (p q u v : Int) : m_83 [(shNL1_0 p q u v)] = facErr_M p q u v := pullD_some (p, q, u, v) rfl rfl
def chkRules_x7_0 : LExit := ⟨some 0, [], (2 :: (5 :: (6 :: (List.range' 25 10))))⟩
def chkRules_x7_1 : LExit := ⟨none, [.val 2], (5 :: (6 :: (List.range' 25 10)))⟩
def chkRules_sp : List LSpec := [⟨46, 7, [chkRules_x7_0, chkRules_x7_1]⟩]
def chkRules_L7_E (re fa fb fc fd : Int) (k : Nat) (c : List D) (x0 : Int) (x1 : Int) (x2 : Int) : List AV × AHeap := ([.agg [.pure (.int .i64 re), .pure (.int .i64 fa), .pure (.int .i64 fb), .pure (.int .i64 fc), .pure (.int .i64 fd), .dsl 0], .ptr 1 0, .pure (.int .i64 (0 : Int)), .pure (.int .i64 x2), .pure (.tuple #[]), .pure (.tuple #[]), .pure (.tuple #[]), .ptr 1 0, .pure (.int .i64 re), .pure (.int .i64 x0), .ptr 1 1, .pure (.agg #[.int .i64 fa, .int .i64 fb, .int .i64 fc, .int .i64 fd]), .pure (.int .i64 x1), .sl 2 0 2 2, .pure (.int .i64 x2), .pure (.int .i64 x2), .pure (.bool (x2 != (0 : Int))), .pure (.tuple #[]), .ptr 1 5, .dsl 0, .pure (.int .i64 (k : Int)), .pure (.bool (decide ((k : Int) > (4 : Int)))), .ptr 1 5, .dsl 0, .pure (.int .i64 (k : Int)), .pure (.int .i64 (0 : Int)), .pure (.tuple #[]), .pure (.tuple #[]), .pure (.tuple #[]), .pure (.tuple #[]), .pure (.tuple #[]), .pure (.tuple #[]), .pure (.tuple #[]), .pure (.tuple #[]), .pure (.tuple #[])], [(2, { cells := [.pure (.int .i64 x0), .pure (.int .i64 x1)], opn := none, kind := .cells }), (1, { cells := [.pure (.int .i64 re), .pure (.int .i64 fa), .pure (.int .i64 fb), .pure (.int .i64 fc), .pure (.int .i64 fd), .dsl 0], opn := none, kind := .cells }), (0, { cells := [], opn := none, kind := .deep k c })])
def chkRules_L7_A : LoopAt := ⟨46, loopAt Try.prog 46 0, 3, 16, 3, noFrame⟩
theorem chkRules_L7_ok : (chkRules_L7_A).OK := ⟨by show 3 ≤ 16; decide, by show 3 ≤ 3; decide, by kernel_rfl, rfl⟩
def chkRules_L7_gs (re fa fb fc fd : Int) (k : Nat) (c : List D) (x0 : Int) (x1 : Int) (x2 : Int) : Go.Ev.Rd → Option GS
  | .next 0 ds => ghost [.val 25] (2 :: (5 :: (6 :: (List.range' 26 9)))) (chkRules_L7_E re fa fb fc fd k c x0 x1 x2).1 (chkRules_L7_E re fa fb fc fd k c x0 x1 x2).2 3 ds
  | .out 0 ds => ghost chkRules_x7_0.live chkRules_x7_0.junk (chkRules_L7_E re fa fb fc fd k c x0 x1 x2).1 (chkRules_L7_E re fa fb fc fd k c x0 x1 x2).2 3 ds
  | .out 1 ds => ghost chkRules_x7_1.live chkRules_x7_1.junk (chkRules_L7_E re fa fb fc fd k c x0 x1 x2).1 (chkRules_L7_E re fa fb fc fd k c x0 x1 x2).2 3 ds
  | _ => none
def chkRules_L7_ex : Nat → Option Nat
  | 0 => chkRules_x7_0.ex
  | 1 => chkRules_x7_1.ex
  | _ => none
def chkRules_L7_ax : Go.Ev.Rd → AX
  | .next _ _ => .normal
  | .out j _ => axOf (chkRules_L7_ex j)
def chkRules_L7_S0 (re fa fb fc fd : Int) (k : Nat) (c : List D) (x0 : Int) (x1 : Int) (x2 : Int) (ds : List D) : Option Go.Ev.Rd := pullD (α := Int) (some (.tup ds)) (fun d => ((D.vi (D.at d 0)))) (fun s25 => .tup [iD s25]) fun s25 => ((if s25 < (k : Int) then guardP ((0 : Int) ≤ s25 ∧ s25.toNat < k) (pullD (readD c (s25.toNat * 4) 4 true) shNL1_0P (fun (v0, v1, v2, v3) => (shNL1_0 v0 v1 v2 v3)) fun (v0, v1, v2, v3) => (pullD (α := Int) (m_73 [(shNL1_0 v0 v1 v2 v3)]) (fun d => ((D.vi d))) (fun r4 => iD r4) fun r4 => ((if r4 ≠ (0 : Int) then some (.out 1 [iD r4]) else some (.next 0 [iD (IntKind.i64.wrap (s25 + (1 : Int)))]))))) else some (.out 0 [])))
def chkRules_L7_S (re fa fb fc fd : Int) (k : Nat) (c : List D) (x0 : Int) (x1 : Int) (x2 : Int) : Go.Ev.Rd → Option Go.Ev.Rd
  | .next 0 ds => chkRules_L7_S0 re fa fb fc fd k c x0 x1 x2 ds
  | _ => none
theorem chkRules_L7_S_0 (re fa fb fc fd : Int) (k : Nat) (c : List D) (x0 : Int) (x1 : Int) (x2 : Int) (ds : List D) : chkRules_L7_S re fa fb fc fd k c x0 x1 x2 (.next 0 ds) = chkRules_L7_S0 re fa fb fc fd k c x0 x1 x2 ds := rfl
theorem chkRules_L7_S_ok (re fa fb fc fd : Int) (k : Nat) (c : List D) (x0 : Int) (x1 : Int) (x2 : Int) : ∀ s_ t_, chkRules_L7_S re fa fb fc fd k c x0 x1 x2 s_ = some t_ → Step (ctx [46] chkRules_sp) Tabs chkRules_L7_A (stateOf (chkRules_L7_gs re fa fb fc fd k c x0 x1 x2 s_)) (stateOf (chkRules_L7_gs re fa fb fc fd k c x0 x1 x2 t_)) (chkRules_L7_ax t_) ∧ EndOK chkRules_L7_A.nx chkRules_L7_A.low (chkRules_L7_gs re fa fb fc fd k c x0 x1 x2) t_
  | .next 0 ds, t_, h => by
    have h_ : chkRules_L7_S0 re fa fb fc fd k c x0 x1 x2 ds = some t_ := h
    clear h
    unfold chkRules_L7_S0 at h_
    obtain ⟨s25, e0, h0⟩ := pullD_elim h_
    clear h_
    obtain rfl := tup_inj e0
    by_cases b1_ : s25 < (k : Int)
    · have h2_ := (if_pos b1_).symm.trans h0
      obtain ⟨f3_, h4_⟩ := guardP_elim h2_
      obtain ⟨⟨v0, v1, v2, v3⟩, f5_, h6_⟩ := pullD_elim h4_
      replace f5_ := readD_elim f5_
      obtain ⟨r4, f7_, h8_⟩ := pullD_elim h6_
      replace f7_ := m_73_ok f7_
      by_cases b9_ : r4 ≠ (0 : Int)
      · have h10_ := (if_pos b9_).symm.trans h8_
        obtain rfl := Option.some.inj h10_
        exact ⟨step_pc 3000 (bT 2 []) [(shNL1_0 v0 v1 v2 v3), iD r4] [c_d b1_, c_f f3_, c_f f5_, c_b b9_] [k_c f7_] _ rfl (by kernel_rfl) (by kernel_rfl) (by kernel_rfl) (by kernel_rfl) (by kernel_rfl) (by kernel_rfl), by kernel_rfl, by kernel_rfl⟩
      have h10_ := (if_neg b9_).symm.trans h8_
      have b11_ : r4 = (0 : Int) := by first | exact b9_ | simpa using b9_
      obtain rfl := Option.some.inj h10_
      exact ⟨step_pc 3000 (bT 1 (bF 1 [])) [(shNL1_0 v0 v1 v2 v3), iD r4] [c_d b1_, c_f f3_, c_f f5_, c_bn b11_] [k_c f7_] _ rfl (by kernel_rfl) (by kernel_rfl) (by kernel_rfl) (by kernel_rfl) (by kernel_rfl) (by kernel_rfl), trivial⟩
    have h2_ := (if_neg b1_).symm.trans h0
    obtain rfl := Option.some.inj h2_
    exact ⟨step_pc 3000 (bF 1 []) [] [c_n b1_] [] _ rfl (by kernel_rfl) (by kernel_rfl) (by kernel_rfl) (by kernel_rfl) (by kernel_rfl) (by kernel_rfl), by kernel_rfl, by kernel_rfl⟩
  | .next (_ + 1) _, _, h => by cases h
  | .out _ _, _, h => by cases h
theorem chkRules_L7_go (re fa fb fc fd : Int) (k : Nat) (c : List D) (x0 : Int) (x1 : Int) (x2 : Int) {q : Nat} {ds : List D} {j : Nat} {es : List D} (h : runR (chkRules_L7_S re fa fb fc fd k c x0 x1 x2) (.next q ds) = some (.out j es)) : Runs (ctx [46] chkRules_sp) Tabs chkRules_L7_A (stateOf (chkRules_L7_gs re fa fb fc fd k c x0 x1 x2 (.next q ds))) (stateOf (chkRules_L7_gs re fa fb fc fd k c x0 x1 x2 (.out j es))) (chkRules_L7_ax (.out j es)) ∧ (nxtOf (chkRules_L7_gs re fa fb fc fd k c x0 x1 x2 (.out j es)), lowGS (chkRules_L7_gs re fa fb fc fd k c x0 x1 x2 (.out j es))) = (chkRules_L7_A.nx, chkRules_L7_A.low) :=
  runs_of' (good true _ _) chkRules_L7_ok (ax := chkRules_L7_ax) (fun _ _ => rfl) (fun _ _ => axOf_end _) (chkRules_L7_S_ok re fa fb fc fd k c x0 x1 x2) h
theorem chkRules_L7_in0 (re fa fb fc fd : Int) (k : Nat) (c : List D) (x0 : Int) (x1 : Int) (x2 : Int) {es : List D} (h : runR (chkRules_L7_S re fa fb fc fd k c x0 x1 x2) (.next 0 [iD ((0 : Int))]) = some (.out 0 es)) : LoopC (loopAt Try.prog 46 0) (chkRules_L7_E re fa fb fc fd k c x0 x1 x2) 3 noFrame chkRules_x7_0 es :=
  have r := chkRules_L7_go re fa fb fc fd k c x0 x1 x2 h
  loopin_as rfl (loop_in (l := chkRules_L7_A) (E := (chkRules_L7_E re fa fb fc fd k c x0 x1 x2)) (S := stateOf (chkRules_L7_gs re fa fb fc fd k c x0 x1 x2 (.next 0 [iD ((0 : Int))]))) (ns := nsOf (chkRules_L7_gs re fa fb fc fd k c x0 x1 x2 (.next 0 [iD ((0 : Int))]))) chkRules_L7_ok r.1 r.2 (by kernel_rfl) (by kernel_rfl) (by kernel_rfl) (by kernel_rfl))
theorem chkRules_L7_in1 (re fa fb fc fd : Int) (k : Nat) (c : List D) (x0 : Int) (x1 : Int) (x2 : Int) {es : List D} (h : runR (chkRules_L7_S re fa fb fc fd k c x0 x1 x2) (.next 0 [iD ((0 : Int))]) = some (.out 1 es)) : LoopC (loopAt Try.prog 46 0) (chkRules_L7_E re fa fb fc fd k c x0 x1 x2) 3 noFrame chkRules_x7_1 es :=
  have r := chkRules_L7_go re fa fb fc fd k c x0 x1 x2 h
  loopin_as rfl (loop_in (l := chkRules_L7_A) (E := (chkRules_L7_E re fa fb fc fd k c x0 x1 x2)) (S := stateOf (chkRules_L7_gs re fa fb fc fd k c x0 x1 x2 (.next 0 [iD ((0 : Int))]))) (ns := nsOf (chkRules_L7_gs re fa fb fc fd k c x0 x1 x2 (.next 0 [iD ((0 : Int))]))) chkRules_L7_ok r.1 r.2 (by kernel_rfl) (by kernel_rfl) (by kernel_rfl) (by kernel_rfl))
def chkRules_M (re fa fb fc fd : Int) (k : Nat) (c : List D) : Option D := pullD (α := Int) (m_69 [iD re]) (fun d => ((D.vi d))) (fun r0 => iD r0) fun r0 => (pullD (α := Int) (m_73 [(shNL1_0 fa fb fc fd)]) (fun d => ((D.vi d))) (fun r1 => iD r1) fun r1 => (pullD (α := Int) (m_45 [.list 2 [iD r0, iD r1]]) (fun d => ((D.vi d))) (fun r2 => iD r2) fun r2 => ((if r2 ≠ (0 : Int) then some (iD r2) else (if (k : Int) > (4 : Int) then some (iD (8 : Int)) else bindL (runR (chkRules_L7_S re fa fb fc fd k c r0 r1 r2) (.next 0 [iD ((0 : Int))])) fun j ds => (if j = 0 then pullD (some (.tup ds)) (fun _ => ()) (fun _ => .tup []) fun _ => (some (iD (0 : Int))) else if j = 1 then pullD (α := Int) (some (.tup ds)) (fun d => ((D.vi (D.at d 0)))) (fun l3 => .tup [iD l3]) fun l3 => (some (iD l3)) else none))))))
theorem chkRules_M_ok (re fa fb fc fd : Int) (k : Nat) (c : List D) {r : D} (h : chkRules_M re fa fb fc fd k c = some r) : Con 46 [.agg [iD re, iD fa, iD fb, iD fc, iD fd, .list k c]] r := by
  unfold chkRules_M at h
  obtain ⟨r0, f1_, h2_⟩ := pullD_elim h
  replace f1_ := m_69_ok f1_
  obtain ⟨r1, f3_, h4_⟩ := pullD_elim h2_
  replace f3_ := m_73_ok f3_
  obtain ⟨r2, f5_, h6_⟩ := pullD_elim h4_
  replace f5_ := m_45_ok f5_
  by_cases b7_ : r2 ≠ (0 : Int)
  · have h8_ := (if_pos b7_).symm.trans h6_
    obtain rfl := Option.some.inj h8_
    exact con_pc (op := true) (I := [46]) (sp := chkRules_sp) 3000 (bT 1 []) [iD r0, iD r1, iD r2] [c_le 1, c_b b7_] [k_c f1_, k_c f3_, k_c f5_] (by kernel_rfl)
  have h8_ := (if_neg b7_).symm.trans h6_
  have b9_ : r2 = (0 : Int) := by first | exact b7_ | simpa using b7_
  by_cases b10_ : (k : Int) > (4 : Int)
  · have h11_ := (if_pos b10_).symm.trans h8_
    obtain rfl := Option.some.inj h11_
    exact con_pc (op := true) (I := [46]) (sp := chkRules_sp) 3000 (bF 1 (bT 1 [])) [iD r0, iD r1, iD r2] [c_le 1, c_bn b9_, c_d b10_] [k_c f1_, k_c f3_, k_c f5_] (by kernel_rfl)
  have h11_ := (if_neg b10_).symm.trans h8_
  obtain ⟨j, ds, e12_, h13_⟩ := bindL_elim h11_
  by_cases j14_ : j = 0
  · have h17_ := (if_pos j14_).symm.trans h13_
    clear h13_
    subst j14_
    obtain ⟨⟨⟩, e15_, h18_⟩ := pullD_elim h17_
    clear h17_
    obtain rfl := tup_inj e15_
    have k16_ := chkRules_L7_in0 re fa fb fc fd k c r0 r1 r2 e12_
    obtain rfl := Option.some.inj h18_
    exact con_pc (op := true) (I := [46]) (sp := chkRules_sp) 3000 (bF 2 []) [iD r0, iD r1, iD r2, .tup [iD (Int.ofNat 0)]] [c_le 1, c_bn b9_, c_n b10_] [k_c f1_, k_c f3_, k_c f5_, k_l k16_ [] [.tup [iD (Int.ofNat 0)]] []] (by kernel_rfl)
  have h19_ := (if_neg j14_).symm.trans h13_
  clear h13_
  by_cases j20_ : j = 1
  · have h23_ := (if_pos j20_).symm.trans h19_
    clear h19_
    subst j20_
    obtain ⟨l3, e21_, h24_⟩ := pullD_elim h23_
    clear h23_
    obtain rfl := tup_inj e21_
    have k22_ := chkRules_L7_in1 re fa fb fc fd k c r0 r1 r2 e12_
    obtain rfl := Option.some.inj h24_
    exact con_pc (op := true) (I := [46]) (sp := chkRules_sp) 3000 (bF 2 []) [iD r0, iD r1, iD r2, .tup [iD (Int.ofNat 1), iD l3]] [c_le 1, c_bn b9_, c_n b10_] [k_c f1_, k_c f3_, k_c f5_, k_l k22_ [] [.tup [iD (Int.ofNat 1), iD l3]] []] (by kernel_rfl)
  have h25_ := (if_neg j20_).symm.trans h19_
  clear h19_
  cases h25_
def m_46 (ds : List D) : Option D := pullD (α := Int × Int × Int × Int × Int × Nat × (List D)) (some (.tup ds)) (fun d => ((D.vi (D.at (D.at d 0) 0)), (D.vi (D.at (D.at d 0) 1)), (D.vi (D.at (D.at d 0) 2)), (D.vi (D.at (D.at d 0) 3)), (D.vi (D.at (D.at d 0) 4)), (D.ln (D.at (D.at d 0) 5)), (D.lc (D.at (D.at d 0) 5)))) (fun (re, fa, fb, fc, fd, k, c) => .tup [.agg [iD re, iD fa, iD fb, iD fc, iD fd, .list k c]]) fun (re, fa, fb, fc, fd, k, c) => chkRules_M re fa fb fc fd k c
theorem m_46_ok {ds : List D} {r : D} (h : m_46 ds = some r) : Con 46 ds r := by
  unfold m_46 at h
  obtain ⟨⟨re, fa, fb, fc, fd, k, c⟩, e0, h0⟩ := pullD_elim h
  obtain rfl := tup_inj e0
  exact chkRules_M_ok re fa fb fc fd k c h0
theorem m_46_eq (re fa fb fc fd : Int) (k : Nat) (c : List D) : m_46 [.agg [iD re, iD fa, iD fb, iD fc, iD fd, .list k c]] = chkRules_M re fa fb fc fd k c := pullD_some (re, fa, fb, fc, fd, k, c) rfl rfl
def rulesErr_x9_0 : LExit := ⟨some 0, [], (2 :: (4 :: (5 :: (List.range' 20 16))))⟩
def rulesErr_x9_1 : LExit := ⟨none, [.val 2], (4 :: (5 :: (List.range' 20 16)))⟩
def rulesErr_sp : List LSpec := [⟨53, 9, [rulesErr_x9_0, rulesErr_x9_1]⟩]
def rulesErr_L9_E (re fa fb fc fd : Int) (k : Nat) (c : List D) (x0 : Bool) (x1 : Int) : List AV × AHeap := ([.agg [.pure (.int .i64 re), .pure (.int .i64 fa), .pure (.int .i64 fb), .pure (.int .i64 fc), .pure (.int .i64 fd), .dsl 0], .ptr 1 0, .pure (.int .i64 (0 : Int)), .pure (.int .i64 x1), .pure (.int .i64 (0 : Int)), .pure (.tuple #[]), .ptr 1 0, .pure (.int .i64 re), .pure (.bool x0), .pure (.bool !x0), .ptr 1 1, .pure (.agg #[.int .i64 fa, .int .i64 fb, .int .i64 fc, .int .i64 fd]), .pure (.int .i64 x1), .pure (.int .i64 x1), .pure (.bool (x1 != (0 : Int))), .pure (.tuple #[]), .ptr 1 5, .dsl 0, .pure (.int .i64 (k : Int)), .pure (.bool (decide ((k : Int) > (4 : Int)))), .pure (.tuple #[]), .pure (.tuple #[]), .pure (.tuple #[]), .pure (.tuple #[]), .pure (.tuple #[]), .pure (.tuple #[]), .pure (.tuple #[]), .pure (.tuple #[]), .pure (.tuple #[]), .pure (.tuple #[]), .pure (.tuple #[]), .pure (.tuple #[]), .pure (.tuple #[]), .pure (.tuple #[]), .pure (.tuple #[]), .pure (.tuple #[])], [(1, { cells := [.pure (.int .i64 re), .pure (.int .i64 fa), .pure (.int .i64 fb), .pure (.int .i64 fc), .pure (.int .i64 fd), .dsl 0], opn := none, kind := .cells }), (0, { cells := [], opn := none, kind := .deep k c })])
def rulesErr_L9_A : LoopAt := ⟨53, loopAt Try.prog 53 0, 2, 21, 2, noFrame⟩
theorem rulesErr_L9_ok : (rulesErr_L9_A).OK := ⟨by show 2 ≤ 21; decide, by show 2 ≤ 2; decide, by kernel_rfl, rfl⟩
def rulesErr_L9_gs (re fa fb fc fd : Int) (k : Nat) (c : List D) (x0 : Bool) (x1 : Int) : Go.Ev.Rd → Option GS
  | .next 0 ds => ghost [.val 4] (2 :: (5 :: (List.range' 20 16))) (rulesErr_L9_E re fa fb fc fd k c x0 x1).1 (rulesErr_L9_E re fa fb fc fd k c x0 x1).2 2 ds
  | .out 0 ds => ghost rulesErr_x9_0.live rulesErr_x9_0.junk (rulesErr_L9_E re fa fb fc fd k c x0 x1).1 (rulesErr_L9_E re fa fb fc fd k c x0 x1).2 2 ds
  | .out 1 ds => ghost rulesErr_x9_1.live rulesErr_x9_1.junk (rulesErr_L9_E re fa fb fc fd k c x0 x1).1 (rulesErr_L9_E re fa fb fc fd k c x0 x1).2 2 ds
  | _ => none
def rulesErr_L9_ex : Nat → Option Nat
  | 0 => rulesErr_x9_0.ex
  | 1 => rulesErr_x9_1.ex
  | _ => none
def rulesErr_L9_ax : Go.Ev.Rd → AX
  | .next _ _ => .normal
  | .out j _ => axOf (rulesErr_L9_ex j)
def rulesErr_L9_S0 (re fa fb fc fd : Int) (k : Nat) (c : List D) (x0 : Bool) (x1 : Int) (ds : List D) : Option Go.Ev.Rd := pullD (α := Int) (some (.tup ds)) (fun d => ((D.vi (D.at d 0)))) (fun s4 => .tup [iD s4]) fun s4 => ((if s4 < (k : Int) then guardP ((0 : Int) ≤ s4 ∧ s4.toNat < k) (pullD (readD c (s4.toNat * 4) 4 true) shNL1_0P (fun (v0, v1, v2, v3) => (shNL1_0 v0 v1 v2 v3)) fun (v0, v1, v2, v3) => (pullD (α := Int) (m_83 [(shNL1_0 v0 v1 v2 v3)]) (fun d => ((D.vi d))) (fun r4 => iD r4) fun r4 => ((if r4 ≠ (0 : Int) then some (.out 1 [iD r4]) else some (.next 0 [iD (IntKind.i64.wrap (s4 + (1 : Int)))]))))) else some (.out 0 [])))
def rulesErr_L9_S (re fa fb fc fd : Int) (k : Nat) (c : List D) (x0 : Bool) (x1 : Int) : Go.Ev.Rd → Option Go.Ev.Rd
  | .next 0 ds => rulesErr_L9_S0 re fa fb fc fd k c x0 x1 ds
  | _ => none
theorem rulesErr_L9_S_0 (re fa fb fc fd : Int) (k : Nat) (c : List D) (x0 : Bool) (x1 : Int) (ds : List D) : rulesErr_L9_S re fa fb fc fd k c x0 x1 (.next 0 ds) = rulesErr_L9_S0 re fa fb fc fd k c x0 x1 ds := rfl
theorem rulesErr_L9_S_ok (re fa fb fc fd : Int) (k : Nat) (c : List D) (x0 : Bool) (x1 : Int) : ∀ s_ t_, rulesErr_L9_S re fa fb fc fd k c x0 x1 s_ = some t_ → Step (ctx [53] rulesErr_sp) Tabs rulesErr_L9_A (stateOf (rulesErr_L9_gs re fa fb fc fd k c x0 x1 s_)) (stateOf (rulesErr_L9_gs re fa fb fc fd k c x0 x1 t_)) (rulesErr_L9_ax t_) ∧ EndOK rulesErr_L9_A.nx rulesErr_L9_A.low (rulesErr_L9_gs re fa fb fc fd k c x0 x1) t_
  | .next 0 ds, t_, h => by
    have h_ : rulesErr_L9_S0 re fa fb fc fd k c x0 x1 ds = some t_ := h
    clear h
    unfold rulesErr_L9_S0 at h_
    obtain ⟨s4, e0, h0⟩ := pullD_elim h_
    clear h_
    obtain rfl := tup_inj e0
    by_cases b1_ : s4 < (k : Int)
    · have h2_ := (if_pos b1_).symm.trans h0
      obtain ⟨f3_, h4_⟩ := guardP_elim h2_
      obtain ⟨⟨v0, v1, v2, v3⟩, f5_, h6_⟩ := pullD_elim h4_
      replace f5_ := readD_elim f5_
      obtain ⟨r4, f7_, h8_⟩ := pullD_elim h6_
      replace f7_ := m_83_ok f7_
      by_cases b9_ : r4 ≠ (0 : Int)
      · have h10_ := (if_pos b9_).symm.trans h8_
        obtain rfl := Option.some.inj h10_
        exact ⟨step_pc 3000 (bT 2 []) [(shNL1_0 v0 v1 v2 v3), iD r4] [c_d b1_, c_f f3_, c_f f5_, c_b b9_] [k_c f7_] _ rfl (by kernel_rfl) (by kernel_rfl) (by kernel_rfl) (by kernel_rfl) (by kernel_rfl) (by kernel_rfl), by kernel_rfl, by kernel_rfl⟩
      have h10_ := (if_neg b9_).symm.trans h8_
      have b11_ : r4 = (0 : Int) := by first | exact b9_ | simpa using b9_
      obtain rfl := Option.some.inj h10_
      exact ⟨step_pc 3000 (bT 1 (bF 1 [])) [(shNL1_0 v0 v1 v2 v3), iD r4] [c_d b1_, c_f f3_, c_f f5_, c_bn b11_] [k_c f7_] _ rfl (by kernel_rfl) (by kernel_rfl) (by kernel_rfl) (by kernel_rfl) (by kernel_rfl) (by kernel_rfl), trivial⟩
    have h2_ := (if_neg b1_).symm.trans h0
    obtain rfl := Option.some.inj h2_
    exact ⟨step_pc 3000 (bF 1 []) [] [c_n b1_] [] _ rfl (by kernel_rfl) (by kernel_rfl) (by kernel_rfl) (by kernel_rfl) (by kernel_rfl) (by kernel_rfl), by kernel_rfl, by kernel_rfl⟩
  | .next (_ + 1) _, _, h => by cases h
  | .out _ _, _, h => by cases h
theorem rulesErr_L9_go (re fa fb fc fd : Int) (k : Nat) (c : List D) (x0 : Bool) (x1 : Int) {q : Nat} {ds : List D} {j : Nat} {es : List D} (h : runR (rulesErr_L9_S re fa fb fc fd k c x0 x1) (.next q ds) = some (.out j es)) : Runs (ctx [53] rulesErr_sp) Tabs rulesErr_L9_A (stateOf (rulesErr_L9_gs re fa fb fc fd k c x0 x1 (.next q ds))) (stateOf (rulesErr_L9_gs re fa fb fc fd k c x0 x1 (.out j es))) (rulesErr_L9_ax (.out j es)) ∧ (nxtOf (rulesErr_L9_gs re fa fb fc fd k c x0 x1 (.out j es)), lowGS (rulesErr_L9_gs re fa fb fc fd k c x0 x1 (.out j es))) = (rulesErr_L9_A.nx, rulesErr_L9_A.low) :=
  runs_of' (good true _ _) rulesErr_L9_ok (ax := rulesErr_L9_ax) (fun _ _ => rfl) (fun _ _ => axOf_end _) (rulesErr_L9_S_ok re fa fb fc fd k c x0 x1) h
theorem rulesErr_L9_in0 (re fa fb fc fd : Int) (k : Nat) (c : List D) (x0 : Bool) (x1 : Int) {es : List D} (h : runR (rulesErr_L9_S re fa fb fc fd k c x0 x1) (.next 0 [iD ((0 : Int))]) = some (.out 0 es)) : LoopC (loopAt Try.prog 53 0) (rulesErr_L9_E re fa fb fc fd k c x0 x1) 2 noFrame rulesErr_x9_0 es :=
  have r := rulesErr_L9_go re fa fb fc fd k c x0 x1 h
  loopin_as rfl (loop_in (l := rulesErr_L9_A) (E := (rulesErr_L9_E re fa fb fc fd k c x0 x1)) (S := stateOf (rulesErr_L9_gs re fa fb fc fd k c x0 x1 (.next 0 [iD ((0 : Int))]))) (ns := nsOf (rulesErr_L9_gs re fa fb fc fd k c x0 x1 (.next 0 [iD ((0 : Int))]))) rulesErr_L9_ok r.1 r.2 (by kernel_rfl) (by kernel_rfl) (by kernel_rfl) (by kernel_rfl))
theorem rulesErr_L9_in1 (re fa fb fc fd : Int) (k : Nat) (c : List D) (x0 : Bool) (x1 : Int) {es : List D} (h : runR (rulesErr_L9_S re fa fb fc fd k c x0 x1) (.next 0 [iD ((0 : Int))]) = some (.out 1 es)) : LoopC (loopAt Try.prog 53 0) (rulesErr_L9_E re fa fb fc fd k c x0 x1) 2 noFrame rulesErr_x9_1 es :=
  have r := rulesErr_L9_go re fa fb fc fd k c x0 x1 h
  loopin_as rfl (loop_in (l := rulesErr_L9_A) (E := (rulesErr_L9_E re fa fb fc fd k c x0 x1)) (S := stateOf (rulesErr_L9_gs re fa fb fc fd k c x0 x1 (.next 0 [iD ((0 : Int))]))) (ns := nsOf (rulesErr_L9_gs re fa fb fc fd k c x0 x1 (.next 0 [iD ((0 : Int))]))) rulesErr_L9_ok r.1 r.2 (by kernel_rfl) (by kernel_rfl) (by kernel_rfl) (by kernel_rfl))
def rulesErr_M (re fa fb fc fd : Int) (k : Nat) (c : List D) : Option D := pullD (α := Bool) (m_33 [iD re, iD (0 : Int), iD (100 : Int)]) (fun d => ((D.vb d))) (fun r0 => .one (.bool r0)) fun r0 => ((if r0 = false then some (iD (2 : Int)) else pullD (α := Int) (m_83 [(shNL1_0 fa fb fc fd)]) (fun d => ((D.vi d))) (fun r1 => iD r1) fun r1 => ((if r1 ≠ (0 : Int) then some (iD r1) else (if (k : Int) > (4 : Int) then some (iD (8 : Int)) else bindL (runR (rulesErr_L9_S re fa fb fc fd k c r0 r1) (.next 0 [iD ((0 : Int))])) fun j ds => (if j = 0 then pullD (some (.tup ds)) (fun _ => ()) (fun _ => .tup []) fun _ => (some (iD (0 : Int))) else if j = 1 then pullD (α := Int) (some (.tup ds)) (fun d => ((D.vi (D.at d 0)))) (fun l2 => .tup [iD l2]) fun l2 => (some (iD l2)) else none))))))
theorem rulesErr_M_ok (re fa fb fc fd : Int) (k : Nat) (c : List D) {r : D} (h : rulesErr_M re fa fb fc fd k c = some r) : Con 53 [.agg [iD re, iD fa, iD fb, iD fc, iD fd, .list k c]] r := by
  unfold rulesErr_M at h
  obtain ⟨r0, f1_, h2_⟩ := pullD_elim h
  replace f1_ := m_33_ok f1_
  by_cases b3_ : r0 = false
  · have h4_ := (if_pos b3_).symm.trans h2_
    obtain rfl := Option.some.inj h4_
    exact con_pc (op := true) (I := [53]) (sp := rulesErr_sp) 3000 (bT 1 []) [.one (.bool r0)] [c_no b3_] [k_c f1_] (by kernel_rfl)
  have h4_ := (if_neg b3_).symm.trans h2_
  have b5_ : r0 = true := by first | exact b3_ | simpa using b3_
  obtain ⟨r1, f6_, h7_⟩ := pullD_elim h4_
  replace f6_ := m_83_ok f6_
  by_cases b8_ : r1 ≠ (0 : Int)
  · have h9_ := (if_pos b8_).symm.trans h7_
    obtain rfl := Option.some.inj h9_
    exact con_pc (op := true) (I := [53]) (sp := rulesErr_sp) 3000 (bF 1 (bT 1 [])) [.one (.bool r0), iD r1] [c_nn b5_, c_b b8_] [k_c f1_, k_c f6_] (by kernel_rfl)
  have h9_ := (if_neg b8_).symm.trans h7_
  have b10_ : r1 = (0 : Int) := by first | exact b8_ | simpa using b8_
  by_cases b11_ : (k : Int) > (4 : Int)
  · have h12_ := (if_pos b11_).symm.trans h9_
    obtain rfl := Option.some.inj h12_
    exact con_pc (op := true) (I := [53]) (sp := rulesErr_sp) 3000 (bF 2 (bT 1 [])) [.one (.bool r0), iD r1] [c_nn b5_, c_bn b10_, c_d b11_] [k_c f1_, k_c f6_] (by kernel_rfl)
  have h12_ := (if_neg b11_).symm.trans h9_
  obtain ⟨j, ds, e13_, h14_⟩ := bindL_elim h12_
  by_cases j15_ : j = 0
  · have h18_ := (if_pos j15_).symm.trans h14_
    clear h14_
    subst j15_
    obtain ⟨⟨⟩, e16_, h19_⟩ := pullD_elim h18_
    clear h18_
    obtain rfl := tup_inj e16_
    have k17_ := rulesErr_L9_in0 re fa fb fc fd k c r0 r1 e13_
    obtain rfl := Option.some.inj h19_
    exact con_pc (op := true) (I := [53]) (sp := rulesErr_sp) 3000 (bF 3 []) [.one (.bool r0), iD r1, .tup [iD (Int.ofNat 0)]] [c_nn b5_, c_bn b10_, c_n b11_] [k_c f1_, k_c f6_, k_l k17_ [] [.tup [iD (Int.ofNat 0)]] []] (by kernel_rfl)
  have h20_ := (if_neg j15_).symm.trans h14_
  clear h14_
  by_cases j21_ : j = 1
  · have h24_ := (if_pos j21_).symm.trans h20_
    clear h20_
    subst j21_
    obtain ⟨l2, e22_, h25_⟩ := pullD_elim h24_
    clear h24_
    obtain rfl := tup_inj e22_
    have k23_ := rulesErr_L9_in1 re fa fb fc fd k c r0 r1 e13_
    obtain rfl := Option.some.inj h25_
    exact con_pc (op := true) (I := [53]) (sp := rulesErr_sp) 3000 (bF 3 []) [.one (.bool r0), iD r1, .tup [iD (Int.ofNat 1), iD l2]] [c_nn b5_, c_bn b10_, c_n b11_] [k_c f1_, k_c f6_, k_l k23_ [] [.tup [iD (Int.ofNat 1), iD l2]] []] (by kernel_rfl)
  have h26_ := (if_neg j21_).symm.trans h20_
  clear h20_
  cases h26_
def m_53 (ds : List D) : Option D := pullD (α := Int × Int × Int × Int × Int × Nat × (List D)) (some (.tup ds)) (fun d => ((D.vi (D.at (D.at d 0) 0)), (D.vi (D.at (D.at d 0) 1)), (D.vi (D.at (D.at d 0) 2)), (D.vi (D.at (D.at d 0) 3)), (D.vi (D.at (D.at d 0) 4)), (D.ln (D.at (D.at d 0) 5)), (D.lc (D.at (D.at d 0) 5)))) (fun (re, fa, fb, fc, fd, k, c) => .tup [.agg [iD re, iD fa, iD fb, iD fc, iD fd, .list k c]]) fun (re, fa, fb, fc, fd, k, c) => rulesErr_M re fa fb fc fd k c
theorem m_53_ok {ds : List D} {r : D} (h : m_53 ds = some r) : Con 53 ds r := by
  unfold m_53 at h
  obtain ⟨⟨re, fa, fb, fc, fd, k, c⟩, e0, h0⟩ := pullD_elim h
  obtain rfl := tup_inj e0
  exact rulesErr_M_ok re fa fb fc fd k c h0
theorem m_53_eq (re fa fb fc fd : Int) (k : Nat) (c : List D) : m_53 [.agg [iD re, iD fa, iD fb, iD fc, iD fd, .list k c]] = rulesErr_M re fa fb fc fd k c := pullD_some (re, fa, fb, fc, fd, k, c) rfl rfl
def copyInts_sp : List LSpec := []
def copyInts_M (k : Nat) (c : List D) : Option D := guardP ((∀ (u : D), u ∈ c → cellD u) ∧ 0 ≤ 0 ∧ (0 + k) * 8 ≤ 140737488355328 ∧ 0 + k ≤ 4611686018427387904) (guardP (c.length = k * 1) (guardP ((0 + (0 + k)) * 1 ≤ (List.take (0 * 1) [] ++ c).length ∧ 0 < 1) (some (.list (0 + k) c))))
theorem copyInts_M_ok (k : Nat) (c : List D) {r : D} (h : copyInts_M k c = some r) : Con 27 [.list k c] r := by
  unfold copyInts_M at h
  obtain ⟨f1_, h2_⟩ := guardP_elim h
  obtain ⟨f3_, h4_⟩ := guardP_elim h2_
  obtain ⟨f5_, h6_⟩ := guardP_elim h4_
  obtain rfl := Option.some.inj h6_
  exact con_pc (op := true) (I := [27]) (sp := copyInts_sp) 3000 [] [] [c_f f1_, c_f f3_, c_f f5_] [] (by kernel_rfl)
def m_27 (ds : List D) : Option D := pullD (α := Nat × (List D)) (some (.tup ds)) (fun d => ((D.ln (D.at d 0)), (D.lc (D.at d 0)))) (fun (k, c) => .tup [.list k c]) fun (k, c) => copyInts_M k c
theorem m_27_ok {ds : List D} {r : D} (h : m_27 ds = some r) : Con 27 ds r := by
  unfold m_27 at h
  obtain ⟨⟨k, c⟩, e0, h0⟩ := pullD_elim h
  obtain rfl := tup_inj e0
  exact copyInts_M_ok k c h0
theorem m_27_eq (k : Nat) (c : List D) : m_27 [.list k c] = copyInts_M k c := pullD_some (k, c) rfl rfl
def copyRecord_sp : List LSpec := []
def copyRecord_M (st : Int) (kb : Nat) (cb : List D) : Option D := pullD (α := Nat × (List D)) (m_27 [.list kb cb]) (fun d => ((D.ln d), (D.lc d))) (fun (k0, c1) => .list k0 c1) fun (k0, c1) => (some (.agg [iD st, .list k0 c1]))
theorem copyRecord_M_ok (st : Int) (kb : Nat) (cb : List D) {r : D} (h : copyRecord_M st kb cb = some r) : Con 14 [.agg [iD st, .list kb cb]] r := by
  unfold copyRecord_M at h
  obtain ⟨⟨k0, c1⟩, f1_, h2_⟩ := pullD_elim h
  replace f1_ := m_27_ok f1_
  obtain rfl := Option.some.inj h2_
  exact con_pc (op := true) (I := [14]) (sp := copyRecord_sp) 3000 [] [.list k0 c1] [] [k_c f1_] (by kernel_rfl)
def m_14 (ds : List D) : Option D := pullD (α := Int × Nat × (List D)) (some (.tup ds)) (fun d => ((D.vi (D.at (D.at d 0) 0)), (D.ln (D.at (D.at d 0) 1)), (D.lc (D.at (D.at d 0) 1)))) (fun (st, kb, cb) => .tup [.agg [iD st, .list kb cb]]) fun (st, kb, cb) => copyRecord_M st kb cb
theorem m_14_ok {ds : List D} {r : D} (h : m_14 ds = some r) : Con 14 ds r := by
  unfold m_14 at h
  obtain ⟨⟨st, kb, cb⟩, e0, h0⟩ := pullD_elim h
  obtain rfl := tup_inj e0
  exact copyRecord_M_ok st kb cb h0
theorem m_14_eq (st : Int) (kb : Nat) (cb : List D) : m_14 [.agg [iD st, .list kb cb]] = copyRecord_M st kb cb := pullD_some (st, kb, cb) rfl rfl
def copyRules_sp : List LSpec := []
def copyRules_M (re fa fb fc fd : Int) (k : Nat) (c : List D) : Option D := guardP (k * 32 ≤ 140737488355328 ∧ k ≤ 4611686018427387904) (guardP (c.length = k * 4) (some (.agg [iD re, iD fa, iD fb, iD fc, iD fd, .list k c])))
theorem copyRules_M_ok (re fa fb fc fd : Int) (k : Nat) (c : List D) {r : D} (h : copyRules_M re fa fb fc fd k c = some r) : Con 13 [.agg [iD re, iD fa, iD fb, iD fc, iD fd, .list k c]] r := by
  unfold copyRules_M at h
  obtain ⟨f1_, h2_⟩ := guardP_elim h
  obtain ⟨f3_, h4_⟩ := guardP_elim h2_
  obtain rfl := Option.some.inj h4_
  exact con_pc (op := true) (I := [13]) (sp := copyRules_sp) 3000 [] [] [c_f f1_, c_f f3_] [] (by kernel_rfl)
def m_13 (ds : List D) : Option D := pullD (α := Int × Int × Int × Int × Int × Nat × (List D)) (some (.tup ds)) (fun d => ((D.vi (D.at (D.at d 0) 0)), (D.vi (D.at (D.at d 0) 1)), (D.vi (D.at (D.at d 0) 2)), (D.vi (D.at (D.at d 0) 3)), (D.vi (D.at (D.at d 0) 4)), (D.ln (D.at (D.at d 0) 5)), (D.lc (D.at (D.at d 0) 5)))) (fun (re, fa, fb, fc, fd, k, c) => .tup [.agg [iD re, iD fa, iD fb, iD fc, iD fd, .list k c]]) fun (re, fa, fb, fc, fd, k, c) => copyRules_M re fa fb fc fd k c
theorem m_13_ok {ds : List D} {r : D} (h : m_13 ds = some r) : Con 13 ds r := by
  unfold m_13 at h
  obtain ⟨⟨re, fa, fb, fc, fd, k, c⟩, e0, h0⟩ := pullD_elim h
  obtain rfl := tup_inj e0
  exact copyRules_M_ok re fa fb fc fd k c h0
theorem m_13_eq (re fa fb fc fd : Int) (k : Nat) (c : List D) : m_13 [.agg [iD re, iD fa, iD fb, iD fc, iD fd, .list k c]] = copyRules_M re fa fb fc fd k c := pullD_some (re, fa, fb, fc, fd, k, c) rfl rfl
def chkCount_sp : List LSpec := []
def chkCount_M (n : Int) : Option D := (if n < (3 : Int) then some (iD (10 : Int)) else (if n > (64 : Int) then some (iD (8 : Int)) else some (iD (0 : Int))))
theorem chkCount_M_ok (n : Int) {r : D} (h : chkCount_M n = some r) : Con 75 [iD n] r := by
  unfold chkCount_M at h
  by_cases b1_ : n < (3 : Int)
  · have h2_ := (if_pos b1_).symm.trans h
    obtain rfl := Option.some.inj h2_
    exact con_pc (op := true) (I := [75]) (sp := chkCount_sp) 3000 (bT 1 []) [] [c_d b1_] [] (by kernel_rfl)
  have h2_ := (if_neg b1_).symm.trans h
  by_cases b3_ : n > (64 : Int)
  · have h4_ := (if_pos b3_).symm.trans h2_
    obtain rfl := Option.some.inj h4_
    exact con_pc (op := true) (I := [75]) (sp := chkCount_sp) 3000 (bF 1 (bT 1 [])) [] [c_n b1_, c_d b3_] [] (by kernel_rfl)
  have h4_ := (if_neg b3_).symm.trans h2_
  obtain rfl := Option.some.inj h4_
  exact con_pc (op := true) (I := [75]) (sp := chkCount_sp) 3000 (bF 2 []) [] [c_n b1_, c_n b3_] [] (by kernel_rfl)
def m_75 (ds : List D) : Option D := pullD (α := Int) (some (.tup ds)) (fun d => ((D.vi (D.at d 0)))) (fun n => .tup [iD n]) fun n => chkCount_M n
theorem m_75_ok {ds : List D} {r : D} (h : m_75 ds = some r) : Con 75 ds r := by
  unfold m_75 at h
  obtain ⟨n, e0, h0⟩ := pullD_elim h
  obtain rfl := tup_inj e0
  exact chkCount_M_ok n h0
theorem m_75_eq (n : Int) : m_75 [iD n] = chkCount_M n := pullD_some n rfl rfl
def chkRecord_x101_2_0 : LExit := ⟨some 0, [], (4 :: (6 :: (List.range' 9 13)))⟩
def chkRecord_x101_2_1 : LExit := ⟨none, [.val 4], (6 :: (List.range' 9 13))⟩
def chkRecord_sp : List LSpec := [⟨101, 2, [chkRecord_x101_2_0, chkRecord_x101_2_1]⟩]
def chkRecord_L101_2_E (st : Int) (kb : Nat) (cb : List D) (x0 : Int) (x1 : Int) : List AV × AHeap := ([.dsl 0, .ptr 3 0, .ptr 4 0, .pure (.tuple #[]), .pure (.int .i64 (0 : Int)), .pure (.tuple #[]), .pure (.tuple #[]), .dsl 0, .pure (.int .i64 (kb : Int)), .pure (.int .i64 (0 : Int)), .pure (.tuple #[]), .pure (.tuple #[]), .pure (.tuple #[]), .pure (.tuple #[]), .pure (.tuple #[]), .pure (.tuple #[]), .pure (.tuple #[]), .pure (.tuple #[]), .pure (.tuple #[]), .pure (.tuple #[]), .pure (.tuple #[]), .pure (.tuple #[])], [(4, { cells := [.pure (.int .i64 (4096 : Int))], opn := none, kind := .cells }), (3, { cells := [.pure (.int .i64 (-4096 : Int))], opn := none, kind := .cells }), (2, { cells := [.pure (.int .i64 x0), .pure (.int .i64 x1)], opn := none, kind := .cells }), (1, { cells := [.pure (.int .i64 st), .dsl 0], opn := none, kind := .cells }), (0, { cells := [], opn := none, kind := .deep kb cb })])
def chkRecord_L101_2_A : LoopAt := ⟨101, loopAt Try.prog 101 0, 5, 20, 5, noFrame⟩
theorem chkRecord_L101_2_ok : (chkRecord_L101_2_A).OK := ⟨by show 5 ≤ 20; decide, by show 5 ≤ 5; decide, by kernel_rfl, rfl⟩
def chkRecord_L101_2_gs (st : Int) (kb : Nat) (cb : List D) (x0 : Int) (x1 : Int) : Go.Ev.Rd → Option GS
  | .next 0 ds => ghost [.val 9] (4 :: (6 :: (List.range' 10 12))) (chkRecord_L101_2_E st kb cb x0 x1).1 (chkRecord_L101_2_E st kb cb x0 x1).2 5 ds
  | .out 0 ds => ghost chkRecord_x101_2_0.live chkRecord_x101_2_0.junk (chkRecord_L101_2_E st kb cb x0 x1).1 (chkRecord_L101_2_E st kb cb x0 x1).2 5 ds
  | .out 1 ds => ghost chkRecord_x101_2_1.live chkRecord_x101_2_1.junk (chkRecord_L101_2_E st kb cb x0 x1).1 (chkRecord_L101_2_E st kb cb x0 x1).2 5 ds
  | _ => none
def chkRecord_L101_2_ex : Nat → Option Nat
  | 0 => chkRecord_x101_2_0.ex
  | 1 => chkRecord_x101_2_1.ex
  | _ => none
def chkRecord_L101_2_ax : Go.Ev.Rd → AX
  | .next _ _ => .normal
  | .out j _ => axOf (chkRecord_L101_2_ex j)
def chkRecord_L101_2_S0 (st : Int) (kb : Nat) (cb : List D) (x0 : Int) (x1 : Int) (ds : List D) : Option Go.Ev.Rd := pullD (α := Int) (some (.tup ds)) (fun d => ((D.vi (D.at d 0)))) (fun s9 => .tup [iD s9]) fun s9 => ((if s9 < (kb : Int) then guardP ((0 : Int) ≤ s9 ∧ s9.toNat < kb) (pullD (α := Int) (readD cb (s9.toNat * 1) 1 false) (fun d => ((D.vi d))) (fun v0 => iD v0) fun v0 => ((if v0 < (-4096 : Int) then some (.out 1 [iD (2 : Int)]) else (if v0 > (4096 : Int) then some (.out 1 [iD (2 : Int)]) else some (.next 0 [iD (IntKind.i64.wrap (s9 + (1 : Int)))]))))) else some (.out 0 [])))
def chkRecord_L101_2_S (st : Int) (kb : Nat) (cb : List D) (x0 : Int) (x1 : Int) : Go.Ev.Rd → Option Go.Ev.Rd
  | .next 0 ds => chkRecord_L101_2_S0 st kb cb x0 x1 ds
  | _ => none
theorem chkRecord_L101_2_S_0 (st : Int) (kb : Nat) (cb : List D) (x0 : Int) (x1 : Int) (ds : List D) : chkRecord_L101_2_S st kb cb x0 x1 (.next 0 ds) = chkRecord_L101_2_S0 st kb cb x0 x1 ds := rfl
theorem chkRecord_L101_2_S_ok (st : Int) (kb : Nat) (cb : List D) (x0 : Int) (x1 : Int) : ∀ s_ t_, chkRecord_L101_2_S st kb cb x0 x1 s_ = some t_ → Step (ctx [47, 76, 90, 101] chkRecord_sp) Tabs chkRecord_L101_2_A (stateOf (chkRecord_L101_2_gs st kb cb x0 x1 s_)) (stateOf (chkRecord_L101_2_gs st kb cb x0 x1 t_)) (chkRecord_L101_2_ax t_) ∧ EndOK chkRecord_L101_2_A.nx chkRecord_L101_2_A.low (chkRecord_L101_2_gs st kb cb x0 x1) t_
  | .next 0 ds, t_, h => by
    have h_ : chkRecord_L101_2_S0 st kb cb x0 x1 ds = some t_ := h
    clear h
    unfold chkRecord_L101_2_S0 at h_
    obtain ⟨s9, e0, h0⟩ := pullD_elim h_
    clear h_
    obtain rfl := tup_inj e0
    by_cases b1_ : s9 < (kb : Int)
    · have h2_ := (if_pos b1_).symm.trans h0
      obtain ⟨f3_, h4_⟩ := guardP_elim h2_
      obtain ⟨v0, f5_, h6_⟩ := pullD_elim h4_
      replace f5_ := readD_elim f5_
      by_cases b7_ : v0 < (-4096 : Int)
      · have h8_ := (if_pos b7_).symm.trans h6_
        obtain rfl := Option.some.inj h8_
        exact ⟨step_pc 3000 (bT 6 []) [iD v0] [c_d b1_, c_f f3_, c_f f5_, c_d b7_, c_d b7_, c_d b7_, c_d b7_, c_T] [] _ rfl (by kernel_rfl) (by kernel_rfl) (by kernel_rfl) (by kernel_rfl) (by kernel_rfl) (by kernel_rfl), by kernel_rfl, by kernel_rfl⟩
      have h8_ := (if_neg b7_).symm.trans h6_
      by_cases b9_ : v0 > (4096 : Int)
      · have h10_ := (if_pos b9_).symm.trans h8_
        obtain rfl := Option.some.inj h10_
        exact ⟨step_pc 3000 (bT 1 (bF 4 (bT 1 []))) [iD v0] [c_d b1_, c_f f3_, c_f f5_, c_n b7_, c_n b7_, c_n b7_, c_n b7_, c_d b9_] [] _ rfl (by kernel_rfl) (by kernel_rfl) (by kernel_rfl) (by kernel_rfl) (by kernel_rfl) (by kernel_rfl), by kernel_rfl, by kernel_rfl⟩
      have h10_ := (if_neg b9_).symm.trans h8_
      obtain rfl := Option.some.inj h10_
      exact ⟨step_pc 3000 (bT 1 (bF 5 [])) [iD v0] [c_d b1_, c_f f3_, c_f f5_, c_n b7_, c_n b7_, c_n b7_, c_n b7_, c_n b9_] [] _ rfl (by kernel_rfl) (by kernel_rfl) (by kernel_rfl) (by kernel_rfl) (by kernel_rfl) (by kernel_rfl), trivial⟩
    have h2_ := (if_neg b1_).symm.trans h0
    obtain rfl := Option.some.inj h2_
    exact ⟨step_pc 3000 (bF 1 []) [] [c_n b1_] [] _ rfl (by kernel_rfl) (by kernel_rfl) (by kernel_rfl) (by kernel_rfl) (by kernel_rfl) (by kernel_rfl), by kernel_rfl, by kernel_rfl⟩
  | .next (_ + 1) _, _, h => by cases h
  | .out _ _, _, h => by cases h
theorem chkRecord_L101_2_go (st : Int) (kb : Nat) (cb : List D) (x0 : Int) (x1 : Int) {q : Nat} {ds : List D} {j : Nat} {es : List D} (h : runR (chkRecord_L101_2_S st kb cb x0 x1) (.next q ds) = some (.out j es)) : Runs (ctx [47, 76, 90, 101] chkRecord_sp) Tabs chkRecord_L101_2_A (stateOf (chkRecord_L101_2_gs st kb cb x0 x1 (.next q ds))) (stateOf (chkRecord_L101_2_gs st kb cb x0 x1 (.out j es))) (chkRecord_L101_2_ax (.out j es)) ∧ (nxtOf (chkRecord_L101_2_gs st kb cb x0 x1 (.out j es)), lowGS (chkRecord_L101_2_gs st kb cb x0 x1 (.out j es))) = (chkRecord_L101_2_A.nx, chkRecord_L101_2_A.low) :=
  runs_of' (good true _ _) chkRecord_L101_2_ok (ax := chkRecord_L101_2_ax) (fun _ _ => rfl) (fun _ _ => axOf_end _) (chkRecord_L101_2_S_ok st kb cb x0 x1) h
theorem chkRecord_L101_2_in0 (st : Int) (kb : Nat) (cb : List D) (x0 : Int) (x1 : Int) {es : List D} (h : runR (chkRecord_L101_2_S st kb cb x0 x1) (.next 0 [iD ((0 : Int))]) = some (.out 0 es)) : LoopC (loopAt Try.prog 101 0) (chkRecord_L101_2_E st kb cb x0 x1) 5 noFrame chkRecord_x101_2_0 es :=
  have r := chkRecord_L101_2_go st kb cb x0 x1 h
  loopin_as rfl (loop_in (l := chkRecord_L101_2_A) (E := (chkRecord_L101_2_E st kb cb x0 x1)) (S := stateOf (chkRecord_L101_2_gs st kb cb x0 x1 (.next 0 [iD ((0 : Int))]))) (ns := nsOf (chkRecord_L101_2_gs st kb cb x0 x1 (.next 0 [iD ((0 : Int))]))) chkRecord_L101_2_ok r.1 r.2 (by kernel_rfl) (by kernel_rfl) (by kernel_rfl) (by kernel_rfl))
theorem chkRecord_L101_2_in1 (st : Int) (kb : Nat) (cb : List D) (x0 : Int) (x1 : Int) {es : List D} (h : runR (chkRecord_L101_2_S st kb cb x0 x1) (.next 0 [iD ((0 : Int))]) = some (.out 1 es)) : LoopC (loopAt Try.prog 101 0) (chkRecord_L101_2_E st kb cb x0 x1) 5 noFrame chkRecord_x101_2_1 es :=
  have r := chkRecord_L101_2_go st kb cb x0 x1 h
  loopin_as rfl (loop_in (l := chkRecord_L101_2_A) (E := (chkRecord_L101_2_E st kb cb x0 x1)) (S := stateOf (chkRecord_L101_2_gs st kb cb x0 x1 (.next 0 [iD ((0 : Int))]))) (ns := nsOf (chkRecord_L101_2_gs st kb cb x0 x1 (.next 0 [iD ((0 : Int))]))) chkRecord_L101_2_ok r.1 r.2 (by kernel_rfl) (by kernel_rfl) (by kernel_rfl) (by kernel_rfl))
def chkRecord_M (st : Int) (kb : Nat) (cb : List D) : Option D := pullD (α := Int) (m_74 [iD st]) (fun d => ((D.vi d))) (fun r0 => iD r0) fun r0 => (pullD (α := Int) (m_75 [iD (kb : Int)]) (fun d => ((D.vi d))) (fun r1 => iD r1) fun r1 => (pullD (α := Int) (m_45 [.list 2 [iD r0, iD r1]]) (fun d => ((D.vi d))) (fun r2 => iD r2) fun r2 => ((if r2 ≠ (0 : Int) then some (iD r2) else bindL (runR (chkRecord_L101_2_S st kb cb r0 r1) (.next 0 [iD ((0 : Int))])) fun j ds => (if j = 0 then pullD (some (.tup ds)) (fun _ => ()) (fun _ => .tup []) fun _ => (some (iD (0 : Int))) else if j = 1 then pullD (α := Int) (some (.tup ds)) (fun d => ((D.vi (D.at d 0)))) (fun l3 => .tup [iD l3]) fun l3 => (some (iD l3)) else none)))))
theorem chkRecord_M_ok (st : Int) (kb : Nat) (cb : List D) {r : D} (h : chkRecord_M st kb cb = some r) : Con 47 [.agg [iD st, .list kb cb]] r := by
  unfold chkRecord_M at h
  obtain ⟨r0, f1_, h2_⟩ := pullD_elim h
  replace f1_ := m_74_ok f1_
  obtain ⟨r1, f3_, h4_⟩ := pullD_elim h2_
  replace f3_ := m_75_ok f3_
  obtain ⟨r2, f5_, h6_⟩ := pullD_elim h4_
  replace f5_ := m_45_ok f5_
  by_cases b7_ : r2 ≠ (0 : Int)
  · have h8_ := (if_pos b7_).symm.trans h6_
    obtain rfl := Option.some.inj h8_
    exact con_pc (op := true) (I := [47, 76, 90, 101]) (sp := chkRecord_sp) 3000 (bT 1 []) [iD r0, iD r1, iD r2] [c_le 1, c_b b7_] [k_c f1_, k_c f3_, k_c f5_] (by kernel_rfl)
  have h8_ := (if_neg b7_).symm.trans h6_
  have b9_ : r2 = (0 : Int) := by first | exact b7_ | simpa using b7_
  obtain ⟨j, ds, e10_, h11_⟩ := bindL_elim h8_
  by_cases j12_ : j = 0
  · have h15_ := (if_pos j12_).symm.trans h11_
    clear h11_
    subst j12_
    obtain ⟨⟨⟩, e13_, h16_⟩ := pullD_elim h15_
    clear h15_
    obtain rfl := tup_inj e13_
    have k14_ := chkRecord_L101_2_in0 st kb cb r0 r1 e10_
    obtain rfl := Option.some.inj h16_
    exact con_pc (op := true) (I := [47, 76, 90, 101]) (sp := chkRecord_sp) 3000 (bF 1 []) [iD r0, iD r1, iD r2, .tup [iD (Int.ofNat 0)]] [c_le 1, c_bn b9_] [k_c f1_, k_c f3_, k_c f5_, k_l k14_ [] [.tup [iD (Int.ofNat 0)]] []] (by kernel_rfl)
  have h17_ := (if_neg j12_).symm.trans h11_
  clear h11_
  by_cases j18_ : j = 1
  · have h21_ := (if_pos j18_).symm.trans h17_
    clear h17_
    subst j18_
    obtain ⟨l3, e19_, h22_⟩ := pullD_elim h21_
    clear h21_
    obtain rfl := tup_inj e19_
    have k20_ := chkRecord_L101_2_in1 st kb cb r0 r1 e10_
    obtain rfl := Option.some.inj h22_
    exact con_pc (op := true) (I := [47, 76, 90, 101]) (sp := chkRecord_sp) 3000 (bF 1 []) [iD r0, iD r1, iD r2, .tup [iD (Int.ofNat 1), iD l3]] [c_le 1, c_bn b9_] [k_c f1_, k_c f3_, k_c f5_, k_l k20_ [] [.tup [iD (Int.ofNat 1), iD l3]] []] (by kernel_rfl)
  have h23_ := (if_neg j18_).symm.trans h17_
  clear h17_
  cases h23_
def m_47 (ds : List D) : Option D := pullD (α := Int × Nat × (List D)) (some (.tup ds)) (fun d => ((D.vi (D.at (D.at d 0) 0)), (D.ln (D.at (D.at d 0) 1)), (D.lc (D.at (D.at d 0) 1)))) (fun (st, kb, cb) => .tup [.agg [iD st, .list kb cb]]) fun (st, kb, cb) => chkRecord_M st kb cb
theorem m_47_ok {ds : List D} {r : D} (h : m_47 ds = some r) : Con 47 ds r := by
  unfold m_47 at h
  obtain ⟨⟨st, kb, cb⟩, e0, h0⟩ := pullD_elim h
  obtain rfl := tup_inj e0
  exact chkRecord_M_ok st kb cb h0
theorem m_47_eq (st : Int) (kb : Nat) (cb : List D) : m_47 [.agg [iD st, .list kb cb]] = chkRecord_M st kb cb := pullD_some (st, kb, cb) rfl rfl
def recErr_x8_0 : LExit := ⟨some 0, [], (2 :: (3 :: (List.range' 16 14)))⟩
def recErr_x8_1 : LExit := ⟨none, [.val 2], (3 :: (List.range' 16 14))⟩
def recErr_sp : List LSpec := [⟨41, 8, [recErr_x8_0, recErr_x8_1]⟩]
def recErr_L8_E (st : Int) (kb : Nat) (cb : List D) (x0 : Bool) : List AV × AHeap := ([.agg [.pure (.int .i64 st), .dsl 0], .ptr 1 0, .pure (.int .i64 (0 : Int)), .pure (.int .i64 (0 : Int)), .ptr 1 0, .pure (.int .i64 st), .pure (.bool x0), .pure (.bool !x0), .ptr 1 1, .dsl 0, .pure (.int .i64 (kb : Int)), .pure (.bool (decide ((kb : Int) < (3 : Int)))), .ptr 1 1, .dsl 0, .pure (.int .i64 (kb : Int)), .pure (.bool (decide ((kb : Int) > (64 : Int)))), .pure (.tuple #[]), .pure (.tuple #[]), .pure (.tuple #[]), .pure (.tuple #[]), .pure (.tuple #[]), .pure (.tuple #[]), .pure (.tuple #[]), .pure (.tuple #[]), .pure (.tuple #[]), .pure (.tuple #[]), .pure (.tuple #[]), .pure (.tuple #[]), .pure (.tuple #[]), .pure (.tuple #[])], [(1, { cells := [.pure (.int .i64 st), .dsl 0], opn := none, kind := .cells }), (0, { cells := [], opn := none, kind := .deep kb cb })])
def recErr_L8_A : LoopAt := ⟨41, loopAt Try.prog 41 0, 2, 18, 2, noFrame⟩
theorem recErr_L8_ok : (recErr_L8_A).OK := ⟨by show 2 ≤ 18; decide, by show 2 ≤ 2; decide, by kernel_rfl, rfl⟩
def recErr_L8_gs (st : Int) (kb : Nat) (cb : List D) (x0 : Bool) : Go.Ev.Rd → Option GS
  | .next 0 ds => ghost [.val 3] (2 :: (List.range' 16 14)) (recErr_L8_E st kb cb x0).1 (recErr_L8_E st kb cb x0).2 2 ds
  | .out 0 ds => ghost recErr_x8_0.live recErr_x8_0.junk (recErr_L8_E st kb cb x0).1 (recErr_L8_E st kb cb x0).2 2 ds
  | .out 1 ds => ghost recErr_x8_1.live recErr_x8_1.junk (recErr_L8_E st kb cb x0).1 (recErr_L8_E st kb cb x0).2 2 ds
  | _ => none
def recErr_L8_ex : Nat → Option Nat
  | 0 => recErr_x8_0.ex
  | 1 => recErr_x8_1.ex
  | _ => none
def recErr_L8_ax : Go.Ev.Rd → AX
  | .next _ _ => .normal
  | .out j _ => axOf (recErr_L8_ex j)
def recErr_L8_S0 (st : Int) (kb : Nat) (cb : List D) (x0 : Bool) (ds : List D) : Option Go.Ev.Rd := pullD (α := Int) (some (.tup ds)) (fun d => ((D.vi (D.at d 0)))) (fun s3 => .tup [iD s3]) fun s3 => ((if s3 < (kb : Int) then guardP ((0 : Int) ≤ s3 ∧ s3.toNat < kb) (pullD (α := Int) (readD cb (s3.toNat * 1) 1 false) (fun d => ((D.vi d))) (fun v0 => iD v0) fun v0 => (pullD (α := Bool) (m_33 [iD v0, iD (-4096 : Int), iD (4096 : Int)]) (fun d => ((D.vb d))) (fun r1 => .one (.bool r1)) fun r1 => ((if r1 = false then some (.out 1 [iD (2 : Int)]) else some (.next 0 [iD (IntKind.i64.wrap (s3 + (1 : Int)))]))))) else some (.out 0 [])))
def recErr_L8_S (st : Int) (kb : Nat) (cb : List D) (x0 : Bool) : Go.Ev.Rd → Option Go.Ev.Rd
  | .next 0 ds => recErr_L8_S0 st kb cb x0 ds
  | _ => none
theorem recErr_L8_S_0 (st : Int) (kb : Nat) (cb : List D) (x0 : Bool) (ds : List D) : recErr_L8_S st kb cb x0 (.next 0 ds) = recErr_L8_S0 st kb cb x0 ds := rfl
theorem recErr_L8_S_ok (st : Int) (kb : Nat) (cb : List D) (x0 : Bool) : ∀ s_ t_, recErr_L8_S st kb cb x0 s_ = some t_ → Step (ctx [41] recErr_sp) Tabs recErr_L8_A (stateOf (recErr_L8_gs st kb cb x0 s_)) (stateOf (recErr_L8_gs st kb cb x0 t_)) (recErr_L8_ax t_) ∧ EndOK recErr_L8_A.nx recErr_L8_A.low (recErr_L8_gs st kb cb x0) t_
  | .next 0 ds, t_, h => by
    have h_ : recErr_L8_S0 st kb cb x0 ds = some t_ := h
    clear h
    unfold recErr_L8_S0 at h_
    obtain ⟨s3, e0, h0⟩ := pullD_elim h_
    clear h_
    obtain rfl := tup_inj e0
    by_cases b1_ : s3 < (kb : Int)
    · have h2_ := (if_pos b1_).symm.trans h0
      obtain ⟨f3_, h4_⟩ := guardP_elim h2_
      obtain ⟨v0, f5_, h6_⟩ := pullD_elim h4_
      replace f5_ := readD_elim f5_
      obtain ⟨r1, f7_, h8_⟩ := pullD_elim h6_
      replace f7_ := m_33_ok f7_
      by_cases b9_ : r1 = false
      · have h10_ := (if_pos b9_).symm.trans h8_
        obtain rfl := Option.some.inj h10_
        exact ⟨step_pc 3000 (bT 2 []) [iD v0, .one (.bool r1)] [c_d b1_, c_f f3_, c_f f5_, c_no b9_] [k_c f7_] _ rfl (by kernel_rfl) (by kernel_rfl) (by kernel_rfl) (by kernel_rfl) (by kernel_rfl) (by kernel_rfl), by kernel_rfl, by kernel_rfl⟩
      have h10_ := (if_neg b9_).symm.trans h8_
      have b11_ : r1 = true := by first | exact b9_ | simpa using b9_
      obtain rfl := Option.some.inj h10_
      exact ⟨step_pc 3000 (bT 1 (bF 1 [])) [iD v0, .one (.bool r1)] [c_d b1_, c_f f3_, c_f f5_, c_nn b11_] [k_c f7_] _ rfl (by kernel_rfl) (by kernel_rfl) (by kernel_rfl) (by kernel_rfl) (by kernel_rfl) (by kernel_rfl), trivial⟩
    have h2_ := (if_neg b1_).symm.trans h0
    obtain rfl := Option.some.inj h2_
    exact ⟨step_pc 3000 (bF 1 []) [] [c_n b1_] [] _ rfl (by kernel_rfl) (by kernel_rfl) (by kernel_rfl) (by kernel_rfl) (by kernel_rfl) (by kernel_rfl), by kernel_rfl, by kernel_rfl⟩
  | .next (_ + 1) _, _, h => by cases h
  | .out _ _, _, h => by cases h
theorem recErr_L8_go (st : Int) (kb : Nat) (cb : List D) (x0 : Bool) {q : Nat} {ds : List D} {j : Nat} {es : List D} (h : runR (recErr_L8_S st kb cb x0) (.next q ds) = some (.out j es)) : Runs (ctx [41] recErr_sp) Tabs recErr_L8_A (stateOf (recErr_L8_gs st kb cb x0 (.next q ds))) (stateOf (recErr_L8_gs st kb cb x0 (.out j es))) (recErr_L8_ax (.out j es)) ∧ (nxtOf (recErr_L8_gs st kb cb x0 (.out j es)), lowGS (recErr_L8_gs st kb cb x0 (.out j es))) = (recErr_L8_A.nx, recErr_L8_A.low) :=
  runs_of' (good true _ _) recErr_L8_ok (ax := recErr_L8_ax) (fun _ _ => rfl) (fun _ _ => axOf_end _) (recErr_L8_S_ok st kb cb x0) h
theorem recErr_L8_in0 (st : Int) (kb : Nat) (cb : List D) (x0 : Bool) {es : List D} (h : runR (recErr_L8_S st kb cb x0) (.next 0 [iD ((0 : Int))]) = some (.out 0 es)) : LoopC (loopAt Try.prog 41 0) (recErr_L8_E st kb cb x0) 2 noFrame recErr_x8_0 es :=
  have r := recErr_L8_go st kb cb x0 h
  loopin_as rfl (loop_in (l := recErr_L8_A) (E := (recErr_L8_E st kb cb x0)) (S := stateOf (recErr_L8_gs st kb cb x0 (.next 0 [iD ((0 : Int))]))) (ns := nsOf (recErr_L8_gs st kb cb x0 (.next 0 [iD ((0 : Int))]))) recErr_L8_ok r.1 r.2 (by kernel_rfl) (by kernel_rfl) (by kernel_rfl) (by kernel_rfl))
theorem recErr_L8_in1 (st : Int) (kb : Nat) (cb : List D) (x0 : Bool) {es : List D} (h : runR (recErr_L8_S st kb cb x0) (.next 0 [iD ((0 : Int))]) = some (.out 1 es)) : LoopC (loopAt Try.prog 41 0) (recErr_L8_E st kb cb x0) 2 noFrame recErr_x8_1 es :=
  have r := recErr_L8_go st kb cb x0 h
  loopin_as rfl (loop_in (l := recErr_L8_A) (E := (recErr_L8_E st kb cb x0)) (S := stateOf (recErr_L8_gs st kb cb x0 (.next 0 [iD ((0 : Int))]))) (ns := nsOf (recErr_L8_gs st kb cb x0 (.next 0 [iD ((0 : Int))]))) recErr_L8_ok r.1 r.2 (by kernel_rfl) (by kernel_rfl) (by kernel_rfl) (by kernel_rfl))
def recErr_M (st : Int) (kb : Nat) (cb : List D) : Option D := pullD (α := Bool) (m_33 [iD st, iD (1 : Int), iD (1000000 : Int)]) (fun d => ((D.vb d))) (fun r0 => .one (.bool r0)) fun r0 => ((if r0 = false then some (iD (2 : Int)) else (if (kb : Int) < (3 : Int) then some (iD (10 : Int)) else (if (kb : Int) > (64 : Int) then some (iD (8 : Int)) else bindL (runR (recErr_L8_S st kb cb r0) (.next 0 [iD ((0 : Int))])) fun j ds => (if j = 0 then pullD (some (.tup ds)) (fun _ => ()) (fun _ => .tup []) fun _ => (some (iD (0 : Int))) else if j = 1 then pullD (α := Int) (some (.tup ds)) (fun d => ((D.vi (D.at d 0)))) (fun l1 => .tup [iD l1]) fun l1 => (some (iD l1)) else none)))))
theorem recErr_M_ok (st : Int) (kb : Nat) (cb : List D) {r : D} (h : recErr_M st kb cb = some r) : Con 41 [.agg [iD st, .list kb cb]] r := by
  unfold recErr_M at h
  obtain ⟨r0, f1_, h2_⟩ := pullD_elim h
  replace f1_ := m_33_ok f1_
  by_cases b3_ : r0 = false
  · have h4_ := (if_pos b3_).symm.trans h2_
    obtain rfl := Option.some.inj h4_
    exact con_pc (op := true) (I := [41]) (sp := recErr_sp) 3000 (bT 1 []) [.one (.bool r0)] [c_no b3_] [k_c f1_] (by kernel_rfl)
  have h4_ := (if_neg b3_).symm.trans h2_
  have b5_ : r0 = true := by first | exact b3_ | simpa using b3_
  by_cases b6_ : (kb : Int) < (3 : Int)
  · have h7_ := (if_pos b6_).symm.trans h4_
    obtain rfl := Option.some.inj h7_
    exact con_pc (op := true) (I := [41]) (sp := recErr_sp) 3000 (bF 1 (bT 1 [])) [.one (.bool r0)] [c_nn b5_, c_d b6_] [k_c f1_] (by kernel_rfl)
  have h7_ := (if_neg b6_).symm.trans h4_
  by_cases b8_ : (kb : Int) > (64 : Int)
  · have h9_ := (if_pos b8_).symm.trans h7_
    obtain rfl := Option.some.inj h9_
    exact con_pc (op := true) (I := [41]) (sp := recErr_sp) 3000 (bF 2 (bT 1 [])) [.one (.bool r0)] [c_nn b5_, c_n b6_, c_d b8_] [k_c f1_] (by kernel_rfl)
  have h9_ := (if_neg b8_).symm.trans h7_
  obtain ⟨j, ds, e10_, h11_⟩ := bindL_elim h9_
  by_cases j12_ : j = 0
  · have h15_ := (if_pos j12_).symm.trans h11_
    clear h11_
    subst j12_
    obtain ⟨⟨⟩, e13_, h16_⟩ := pullD_elim h15_
    clear h15_
    obtain rfl := tup_inj e13_
    have k14_ := recErr_L8_in0 st kb cb r0 e10_
    obtain rfl := Option.some.inj h16_
    exact con_pc (op := true) (I := [41]) (sp := recErr_sp) 3000 (bF 3 []) [.one (.bool r0), .tup [iD (Int.ofNat 0)]] [c_nn b5_, c_n b6_, c_n b8_] [k_c f1_, k_l k14_ [] [.tup [iD (Int.ofNat 0)]] []] (by kernel_rfl)
  have h17_ := (if_neg j12_).symm.trans h11_
  clear h11_
  by_cases j18_ : j = 1
  · have h21_ := (if_pos j18_).symm.trans h17_
    clear h17_
    subst j18_
    obtain ⟨l1, e19_, h22_⟩ := pullD_elim h21_
    clear h21_
    obtain rfl := tup_inj e19_
    have k20_ := recErr_L8_in1 st kb cb r0 e10_
    obtain rfl := Option.some.inj h22_
    exact con_pc (op := true) (I := [41]) (sp := recErr_sp) 3000 (bF 3 []) [.one (.bool r0), .tup [iD (Int.ofNat 1), iD l1]] [c_nn b5_, c_n b6_, c_n b8_] [k_c f1_, k_l k20_ [] [.tup [iD (Int.ofNat 1), iD l1]] []] (by kernel_rfl)
  have h23_ := (if_neg j18_).symm.trans h17_
  clear h17_
  cases h23_
def m_41 (ds : List D) : Option D := pullD (α := Int × Nat × (List D)) (some (.tup ds)) (fun d => ((D.vi (D.at (D.at d 0) 0)), (D.ln (D.at (D.at d 0) 1)), (D.lc (D.at (D.at d 0) 1)))) (fun (st, kb, cb) => .tup [.agg [iD st, .list kb cb]]) fun (st, kb, cb) => recErr_M st kb cb
theorem m_41_ok {ds : List D} {r : D} (h : m_41 ds = some r) : Con 41 ds r := by
  unfold m_41 at h
  obtain ⟨⟨st, kb, cb⟩, e0, h0⟩ := pullD_elim h
  obtain rfl := tup_inj e0
  exact recErr_M_ok st kb cb h0
theorem m_41_eq (st : Int) (kb : Nat) (cb : List D) : m_41 [.agg [iD st, .list kb cb]] = recErr_M st kb cb := pullD_some (st, kb, cb) rfl rfl
def few_sp : List LSpec := []
def few_M (st : Int) (kb : Nat) (cb : List D) : Option D := some (.one (.bool (decide ((kb : Int) ≤ (70 : Int)))))
theorem few_M_ok (st : Int) (kb : Nat) (cb : List D) {r : D} (h : few_M st kb cb = some r) : Con 10 [.agg [iD st, .list kb cb]] r := by
  unfold few_M at h
  obtain rfl := Option.some.inj h
  exact con_pc (op := true) (I := [10]) (sp := few_sp) 3000 [] [] [] [] (by kernel_rfl)
def m_10 (ds : List D) : Option D := pullD (α := Int × Nat × (List D)) (some (.tup ds)) (fun d => ((D.vi (D.at (D.at d 0) 0)), (D.ln (D.at (D.at d 0) 1)), (D.lc (D.at (D.at d 0) 1)))) (fun (st, kb, cb) => .tup [.agg [iD st, .list kb cb]]) fun (st, kb, cb) => few_M st kb cb
theorem m_10_ok {ds : List D} {r : D} (h : m_10 ds = some r) : Con 10 ds r := by
  unfold m_10 at h
  obtain ⟨⟨st, kb, cb⟩, e0, h0⟩ := pullD_elim h
  obtain rfl := tup_inj e0
  exact few_M_ok st kb cb h0
theorem m_10_eq (st : Int) (kb : Nat) (cb : List D) : m_10 [.agg [iD st, .list kb cb]] = few_M st kb cb := pullD_some (st, kb, cb) rfl rfl
def fewF_sp : List LSpec := []
def fewF_M (re fa fb fc fd : Int) (k : Nat) (c : List D) : Option D := some (.one (.bool (decide ((k : Int) ≤ (6 : Int)))))
theorem fewF_M_ok (re fa fb fc fd : Int) (k : Nat) (c : List D) {r : D} (h : fewF_M re fa fb fc fd k c = some r) : Con 11 [.agg [iD re, iD fa, iD fb, iD fc, iD fd, .list k c]] r := by
  unfold fewF_M at h
  obtain rfl := Option.some.inj h
  exact con_pc (op := true) (I := [11]) (sp := fewF_sp) 3000 [] [] [] [] (by kernel_rfl)
def m_11 (ds : List D) : Option D := pullD (α := Int × Int × Int × Int × Int × Nat × (List D)) (some (.tup ds)) (fun d => ((D.vi (D.at (D.at d 0) 0)), (D.vi (D.at (D.at d 0) 1)), (D.vi (D.at (D.at d 0) 2)), (D.vi (D.at (D.at d 0) 3)), (D.vi (D.at (D.at d 0) 4)), (D.ln (D.at (D.at d 0) 5)), (D.lc (D.at (D.at d 0) 5)))) (fun (re, fa, fb, fc, fd, k, c) => .tup [.agg [iD re, iD fa, iD fb, iD fc, iD fd, .list k c]]) fun (re, fa, fb, fc, fd, k, c) => fewF_M re fa fb fc fd k c
theorem m_11_ok {ds : List D} {r : D} (h : m_11 ds = some r) : Con 11 ds r := by
  unfold m_11 at h
  obtain ⟨⟨re, fa, fb, fc, fd, k, c⟩, e0, h0⟩ := pullD_elim h
  obtain rfl := tup_inj e0
  exact fewF_M_ok re fa fb fc fd k c h0
theorem m_11_eq (re fa fb fc fd : Int) (k : Nat) (c : List D) : m_11 [.agg [iD re, iD fa, iD fb, iD fc, iD fd, .list k c]] = fewF_M re fa fb fc fd k c := pullD_some (re, fa, fb, fc, fd, k, c) rfl rfl
end
end Go.Proofs.Ytmohaohdbklkeaa
namespace Go.Proofs.Ytmohaohdbklkeaa
open Go.Ev Go.RowKit
set_option maxRecDepth 100000
set_option maxHeartbeats 8000000
set_option linter.all false
noncomputable section
def around_sp : List LSpec := []
def around_M (n b : Int) : Option D := some (.agg [iD (IntKind.i64.wrap (n - b)), iD (IntKind.i64.wrap (n + b))])
theorem around_M_ok (n b : Int) {r : D} (h : around_M n b = some r) : Con 77 [iD n, iD b] r := by
  unfold around_M at h
  obtain rfl := Option.some.inj h
  exact con_pc (op := true) (I := [77]) (sp := around_sp) 3000 [] [] [] [] (by kernel_rfl)
def m_77 (ds : List D) : Option D := pullD (α := Int × Int) (some (.tup ds)) (fun d => ((D.vi (D.at d 0)), (D.vi (D.at d 1)))) (fun (n, b) => .tup [iD n, iD b]) fun (n, b) => around_M n b
theorem m_77_ok {ds : List D} {r : D} (h : m_77 ds = some r) : Con 77 ds r := by
  unfold m_77 at h
  obtain ⟨⟨n, b⟩, e0, h0⟩ := pullD_elim h
  obtain rfl := tup_inj e0
  exact around_M_ok n b h0
theorem m_77_eq (n b : Int) : m_77 [iD n, iD b] = around_M n b := pullD_some (n, b) rfl rfl
end
end Go.Proofs.Ytmohaohdbklkeaa
namespace Go.Proofs.Ytmohaohdbklkeaa
open Go.Ev Go.RowKit
set_option maxRecDepth 100000
set_option maxHeartbeats 8000000
set_option linter.all false
noncomputable section
def bothErr_sp : List LSpec := []
def bothErr_M (re fa fb fc fd : Int) (k : Nat) (c : List D) (st : Int) (kb : Nat) (cb : List D) : Option D := pullD (α := Int) (m_53 [.agg [iD re, iD fa, iD fb, iD fc, iD fd, .list k c]]) (fun d => ((D.vi d))) (fun r0 => iD r0) fun r0 => ((if r0 ≠ (0 : Int) then some (iD r0) else pullD (α := Int) (m_41 [.agg [iD st, .list kb cb]]) (fun d => ((D.vi d))) (fun r1 => iD r1) fun r1 => (some (iD r1))))
theorem bothErr_M_ok (re fa fb fc fd : Int) (k : Nat) (c : List D) (st : Int) (kb : Nat) (cb : List D) {r : D} (h : bothErr_M re fa fb fc fd k c st kb cb = some r) : Con 17 [.agg [iD re, iD fa, iD fb, iD fc, iD fd, .list k c], .agg [iD st, .list kb cb]] r := by
  unfold bothErr_M at h
  obtain ⟨r0, f1_, h2_⟩ := pullD_elim h
  replace f1_ := m_53_ok f1_
  by_cases b3_ : r0 ≠ (0 : Int)
  · have h4_ := (if_pos b3_).symm.trans h2_
    obtain rfl := Option.some.inj h4_
    exact con_pc (op := true) (I := [17]) (sp := bothErr_sp) 3000 (bT 1 []) [iD r0] [c_b b3_] [k_c f1_] (by kernel_rfl)
  have h4_ := (if_neg b3_).symm.trans h2_
  have b5_ : r0 = (0 : Int) := by first | exact b3_ | simpa using b3_
  obtain ⟨r1, f6_, h7_⟩ := pullD_elim h4_
  replace f6_ := m_41_ok f6_
  obtain rfl := Option.some.inj h7_
  exact con_pc (op := true) (I := [17]) (sp := bothErr_sp) 3000 (bF 1 []) [iD r0, iD r1] [c_bn b5_] [k_c f1_, k_c f6_] (by kernel_rfl)
def m_17 (ds : List D) : Option D := pullD (α := Int × Int × Int × Int × Int × Nat × (List D) × Int × Nat × (List D)) (some (.tup ds)) (fun d => ((D.vi (D.at (D.at d 0) 0)), (D.vi (D.at (D.at d 0) 1)), (D.vi (D.at (D.at d 0) 2)), (D.vi (D.at (D.at d 0) 3)), (D.vi (D.at (D.at d 0) 4)), (D.ln (D.at (D.at d 0) 5)), (D.lc (D.at (D.at d 0) 5)), (D.vi (D.at (D.at d 1) 0)), (D.ln (D.at (D.at d 1) 1)), (D.lc (D.at (D.at d 1) 1)))) (fun (re, fa, fb, fc, fd, k, c, st, kb, cb) => .tup [.agg [iD re, iD fa, iD fb, iD fc, iD fd, .list k c], .agg [iD st, .list kb cb]]) fun (re, fa, fb, fc, fd, k, c, st, kb, cb) => bothErr_M re fa fb fc fd k c st kb cb
theorem m_17_ok {ds : List D} {r : D} (h : m_17 ds = some r) : Con 17 ds r := by
  unfold m_17 at h
  obtain ⟨⟨re, fa, fb, fc, fd, k, c, st, kb, cb⟩, e0, h0⟩ := pullD_elim h
  obtain rfl := tup_inj e0
  exact bothErr_M_ok re fa fb fc fd k c st kb cb h0
theorem m_17_eq (re fa fb fc fd : Int) (k : Nat) (c : List D) (st : Int) (kb : Nat) (cb : List D) : m_17 [.agg [iD re, iD fa, iD fb, iD fc, iD fd, .list k c], .agg [iD st, .list kb cb]] = bothErr_M re fa fb fc fd k c st kb cb := pullD_some (re, fa, fb, fc, fd, k, c, st, kb, cb) rfl rfl
end
end Go.Proofs.Ytmohaohdbklkeaa
namespace Go.Proofs.Ytmohaohdbklkeaa
open Go.Ev Go.RowKit
set_option maxRecDepth 100000
set_option maxHeartbeats 8000000
set_option linter.all false
noncomputable section
abbrev shNLA_0 (a0 : Int) (a1 : Int) (a2 : Int) (a3 : Int) : D := .agg [.one (.int .i64 a0), .one (.int .i64 a1), .one (.int .i64 a2), .one (.int .i64 a3)]
def lowest_sp : List LSpec := []
def lowest_M (n d : Int) : Option D := pullD (α := Int) (m_100 [iD n, iD d]) (fun d => ((D.vi d))) (fun r0 => iD r0) fun r0 => ((if d < (0 : Int) then guardP (IntKind.i64.wrap ((0 : Int) - r0) ≠ (0 : Int)) (some (.agg [iD (IntKind.i64.wrap (n.tdiv (IntKind.i64.wrap ((0 : Int) - r0)))), iD (IntKind.i64.wrap (d.tdiv (IntKind.i64.wrap ((0 : Int) - r0))))])) else guardP (r0 ≠ (0 : Int)) (some (.agg [iD (IntKind.i64.wrap (n.tdiv r0)), iD (IntKind.i64.wrap (d.tdiv r0))]))))
theorem lowest_M_ok (n d : Int) {r : D} (h : lowest_M n d = some r) : Con 87 [iD n, iD d] r := by
  unfold lowest_M at h
  obtain ⟨r0, f1_, h2_⟩ := pullD_elim h
  replace f1_ := m_100_ok f1_
  by_cases b3_ : d < (0 : Int)
  · have h4_ := (if_pos b3_).symm.trans h2_
    obtain ⟨f5_, h6_⟩ := guardP_elim h4_
    obtain rfl := Option.some.inj h6_
    exact con_pc (op := true) (I := [87]) (sp := lowest_sp) 3000 (bT 1 []) [iD r0] [c_d b3_, c_en f5_, c_en f5_] [k_c f1_] (by kernel_rfl)
  have h4_ := (if_neg b3_).symm.trans h2_
  obtain ⟨f7_, h8_⟩ := guardP_elim h4_
  obtain rfl := Option.some.inj h8_
  exact con_pc (op := true) (I := [87]) (sp := lowest_sp) 3000 (bF 1 []) [iD r0] [c_n b3_, c_en f7_, c_en f7_] [k_c f1_] (by kernel_rfl)
def m_87 (ds : List D) : Option D := pullD (α := Int × Int) (some (.tup ds)) (fun d => ((D.vi (D.at d 0)), (D.vi (D.at d 1)))) (fun (n, d) => .tup [iD n, iD d]) fun (n, d) => lowest_M n d
theorem m_87_ok {ds : List D} {r : D} (h : m_87 ds = some r) : Con 87 ds r := by
  unfold m_87 at h
  obtain ⟨⟨n, d⟩, e0, h0⟩ := pullD_elim h
  obtain rfl := tup_inj e0
  exact lowest_M_ok n d h0
theorem m_87_eq (n d : Int) : m_87 [iD n, iD d] = lowest_M n d := pullD_some (n, d) rfl rfl
def reduced_sp : List LSpec := []
def reduced_M (n d : Int) : Option D := pullD (α := Int) (m_102 [iD n, iD d]) (fun d => ((D.vi d))) (fun r0 => iD r0) fun r0 => (guardP (r0 ≠ (0 : Int)) (some (.agg [iD (IntKind.i64.wrap (n.tdiv r0)), iD (IntKind.i64.wrap (d.tdiv r0))])))
theorem reduced_M_ok (n d : Int) {r : D} (h : reduced_M n d = some r) : Con 93 [iD n, iD d] r := by
  unfold reduced_M at h
  obtain ⟨r0, f1_, h2_⟩ := pullD_elim h
  replace f1_ := m_102_ok f1_
  obtain ⟨f3_, h4_⟩ := guardP_elim h2_
  obtain rfl := Option.some.inj h4_
  exact con_pc (op := true) (I := [93]) (sp := reduced_sp) 3000 [] [iD r0] [c_en f3_, c_en f3_] [k_c f1_] (by kernel_rfl)
def m_93 (ds : List D) : Option D := pullD (α := Int × Int) (some (.tup ds)) (fun d => ((D.vi (D.at d 0)), (D.vi (D.at d 1)))) (fun (n, d) => .tup [iD n, iD d]) fun (n, d) => reduced_M n d
theorem m_93_ok {ds : List D} {r : D} (h : m_93 ds = some r) : Con 93 ds r := by
  unfold m_93 at h
  obtain ⟨⟨n, d⟩, e0, h0⟩ := pullD_elim h
  obtain rfl := tup_inj e0
  exact reduced_M_ok n d h0
theorem m_93_eq (n d : Int) : m_93 [iD n, iD d] = reduced_M n d := pullD_some (n, d) rfl rfl
def lesser_sp : List LSpec := []
def lesser_M (n d m e : Int) : Option D := pullD (α := Bool) (m_95 [.agg [iD m, iD e], .agg [iD n, iD d]]) (fun d => ((D.vb d))) (fun r0 => .one (.bool r0)) fun r0 => ((if (r0) = true then some (.agg [iD m, iD e]) else some (.agg [iD n, iD d])))
theorem lesser_M_ok (n d m e : Int) {r : D} (h : lesser_M n d m e = some r) : Con 98 [.agg [iD n, iD d], .agg [iD m, iD e]] r := by
  unfold lesser_M at h
  obtain ⟨r0, f1_, h2_⟩ := pullD_elim h
  replace f1_ := m_95_ok f1_
  by_cases b3_ : (r0) = true
  · have h4_ := (if_pos b3_).symm.trans h2_
    obtain rfl := Option.some.inj h4_
    exact con_pc (op := true) (I := [98]) (sp := lesser_sp) 3000 (bT 1 []) [.one (.bool r0)] [c_q b3_] [k_c f1_] (by kernel_rfl)
  have h4_ := (if_neg b3_).symm.trans h2_
  have b5_ : (r0) = false := by first | exact b3_ | simpa using b3_
  obtain rfl := Option.some.inj h4_
  exact con_pc (op := true) (I := [98]) (sp := lesser_sp) 3000 (bF 1 []) [.one (.bool r0)] [c_q b5_] [k_c f1_] (by kernel_rfl)
def m_98 (ds : List D) : Option D := pullD (α := Int × Int × Int × Int) (some (.tup ds)) (fun d => ((D.vi (D.at (D.at d 0) 0)), (D.vi (D.at (D.at d 0) 1)), (D.vi (D.at (D.at d 1) 0)), (D.vi (D.at (D.at d 1) 1)))) (fun (n, d, m, e) => .tup [.agg [iD n, iD d], .agg [iD m, iD e]]) fun (n, d, m, e) => lesser_M n d m e
theorem m_98_ok {ds : List D} {r : D} (h : m_98 ds = some r) : Con 98 ds r := by
  unfold m_98 at h
  obtain ⟨⟨n, d, m, e⟩, e0, h0⟩ := pullD_elim h
  obtain rfl := tup_inj e0
  exact lesser_M_ok n d m e h0
theorem m_98_eq (n d m e : Int) : m_98 [.agg [iD n, iD d], .agg [iD m, iD e]] = lesser_M n d m e := pullD_some (n, d, m, e) rfl rfl
def greater_sp : List LSpec := []
def greater_M (n d m e : Int) : Option D := pullD (α := Bool) (m_95 [.agg [iD n, iD d], .agg [iD m, iD e]]) (fun d => ((D.vb d))) (fun r0 => .one (.bool r0)) fun r0 => ((if (r0) = true then some (.agg [iD m, iD e]) else some (.agg [iD n, iD d])))
theorem greater_M_ok (n d m e : Int) {r : D} (h : greater_M n d m e = some r) : Con 99 [.agg [iD n, iD d], .agg [iD m, iD e]] r := by
  unfold greater_M at h
  obtain ⟨r0, f1_, h2_⟩ := pullD_elim h
  replace f1_ := m_95_ok f1_
  by_cases b3_ : (r0) = true
  · have h4_ := (if_pos b3_).symm.trans h2_
    obtain rfl := Option.some.inj h4_
    exact con_pc (op := true) (I := [99]) (sp := greater_sp) 3000 (bT 1 []) [.one (.bool r0)] [c_q b3_] [k_c f1_] (by kernel_rfl)
  have h4_ := (if_neg b3_).symm.trans h2_
  have b5_ : (r0) = false := by first | exact b3_ | simpa using b3_
  obtain rfl := Option.some.inj h4_
  exact con_pc (op := true) (I := [99]) (sp := greater_sp) 3000 (bF 1 []) [.one (.bool r0)] [c_q b5_] [k_c f1_] (by kernel_rfl)
def m_99 (ds : List D) : Option D := pullD (α := Int × Int × Int × Int) (some (.tup ds)) (fun d => ((D.vi (D.at (D.at d 0) 0)), (D.vi (D.at (D.at d 0) 1)), (D.vi (D.at (D.at d 1) 0)), (D.vi (D.at (D.at d 1) 1)))) (fun (n, d, m, e) => .tup [.agg [iD n, iD d], .agg [iD m, iD e]]) fun (n, d, m, e) => greater_M n d m e
theorem m_99_ok {ds : List D} {r : D} (h : m_99 ds = some r) : Con 99 ds r := by
  unfold m_99 at h
  obtain ⟨⟨n, d, m, e⟩, e0, h0⟩ := pullD_elim h
  obtain rfl := tup_inj e0
  exact greater_M_ok n d m e h0
theorem m_99_eq (n d m e : Int) : m_99 [.agg [iD n, iD d], .agg [iD m, iD e]] = greater_M n d m e := pullD_some (n, d, m, e) rfl rfl
def narrowed_sp : List LSpec := []
def narrowed_M (t b fa fb fc fd : Int) : Option D := (if t = (0 : Int) then some (.tup [(shNLA_0 fa fb fc fd), .one (.bool (decide (b ≥ (0 : Int))))]) else (if t > (0 : Int) then pullD (α := Int × Int) (m_93 [iD b, iD t]) (fun d => ((D.vi (D.at d 0)), (D.vi (D.at d 1)))) (fun (r0, r1) => .agg [iD r0, iD r1]) fun (r0, r1) => (pullD (α := Int × Int) (m_98 [.agg [iD fc, iD fd], .agg [iD r0, iD r1]]) (fun d => ((D.vi (D.at d 0)), (D.vi (D.at d 1)))) (fun (r2, r3) => .agg [iD r2, iD r3]) fun (r2, r3) => (pullD (α := Bool) (m_95 [.agg [iD r2, iD r3], .agg [iD fa, iD fb]]) (fun d => ((D.vb d))) (fun r4 => .one (.bool r4)) fun r4 => (some (.tup [(shNLA_0 fa fb r2 r3), .one (.bool !r4)])))) else pullD (α := Int × Int) (m_93 [iD (IntKind.i64.wrap ((0 : Int) - b)), iD (IntKind.i64.wrap ((0 : Int) - t))]) (fun d => ((D.vi (D.at d 0)), (D.vi (D.at d 1)))) (fun (r5, r6) => .agg [iD r5, iD r6]) fun (r5, r6) => (pullD (α := Int × Int) (m_99 [.agg [iD fa, iD fb], .agg [iD r5, iD r6]]) (fun d => ((D.vi (D.at d 0)), (D.vi (D.at d 1)))) (fun (r7, r8) => .agg [iD r7, iD r8]) fun (r7, r8) => (pullD (α := Bool) (m_95 [.agg [iD fc, iD fd], .agg [iD r7, iD r8]]) (fun d => ((D.vb d))) (fun r9 => .one (.bool r9)) fun r9 => (some (.tup [(shNLA_0 r7 r8 fc fd), .one (.bool !r9)]))))))
theorem narrowed_M_ok (t b fa fb fc fd : Int) {r : D} (h : narrowed_M t b fa fb fc fd = some r) : Con 86 [.agg [iD t, iD b], (shNLA_0 fa fb fc fd)] r := by
  unfold narrowed_M at h
  by_cases b1_ : t = (0 : Int)
  · have h2_ := (if_pos b1_).symm.trans h
    obtain rfl := Option.some.inj h2_
    exact con_pc (op := true) (I := [86]) (sp := narrowed_sp) 3000 (bT 1 []) [] [c_e b1_] [] (by kernel_rfl)
  have h2_ := (if_neg b1_).symm.trans h
  have b3_ : t ≠ (0 : Int) := by first | exact b1_ | simpa using b1_
  by_cases b4_ : t > (0 : Int)
  · have h5_ := (if_pos b4_).symm.trans h2_
    obtain ⟨⟨r0, r1⟩, f6_, h7_⟩ := pullD_elim h5_
    replace f6_ := m_93_ok f6_
    obtain ⟨⟨r2, r3⟩, f8_, h9_⟩ := pullD_elim h7_
    replace f8_ := m_98_ok f8_
    obtain ⟨r4, f10_, h11_⟩ := pullD_elim h9_
    replace f10_ := m_95_ok f10_
    obtain rfl := Option.some.inj h11_
    exact con_pc (op := true) (I := [86]) (sp := narrowed_sp) 3000 (bF 1 (bT 1 [])) [.agg [iD r0, iD r1], .agg [iD r2, iD r3], .one (.bool r4)] [c_en b3_, c_d b4_] [k_c f6_, k_c f8_, k_c f10_] (by kernel_rfl)
  have h5_ := (if_neg b4_).symm.trans h2_
  obtain ⟨⟨r5, r6⟩, f12_, h13_⟩ := pullD_elim h5_
  replace f12_ := m_93_ok f12_
  obtain ⟨⟨r7, r8⟩, f14_, h15_⟩ := pullD_elim h13_
  replace f14_ := m_99_ok f14_
  obtain ⟨r9, f16_, h17_⟩ := pullD_elim h15_
  replace f16_ := m_95_ok f16_
  obtain rfl := Option.some.inj h17_
  exact con_pc (op := true) (I := [86]) (sp := narrowed_sp) 3000 (bF 2 []) [.agg [iD r5, iD r6], .agg [iD r7, iD r8], .one (.bool r9)] [c_en b3_, c_n b4_] [k_c f12_, k_c f14_, k_c f16_] (by kernel_rfl)
def m_86 (ds : List D) : Option D := pullD (α := Int × Int × Int × Int × Int × Int) (some (.tup ds)) (fun d => ((D.vi (D.at (D.at d 0) 0)), (D.vi (D.at (D.at d 0) 1)), (D.vi (D.at (D.at d 1) 0)), (D.vi (D.at (D.at d 1) 1)), (D.vi (D.at (D.at d 1) 2)), (D.vi (D.at (D.at d 1) 3)))) (fun (t, b, fa, fb, fc, fd) => .tup [.agg [iD t, iD b], (shNLA_0 fa fb fc fd)]) fun (t, b, fa, fb, fc, fd) => narrowed_M t b fa fb fc fd
theorem m_86_ok {ds : List D} {r : D} (h : m_86 ds = some r) : Con 86 ds r := by
  unfold m_86 at h
  obtain ⟨⟨t, b, fa, fb, fc, fd⟩, e0, h0⟩ := pullD_elim h
  obtain rfl := tup_inj e0
  exact narrowed_M_ok t b fa fb fc fd h0
theorem m_86_eq (t b fa fb fc fd : Int) : m_86 [.agg [iD t, iD b], (shNLA_0 fa fb fc fd)] = narrowed_M t b fa fb fc fd := pullD_some (t, b, fa, fb, fc, fd) rfl rfl
def limit_sp : List LSpec := []
def limit_M (fa fb fc fd n m : Int) : Option D := (if n > (0 : Int) then pullD (α := Int × Int) (m_87 [iD m, iD n]) (fun d => ((D.vi (D.at d 0)), (D.vi (D.at d 1)))) (fun (r0, r1) => .agg [iD r0, iD r1]) fun (r0, r1) => (pullD (α := Int) (m_39 [.agg [iD r0, iD r1], .agg [iD fc, iD fd]]) (fun d => ((D.vi d))) (fun r2 => iD r2) fun r2 => ((if r2 < (0 : Int) then pullD (α := Int) (m_39 [.agg [iD fa, iD fb], .agg [iD r0, iD r1]]) (fun d => ((D.vi d))) (fun r3 => iD r3) fun r3 => (some (.tup [(shNLA_0 fa fb r0 r1), .one (.bool (decide (r3 ≤ (0 : Int))))])) else pullD (α := Int) (m_39 [.agg [iD fa, iD fb], .agg [iD fc, iD fd]]) (fun d => ((D.vi d))) (fun r4 => iD r4) fun r4 => (some (.tup [(shNLA_0 fa fb fc fd), .one (.bool (decide (r4 ≤ (0 : Int))))]))))) else (if n < (0 : Int) then pullD (α := Int × Int) (m_87 [iD m, iD n]) (fun d => ((D.vi (D.at d 0)), (D.vi (D.at d 1)))) (fun (r5, r6) => .agg [iD r5, iD r6]) fun (r5, r6) => (pullD (α := Int) (m_39 [.agg [iD r5, iD r6], .agg [iD fa, iD fb]]) (fun d => ((D.vi d))) (fun r7 => iD r7) fun r7 => ((if r7 > (0 : Int) then pullD (α := Int) (m_39 [.agg [iD r5, iD r6], .agg [iD fc, iD fd]]) (fun d => ((D.vi d))) (fun r8 => iD r8) fun r8 => (some (.tup [(shNLA_0 r5 r6 fc fd), .one (.bool (decide (r8 ≤ (0 : Int))))])) else pullD (α := Int) (m_39 [.agg [iD fa, iD fb], .agg [iD fc, iD fd]]) (fun d => ((D.vi d))) (fun r9 => iD r9) fun r9 => (some (.tup [(shNLA_0 fa fb fc fd), .one (.bool (decide (r9 ≤ (0 : Int))))]))))) else (if m < (0 : Int) then some (.tup [(shNLA_0 fa fb fc fd), .one (.bool false)]) else pullD (α := Int) (m_39 [.agg [iD fa, iD fb], .agg [iD fc, iD fd]]) (fun d => ((D.vi d))) (fun r10 => iD r10) fun r10 => (some (.tup [(shNLA_0 fa fb fc fd), .one (.bool (decide (r10 ≤ (0 : Int))))])))))
theorem limit_M_ok (fa fb fc fd n m : Int) {r : D} (h : limit_M fa fb fc fd n m = some r) : Con 58 [(shNLA_0 fa fb fc fd), iD n, iD m] r := by
  unfold limit_M at h
  by_cases b1_ : n > (0 : Int)
  · have h2_ := (if_pos b1_).symm.trans h
    obtain ⟨⟨r0, r1⟩, f3_, h4_⟩ := pullD_elim h2_
    replace f3_ := m_87_ok f3_
    obtain ⟨r2, f5_, h6_⟩ := pullD_elim h4_
    replace f5_ := m_39_ok f5_
    by_cases b7_ : r2 < (0 : Int)
    · have h8_ := (if_pos b7_).symm.trans h6_
      obtain ⟨r3, f9_, h10_⟩ := pullD_elim h8_
      replace f9_ := m_39_ok f9_
      obtain rfl := Option.some.inj h10_
      exact con_pc (op := true) (I := [58]) (sp := limit_sp) 3000 (bT 2 []) [.agg [iD r0, iD r1], iD r2, iD r3] [c_d b1_, c_d b7_] [k_c f3_, k_c f5_, k_c f9_] (by kernel_rfl)
    have h8_ := (if_neg b7_).symm.trans h6_
    obtain ⟨r4, f11_, h12_⟩ := pullD_elim h8_
    replace f11_ := m_39_ok f11_
    obtain rfl := Option.some.inj h12_
    exact con_pc (op := true) (I := [58]) (sp := limit_sp) 3000 (bT 1 (bF 1 [])) [.agg [iD r0, iD r1], iD r2, iD r4] [c_d b1_, c_n b7_] [k_c f3_, k_c f5_, k_c f11_] (by kernel_rfl)
  have h2_ := (if_neg b1_).symm.trans h
  by_cases b13_ : n < (0 : Int)
  · have h14_ := (if_pos b13_).symm.trans h2_
    obtain ⟨⟨r5, r6⟩, f15_, h16_⟩ := pullD_elim h14_
    replace f15_ := m_87_ok f15_
    obtain ⟨r7, f17_, h18_⟩ := pullD_elim h16_
    replace f17_ := m_39_ok f17_
    by_cases b19_ : r7 > (0 : Int)
    · have h20_ := (if_pos b19_).symm.trans h18_
      obtain ⟨r8, f21_, h22_⟩ := pullD_elim h20_
      replace f21_ := m_39_ok f21_
      obtain rfl := Option.some.inj h22_
      exact con_pc (op := true) (I := [58]) (sp := limit_sp) 3000 (bF 1 (bT 2 [])) [.agg [iD r5, iD r6], iD r7, iD r8] [c_n b1_, c_d b13_, c_d b19_] [k_c f15_, k_c f17_, k_c f21_] (by kernel_rfl)
    have h20_ := (if_neg b19_).symm.trans h18_
    obtain ⟨r9, f23_, h24_⟩ := pullD_elim h20_
    replace f23_ := m_39_ok f23_
    obtain rfl := Option.some.inj h24_
    exact con_pc (op := true) (I := [58]) (sp := limit_sp) 3000 (bF 1 (bT 1 (bF 1 []))) [.agg [iD r5, iD r6], iD r7, iD r9] [c_n b1_, c_d b13_, c_n b19_] [k_c f15_, k_c f17_, k_c f23_] (by kernel_rfl)
  have h14_ := (if_neg b13_).symm.trans h2_
  by_cases b25_ : m < (0 : Int)
  · have h26_ := (if_pos b25_).symm.trans h14_
    obtain rfl := Option.some.inj h26_
    exact con_pc (op := true) (I := [58]) (sp := limit_sp) 3000 (bF 2 (bT 1 [])) [] [c_n b1_, c_n b13_, c_d b25_] [] (by kernel_rfl)
  have h26_ := (if_neg b25_).symm.trans h14_
  obtain ⟨r10, f27_, h28_⟩ := pullD_elim h26_
  replace f27_ := m_39_ok f27_
  obtain rfl := Option.some.inj h28_
  exact con_pc (op := true) (I := [58]) (sp := limit_sp) 3000 (bF 3 []) [iD r10] [c_n b1_, c_n b13_, c_n b25_] [k_c f27_] (by kernel_rfl)
def m_58 (ds : List D) : Option D := pullD (α := Int × Int × Int × Int × Int × Int) (some (.tup ds)) (fun d => ((D.vi (D.at (D.at d 0) 0)), (D.vi (D.at (D.at d 0) 1)), (D.vi (D.at (D.at d 0) 2)), (D.vi (D.at (D.at d 0) 3)), (D.vi (D.at d 1)), (D.vi (D.at d 2)))) (fun (fa, fb, fc, fd, n, m) => .tup [(shNLA_0 fa fb fc fd), iD n, iD m]) fun (fa, fb, fc, fd, n, m) => limit_M fa fb fc fd n m
theorem m_58_ok {ds : List D} {r : D} (h : m_58 ds = some r) : Con 58 ds r := by
  unfold m_58 at h
  obtain ⟨⟨fa, fb, fc, fd, n, m⟩, e0, h0⟩ := pullD_elim h
  obtain rfl := tup_inj e0
  exact limit_M_ok fa fb fc fd n m h0
theorem m_58_eq (fa fb fc fd n m : Int) : m_58 [(shNLA_0 fa fb fc fd), iD n, iD m] = limit_M fa fb fc fd n m := pullD_some (fa, fb, fc, fd, n, m) rfl rfl
def conditions_sp : List LSpec := []
def conditions_M (re fa fb fc fd : Int) (k : Nat) (c : List D) (kb : Nat) (cb : List D) (ke : Nat) (ce : List D) (i : Int) : Option D := guardP ((0 : Int) ≤ i ∧ i.toNat < kb) (pullD (α := Int) (readD cb (i.toNat * 1) 1 false) (fun d => ((D.vi d))) (fun v0 => iD v0) fun v0 => (guardP ((0 : Int) ≤ i ∧ i.toNat < ke) (pullD (α := Int × Int) (m_77 [iD v0, iD re]) (fun d => ((D.vi (D.at d 0)), (D.vi (D.at d 1)))) (fun (r1, r2) => .agg [iD r1, iD r2]) fun (r1, r2) => (pullD (α := Int) (readD ce (i.toNat * 1) 1 false) (fun d => ((D.vi d))) (fun v3 => iD v3) fun v3 => (pullD (α := Int × Int) (m_77 [iD v3, iD re]) (fun d => ((D.vi (D.at d 0)), (D.vi (D.at d 1)))) (fun (r4, r5) => .agg [iD r4, iD r5]) fun (r4, r5) => (some ((shNLA_0 r1 r5 (IntKind.i64.wrap ((0 : Int) - r2)) (IntKind.i64.wrap ((0 : Int) - r4))))))))))
theorem conditions_M_ok (re fa fb fc fd : Int) (k : Nat) (c : List D) (kb : Nat) (cb : List D) (ke : Nat) (ce : List D) (i : Int) {r : D} (h : conditions_M re fa fb fc fd k c kb cb ke ce i = some r) : Con 85 [.agg [iD re, iD fa, iD fb, iD fc, iD fd, .list k c, .list kb cb, .list ke ce], iD i] r := by
  unfold conditions_M at h
  obtain ⟨f1_, h2_⟩ := guardP_elim h
  obtain ⟨v0, f3_, h4_⟩ := pullD_elim h2_
  replace f3_ := readD_elim f3_
  obtain ⟨f5_, h6_⟩ := guardP_elim h4_
  obtain ⟨⟨r1, r2⟩, f7_, h8_⟩ := pullD_elim h6_
  replace f7_ := m_77_ok f7_
  obtain ⟨v3, f9_, h10_⟩ := pullD_elim h8_
  replace f9_ := readD_elim f9_
  obtain ⟨⟨r4, r5⟩, f11_, h12_⟩ := pullD_elim h10_
  replace f11_ := m_77_ok f11_
  obtain rfl := Option.some.inj h12_
  exact con_pc (op := true) (I := [85]) (sp := conditions_sp) 3000 [] [iD v0, .agg [iD r1, iD r2], iD v3, .agg [iD r4, iD r5]] [c_f f1_, c_f f3_, c_f f5_, c_f f9_] [k_c f7_, k_c f11_] (by kernel_rfl)
def m_85 (ds : List D) : Option D := pullD (α := Int × Int × Int × Int × Int × Nat × (List D) × Nat × (List D) × Nat × (List D) × Int) (some (.tup ds)) (fun d => ((D.vi (D.at (D.at d 0) 0)), (D.vi (D.at (D.at d 0) 1)), (D.vi (D.at (D.at d 0) 2)), (D.vi (D.at (D.at d 0) 3)), (D.vi (D.at (D.at d 0) 4)), (D.ln (D.at (D.at d 0) 5)), (D.lc (D.at (D.at d 0) 5)), (D.ln (D.at (D.at d 0) 6)), (D.lc (D.at (D.at d 0) 6)), (D.ln (D.at (D.at d 0) 7)), (D.lc (D.at (D.at d 0) 7)), (D.vi (D.at d 1)))) (fun (re, fa, fb, fc, fd, k, c, kb, cb, ke, ce, i) => .tup [.agg [iD re, iD fa, iD fb, iD fc, iD fd, .list k c, .list kb cb, .list ke ce], iD i]) fun (re, fa, fb, fc, fd, k, c, kb, cb, ke, ce, i) => conditions_M re fa fb fc fd k c kb cb ke ce i
theorem m_85_ok {ds : List D} {r : D} (h : m_85 ds = some r) : Con 85 ds r := by
  unfold m_85 at h
  obtain ⟨⟨re, fa, fb, fc, fd, k, c, kb, cb, ke, ce, i⟩, e0, h0⟩ := pullD_elim h
  obtain rfl := tup_inj e0
  exact conditions_M_ok re fa fb fc fd k c kb cb ke ce i h0
theorem m_85_eq (re fa fb fc fd : Int) (k : Nat) (c : List D) (kb : Nat) (cb : List D) (ke : Nat) (ce : List D) (i : Int) : m_85 [.agg [iD re, iD fa, iD fb, iD fc, iD fd, .list k c, .list kb cb, .list ke ce], iD i] = conditions_M re fa fb fc fd k c kb cb ke ce i := pullD_some (re, fa, fb, fc, fd, k, c, kb, cb, ke, ce, i) rfl rfl
def chkTimes_sp : List LSpec := []
def chkTimes_M (st : Int) (kb : Nat) (cb : List D) (su : Int) (ke : Nat) (ce : List D) : Option D := (if st ≠ su then some (iD (10 : Int)) else (if (kb : Int) ≠ (ke : Int) then some (iD (10 : Int)) else some (iD (0 : Int))))
theorem chkTimes_M_ok (st : Int) (kb : Nat) (cb : List D) (su : Int) (ke : Nat) (ce : List D) {r : D} (h : chkTimes_M st kb cb su ke ce = some r) : Con 84 [.agg [iD st, .list kb cb, iD su, .list ke ce]] r := by
  unfold chkTimes_M at h
  by_cases b1_ : st ≠ su
  · have h2_ := (if_pos b1_).symm.trans h
    obtain rfl := Option.some.inj h2_
    exact con_pc (op := true) (I := [84]) (sp := chkTimes_sp) 3000 (bT 11 []) [] [c_b b1_, c_b b1_, c_b b1_, c_b b1_, c_b b1_, c_b b1_, c_b b1_, c_b b1_, c_b b1_, c_b b1_, c_T] [] (by kernel_rfl)
  have h2_ := (if_neg b1_).symm.trans h
  have b3_ : st = su := by first | exact b1_ | simpa using b1_
  by_cases b4_ : (kb : Int) ≠ (ke : Int)
  · have h5_ := (if_pos b4_).symm.trans h2_
    obtain rfl := Option.some.inj h5_
    exact con_pc (op := true) (I := [84]) (sp := chkTimes_sp) 3000 (bF 10 (bT 1 [])) [] [c_bn b3_, c_bn b3_, c_bn b3_, c_bn b3_, c_bn b3_, c_bn b3_, c_bn b3_, c_bn b3_, c_bn b3_, c_bn b3_, c_b b4_] [] (by kernel_rfl)
  have h5_ := (if_neg b4_).symm.trans h2_
  have b6_ : (kb : Int) = (ke : Int) := by first | exact b4_ | simpa using b4_
  obtain rfl := Option.some.inj h5_
  exact con_pc (op := true) (I := [84]) (sp := chkTimes_sp) 3000 (bF 11 []) [] [c_bn b3_, c_bn b3_, c_bn b3_, c_bn b3_, c_bn b3_, c_bn b3_, c_bn b3_, c_bn b3_, c_bn b3_, c_bn b3_, c_bn b6_] [] (by kernel_rfl)
def m_84 (ds : List D) : Option D := pullD (α := Int × Nat × (List D) × Int × Nat × (List D)) (some (.tup ds)) (fun d => ((D.vi (D.at (D.at d 0) 0)), (D.ln (D.at (D.at d 0) 1)), (D.lc (D.at (D.at d 0) 1)), (D.vi (D.at (D.at d 0) 2)), (D.ln (D.at (D.at d 0) 3)), (D.lc (D.at (D.at d 0) 3)))) (fun (st, kb, cb, su, ke, ce) => .tup [.agg [iD st, .list kb cb, iD su, .list ke ce]]) fun (st, kb, cb, su, ke, ce) => chkTimes_M st kb cb su ke ce
theorem m_84_ok {ds : List D} {r : D} (h : m_84 ds = some r) : Con 84 ds r := by
  unfold m_84 at h
  obtain ⟨⟨st, kb, cb, su, ke, ce⟩, e0, h0⟩ := pullD_elim h
  obtain rfl := tup_inj e0
  exact chkTimes_M_ok st kb cb su ke ce h0
theorem m_84_eq (st : Int) (kb : Nat) (cb : List D) (su : Int) (ke : Nat) (ce : List D) : m_84 [.agg [iD st, .list kb cb, iD su, .list ke ce]] = chkTimes_M st kb cb su ke ce := pullD_some (st, kb, cb, su, ke, ce) rfl rfl
def comparisonOf_sp : List LSpec := []
def comparisonOf_M (re fa fb fc fd : Int) (k : Nat) (c : List D) (st : Int) (kb : Nat) (cb : List D) (su : Int) (ke : Nat) (ce : List D) : Option D := pullD (α := Int) (m_46 [.agg [iD re, iD fa, iD fb, iD fc, iD fd, .list k c]]) (fun d => ((D.vi d))) (fun r0 => iD r0) fun r0 => (pullD (α := Int) (m_47 [.agg [iD st, .list kb cb]]) (fun d => ((D.vi d))) (fun r1 => iD r1) fun r1 => (pullD (α := Int) (m_47 [.agg [iD su, .list ke ce]]) (fun d => ((D.vi d))) (fun r2 => iD r2) fun r2 => (pullD (α := Int) (m_84 [.agg [iD st, .list kb cb, iD su, .list ke ce]]) (fun d => ((D.vi d))) (fun r3 => iD r3) fun r3 => (pullD (α := Int) (m_45 [.list 4 [iD r0, iD r1, iD r2, iD r3]]) (fun d => ((D.vi d))) (fun r4 => iD r4) fun r4 => ((if r4 ≠ (0 : Int) then some (.tup [.agg [iD (0 : Int), iD (0 : Int), iD (0 : Int), iD (0 : Int), iD (0 : Int), .list 0 [], .list 0 [], .list 0 []], iD r4]) else some (.tup [.agg [iD re, iD fa, iD fb, iD fc, iD fd, .list k c, .list kb cb, .list ke ce], iD (0 : Int)])))))))
theorem comparisonOf_M_ok (re fa fb fc fd : Int) (k : Nat) (c : List D) (st : Int) (kb : Nat) (cb : List D) (su : Int) (ke : Nat) (ce : List D) {r : D} (h : comparisonOf_M re fa fb fc fd k c st kb cb su ke ce = some r) : Con 54 [.agg [iD re, iD fa, iD fb, iD fc, iD fd, .list k c], .agg [iD st, .list kb cb, iD su, .list ke ce]] r := by
  unfold comparisonOf_M at h
  obtain ⟨r0, f1_, h2_⟩ := pullD_elim h
  replace f1_ := m_46_ok f1_
  obtain ⟨r1, f3_, h4_⟩ := pullD_elim h2_
  replace f3_ := m_47_ok f3_
  obtain ⟨r2, f5_, h6_⟩ := pullD_elim h4_
  replace f5_ := m_47_ok f5_
  obtain ⟨r3, f7_, h8_⟩ := pullD_elim h6_
  replace f7_ := m_84_ok f7_
  obtain ⟨r4, f9_, h10_⟩ := pullD_elim h8_
  replace f9_ := m_45_ok f9_
  by_cases b11_ : r4 ≠ (0 : Int)
  · have h12_ := (if_pos b11_).symm.trans h10_
    obtain rfl := Option.some.inj h12_
    exact con_pc (op := true) (I := [54]) (sp := comparisonOf_sp) 3000 (bT 1 []) [iD r0, iD r1, iD r2, iD r3, iD r4] [c_le 3, c_b b11_] [k_c f1_, k_c f3_, k_c f5_, k_c f7_, k_c f9_] (by kernel_rfl)
  have h12_ := (if_neg b11_).symm.trans h10_
  have b13_ : r4 = (0 : Int) := by first | exact b11_ | simpa using b11_
  obtain rfl := Option.some.inj h12_
  exact con_pc (op := true) (I := [54]) (sp := comparisonOf_sp) 3000 (bF 1 []) [iD r0, iD r1, iD r2, iD r3, iD r4] [c_le 3, c_bn b13_] [k_c f1_, k_c f3_, k_c f5_, k_c f7_, k_c f9_] (by kernel_rfl)
def m_54 (ds : List D) : Option D := pullD (α := Int × Int × Int × Int × Int × Nat × (List D) × Int × Nat × (List D) × Int × Nat × (List D)) (some (.tup ds)) (fun d => ((D.vi (D.at (D.at d 0) 0)), (D.vi (D.at (D.at d 0) 1)), (D.vi (D.at (D.at d 0) 2)), (D.vi (D.at (D.at d 0) 3)), (D.vi (D.at (D.at d 0) 4)), (D.ln (D.at (D.at d 0) 5)), (D.lc (D.at (D.at d 0) 5)), (D.vi (D.at (D.at d 1) 0)), (D.ln (D.at (D.at d 1) 1)), (D.lc (D.at (D.at d 1) 1)), (D.vi (D.at (D.at d 1) 2)), (D.ln (D.at (D.at d 1) 3)), (D.lc (D.at (D.at d 1) 3)))) (fun (re, fa, fb, fc, fd, k, c, st, kb, cb, su, ke, ce) => .tup [.agg [iD re, iD fa, iD fb, iD fc, iD fd, .list k c], .agg [iD st, .list kb cb, iD su, .list ke ce]]) fun (re, fa, fb, fc, fd, k, c, st, kb, cb, su, ke, ce) => comparisonOf_M re fa fb fc fd k c st kb cb su ke ce
theorem m_54_ok {ds : List D} {r : D} (h : m_54 ds = some r) : Con 54 ds r := by
  unfold m_54 at h
  obtain ⟨⟨re, fa, fb, fc, fd, k, c, st, kb, cb, su, ke, ce⟩, e0, h0⟩ := pullD_elim h
  obtain rfl := tup_inj e0
  exact comparisonOf_M_ok re fa fb fc fd k c st kb cb su ke ce h0
theorem m_54_eq (re fa fb fc fd : Int) (k : Nat) (c : List D) (st : Int) (kb : Nat) (cb : List D) (su : Int) (ke : Nat) (ce : List D) : m_54 [.agg [iD re, iD fa, iD fb, iD fc, iD fd, .list k c], .agg [iD st, .list kb cb, iD su, .list ke ce]] = comparisonOf_M re fa fb fc fd k c st kb cb su ke ce := pullD_some (re, fa, fb, fc, fd, k, c, st, kb, cb, su, ke, ce) rfl rfl
def indexes_x3_0 : LExit := ⟨some 0, [.grow 3 1], (4 :: (List.range' 8 8))⟩
def indexes_x3_1 : LExit := ⟨some 0, [.nil 3], (4 :: (List.range' 8 8))⟩
def indexes_sp : List LSpec := [⟨56, 3, [indexes_x3_0, indexes_x3_1]⟩]
def indexes_L3_E (re fa fb fc fd : Int) (k : Nat) (c : List D) (kb : Nat) (cb : List D) (ke : Nat) (ce : List D)  : List AV × AHeap := ([.agg [.pure (.int .i64 re), .pure (.int .i64 fa), .pure (.int .i64 fb), .pure (.int .i64 fc), .pure (.int .i64 fd), .dsl 0, .dsl 1, .dsl 2], .ptr 3 0, .pure (.slice none 0 0), .pure (.slice none 0 0), .pure (.tuple #[]), .ptr 3 6, .dsl 1, .pure (.int .i64 (kb : Int)), .pure (.int .i64 (0 : Int)), .pure (.tuple #[]), .pure (.tuple #[]), .pure (.tuple #[]), .pure (.tuple #[]), .pure (.tuple #[]), .pure (.tuple #[]), .pure (.tuple #[]), .pure (.tuple #[])], [(3, { cells := [.pure (.int .i64 re), .pure (.int .i64 fa), .pure (.int .i64 fb), .pure (.int .i64 fc), .pure (.int .i64 fd), .dsl 0, .dsl 1, .dsl 2], opn := none, kind := .cells }), (2, { cells := [], opn := none, kind := .deep ke ce }), (1, { cells := [], opn := none, kind := .deep kb cb }), (0, { cells := [], opn := none, kind := .deep k c })])
def indexes_L3_A : LoopAt := ⟨56, loopAt Try.prog 56 0, 4, 14, 4, noFrame⟩
theorem indexes_L3_ok : (indexes_L3_A).OK := ⟨by show 4 ≤ 14; decide, by show 4 ≤ 4; decide, by kernel_rfl, rfl⟩
def indexes_L3_gs (re fa fb fc fd : Int) (k : Nat) (c : List D) (kb : Nat) (cb : List D) (ke : Nat) (ce : List D)  : Go.Ev.Rd → Option GS
  | .next 0 ds => ghost [.grow 3 1, .val 8] (4 :: (List.range' 9 7)) (indexes_L3_E re fa fb fc fd k c kb cb ke ce).1 (indexes_L3_E re fa fb fc fd k c kb cb ke ce).2 4 ds
  | .next 1 ds => ghost [.nil 3, .val 8] (4 :: (List.range' 9 7)) (indexes_L3_E re fa fb fc fd k c kb cb ke ce).1 (indexes_L3_E re fa fb fc fd k c kb cb ke ce).2 4 ds
  | .out 0 ds => ghost indexes_x3_0.live indexes_x3_0.junk (indexes_L3_E re fa fb fc fd k c kb cb ke ce).1 (indexes_L3_E re fa fb fc fd k c kb cb ke ce).2 4 ds
  | .out 1 ds => ghost indexes_x3_1.live indexes_x3_1.junk (indexes_L3_E re fa fb fc fd k c kb cb ke ce).1 (indexes_L3_E re fa fb fc fd k c kb cb ke ce).2 4 ds
  | _ => none
def indexes_L3_ex : Nat → Option Nat
  | 0 => indexes_x3_0.ex
  | 1 => indexes_x3_1.ex
  | _ => none
def indexes_L3_ax : Go.Ev.Rd → AX
  | .next _ _ => .normal
  | .out j _ => axOf (indexes_L3_ex j)
def indexes_L3_S0 (re fa fb fc fd : Int) (k : Nat) (c : List D) (kb : Nat) (cb : List D) (ke : Nat) (ce : List D)  (ds : List D) : Option Go.Ev.Rd := pullD (α := Nat × (List D) × Int) (some (.tup ds)) (fun d => ((D.ln (D.at d 0)), (D.lc (D.at d 0)), (D.vi (D.at d 1)))) (fun (s3n, s3c, s8) => .tup [.list s3n s3c, iD s8]) fun (s3n, s3c, s8) => ((if s8 < (kb : Int) then guardP ((∀ (u : D), u ∈ [dCell (.int .i64 s8)] → cellD u) ∧ s3n * 1 ≤ s3c.length ∧ (s3n + (0 + 1)) * 8 ≤ 140737488355328 ∧ s3n + (0 + 1) ≤ 4611686018427387904) (some (.next 0 [.list (s3n + (0 + 1)) (List.append (List.take (s3n * 1) s3c) [dCell (.int .i64 s8)]), iD (IntKind.i64.wrap (s8 + (1 : Int)))])) else some (.out 0 [.list s3n s3c])))
def indexes_L3_S1 (re fa fb fc fd : Int) (k : Nat) (c : List D) (kb : Nat) (cb : List D) (ke : Nat) (ce : List D)  (ds : List D) : Option Go.Ev.Rd := pullD (α := Int) (some (.tup ds)) (fun d => ((D.vi (D.at d 1)))) (fun s8 => .tup [.one (.tuple #[]), iD s8]) fun s8 => ((if s8 < (kb : Int) then some (.next 0 [.list 1 [iD s8], iD (IntKind.i64.wrap (s8 + (1 : Int)))]) else some (.out 1 [.one (.tuple #[])])))
def indexes_L3_S (re fa fb fc fd : Int) (k : Nat) (c : List D) (kb : Nat) (cb : List D) (ke : Nat) (ce : List D)  : Go.Ev.Rd → Option Go.Ev.Rd
  | .next 0 ds => indexes_L3_S0 re fa fb fc fd k c kb cb ke ce ds
  | .next 1 ds => indexes_L3_S1 re fa fb fc fd k c kb cb ke ce ds
  | _ => none
theorem indexes_L3_S_0 (re fa fb fc fd : Int) (k : Nat) (c : List D) (kb : Nat) (cb : List D) (ke : Nat) (ce : List D)  (ds : List D) : indexes_L3_S re fa fb fc fd k c kb cb ke ce (.next 0 ds) = indexes_L3_S0 re fa fb fc fd k c kb cb ke ce ds := rfl
theorem indexes_L3_S_1 (re fa fb fc fd : Int) (k : Nat) (c : List D) (kb : Nat) (cb : List D) (ke : Nat) (ce : List D)  (ds : List D) : indexes_L3_S re fa fb fc fd k c kb cb ke ce (.next 1 ds) = indexes_L3_S1 re fa fb fc fd k c kb cb ke ce ds := rfl
theorem indexes_L3_S_ok (re fa fb fc fd : Int) (k : Nat) (c : List D) (kb : Nat) (cb : List D) (ke : Nat) (ce : List D)  : ∀ s_ t_, indexes_L3_S re fa fb fc fd k c kb cb ke ce s_ = some t_ → Step (ctx [56] indexes_sp) Tabs indexes_L3_A (stateOf (indexes_L3_gs re fa fb fc fd k c kb cb ke ce s_)) (stateOf (indexes_L3_gs re fa fb fc fd k c kb cb ke ce t_)) (indexes_L3_ax t_) ∧ EndOK indexes_L3_A.nx indexes_L3_A.low (indexes_L3_gs re fa fb fc fd k c kb cb ke ce) t_
  | .next 0 ds, t_, h => by
    have h_ : indexes_L3_S0 re fa fb fc fd k c kb cb ke ce ds = some t_ := h
    clear h
    unfold indexes_L3_S0 at h_
    obtain ⟨⟨s3n, s3c, s8⟩, e0, h0⟩ := pullD_elim h_
    clear h_
    obtain rfl := tup_inj e0
    by_cases b1_ : s8 < (kb : Int)
    · have h2_ := (if_pos b1_).symm.trans h0
      obtain ⟨f3_, h4_⟩ := guardP_elim h2_
      obtain rfl := Option.some.inj h4_
      exact ⟨step_pc 3000 (bT 1 []) [] [c_d b1_, c_f f3_] [] _ rfl (by kernel_rfl) (by kernel_rfl) (by kernel_rfl) (by kernel_rfl) (by kernel_rfl) (by kernel_rfl), trivial⟩
    have h2_ := (if_neg b1_).symm.trans h0
    obtain rfl := Option.some.inj h2_
    exact ⟨step_pc 3000 (bF 1 []) [] [c_n b1_] [] _ rfl (by kernel_rfl) (by kernel_rfl) (by kernel_rfl) (by kernel_rfl) (by kernel_rfl) (by kernel_rfl), by kernel_rfl, by kernel_rfl⟩
  | .next 1 ds, t_, h => by
    have h_ : indexes_L3_S1 re fa fb fc fd k c kb cb ke ce ds = some t_ := h
    clear h
    unfold indexes_L3_S1 at h_
    obtain ⟨s8, e0, h0⟩ := pullD_elim h_
    clear h_
    obtain rfl := tup_inj e0
    by_cases b1_ : s8 < (kb : Int)
    · have h2_ := (if_pos b1_).symm.trans h0
      obtain rfl := Option.some.inj h2_
      exact ⟨step_pc 3000 (bT 1 []) [] [c_d b1_, ⟨fact (0 < 0 + 1 ∧ (0 + 1) * 8 ≤ 140737488355328 ∧ 0 + 1 ≤ 4611686018427387904), true, fact_mk (by decide)⟩] [] _ rfl (by kernel_rfl) (by kernel_rfl) (by kernel_rfl) (by kernel_rfl) (by kernel_rfl) (by kernel_rfl), trivial⟩
    have h2_ := (if_neg b1_).symm.trans h0
    obtain rfl := Option.some.inj h2_
    exact ⟨step_pc 3000 (bF 1 []) [] [c_n b1_] [] _ rfl (by kernel_rfl) (by kernel_rfl) (by kernel_rfl) (by kernel_rfl) (by kernel_rfl) (by kernel_rfl), by kernel_rfl, by kernel_rfl⟩
  | .next (_ + 2) _, _, h => by cases h
  | .out _ _, _, h => by cases h
theorem indexes_L3_go (re fa fb fc fd : Int) (k : Nat) (c : List D) (kb : Nat) (cb : List D) (ke : Nat) (ce : List D)  {q : Nat} {ds : List D} {j : Nat} {es : List D} (h : runR (indexes_L3_S re fa fb fc fd k c kb cb ke ce) (.next q ds) = some (.out j es)) : Runs (ctx [56] indexes_sp) Tabs indexes_L3_A (stateOf (indexes_L3_gs re fa fb fc fd k c kb cb ke ce (.next q ds))) (stateOf (indexes_L3_gs re fa fb fc fd k c kb cb ke ce (.out j es))) (indexes_L3_ax (.out j es)) ∧ (nxtOf (indexes_L3_gs re fa fb fc fd k c kb cb ke ce (.out j es)), lowGS (indexes_L3_gs re fa fb fc fd k c kb cb ke ce (.out j es))) = (indexes_L3_A.nx, indexes_L3_A.low) :=
  runs_of' (good true _ _) indexes_L3_ok (ax := indexes_L3_ax) (fun _ _ => rfl) (fun _ _ => axOf_end _) (indexes_L3_S_ok re fa fb fc fd k c kb cb ke ce) h
theorem indexes_L3_in0 (re fa fb fc fd : Int) (k : Nat) (c : List D) (kb : Nat) (cb : List D) (ke : Nat) (ce : List D)  {es : List D} (h : runR (indexes_L3_S re fa fb fc fd k c kb cb ke ce) (.next 1 [.one (.tuple #[]), iD ((0 : Int))]) = some (.out 0 es)) : LoopC (loopAt Try.prog 56 0) (indexes_L3_E re fa fb fc fd k c kb cb ke ce) 4 noFrame indexes_x3_0 es :=
  have r := indexes_L3_go re fa fb fc fd k c kb cb ke ce h
  loopin_as rfl (loop_in (l := indexes_L3_A) (E := (indexes_L3_E re fa fb fc fd k c kb cb ke ce)) (S := stateOf (indexes_L3_gs re fa fb fc fd k c kb cb ke ce (.next 1 [.one (.tuple #[]), iD ((0 : Int))]))) (ns := nsOf (indexes_L3_gs re fa fb fc fd k c kb cb ke ce (.next 1 [.one (.tuple #[]), iD ((0 : Int))]))) indexes_L3_ok r.1 r.2 (by kernel_rfl) (by kernel_rfl) (by kernel_rfl) (by kernel_rfl))
theorem indexes_L3_in1 (re fa fb fc fd : Int) (k : Nat) (c : List D) (kb : Nat) (cb : List D) (ke : Nat) (ce : List D)  {es : List D} (h : runR (indexes_L3_S re fa fb fc fd k c kb cb ke ce) (.next 1 [.one (.tuple #[]), iD ((0 : Int))]) = some (.out 1 es)) : LoopC (loopAt Try.prog 56 0) (indexes_L3_E re fa fb fc fd k c kb cb ke ce) 4 noFrame indexes_x3_1 es :=
  have r := indexes_L3_go re fa fb fc fd k c kb cb ke ce h
  loopin_as rfl (loop_in (l := indexes_L3_A) (E := (indexes_L3_E re fa fb fc fd k c kb cb ke ce)) (S := stateOf (indexes_L3_gs re fa fb fc fd k c kb cb ke ce (.next 1 [.one (.tuple #[]), iD ((0 : Int))]))) (ns := nsOf (indexes_L3_gs re fa fb fc fd k c kb cb ke ce (.next 1 [.one (.tuple #[]), iD ((0 : Int))]))) indexes_L3_ok r.1 r.2 (by kernel_rfl) (by kernel_rfl) (by kernel_rfl) (by kernel_rfl))
def indexes_M (re fa fb fc fd : Int) (k : Nat) (c : List D) (kb : Nat) (cb : List D) (ke : Nat) (ce : List D) : Option D := bindL (runR (indexes_L3_S re fa fb fc fd k c kb cb ke ce) (.next 1 [.one (.tuple #[]), iD ((0 : Int))])) fun j ds => (if j = 0 then pullD (α := Nat × (List D)) (some (.tup ds)) (fun d => ((D.ln (D.at d 0)), (D.lc (D.at d 0)))) (fun (k0, c1) => .tup [.list k0 c1]) fun (k0, c1) => (guardP ((0 + k0) * 1 ≤ c1.length ∧ 0 < 1) (some (.list k0 c1))) else if j = 1 then pullD (some (.tup ds)) (fun _ => ()) (fun _ => .tup [.one (.tuple #[])]) fun _ => (some (.list 0 [])) else none)
theorem indexes_M_ok (re fa fb fc fd : Int) (k : Nat) (c : List D) (kb : Nat) (cb : List D) (ke : Nat) (ce : List D) {r : D} (h : indexes_M re fa fb fc fd k c kb cb ke ce = some r) : Con 56 [.agg [iD re, iD fa, iD fb, iD fc, iD fd, .list k c, .list kb cb, .list ke ce]] r := by
  unfold indexes_M at h
  obtain ⟨j, ds, e1_, h2_⟩ := bindL_elim h
  by_cases j3_ : j = 0
  · have h6_ := (if_pos j3_).symm.trans h2_
    clear h2_
    subst j3_
    obtain ⟨⟨k0, c1⟩, e4_, h7_⟩ := pullD_elim h6_
    clear h6_
    obtain rfl := tup_inj e4_
    have k5_ := indexes_L3_in0 re fa fb fc fd k c kb cb ke ce e1_
    obtain ⟨f8_, h9_⟩ := guardP_elim h7_
    obtain rfl := Option.some.inj h9_
    exact con_pc (op := true) (I := [56]) (sp := indexes_sp) 3000 [] [.tup [iD (Int.ofNat 0), .list k0 c1]] [c_f f8_] [k_l k5_ [] [.tup [iD (Int.ofNat 0), .list k0 c1]] []] (by kernel_rfl)
  have h10_ := (if_neg j3_).symm.trans h2_
  clear h2_
  by_cases j11_ : j = 1
  · have h14_ := (if_pos j11_).symm.trans h10_
    clear h10_
    subst j11_
    obtain ⟨⟨⟩, e12_, h15_⟩ := pullD_elim h14_
    clear h14_
    obtain rfl := tup_inj e12_
    have k13_ := indexes_L3_in1 re fa fb fc fd k c kb cb ke ce e1_
    obtain rfl := Option.some.inj h15_
    exact con_pc (op := true) (I := [56]) (sp := indexes_sp) 3000 [] [.tup [iD (Int.ofNat 1), .one (.tuple #[])]] [] [k_l k13_ [] [.tup [iD (Int.ofNat 1), .one (.tuple #[])]] []] (by kernel_rfl)
  have h16_ := (if_neg j11_).symm.trans h10_
  clear h10_
  cases h16_
def m_56 (ds : List D) : Option D := pullD (α := Int × Int × Int × Int × Int × Nat × (List D) × Nat × (List D) × Nat × (List D)) (some (.tup ds)) (fun d => ((D.vi (D.at (D.at d 0) 0)), (D.vi (D.at (D.at d 0) 1)), (D.vi (D.at (D.at d 0) 2)), (D.vi (D.at (D.at d 0) 3)), (D.vi (D.at (D.at d 0) 4)), (D.ln (D.at (D.at d 0) 5)), (D.lc (D.at (D.at d 0) 5)), (D.ln (D.at (D.at d 0) 6)), (D.lc (D.at (D.at d 0) 6)), (D.ln (D.at (D.at d 0) 7)), (D.lc (D.at (D.at d 0) 7)))) (fun (re, fa, fb, fc, fd, k, c, kb, cb, ke, ce) => .tup [.agg [iD re, iD fa, iD fb, iD fc, iD fd, .list k c, .list kb cb, .list ke ce]]) fun (re, fa, fb, fc, fd, k, c, kb, cb, ke, ce) => indexes_M re fa fb fc fd k c kb cb ke ce
theorem m_56_ok {ds : List D} {r : D} (h : m_56 ds = some r) : Con 56 ds r := by
  unfold m_56 at h
  obtain ⟨⟨re, fa, fb, fc, fd, k, c, kb, cb, ke, ce⟩, e0, h0⟩ := pullD_elim h
  obtain rfl := tup_inj e0
  exact indexes_M_ok re fa fb fc fd k c kb cb ke ce h0
theorem m_56_eq (re fa fb fc fd : Int) (k : Nat) (c : List D) (kb : Nat) (cb : List D) (ke : Nat) (ce : List D) : m_56 [.agg [iD re, iD fa, iD fb, iD fc, iD fd, .list k c, .list kb cb, .list ke ce]] = indexes_M re fa fb fc fd k c kb cb ke ce := pullD_some (re, fa, fb, fc, fd, k, c, kb, cb, ke, ce) rfl rfl
end
end Go.Proofs.Ytmohaohdbklkeaa
namespace Go.Proofs.Ytmohaohdbklkeaa
open Go.Ev Go.RowKit
set_option maxRecDepth 100000
set_option maxHeartbeats 8000000
set_option linter.all false
noncomputable section
abbrev shNLB_0 (a0 : Int) (a1 : Int) (a2 : Int) (a3 : Int) : D := .agg [.one (.int .i64 a0), .one (.int .i64 a1), .one (.int .i64 a2), .one (.int .i64 a3)]
def shNLB_0P (d : D) : Int × Int × Int × Int := (D.vi (D.at d 0), D.vi (D.at d 1), D.vi (D.at d 2), D.vi (D.at d 3))
def factors_x3_0 : LExit := ⟨some 0, [.cval 6 0, .cval 6 1, .cval 6 2, .cval 6 3, .cval 4 0], (5 :: (8 :: (10 :: (11 :: (12 :: (List.range' 18 22))))))⟩
def factors_x3_1 : LExit := ⟨none, [.val 5, .cval 6 0, .cval 6 1, .cval 6 2, .cval 6 3, .cval 4 0], (8 :: (10 :: (11 :: (12 :: (List.range' 18 22)))))⟩
def factors_sp : List LSpec := [⟨55, 3, [factors_x3_0, factors_x3_1]⟩]
def factors_L3_E (re fa fb fc fd : Int) (k : Nat) (c : List D) (kb : Nat) (cb : List D) (ke : Nat) (ce : List D) (kx : Nat) (cx : List D)  : List AV × AHeap := ([.agg [.pure (.int .i64 re), .pure (.int .i64 fa), .pure (.int .i64 fb), .pure (.int .i64 fc), .pure (.int .i64 fd), .dsl 0, .dsl 1, .dsl 2], .dsl 3, .ptr 4 0, .pure (.tuple #[]), .ptr 5 0, .pure (.bool false), .ptr 6 0, .pure (.tuple #[]), .pure (.tuple #[]), .pure (.tuple #[]), .pure (.tuple #[]), .pure (.tuple #[]), .pure (.tuple #[]), .ptr 4 0, .ptr 4 1, .pure (.agg #[.int .i64 fa, .int .i64 fb, .int .i64 fc, .int .i64 fd]), .dsl 3, .pure (.int .i64 (kx : Int)), .pure (.int .i64 (0 : Int)), .pure (.tuple #[]), .pure (.tuple #[]), .pure (.tuple #[]), .pure (.tuple #[]), .pure (.tuple #[]), .pure (.tuple #[]), .pure (.tuple #[]), .pure (.tuple #[]), .pure (.tuple #[]), .pure (.tuple #[]), .pure (.tuple #[]), .pure (.tuple #[]), .pure (.tuple #[]), .pure (.tuple #[]), .pure (.tuple #[]), .pure (.tuple #[]), .pure (.tuple #[]), .pure (.tuple #[]), .pure (.tuple #[]), .pure (.tuple #[]), .pure (.tuple #[]), .pure (.tuple #[])], [(6, { cells := [.pure (.int .i64 fa), .pure (.int .i64 fb), .pure (.int .i64 fc), .pure (.int .i64 fd)], opn := none, kind := .cells }), (5, { cells := [.pure (.int .i64 (0 : Int)), .pure (.int .i64 (0 : Int)), .pure (.int .i64 (0 : Int)), .pure (.int .i64 (0 : Int))], opn := none, kind := .cells }), (4, { cells := [.pure (.int .i64 re), .pure (.int .i64 fa), .pure (.int .i64 fb), .pure (.int .i64 fc), .pure (.int .i64 fd), .dsl 0, .dsl 1, .dsl 2], opn := none, kind := .cells }), (3, { cells := [], opn := none, kind := .deep kx cx }), (2, { cells := [], opn := none, kind := .deep ke ce }), (1, { cells := [], opn := none, kind := .deep kb cb }), (0, { cells := [], opn := none, kind := .deep k c })])
def factors_L3_A : LoopAt := ⟨55, loopAt Try.prog 55 0, 7, 39, 5, noFrame⟩
theorem factors_L3_ok : (factors_L3_A).OK := ⟨by show 7 ≤ 39; decide, by show 5 ≤ 7; decide, by kernel_rfl, rfl⟩
def factors_L3_gs (re fa fb fc fd : Int) (k : Nat) (c : List D) (kb : Nat) (cb : List D) (ke : Nat) (ce : List D) (kx : Nat) (cx : List D)  : Go.Ev.Rd → Option GS
  | .next 0 ds => ghost [.val 18, .cval 6 0, .cval 6 1, .cval 6 2, .cval 6 3, .cval 4 0] (5 :: (8 :: (10 :: (11 :: (12 :: (List.range' 19 21)))))) (factors_L3_E re fa fb fc fd k c kb cb ke ce kx cx).1 (factors_L3_E re fa fb fc fd k c kb cb ke ce kx cx).2 7 ds
  | .out 0 ds => ghost factors_x3_0.live factors_x3_0.junk (factors_L3_E re fa fb fc fd k c kb cb ke ce kx cx).1 (factors_L3_E re fa fb fc fd k c kb cb ke ce kx cx).2 7 ds
  | .out 1 ds => ghost factors_x3_1.live factors_x3_1.junk (factors_L3_E re fa fb fc fd k c kb cb ke ce kx cx).1 (factors_L3_E re fa fb fc fd k c kb cb ke ce kx cx).2 7 ds
  | _ => none
def factors_L3_ex : Nat → Option Nat
  | 0 => factors_x3_0.ex
  | 1 => factors_x3_1.ex
  | _ => none
def factors_L3_ax : Go.Ev.Rd → AX
  | .next _ _ => .normal
  | .out j _ => axOf (factors_L3_ex j)
def factors_L3_S0 (re fa fb fc fd : Int) (k : Nat) (c : List D) (kb : Nat) (cb : List D) (ke : Nat) (ce : List D) (kx : Nat) (cx : List D)  (ds : List D) : Option Go.Ev.Rd := pullD (α := Int × Int × Int × Int × Int × Int) (some (.tup ds)) (fun d => ((D.vi (D.at d 0)), (D.vi (D.at d 1)), (D.vi (D.at d 2)), (D.vi (D.at d 3)), (D.vi (D.at d 4)), (D.vi (D.at d 5)))) (fun (s18, s6_0, s6_1, s6_2, s6_3, s4_0) => .tup [iD s18, iD s6_0, iD s6_1, iD s6_2, iD s6_3, iD s4_0]) fun (s18, s6_0, s6_1, s6_2, s6_3, s4_0) => ((if s18 < (kx : Int) then guardP ((0 : Int) ≤ s18 ∧ s18.toNat < kx) (pullD (α := Int) (readD cx (s18.toNat * 1) 1 false) (fun d => ((D.vi d))) (fun v0 => iD v0) fun v0 => (pullD (m_85 [.agg [iD re, iD fa, iD fb, iD fc, iD fd, .list k c, .list kb cb, .list ke ce], iD v0]) shNLB_0P (fun (r1, r2, r3, r4) => (shNLB_0 r1 r2 r3 r4)) fun (r1, r2, r3, r4) => (pullD (α := Int × Int × Int × Int × Bool) (m_86 [.agg [iD r1, iD r2], (shNLB_0 s6_0 s6_1 s6_2 s6_3)]) (fun d => ((D.vi (D.at (D.at d 0) 0)), (D.vi (D.at (D.at d 0) 1)), (D.vi (D.at (D.at d 0) 2)), (D.vi (D.at (D.at d 0) 3)), (D.vb (D.at d 1)))) (fun (r5, r6, r7, r8, r9) => .tup [(shNLB_0 r5 r6 r7 r8), .one (.bool r9)]) fun (r5, r6, r7, r8, r9) => ((if r9 = false then some (.out 1 [.one (.bool false), iD s6_0, iD s6_1, iD s6_2, iD s6_3, iD (0 : Int)]) else pullD (α := Int × Int × Int × Int × Bool) (m_86 [.agg [iD r3, iD r4], (shNLB_0 r5 r6 r7 r8)]) (fun d => ((D.vi (D.at (D.at d 0) 0)), (D.vi (D.at (D.at d 0) 1)), (D.vi (D.at (D.at d 0) 2)), (D.vi (D.at (D.at d 0) 3)), (D.vb (D.at d 1)))) (fun (r10, r11, r12, r13, r14) => .tup [(shNLB_0 r10 r11 r12 r13), .one (.bool r14)]) fun (r10, r11, r12, r13, r14) => ((if r14 = false then some (.out 1 [.one (.bool false), iD r5, iD r6, iD r7, iD r8, iD (0 : Int)]) else some (.next 0 [iD (IntKind.i64.wrap (s18 + (1 : Int))), iD r10, iD r11, iD r12, iD r13, iD s4_0])))))))) else some (.out 0 [iD s6_0, iD s6_1, iD s6_2, iD s6_3, iD s4_0])))
def factors_L3_S (re fa fb fc fd : Int) (k : Nat) (c : List D) (kb : Nat) (cb : List D) (ke : Nat) (ce : List D) (kx : Nat) (cx : List D)  : Go.Ev.Rd → Option Go.Ev.Rd
  | .next 0 ds => factors_L3_S0 re fa fb fc fd k c kb cb ke ce kx cx ds
  | _ => none
theorem factors_L3_S_0 (re fa fb fc fd : Int) (k : Nat) (c : List D) (kb : Nat) (cb : List D) (ke : Nat) (ce : List D) (kx : Nat) (cx : List D)  (ds : List D) : factors_L3_S re fa fb fc fd k c kb cb ke ce kx cx (.next 0 ds) = factors_L3_S0 re fa fb fc fd k c kb cb ke ce kx cx ds := rfl
theorem factors_L3_S_ok (re fa fb fc fd : Int) (k : Nat) (c : List D) (kb : Nat) (cb : List D) (ke : Nat) (ce : List D) (kx : Nat) (cx : List D)  : ∀ s_ t_, factors_L3_S re fa fb fc fd k c kb cb ke ce kx cx s_ = some t_ → Step (ctx [55] factors_sp) Tabs factors_L3_A (stateOf (factors_L3_gs re fa fb fc fd k c kb cb ke ce kx cx s_)) (stateOf (factors_L3_gs re fa fb fc fd k c kb cb ke ce kx cx t_)) (factors_L3_ax t_) ∧ EndOK factors_L3_A.nx factors_L3_A.low (factors_L3_gs re fa fb fc fd k c kb cb ke ce kx cx) t_
  | .next 0 ds, t_, h => by
    have h_ : factors_L3_S0 re fa fb fc fd k c kb cb ke ce kx cx ds = some t_ := h
    clear h
    unfold factors_L3_S0 at h_
    obtain ⟨⟨s18, s6_0, s6_1, s6_2, s6_3, s4_0⟩, e0, h0⟩ := pullD_elim h_
    clear h_
    obtain rfl := tup_inj e0
    by_cases b1_ : s18 < (kx : Int)
    · have h2_ := (if_pos b1_).symm.trans h0
      obtain ⟨f3_, h4_⟩ := guardP_elim h2_
      obtain ⟨v0, f5_, h6_⟩ := pullD_elim h4_
      replace f5_ := readD_elim f5_
      obtain ⟨⟨r1, r2, r3, r4⟩, f7_, h8_⟩ := pullD_elim h6_
      replace f7_ := m_85_ok f7_
      obtain ⟨⟨r5, r6, r7, r8, r9⟩, f9_, h10_⟩ := pullD_elim h8_
      replace f9_ := m_86_ok f9_
      by_cases b11_ : r9 = false
      · have h12_ := (if_pos b11_).symm.trans h10_
        obtain rfl := Option.some.inj h12_
        exact ⟨step_pc 3000 (bT 3 []) [iD v0, (shNLB_0 r1 r2 r3 r4), .tup [(shNLB_0 r5 r6 r7 r8), .one (.bool r9)]] [c_d b1_, c_f f3_, c_f f5_, c_T, c_no b11_] [k_c f7_, k_c f9_] _ rfl (by kernel_rfl) (by kernel_rfl) (by kernel_rfl) (by kernel_rfl) (by kernel_rfl) (by kernel_rfl), by kernel_rfl, by kernel_rfl⟩
      have h12_ := (if_neg b11_).symm.trans h10_
      have b13_ : r9 = true := by first | exact b11_ | simpa using b11_
      obtain ⟨⟨r10, r11, r12, r13, r14⟩, f14_, h15_⟩ := pullD_elim h12_
      replace f14_ := m_86_ok f14_
      by_cases b16_ : r14 = false
      · have h17_ := (if_pos b16_).symm.trans h15_
        obtain rfl := Option.some.inj h17_
        exact ⟨step_pc 3000 (bT 2 (bF 1 (bT 2 []))) [iD v0, (shNLB_0 r1 r2 r3 r4), .tup [(shNLB_0 r5 r6 r7 r8), .one (.bool r9)], .tup [(shNLB_0 r10 r11 r12 r13), .one (.bool r14)]] [c_d b1_, c_f f3_, c_f f5_, c_T, c_nn b13_, c_T, c_no b16_] [k_c f7_, k_c f9_, k_c f14_] _ rfl (by kernel_rfl) (by kernel_rfl) (by kernel_rfl) (by kernel_rfl) (by kernel_rfl) (by kernel_rfl), by kernel_rfl, by kernel_rfl⟩
      have h17_ := (if_neg b16_).symm.trans h15_
      have b18_ : r14 = true := by first | exact b16_ | simpa using b16_
      obtain rfl := Option.some.inj h17_
      exact ⟨step_pc 3000 (bT 2 (bF 1 (bT 1 (bF 2 [])))) [iD v0, (shNLB_0 r1 r2 r3 r4), .tup [(shNLB_0 r5 r6 r7 r8), .one (.bool r9)], .tup [(shNLB_0 r10 r11 r12 r13), .one (.bool r14)]] [c_d b1_, c_f f3_, c_f f5_, c_T, c_nn b13_, c_T, c_nn b18_, c_F] [k_c f7_, k_c f9_, k_c f14_] _ rfl (by kernel_rfl) (by kernel_rfl) (by kernel_rfl) (by kernel_rfl) (by kernel_rfl) (by kernel_rfl), trivial⟩
    have h2_ := (if_neg b1_).symm.trans h0
    obtain rfl := Option.some.inj h2_
    exact ⟨step_pc 3000 (bF 1 []) [] [c_n b1_] [] _ rfl (by kernel_rfl) (by kernel_rfl) (by kernel_rfl) (by kernel_rfl) (by kernel_rfl) (by kernel_rfl), by kernel_rfl, by kernel_rfl⟩
  | .next (_ + 1) _, _, h => by cases h
  | .out _ _, _, h => by cases h
theorem factors_L3_go (re fa fb fc fd : Int) (k : Nat) (c : List D) (kb : Nat) (cb : List D) (ke : Nat) (ce : List D) (kx : Nat) (cx : List D)  {q : Nat} {ds : List D} {j : Nat} {es : List D} (h : runR (factors_L3_S re fa fb fc fd k c kb cb ke ce kx cx) (.next q ds) = some (.out j es)) : Runs (ctx [55] factors_sp) Tabs factors_L3_A (stateOf (factors_L3_gs re fa fb fc fd k c kb cb ke ce kx cx (.next q ds))) (stateOf (factors_L3_gs re fa fb fc fd k c kb cb ke ce kx cx (.out j es))) (factors_L3_ax (.out j es)) ∧ (nxtOf (factors_L3_gs re fa fb fc fd k c kb cb ke ce kx cx (.out j es)), lowGS (factors_L3_gs re fa fb fc fd k c kb cb ke ce kx cx (.out j es))) = (factors_L3_A.nx, factors_L3_A.low) :=
  runs_of' (good true _ _) factors_L3_ok (ax := factors_L3_ax) (fun _ _ => rfl) (fun _ _ => axOf_end _) (factors_L3_S_ok re fa fb fc fd k c kb cb ke ce kx cx) h
theorem factors_L3_in0 (re fa fb fc fd : Int) (k : Nat) (c : List D) (kb : Nat) (cb : List D) (ke : Nat) (ce : List D) (kx : Nat) (cx : List D)  {es : List D} (h : runR (factors_L3_S re fa fb fc fd k c kb cb ke ce kx cx) (.next 0 [iD ((0 : Int)), iD fa, iD fb, iD fc, iD fd, iD ((0 : Int))]) = some (.out 0 es)) : LoopC (loopAt Try.prog 55 0) (factors_L3_E re fa fb fc fd k c kb cb ke ce kx cx) 7 noFrame factors_x3_0 es :=
  have r := factors_L3_go re fa fb fc fd k c kb cb ke ce kx cx h
  loopin_as rfl (loop_in (l := factors_L3_A) (E := (factors_L3_E re fa fb fc fd k c kb cb ke ce kx cx)) (S := stateOf (factors_L3_gs re fa fb fc fd k c kb cb ke ce kx cx (.next 0 [iD ((0 : Int)), iD fa, iD fb, iD fc, iD fd, iD ((0 : Int))]))) (ns := nsOf (factors_L3_gs re fa fb fc fd k c kb cb ke ce kx cx (.next 0 [iD ((0 : Int)), iD fa, iD fb, iD fc, iD fd, iD ((0 : Int))]))) factors_L3_ok r.1 r.2 (by kernel_rfl) (by kernel_rfl) (by kernel_rfl) (by kernel_rfl))
theorem factors_L3_in1 (re fa fb fc fd : Int) (k : Nat) (c : List D) (kb : Nat) (cb : List D) (ke : Nat) (ce : List D) (kx : Nat) (cx : List D)  {es : List D} (h : runR (factors_L3_S re fa fb fc fd k c kb cb ke ce kx cx) (.next 0 [iD ((0 : Int)), iD fa, iD fb, iD fc, iD fd, iD ((0 : Int))]) = some (.out 1 es)) : LoopC (loopAt Try.prog 55 0) (factors_L3_E re fa fb fc fd k c kb cb ke ce kx cx) 7 noFrame factors_x3_1 es :=
  have r := factors_L3_go re fa fb fc fd k c kb cb ke ce kx cx h
  loopin_as rfl (loop_in (l := factors_L3_A) (E := (factors_L3_E re fa fb fc fd k c kb cb ke ce kx cx)) (S := stateOf (factors_L3_gs re fa fb fc fd k c kb cb ke ce kx cx (.next 0 [iD ((0 : Int)), iD fa, iD fb, iD fc, iD fd, iD ((0 : Int))]))) (ns := nsOf (factors_L3_gs re fa fb fc fd k c kb cb ke ce kx cx (.next 0 [iD ((0 : Int)), iD fa, iD fb, iD fc, iD fd, iD ((0 : Int))]))) factors_L3_ok r.1 r.2 (by kernel_rfl) (by kernel_rfl) (by kernel_rfl) (by kernel_rfl))
def factors_M (re fa fb fc fd : Int) (k : Nat) (c : List D) (kb : Nat) (cb : List D) (ke : Nat) (ce : List D) (kx : Nat) (cx : List D) : Option D := bindL (runR (factors_L3_S re fa fb fc fd k c kb cb ke ce kx cx) (.next 0 [iD ((0 : Int)), iD fa, iD fb, iD fc, iD fd, iD ((0 : Int))])) fun j ds => (if j = 0 then pullD (α := Int × Int × Int × Int × Int) (some (.tup ds)) (fun d => ((D.vi (D.at d 0)), (D.vi (D.at d 1)), (D.vi (D.at d 2)), (D.vi (D.at d 3)), (D.vi (D.at d 4)))) (fun (l0, l1, l2, l3, l4) => .tup [iD l0, iD l1, iD l2, iD l3, iD l4]) fun (l0, l1, l2, l3, l4) => (some (.tup [(shNLB_0 l0 l1 l2 l3), .one (.bool true)])) else if j = 1 then pullD (α := Bool × Int × Int × Int × Int × Int) (some (.tup ds)) (fun d => ((D.vb (D.at d 0)), (D.vi (D.at d 1)), (D.vi (D.at d 2)), (D.vi (D.at d 3)), (D.vi (D.at d 4)), (D.vi (D.at d 5)))) (fun (l5, l6, l7, l8, l9, l10) => .tup [.one (.bool l5), iD l6, iD l7, iD l8, iD l9, iD l10]) fun (l5, l6, l7, l8, l9, l10) => (some (.tup [(shNLB_0 l10 (0 : Int) (0 : Int) (0 : Int)), .one (.bool l5)])) else none)
theorem factors_M_ok (re fa fb fc fd : Int) (k : Nat) (c : List D) (kb : Nat) (cb : List D) (ke : Nat) (ce : List D) (kx : Nat) (cx : List D) {r : D} (h : factors_M re fa fb fc fd k c kb cb ke ce kx cx = some r) : Con 55 [.agg [iD re, iD fa, iD fb, iD fc, iD fd, .list k c, .list kb cb, .list ke ce], .list kx cx] r := by
  unfold factors_M at h
  obtain ⟨j, ds, e1_, h2_⟩ := bindL_elim h
  by_cases j3_ : j = 0
  · have h6_ := (if_pos j3_).symm.trans h2_
    clear h2_
    subst j3_
    obtain ⟨⟨l0, l1, l2, l3, l4⟩, e4_, h7_⟩ := pullD_elim h6_
    clear h6_
    obtain rfl := tup_inj e4_
    have k5_ := factors_L3_in0 re fa fb fc fd k c kb cb ke ce kx cx e1_
    obtain rfl := Option.some.inj h7_
    exact con_pc (op := true) (I := [55]) (sp := factors_sp) 3000 [] [.tup [iD (Int.ofNat 0), iD l0, iD l1, iD l2, iD l3, iD l4]] [] [k_l k5_ [] [.tup [iD (Int.ofNat 0), iD l0, iD l1, iD l2, iD l3, iD l4]] []] (by kernel_rfl)
  have h8_ := (if_neg j3_).symm.trans h2_
  clear h2_
  by_cases j9_ : j = 1
  · have h12_ := (if_pos j9_).symm.trans h8_
    clear h8_
    subst j9_
    obtain ⟨⟨l5, l6, l7, l8, l9, l10⟩, e10_, h13_⟩ := pullD_elim h12_
    clear h12_
    obtain rfl := tup_inj e10_
    have k11_ := factors_L3_in1 re fa fb fc fd k c kb cb ke ce kx cx e1_
    obtain rfl := Option.some.inj h13_
    exact con_pc (op := true) (I := [55]) (sp := factors_sp) 3000 [] [.tup [iD (Int.ofNat 1), .one (.bool l5), iD l6, iD l7, iD l8, iD l9, iD l10]] [] [k_l k11_ [] [.tup [iD (Int.ofNat 1), .one (.bool l5), iD l6, iD l7, iD l8, iD l9, iD l10]] []] (by kernel_rfl)
  have h14_ := (if_neg j9_).symm.trans h8_
  clear h8_
  cases h14_
def m_55 (ds : List D) : Option D := pullD (α := Int × Int × Int × Int × Int × Nat × (List D) × Nat × (List D) × Nat × (List D) × Nat × (List D)) (some (.tup ds)) (fun d => ((D.vi (D.at (D.at d 0) 0)), (D.vi (D.at (D.at d 0) 1)), (D.vi (D.at (D.at d 0) 2)), (D.vi (D.at (D.at d 0) 3)), (D.vi (D.at (D.at d 0) 4)), (D.ln (D.at (D.at d 0) 5)), (D.lc (D.at (D.at d 0) 5)), (D.ln (D.at (D.at d 0) 6)), (D.lc (D.at (D.at d 0) 6)), (D.ln (D.at (D.at d 0) 7)), (D.lc (D.at (D.at d 0) 7)), (D.ln (D.at d 1)), (D.lc (D.at d 1)))) (fun (re, fa, fb, fc, fd, k, c, kb, cb, ke, ce, kx, cx) => .tup [.agg [iD re, iD fa, iD fb, iD fc, iD fd, .list k c, .list kb cb, .list ke ce], .list kx cx]) fun (re, fa, fb, fc, fd, k, c, kb, cb, ke, ce, kx, cx) => factors_M re fa fb fc fd k c kb cb ke ce kx cx
theorem m_55_ok {ds : List D} {r : D} (h : m_55 ds = some r) : Con 55 ds r := by
  unfold m_55 at h
  obtain ⟨⟨re, fa, fb, fc, fd, k, c, kb, cb, ke, ce, kx, cx⟩, e0, h0⟩ := pullD_elim h
  obtain rfl := tup_inj e0
  exact factors_M_ok re fa fb fc fd k c kb cb ke ce kx cx h0
theorem m_55_eq (re fa fb fc fd : Int) (k : Nat) (c : List D) (kb : Nat) (cb : List D) (ke : Nat) (ce : List D) (kx : Nat) (cx : List D) : m_55 [.agg [iD re, iD fa, iD fb, iD fc, iD fd, .list k c, .list kb cb, .list ke ce], .list kx cx] = factors_M re fa fb fc fd k c kb cb ke ce kx cx := pullD_some (re, fa, fb, fc, fd, k, c, kb, cb, ke, ce, kx, cx) rfl rfl
def prove_sp : List LSpec := []
def prove_M (re fa fb fc fd : Int) (k : Nat) (c : List D) (kb : Nat) (cb : List D) (ke : Nat) (ce : List D) (kx : Nat) (cx : List D) : Option D := pullD (α := Int × Int × Int × Int × Bool) (m_55 [.agg [iD re, iD fa, iD fb, iD fc, iD fd, .list k c, .list kb cb, .list ke ce], .list kx cx]) (fun d => ((D.vi (D.at (D.at d 0) 0)), (D.vi (D.at (D.at d 0) 1)), (D.vi (D.at (D.at d 0) 2)), (D.vi (D.at (D.at d 0) 3)), (D.vb (D.at d 1)))) (fun (r0, r1, r2, r3, r4) => .tup [(shNLB_0 r0 r1 r2 r3), .one (.bool r4)]) fun (r0, r1, r2, r3, r4) => (some (.one (.bool !r4)))
theorem prove_M_ok (re fa fb fc fd : Int) (k : Nat) (c : List D) (kb : Nat) (cb : List D) (ke : Nat) (ce : List D) (kx : Nat) (cx : List D) {r : D} (h : prove_M re fa fb fc fd k c kb cb ke ce kx cx = some r) : Con 57 [.agg [iD re, iD fa, iD fb, iD fc, iD fd, .list k c, .list kb cb, .list ke ce], .list kx cx] r := by
  unfold prove_M at h
  obtain ⟨⟨r0, r1, r2, r3, r4⟩, f1_, h2_⟩ := pullD_elim h
  replace f1_ := m_55_ok f1_
  obtain rfl := Option.some.inj h2_
  exact con_pc (op := true) (I := [57]) (sp := prove_sp) 3000 [] [.tup [(shNLB_0 r0 r1 r2 r3), .one (.bool r4)]] [] [k_c f1_] (by kernel_rfl)
def m_57 (ds : List D) : Option D := pullD (α := Int × Int × Int × Int × Int × Nat × (List D) × Nat × (List D) × Nat × (List D) × Nat × (List D)) (some (.tup ds)) (fun d => ((D.vi (D.at (D.at d 0) 0)), (D.vi (D.at (D.at d 0) 1)), (D.vi (D.at (D.at d 0) 2)), (D.vi (D.at (D.at d 0) 3)), (D.vi (D.at (D.at d 0) 4)), (D.ln (D.at (D.at d 0) 5)), (D.lc (D.at (D.at d 0) 5)), (D.ln (D.at (D.at d 0) 6)), (D.lc (D.at (D.at d 0) 6)), (D.ln (D.at (D.at d 0) 7)), (D.lc (D.at (D.at d 0) 7)), (D.ln (D.at d 1)), (D.lc (D.at d 1)))) (fun (re, fa, fb, fc, fd, k, c, kb, cb, ke, ce, kx, cx) => .tup [.agg [iD re, iD fa, iD fb, iD fc, iD fd, .list k c, .list kb cb, .list ke ce], .list kx cx]) fun (re, fa, fb, fc, fd, k, c, kb, cb, ke, ce, kx, cx) => prove_M re fa fb fc fd k c kb cb ke ce kx cx
theorem m_57_ok {ds : List D} {r : D} (h : m_57 ds = some r) : Con 57 ds r := by
  unfold m_57 at h
  obtain ⟨⟨re, fa, fb, fc, fd, k, c, kb, cb, ke, ce, kx, cx⟩, e0, h0⟩ := pullD_elim h
  obtain rfl := tup_inj e0
  exact prove_M_ok re fa fb fc fd k c kb cb ke ce kx cx h0
theorem m_57_eq (re fa fb fc fd : Int) (k : Nat) (c : List D) (kb : Nat) (cb : List D) (ke : Nat) (ce : List D) (kx : Nat) (cx : List D) : m_57 [.agg [iD re, iD fa, iD fb, iD fc, iD fd, .list k c, .list kb cb, .list ke ce], .list kx cx] = prove_M re fa fb fc fd k c kb cb ke ce kx cx := pullD_some (re, fa, fb, fc, fd, k, c, kb, cb, ke, ce, kx, cx) rfl rfl
def pairErr_sp : List LSpec := []
def pairErr_M (re fa fb fc fd : Int) (k : Nat) (c : List D) (st : Int) (kb : Nat) (cb : List D) (su : Int) (ke : Nat) (ce : List D) : Option D := pullD (α := Int) (m_17 [.agg [iD re, iD fa, iD fb, iD fc, iD fd, .list k c], .agg [iD st, .list kb cb]]) (fun d => ((D.vi d))) (fun r0 => iD r0) fun r0 => ((if r0 ≠ (0 : Int) then some (iD r0) else pullD (α := Int) (m_41 [.agg [iD su, .list ke ce]]) (fun d => ((D.vi d))) (fun r1 => iD r1) fun r1 => ((if r1 ≠ (0 : Int) then some (iD r1) else (if st ≠ su then some (iD (10 : Int)) else (if (kb : Int) ≠ (ke : Int) then some (iD (10 : Int)) else some (iD (0 : Int))))))))
theorem pairErr_M_ok (re fa fb fc fd : Int) (k : Nat) (c : List D) (st : Int) (kb : Nat) (cb : List D) (su : Int) (ke : Nat) (ce : List D) {r : D} (h : pairErr_M re fa fb fc fd k c st kb cb su ke ce = some r) : Con 22 [.agg [iD re, iD fa, iD fb, iD fc, iD fd, .list k c], .agg [iD st, .list kb cb], .agg [iD su, .list ke ce]] r := by
  unfold pairErr_M at h
  obtain ⟨r0, f1_, h2_⟩ := pullD_elim h
  replace f1_ := m_17_ok f1_
  by_cases b3_ : r0 ≠ (0 : Int)
  · have h4_ := (if_pos b3_).symm.trans h2_
    obtain rfl := Option.some.inj h4_
    exact con_pc (op := true) (I := [22]) (sp := pairErr_sp) 3000 (bT 1 []) [iD r0] [c_b b3_] [k_c f1_] (by kernel_rfl)
  have h4_ := (if_neg b3_).symm.trans h2_
  have b5_ : r0 = (0 : Int) := by first | exact b3_ | simpa using b3_
  obtain ⟨r1, f6_, h7_⟩ := pullD_elim h4_
  replace f6_ := m_41_ok f6_
  by_cases b8_ : r1 ≠ (0 : Int)
  · have h9_ := (if_pos b8_).symm.trans h7_
    obtain rfl := Option.some.inj h9_
    exact con_pc (op := true) (I := [22]) (sp := pairErr_sp) 3000 (bF 1 (bT 1 [])) [iD r0, iD r1] [c_bn b5_, c_b b8_] [k_c f1_, k_c f6_] (by kernel_rfl)
  have h9_ := (if_neg b8_).symm.trans h7_
  have b10_ : r1 = (0 : Int) := by first | exact b8_ | simpa using b8_
  by_cases b11_ : st ≠ su
  · have h12_ := (if_pos b11_).symm.trans h9_
    obtain rfl := Option.some.inj h12_
    exact con_pc (op := true) (I := [22]) (sp := pairErr_sp) 3000 (bF 2 (bT 9 [])) [iD r0, iD r1] [c_bn b5_, c_bn b10_, c_b b11_, c_b b11_, c_b b11_, c_b b11_, c_b b11_, c_b b11_, c_b b11_, c_b b11_, c_T] [k_c f1_, k_c f6_] (by kernel_rfl)
  have h12_ := (if_neg b11_).symm.trans h9_
  have b13_ : st = su := by first | exact b11_ | simpa using b11_
  by_cases b14_ : (kb : Int) ≠ (ke : Int)
  · have h15_ := (if_pos b14_).symm.trans h12_
    obtain rfl := Option.some.inj h15_
    exact con_pc (op := true) (I := [22]) (sp := pairErr_sp) 3000 (bF 10 (bT 1 [])) [iD r0, iD r1] [c_bn b5_, c_bn b10_, c_bn b13_, c_bn b13_, c_bn b13_, c_bn b13_, c_bn b13_, c_bn b13_, c_bn b13_, c_bn b13_, c_b b14_] [k_c f1_, k_c f6_] (by kernel_rfl)
  have h15_ := (if_neg b14_).symm.trans h12_
  have b16_ : (kb : Int) = (ke : Int) := by first | exact b14_ | simpa using b14_
  obtain rfl := Option.some.inj h15_
  exact con_pc (op := true) (I := [22]) (sp := pairErr_sp) 3000 (bF 11 []) [iD r0, iD r1] [c_bn b5_, c_bn b10_, c_bn b13_, c_bn b13_, c_bn b13_, c_bn b13_, c_bn b13_, c_bn b13_, c_bn b13_, c_bn b13_, c_bn b16_] [k_c f1_, k_c f6_] (by kernel_rfl)
def m_22 (ds : List D) : Option D := pullD (α := Int × Int × Int × Int × Int × Nat × (List D) × Int × Nat × (List D) × Int × Nat × (List D)) (some (.tup ds)) (fun d => ((D.vi (D.at (D.at d 0) 0)), (D.vi (D.at (D.at d 0) 1)), (D.vi (D.at (D.at d 0) 2)), (D.vi (D.at (D.at d 0) 3)), (D.vi (D.at (D.at d 0) 4)), (D.ln (D.at (D.at d 0) 5)), (D.lc (D.at (D.at d 0) 5)), (D.vi (D.at (D.at d 1) 0)), (D.ln (D.at (D.at d 1) 1)), (D.lc (D.at (D.at d 1) 1)), (D.vi (D.at (D.at d 2) 0)), (D.ln (D.at (D.at d 2) 1)), (D.lc (D.at (D.at d 2) 1)))) (fun (re, fa, fb, fc, fd, k, c, st, kb, cb, su, ke, ce) => .tup [.agg [iD re, iD fa, iD fb, iD fc, iD fd, .list k c], .agg [iD st, .list kb cb], .agg [iD su, .list ke ce]]) fun (re, fa, fb, fc, fd, k, c, st, kb, cb, su, ke, ce) => pairErr_M re fa fb fc fd k c st kb cb su ke ce
theorem m_22_ok {ds : List D} {r : D} (h : m_22 ds = some r) : Con 22 ds r := by
  unfold m_22 at h
  obtain ⟨⟨re, fa, fb, fc, fd, k, c, st, kb, cb, su, ke, ce⟩, e0, h0⟩ := pullD_elim h
  obtain rfl := tup_inj e0
  exact pairErr_M_ok re fa fb fc fd k c st kb cb su ke ce h0
theorem m_22_eq (re fa fb fc fd : Int) (k : Nat) (c : List D) (st : Int) (kb : Nat) (cb : List D) (su : Int) (ke : Nat) (ce : List D) : m_22 [.agg [iD re, iD fa, iD fb, iD fc, iD fd, .list k c], .agg [iD st, .list kb cb], .agg [iD su, .list ke ce]] = pairErr_M re fa fb fc fd k c st kb cb su ke ce := pullD_some (re, fa, fb, fc, fd, k, c, st, kb, cb, su, ke, ce) rfl rfl
def allR_x3_0 : LExit := ⟨some 0, [.grow 3 1], (List.range' 4 12)⟩
def allR_x3_1 : LExit := ⟨some 0, [.nil 3], (List.range' 4 12)⟩
def allR_sp : List LSpec := [⟨24, 3, [allR_x3_0, allR_x3_1]⟩]
def allR_L3_E (st : Int) (kb : Nat) (cb : List D)  : List AV × AHeap := ([.agg [.pure (.int .i64 st), .dsl 0], .ptr 1 0, .pure (.slice none 0 0), .pure (.slice none 0 0), .pure (.int .i64 (0 : Int)), .pure (.tuple #[]), .pure (.tuple #[]), .pure (.tuple #[]), .pure (.tuple #[]), .pure (.tuple #[]), .pure (.tuple #[]), .pure (.tuple #[]), .pure (.tuple #[]), .pure (.tuple #[]), .pure (.tuple #[]), .pure (.tuple #[]), .pure (.tuple #[])], [(1, { cells := [.pure (.int .i64 st), .dsl 0], opn := none, kind := .cells }), (0, { cells := [], opn := none, kind := .deep kb cb })])
def allR_L3_A : LoopAt := ⟨24, loopAt Try.prog 24 0, 2, 15, 2, noFrame⟩
theorem allR_L3_ok : (allR_L3_A).OK := ⟨by show 2 ≤ 15; decide, by show 2 ≤ 2; decide, by kernel_rfl, rfl⟩
def allR_L3_gs (st : Int) (kb : Nat) (cb : List D)  : Go.Ev.Rd → Option GS
  | .next 0 ds => ghost [.grow 3 1, .val 4] (List.range' 5 11) (allR_L3_E st kb cb).1 (allR_L3_E st kb cb).2 2 ds
  | .next 1 ds => ghost [.nil 3, .val 4] (List.range' 5 11) (allR_L3_E st kb cb).1 (allR_L3_E st kb cb).2 2 ds
  | .out 0 ds => ghost allR_x3_0.live allR_x3_0.junk (allR_L3_E st kb cb).1 (allR_L3_E st kb cb).2 2 ds
  | .out 1 ds => ghost allR_x3_1.live allR_x3_1.junk (allR_L3_E st kb cb).1 (allR_L3_E st kb cb).2 2 ds
  | _ => none
def allR_L3_ex : Nat → Option Nat
  | 0 => allR_x3_0.ex
  | 1 => allR_x3_1.ex
  | _ => none
def allR_L3_ax : Go.Ev.Rd → AX
  | .next _ _ => .normal
  | .out j _ => axOf (allR_L3_ex j)
def allR_L3_S0 (st : Int) (kb : Nat) (cb : List D)  (ds : List D) : Option Go.Ev.Rd := pullD (α := Nat × (List D) × Int) (some (.tup ds)) (fun d => ((D.ln (D.at d 0)), (D.lc (D.at d 0)), (D.vi (D.at d 1)))) (fun (s3n, s3c, s4) => .tup [.list s3n s3c, iD s4]) fun (s3n, s3c, s4) => ((if s4 < (kb : Int) then guardP ((∀ (u : D), u ∈ [dCell (.int .i64 s4)] → cellD u) ∧ s3n * 1 ≤ s3c.length ∧ (s3n + (0 + 1)) * 8 ≤ 140737488355328 ∧ s3n + (0 + 1) ≤ 4611686018427387904) (some (.next 0 [.list (s3n + (0 + 1)) (List.append (List.take (s3n * 1) s3c) [dCell (.int .i64 s4)]), iD (IntKind.i64.wrap (s4 + (1 : Int)))])) else some (.out 0 [.list s3n s3c])))
def allR_L3_S1 (st : Int) (kb : Nat) (cb : List D)  (ds : List D) : Option Go.Ev.Rd := pullD (α := Int) (some (.tup ds)) (fun d => ((D.vi (D.at d 1)))) (fun s4 => .tup [.one (.tuple #[]), iD s4]) fun s4 => ((if s4 < (kb : Int) then some (.next 0 [.list 1 [iD s4], iD (IntKind.i64.wrap (s4 + (1 : Int)))]) else some (.out 1 [.one (.tuple #[])])))
def allR_L3_S (st : Int) (kb : Nat) (cb : List D)  : Go.Ev.Rd → Option Go.Ev.Rd
  | .next 0 ds => allR_L3_S0 st kb cb ds
  | .next 1 ds => allR_L3_S1 st kb cb ds
  | _ => none
theorem allR_L3_S_0 (st : Int) (kb : Nat) (cb : List D)  (ds : List D) : allR_L3_S st kb cb (.next 0 ds) = allR_L3_S0 st kb cb ds := rfl
theorem allR_L3_S_1 (st : Int) (kb : Nat) (cb : List D)  (ds : List D) : allR_L3_S st kb cb (.next 1 ds) = allR_L3_S1 st kb cb ds := rfl
theorem allR_L3_S_ok (st : Int) (kb : Nat) (cb : List D)  : ∀ s_ t_, allR_L3_S st kb cb s_ = some t_ → Step (ctx [24] allR_sp) Tabs allR_L3_A (stateOf (allR_L3_gs st kb cb s_)) (stateOf (allR_L3_gs st kb cb t_)) (allR_L3_ax t_) ∧ EndOK allR_L3_A.nx allR_L3_A.low (allR_L3_gs st kb cb) t_
  | .next 0 ds, t_, h => by
    have h_ : allR_L3_S0 st kb cb ds = some t_ := h
    clear h
    unfold allR_L3_S0 at h_
    obtain ⟨⟨s3n, s3c, s4⟩, e0, h0⟩ := pullD_elim h_
    clear h_
    obtain rfl := tup_inj e0
    by_cases b1_ : s4 < (kb : Int)
    · have h2_ := (if_pos b1_).symm.trans h0
      obtain ⟨f3_, h4_⟩ := guardP_elim h2_
      obtain rfl := Option.some.inj h4_
      exact ⟨step_pc 3000 (bT 1 []) [] [c_d b1_, c_f f3_] [] _ rfl (by kernel_rfl) (by kernel_rfl) (by kernel_rfl) (by kernel_rfl) (by kernel_rfl) (by kernel_rfl), trivial⟩
    have h2_ := (if_neg b1_).symm.trans h0
    obtain rfl := Option.some.inj h2_
    exact ⟨step_pc 3000 (bF 1 []) [] [c_n b1_] [] _ rfl (by kernel_rfl) (by kernel_rfl) (by kernel_rfl) (by kernel_rfl) (by kernel_rfl) (by kernel_rfl), by kernel_rfl, by kernel_rfl⟩
  | .next 1 ds, t_, h => by
    have h_ : allR_L3_S1 st kb cb ds = some t_ := h
    clear h
    unfold allR_L3_S1 at h_
    obtain ⟨s4, e0, h0⟩ := pullD_elim h_
    clear h_
    obtain rfl := tup_inj e0
    by_cases b1_ : s4 < (kb : Int)
    · have h2_ := (if_pos b1_).symm.trans h0
      obtain rfl := Option.some.inj h2_
      exact ⟨step_pc 3000 (bT 1 []) [] [c_d b1_, ⟨fact (0 < 0 + 1 ∧ (0 + 1) * 8 ≤ 140737488355328 ∧ 0 + 1 ≤ 4611686018427387904), true, fact_mk (by decide)⟩] [] _ rfl (by kernel_rfl) (by kernel_rfl) (by kernel_rfl) (by kernel_rfl) (by kernel_rfl) (by kernel_rfl), trivial⟩
    have h2_ := (if_neg b1_).symm.trans h0
    obtain rfl := Option.some.inj h2_
    exact ⟨step_pc 3000 (bF 1 []) [] [c_n b1_] [] _ rfl (by kernel_rfl) (by kernel_rfl) (by kernel_rfl) (by kernel_rfl) (by kernel_rfl) (by kernel_rfl), by kernel_rfl, by kernel_rfl⟩
  | .next (_ + 2) _, _, h => by cases h
  | .out _ _, _, h => by cases h
theorem allR_L3_go (st : Int) (kb : Nat) (cb : List D)  {q : Nat} {ds : List D} {j : Nat} {es : List D} (h : runR (allR_L3_S st kb cb) (.next q ds) = some (.out j es)) : Runs (ctx [24] allR_sp) Tabs allR_L3_A (stateOf (allR_L3_gs st kb cb (.next q ds))) (stateOf (allR_L3_gs st kb cb (.out j es))) (allR_L3_ax (.out j es)) ∧ (nxtOf (allR_L3_gs st kb cb (.out j es)), lowGS (allR_L3_gs st kb cb (.out j es))) = (allR_L3_A.nx, allR_L3_A.low) :=
  runs_of' (good true _ _) allR_L3_ok (ax := allR_L3_ax) (fun _ _ => rfl) (fun _ _ => axOf_end _) (allR_L3_S_ok st kb cb) h
theorem allR_L3_in0 (st : Int) (kb : Nat) (cb : List D)  {es : List D} (h : runR (allR_L3_S st kb cb) (.next 1 [.one (.tuple #[]), iD ((0 : Int))]) = some (.out 0 es)) : LoopC (loopAt Try.prog 24 0) (allR_L3_E st kb cb) 2 noFrame allR_x3_0 es :=
  have r := allR_L3_go st kb cb h
  loopin_as rfl (loop_in (l := allR_L3_A) (E := (allR_L3_E st kb cb)) (S := stateOf (allR_L3_gs st kb cb (.next 1 [.one (.tuple #[]), iD ((0 : Int))]))) (ns := nsOf (allR_L3_gs st kb cb (.next 1 [.one (.tuple #[]), iD ((0 : Int))]))) allR_L3_ok r.1 r.2 (by kernel_rfl) (by kernel_rfl) (by kernel_rfl) (by kernel_rfl))
theorem allR_L3_in1 (st : Int) (kb : Nat) (cb : List D)  {es : List D} (h : runR (allR_L3_S st kb cb) (.next 1 [.one (.tuple #[]), iD ((0 : Int))]) = some (.out 1 es)) : LoopC (loopAt Try.prog 24 0) (allR_L3_E st kb cb) 2 noFrame allR_x3_1 es :=
  have r := allR_L3_go st kb cb h
  loopin_as rfl (loop_in (l := allR_L3_A) (E := (allR_L3_E st kb cb)) (S := stateOf (allR_L3_gs st kb cb (.next 1 [.one (.tuple #[]), iD ((0 : Int))]))) (ns := nsOf (allR_L3_gs st kb cb (.next 1 [.one (.tuple #[]), iD ((0 : Int))]))) allR_L3_ok r.1 r.2 (by kernel_rfl) (by kernel_rfl) (by kernel_rfl) (by kernel_rfl))
def allR_M (st : Int) (kb : Nat) (cb : List D) : Option D := bindL (runR (allR_L3_S st kb cb) (.next 1 [.one (.tuple #[]), iD ((0 : Int))])) fun j ds => (if j = 0 then pullD (α := Nat × (List D)) (some (.tup ds)) (fun d => ((D.ln (D.at d 0)), (D.lc (D.at d 0)))) (fun (k0, c1) => .tup [.list k0 c1]) fun (k0, c1) => (guardP ((0 + k0) * 1 ≤ c1.length ∧ 0 < 1) (some (.list k0 c1))) else if j = 1 then pullD (some (.tup ds)) (fun _ => ()) (fun _ => .tup [.one (.tuple #[])]) fun _ => (some (.list 0 [])) else none)
theorem allR_M_ok (st : Int) (kb : Nat) (cb : List D) {r : D} (h : allR_M st kb cb = some r) : Con 24 [.agg [iD st, .list kb cb]] r := by
  unfold allR_M at h
  obtain ⟨j, ds, e1_, h2_⟩ := bindL_elim h
  by_cases j3_ : j = 0
  · have h6_ := (if_pos j3_).symm.trans h2_
    clear h2_
    subst j3_
    obtain ⟨⟨k0, c1⟩, e4_, h7_⟩ := pullD_elim h6_
    clear h6_
    obtain rfl := tup_inj e4_
    have k5_ := allR_L3_in0 st kb cb e1_
    obtain ⟨f8_, h9_⟩ := guardP_elim h7_
    obtain rfl := Option.some.inj h9_
    exact con_pc (op := true) (I := [24]) (sp := allR_sp) 3000 [] [.tup [iD (Int.ofNat 0), .list k0 c1]] [c_f f8_] [k_l k5_ [] [.tup [iD (Int.ofNat 0), .list k0 c1]] []] (by kernel_rfl)
  have h10_ := (if_neg j3_).symm.trans h2_
  clear h2_
  by_cases j11_ : j = 1
  · have h14_ := (if_pos j11_).symm.trans h10_
    clear h10_
    subst j11_
    obtain ⟨⟨⟩, e12_, h15_⟩ := pullD_elim h14_
    clear h14_
    obtain rfl := tup_inj e12_
    have k13_ := allR_L3_in1 st kb cb e1_
    obtain rfl := Option.some.inj h15_
    exact con_pc (op := true) (I := [24]) (sp := allR_sp) 3000 [] [.tup [iD (Int.ofNat 1), .one (.tuple #[])]] [] [k_l k13_ [] [.tup [iD (Int.ofNat 1), .one (.tuple #[])]] []] (by kernel_rfl)
  have h16_ := (if_neg j11_).symm.trans h10_
  clear h10_
  cases h16_
def m_24 (ds : List D) : Option D := pullD (α := Int × Nat × (List D)) (some (.tup ds)) (fun d => ((D.vi (D.at (D.at d 0) 0)), (D.ln (D.at (D.at d 0) 1)), (D.lc (D.at (D.at d 0) 1)))) (fun (st, kb, cb) => .tup [.agg [iD st, .list kb cb]]) fun (st, kb, cb) => allR_M st kb cb
theorem m_24_ok {ds : List D} {r : D} (h : m_24 ds = some r) : Con 24 ds r := by
  unfold m_24 at h
  obtain ⟨⟨st, kb, cb⟩, e0, h0⟩ := pullD_elim h
  obtain rfl := tup_inj e0
  exact allR_M_ok st kb cb h0
theorem m_24_eq (st : Int) (kb : Nat) (cb : List D) : m_24 [.agg [iD st, .list kb cb]] = allR_M st kb cb := pullD_some (st, kb, cb) rfl rfl
def factorsR_x3_0 : LExit := ⟨some 0, [.val 11, .cval 10 0, .cval 10 1, .cval 10 2, .cval 10 3], (12 :: (13 :: (14 :: (List.range' 17 53))))⟩
def factorsR_sp : List LSpec := [⟨23, 3, [factorsR_x3_0]⟩]
def factorsR_L3_E (re fa fb fc fd : Int) (k : Nat) (c : List D) (st : Int) (kb : Nat) (cb : List D) (su : Int) (ke : Nat) (ce : List D) (kx : Nat) (cx : List D)  : List AV × AHeap := ([.agg [.pure (.int .i64 re), .pure (.int .i64 fa), .pure (.int .i64 fb), .pure (.int .i64 fc), .pure (.int .i64 fd), .dsl 0], .agg [.pure (.int .i64 st), .dsl 1], .agg [.pure (.int .i64 su), .dsl 2], .dsl 3, .ptr 4 0, .ptr 5 0, .ptr 6 0, .pure (.tuple #[]), .ptr 7 0, .pure (.bool false), .ptr 8 0, .pure (.bool true), .pure (.int .i64 (0 : Int)), .pure (.tuple #[]), .pure (.tuple #[]), .ptr 4 1, .pure (.agg #[.int .i64 fa, .int .i64 fb, .int .i64 fc, .int .i64 fd]), .pure (.tuple #[]), .pure (.tuple #[]), .pure (.tuple #[]), .pure (.tuple #[]), .pure (.tuple #[]), .pure (.tuple #[]), .pure (.tuple #[]), .pure (.tuple #[]), .pure (.tuple #[]), .pure (.tuple #[]), .pure (.tuple #[]), .pure (.tuple #[]), .pure (.tuple #[]), .pure (.tuple #[]), .pure (.tuple #[]), .pure (.tuple #[]), .pure (.tuple #[]), .pure (.tuple #[]), .pure (.tuple #[]), .pure (.tuple #[]), .pure (.tuple #[]), .pure (.tuple #[]), .pure (.tuple #[]), .pure (.tuple #[]), .pure (.tuple #[]), .pure (.tuple #[]), .pure (.tuple #[]), .pure (.tuple #[]), .pure (.tuple #[]), .pure (.tuple #[]), .pure (.tuple #[]), .pure (.tuple #[]), .pure (.tuple #[]), .pure (.tuple #[]), .pure (.tuple #[]), .pure (.tuple #[]), .pure (.tuple #[]), .pure (.tuple #[]), .pure (.tuple #[]), .pure (.tuple #[]), .pure (.tuple #[]), .pure (.tuple #[]), .pure (.tuple #[]), .pure (.tuple #[]), .pure (.tuple #[]), .pure (.tuple #[]), .pure (.tuple #[]), .pure (.tuple #[]), .pure (.tuple #[]), .pure (.tuple #[]), .pure (.tuple #[]), .pure (.tuple #[]), .pure (.tuple #[]), .pure (.tuple #[]), .pure (.tuple #[]), .pure (.tuple #[]), .pure (.tuple #[])], [(8, { cells := [.pure (.int .i64 fa), .pure (.int .i64 fb), .pure (.int .i64 fc), .pure (.int .i64 fd)], opn := none, kind := .cells }), (7, { cells := [.pure (.int .i64 (0 : Int)), .pure (.int .i64 (0 : Int)), .pure (.int .i64 (0 : Int)), .pure (.int .i64 (0 : Int))], opn := none, kind := .cells }), (6, { cells := [.pure (.int .i64 su), .dsl 2], opn := none, kind := .cells }), (5, { cells := [.pure (.int .i64 st), .dsl 1], opn := none, kind := .cells }), (4, { cells := [.pure (.int .i64 re), .pure (.int .i64 fa), .pure (.int .i64 fb), .pure (.int .i64 fc), .pure (.int .i64 fd), .dsl 0], opn := none, kind := .cells }), (3, { cells := [], opn := none, kind := .deep kx cx }), (2, { cells := [], opn := none, kind := .deep ke ce }), (1, { cells := [], opn := none, kind := .deep kb cb }), (0, { cells := [], opn := none, kind := .deep k c })])
def factorsR_L3_A : LoopAt := ⟨23, loopAt Try.prog 23 0, 9, 70, 8, noFrame⟩
theorem factorsR_L3_ok : (factorsR_L3_A).OK := ⟨by show 9 ≤ 70; decide, by show 8 ≤ 9; decide, by kernel_rfl, rfl⟩
def factorsR_L3_gs (re fa fb fc fd : Int) (k : Nat) (c : List D) (st : Int) (kb : Nat) (cb : List D) (su : Int) (ke : Nat) (ce : List D) (kx : Nat) (cx : List D)  : Go.Ev.Rd → Option GS
  | .next 0 ds => ghost [.val 11, .val 12, .cval 10 0, .cval 10 1, .cval 10 2, .cval 10 3] (13 :: (14 :: (List.range' 17 53))) (factorsR_L3_E re fa fb fc fd k c st kb cb su ke ce kx cx).1 (factorsR_L3_E re fa fb fc fd k c st kb cb su ke ce kx cx).2 9 ds
  | .out 0 ds => ghost factorsR_x3_0.live factorsR_x3_0.junk (factorsR_L3_E re fa fb fc fd k c st kb cb su ke ce kx cx).1 (factorsR_L3_E re fa fb fc fd k c st kb cb su ke ce kx cx).2 9 ds
  | _ => none
def factorsR_L3_ex : Nat → Option Nat
  | 0 => factorsR_x3_0.ex
  | _ => none
def factorsR_L3_ax : Go.Ev.Rd → AX
  | .next _ _ => .normal
  | .out j _ => axOf (factorsR_L3_ex j)
def factorsR_L3_S0 (re fa fb fc fd : Int) (k : Nat) (c : List D) (st : Int) (kb : Nat) (cb : List D) (su : Int) (ke : Nat) (ce : List D) (kx : Nat) (cx : List D)  (ds : List D) : Option Go.Ev.Rd := pullD (α := Bool × Int × Int × Int × Int × Int) (some (.tup ds)) (fun d => ((D.vb (D.at d 0)), (D.vi (D.at d 1)), (D.vi (D.at d 2)), (D.vi (D.at d 3)), (D.vi (D.at d 4)), (D.vi (D.at d 5)))) (fun (s11, s12, s10_0, s10_1, s10_2, s10_3) => .tup [.one (.bool s11), iD s12, iD s10_0, iD s10_1, iD s10_2, iD s10_3]) fun (s11, s12, s10_0, s10_1, s10_2, s10_3) => ((if s12 < (kx : Int) then (if (s11) = true then guardP ((0 : Int) ≤ s12 ∧ s12.toNat < kx) (pullD (α := Int) (readD cx (s12.toNat * 1) 1 false) (fun d => ((D.vi d))) (fun v0 => iD v0) fun v0 => (guardP ((0 : Int) ≤ v0 ∧ v0.toNat < kb) (pullD (α := Int) (readD cb (v0.toNat * 1) 1 false) (fun d => ((D.vi d))) (fun v1 => iD v1) fun v1 => (pullD (α := Int) (readD cx (s12.toNat * 1) 1 false) (fun d => ((D.vi d))) (fun v2 => iD v2) fun v2 => (guardP ((0 : Int) ≤ v2 ∧ v2.toNat < ke) (pullD (α := Int) (readD ce (v2.toNat * 1) 1 false) (fun d => ((D.vi d))) (fun v3 => iD v3) fun v3 => (pullD (α := Int × Int × Int × Int × Bool) (m_58 [(shNLB_0 s10_0 s10_1 s10_2 s10_3), iD (IntKind.i64.wrap (v1 - re)), iD (IntKind.i64.wrap (v3 + re))]) (fun d => ((D.vi (D.at (D.at d 0) 0)), (D.vi (D.at (D.at d 0) 1)), (D.vi (D.at (D.at d 0) 2)), (D.vi (D.at (D.at d 0) 3)), (D.vb (D.at d 1)))) (fun (r4, r5, r6, r7, r8) => .tup [(shNLB_0 r4 r5 r6 r7), .one (.bool r8)]) fun (r4, r5, r6, r7, r8) => ((if (r8) = true then pullD (α := Int × Int × Int × Int × Bool) (m_58 [(shNLB_0 r4 r5 r6 r7), iD (IntKind.i64.wrap (IntKind.i64.wrap ((0 : Int) - v1) - re)), iD (IntKind.i64.wrap (re - v3))]) (fun d => ((D.vi (D.at (D.at d 0) 0)), (D.vi (D.at (D.at d 0) 1)), (D.vi (D.at (D.at d 0) 2)), (D.vi (D.at (D.at d 0) 3)), (D.vb (D.at d 1)))) (fun (r9, r10, r11, r12, r13) => .tup [(shNLB_0 r9 r10 r11 r12), .one (.bool r13)]) fun (r9, r10, r11, r12, r13) => (some (.next 0 [.one (.bool r13), iD (IntKind.i64.wrap (s12 + (1 : Int))), iD r9, iD r10, iD r11, iD r12])) else some (.next 0 [.one (.bool r8), iD (IntKind.i64.wrap (s12 + (1 : Int))), iD r4, iD r5, iD r6, iD r7])))))))))) else some (.out 0 [.one (.bool s11), iD s10_0, iD s10_1, iD s10_2, iD s10_3])) else some (.out 0 [.one (.bool s11), iD s10_0, iD s10_1, iD s10_2, iD s10_3])))
def factorsR_L3_S (re fa fb fc fd : Int) (k : Nat) (c : List D) (st : Int) (kb : Nat) (cb : List D) (su : Int) (ke : Nat) (ce : List D) (kx : Nat) (cx : List D)  : Go.Ev.Rd → Option Go.Ev.Rd
  | .next 0 ds => factorsR_L3_S0 re fa fb fc fd k c st kb cb su ke ce kx cx ds
  | _ => none
theorem factorsR_L3_S_0 (re fa fb fc fd : Int) (k : Nat) (c : List D) (st : Int) (kb : Nat) (cb : List D) (su : Int) (ke : Nat) (ce : List D) (kx : Nat) (cx : List D)  (ds : List D) : factorsR_L3_S re fa fb fc fd k c st kb cb su ke ce kx cx (.next 0 ds) = factorsR_L3_S0 re fa fb fc fd k c st kb cb su ke ce kx cx ds := rfl
theorem factorsR_L3_S_ok (re fa fb fc fd : Int) (k : Nat) (c : List D) (st : Int) (kb : Nat) (cb : List D) (su : Int) (ke : Nat) (ce : List D) (kx : Nat) (cx : List D)  : ∀ s_ t_, factorsR_L3_S re fa fb fc fd k c st kb cb su ke ce kx cx s_ = some t_ → Step (ctx [23] factorsR_sp) Tabs factorsR_L3_A (stateOf (factorsR_L3_gs re fa fb fc fd k c st kb cb su ke ce kx cx s_)) (stateOf (factorsR_L3_gs re fa fb fc fd k c st kb cb su ke ce kx cx t_)) (factorsR_L3_ax t_) ∧ EndOK factorsR_L3_A.nx factorsR_L3_A.low (factorsR_L3_gs re fa fb fc fd k c st kb cb su ke ce kx cx) t_
  | .next 0 ds, t_, h => by
    have h_ : factorsR_L3_S0 re fa fb fc fd k c st kb cb su ke ce kx cx ds = some t_ := h
    clear h
    unfold factorsR_L3_S0 at h_
    obtain ⟨⟨s11, s12, s10_0, s10_1, s10_2, s10_3⟩, e0, h0⟩ := pullD_elim h_
    clear h_
    obtain rfl := tup_inj e0
    by_cases b1_ : s12 < (kx : Int)
    · have h2_ := (if_pos b1_).symm.trans h0
      by_cases b3_ : (s11) = true
      · have h4_ := (if_pos b3_).symm.trans h2_
        obtain ⟨f5_, h6_⟩ := guardP_elim h4_
        obtain ⟨v0, f7_, h8_⟩ := pullD_elim h6_
        replace f7_ := readD_elim f7_
        obtain ⟨f9_, h10_⟩ := guardP_elim h8_
        obtain ⟨v1, f11_, h12_⟩ := pullD_elim h10_
        replace f11_ := readD_elim f11_
        obtain ⟨v2, f13_, h14_⟩ := pullD_elim h12_
        replace f13_ := readD_elim f13_
        obtain ⟨f15_, h16_⟩ := guardP_elim h14_
        obtain ⟨v3, f17_, h18_⟩ := pullD_elim h16_
        replace f17_ := readD_elim f17_
        obtain ⟨⟨r4, r5, r6, r7, r8⟩, f19_, h20_⟩ := pullD_elim h18_
        replace f19_ := m_58_ok f19_
        by_cases b21_ : (r8) = true
        · have h22_ := (if_pos b21_).symm.trans h20_
          obtain ⟨⟨r9, r10, r11, r12, r13⟩, f23_, h24_⟩ := pullD_elim h22_
          replace f23_ := m_58_ok f23_
          obtain rfl := Option.some.inj h24_
          exact ⟨step_pc 3000 (bT 4 []) [iD v0, iD v1, iD v2, iD v3, .tup [(shNLB_0 r4 r5 r6 r7), .one (.bool r8)], .tup [(shNLB_0 r9 r10 r11 r12), .one (.bool r13)]] [c_d b1_, c_d b1_, c_q b3_, c_f f5_, c_f f7_, c_f f9_, c_f f11_, c_f f5_, c_f f13_, c_f f15_, c_f f17_, c_q b21_] [k_c f19_, k_c f23_] _ rfl (by kernel_rfl) (by kernel_rfl) (by kernel_rfl) (by kernel_rfl) (by kernel_rfl) (by kernel_rfl), trivial⟩
        have h22_ := (if_neg b21_).symm.trans h20_
        have b25_ : (r8) = false := by first | exact b21_ | simpa using b21_
        obtain rfl := Option.some.inj h22_
        exact ⟨step_pc 3000 (bT 3 (bF 1 [])) [iD v0, iD v1, iD v2, iD v3, .tup [(shNLB_0 r4 r5 r6 r7), .one (.bool r8)]] [c_d b1_, c_d b1_, c_q b3_, c_f f5_, c_f f7_, c_f f9_, c_f f11_, c_f f5_, c_f f13_, c_f f15_, c_f f17_, c_q b25_] [k_c f19_] _ rfl (by kernel_rfl) (by kernel_rfl) (by kernel_rfl) (by kernel_rfl) (by kernel_rfl) (by kernel_rfl), trivial⟩
      have h4_ := (if_neg b3_).symm.trans h2_
      have b26_ : (s11) = false := by first | exact b3_ | simpa using b3_
      obtain rfl := Option.some.inj h4_
      exact ⟨step_pc 3000 (bT 2 (bF 1 [])) [] [c_d b1_, c_d b1_, c_q b26_] [] _ rfl (by kernel_rfl) (by kernel_rfl) (by kernel_rfl) (by kernel_rfl) (by kernel_rfl) (by kernel_rfl), by kernel_rfl, by kernel_rfl⟩
    have h2_ := (if_neg b1_).symm.trans h0
    obtain rfl := Option.some.inj h2_
    exact ⟨step_pc 3000 (bF 3 []) [] [c_n b1_, c_n b1_, c_F] [] _ rfl (by kernel_rfl) (by kernel_rfl) (by kernel_rfl) (by kernel_rfl) (by kernel_rfl) (by kernel_rfl), by kernel_rfl, by kernel_rfl⟩
  | .next (_ + 1) _, _, h => by cases h
  | .out _ _, _, h => by cases h
theorem factorsR_L3_go (re fa fb fc fd : Int) (k : Nat) (c : List D) (st : Int) (kb : Nat) (cb : List D) (su : Int) (ke : Nat) (ce : List D) (kx : Nat) (cx : List D)  {q : Nat} {ds : List D} {j : Nat} {es : List D} (h : runR (factorsR_L3_S re fa fb fc fd k c st kb cb su ke ce kx cx) (.next q ds) = some (.out j es)) : Runs (ctx [23] factorsR_sp) Tabs factorsR_L3_A (stateOf (factorsR_L3_gs re fa fb fc fd k c st kb cb su ke ce kx cx (.next q ds))) (stateOf (factorsR_L3_gs re fa fb fc fd k c st kb cb su ke ce kx cx (.out j es))) (factorsR_L3_ax (.out j es)) ∧ (nxtOf (factorsR_L3_gs re fa fb fc fd k c st kb cb su ke ce kx cx (.out j es)), lowGS (factorsR_L3_gs re fa fb fc fd k c st kb cb su ke ce kx cx (.out j es))) = (factorsR_L3_A.nx, factorsR_L3_A.low) :=
  runs_of' (good true _ _) factorsR_L3_ok (ax := factorsR_L3_ax) (fun _ _ => rfl) (fun _ _ => axOf_end _) (factorsR_L3_S_ok re fa fb fc fd k c st kb cb su ke ce kx cx) h
theorem factorsR_L3_in0 (re fa fb fc fd : Int) (k : Nat) (c : List D) (st : Int) (kb : Nat) (cb : List D) (su : Int) (ke : Nat) (ce : List D) (kx : Nat) (cx : List D)  {es : List D} (h : runR (factorsR_L3_S re fa fb fc fd k c st kb cb su ke ce kx cx) (.next 0 [.one (.bool (true)), iD ((0 : Int)), iD fa, iD fb, iD fc, iD fd]) = some (.out 0 es)) : LoopC (loopAt Try.prog 23 0) (factorsR_L3_E re fa fb fc fd k c st kb cb su ke ce kx cx) 9 noFrame factorsR_x3_0 es :=
  have r := factorsR_L3_go re fa fb fc fd k c st kb cb su ke ce kx cx h
  loopin_as rfl (loop_in (l := factorsR_L3_A) (E := (factorsR_L3_E re fa fb fc fd k c st kb cb su ke ce kx cx)) (S := stateOf (factorsR_L3_gs re fa fb fc fd k c st kb cb su ke ce kx cx (.next 0 [.one (.bool (true)), iD ((0 : Int)), iD fa, iD fb, iD fc, iD fd]))) (ns := nsOf (factorsR_L3_gs re fa fb fc fd k c st kb cb su ke ce kx cx (.next 0 [.one (.bool (true)), iD ((0 : Int)), iD fa, iD fb, iD fc, iD fd]))) factorsR_L3_ok r.1 r.2 (by kernel_rfl) (by kernel_rfl) (by kernel_rfl) (by kernel_rfl))
def factorsR_M (re fa fb fc fd : Int) (k : Nat) (c : List D) (st : Int) (kb : Nat) (cb : List D) (su : Int) (ke : Nat) (ce : List D) (kx : Nat) (cx : List D) : Option D := bindL (runR (factorsR_L3_S re fa fb fc fd k c st kb cb su ke ce kx cx) (.next 0 [.one (.bool (true)), iD ((0 : Int)), iD fa, iD fb, iD fc, iD fd])) fun j ds => (if j = 0 then pullD (α := Bool × Int × Int × Int × Int) (some (.tup ds)) (fun d => ((D.vb (D.at d 0)), (D.vi (D.at d 1)), (D.vi (D.at d 2)), (D.vi (D.at d 3)), (D.vi (D.at d 4)))) (fun (l0, l1, l2, l3, l4) => .tup [.one (.bool l0), iD l1, iD l2, iD l3, iD l4]) fun (l0, l1, l2, l3, l4) => ((if l0 = false then some (.tup [(shNLB_0 (0 : Int) (0 : Int) (0 : Int) (0 : Int)), .one (.bool false)]) else some (.tup [(shNLB_0 l1 l2 l3 l4), .one (.bool true)]))) else none)
theorem factorsR_M_ok (re fa fb fc fd : Int) (k : Nat) (c : List D) (st : Int) (kb : Nat) (cb : List D) (su : Int) (ke : Nat) (ce : List D) (kx : Nat) (cx : List D) {r : D} (h : factorsR_M re fa fb fc fd k c st kb cb su ke ce kx cx = some r) : Con 23 [.agg [iD re, iD fa, iD fb, iD fc, iD fd, .list k c], .agg [iD st, .list kb cb], .agg [iD su, .list ke ce], .list kx cx] r := by
  unfold factorsR_M at h
  obtain ⟨j, ds, e1_, h2_⟩ := bindL_elim h
  by_cases j3_ : j = 0
  · have h6_ := (if_pos j3_).symm.trans h2_
    clear h2_
    subst j3_
    obtain ⟨⟨l0, l1, l2, l3, l4⟩, e4_, h7_⟩ := pullD_elim h6_
    clear h6_
    obtain rfl := tup_inj e4_
    have k5_ := factorsR_L3_in0 re fa fb fc fd k c st kb cb su ke ce kx cx e1_
    by_cases b8_ : l0 = false
    · have h9_ := (if_pos b8_).symm.trans h7_
      obtain rfl := Option.some.inj h9_
      exact con_pc (op := true) (I := [23]) (sp := factorsR_sp) 3000 (bT 1 []) [.tup [iD (Int.ofNat 0), .one (.bool l0), iD l1, iD l2, iD l3, iD l4]] [c_no b8_] [k_l k5_ (bT 1 []) [.tup [iD (Int.ofNat 0), .one (.bool l0), iD l1, iD l2, iD l3, iD l4]] []] (by kernel_rfl)
    have h9_ := (if_neg b8_).symm.trans h7_
    have b10_ : l0 = true := by first | exact b8_ | simpa using b8_
    obtain rfl := Option.some.inj h9_
    exact con_pc (op := true) (I := [23]) (sp := factorsR_sp) 3000 (bF 1 []) [.tup [iD (Int.ofNat 0), .one (.bool l0), iD l1, iD l2, iD l3, iD l4]] [c_nn b10_] [k_l k5_ (bF 1 []) [.tup [iD (Int.ofNat 0), .one (.bool l0), iD l1, iD l2, iD l3, iD l4]] []] (by kernel_rfl)
  have h11_ := (if_neg j3_).symm.trans h2_
  clear h2_
  cases h11_
def m_23 (ds : List D) : Option D := pullD (α := Int × Int × Int × Int × Int × Nat × (List D) × Int × Nat × (List D) × Int × Nat × (List D) × Nat × (List D)) (some (.tup ds)) (fun d => ((D.vi (D.at (D.at d 0) 0)), (D.vi (D.at (D.at d 0) 1)), (D.vi (D.at (D.at d 0) 2)), (D.vi (D.at (D.at d 0) 3)), (D.vi (D.at (D.at d 0) 4)), (D.ln (D.at (D.at d 0) 5)), (D.lc (D.at (D.at d 0) 5)), (D.vi (D.at (D.at d 1) 0)), (D.ln (D.at (D.at d 1) 1)), (D.lc (D.at (D.at d 1) 1)), (D.vi (D.at (D.at d 2) 0)), (D.ln (D.at (D.at d 2) 1)), (D.lc (D.at (D.at d 2) 1)), (D.ln (D.at d 3)), (D.lc (D.at d 3)))) (fun (re, fa, fb, fc, fd, k, c, st, kb, cb, su, ke, ce, kx, cx) => .tup [.agg [iD re, iD fa, iD fb, iD fc, iD fd, .list k c], .agg [iD st, .list kb cb], .agg [iD su, .list ke ce], .list kx cx]) fun (re, fa, fb, fc, fd, k, c, st, kb, cb, su, ke, ce, kx, cx) => factorsR_M re fa fb fc fd k c st kb cb su ke ce kx cx
theorem m_23_ok {ds : List D} {r : D} (h : m_23 ds = some r) : Con 23 ds r := by
  unfold m_23 at h
  obtain ⟨⟨re, fa, fb, fc, fd, k, c, st, kb, cb, su, ke, ce, kx, cx⟩, e0, h0⟩ := pullD_elim h
  obtain rfl := tup_inj e0
  exact factorsR_M_ok re fa fb fc fd k c st kb cb su ke ce kx cx h0
theorem m_23_eq (re fa fb fc fd : Int) (k : Nat) (c : List D) (st : Int) (kb : Nat) (cb : List D) (su : Int) (ke : Nat) (ce : List D) (kx : Nat) (cx : List D) : m_23 [.agg [iD re, iD fa, iD fb, iD fc, iD fd, .list k c], .agg [iD st, .list kb cb], .agg [iD su, .list ke ce], .list kx cx] = factorsR_M re fa fb fc fd k c st kb cb su ke ce kx cx := pullD_some (re, fa, fb, fc, fd, k, c, st, kb, cb, su, ke, ce, kx, cx) rfl rfl
end
end Go.Proofs.Ytmohaohdbklkeaa
namespace Go.Proofs.Ytmohaohdbklkeaa
open Go.Ev Go.RowKit
set_option maxRecDepth 100000
set_option maxHeartbeats 8000000
set_option linter.all false
noncomputable section
end
end Go.Proofs.Ytmohaohdbklkeaa
