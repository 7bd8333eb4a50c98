import Derived.Test.YtjjbacbjdilhmaaTD
import Derived.Test.YtjjbacbjdilhmaaTA
set_option linter.unusedVariables false
set_option linter.unusedSimpArgs false
set_option linter.unusedSectionVars false
set_option linter.unnecessarySimpa false
/- Whole numbers as lists of digits to the base 10^9, and as values in depth. -/
namespace Go.Ev
open Go.RowKit
abbrev lD (l : List Int) : D := .list l.length (l.map iD)
/-- The digits of a number. -/
def dg (n : Nat) : List Int := if n = 0 then [] else ((n % 1000000000 : Nat) : Int) :: dg (n / 1000000000)
termination_by n
decreasing_by omega
def Dig (l : List Int) : Prop := ∀ d ∈ l, 0 ≤ d ∧ d < (1000000000 : Int)
def Trim (l : List Int) : Prop := ∀ h : l ≠ [], l.getLast h ≠ 0
theorem Dig.cons {d : Int} {l : List Int} (h : Dig (d :: l)) : (0 ≤ d ∧ d < (1000000000 : Int)) ∧ Dig l := ⟨h d List.mem_cons_self, fun x hx => h x (List.mem_cons_of_mem _ hx)⟩
theorem Dig.nil : Dig [] := fun _ h => by cases h
theorem Dig.append {a b : List Int} (ha : Dig a) (hb : Dig b) : Dig (a ++ b) := fun x hx => by
  rcases List.mem_append.1 hx with h | h
  · exact ha x h
  · exact hb x h
theorem Dig.one {d : Int} (h0 : 0 ≤ d) (h1 : d < (1000000000 : Int)) : Dig [d] := fun x hx => by simp at hx; subst hx; exact ⟨h0, h1⟩
theorem Dig.take {l : List Int} (h : Dig l) (n : Nat) : Dig (l.take n) := fun x hx => h x (List.mem_of_mem_take hx)
theorem Dig.drop {l : List Int} (h : Dig l) (n : Nat) : Dig (l.drop n) := fun x hx => h x (List.mem_of_mem_drop hx)
theorem Trim.cons {d : Int} {l : List Int} (h : Trim (d :: l)) : Trim l := fun hl => by
  have := h (by simp)
  rwa [List.getLast_cons hl] at this
/-- How many digits are kept where zeros at the end are cut off. -/
def keep : List Int → Nat
  | [] => 0
  | d :: l => if keep l = 0 ∧ d = 0 then 0 else keep l + 1
/-- A number of any size, as a value in depth. -/
def eD (z : Int) : List D := [iD z.sign, lD (dg z.natAbs)]
theorem Dig.at {a : List Int} (h : Dig a) (i : Nat) : 0 ≤ a[i]?.getD 0 ∧ a[i]?.getD 0 < (1000000000 : Int) := by
  by_cases hi : i < a.length
  · rw [List.getElem?_eq_getElem hi]; exact h _ (List.getElem_mem hi)
  · rw [List.getElem?_eq_none (by omega)]; decide
theorem pullI {β : Type} (x : Int) (k : Int → Option β) : pullD (some (.one (.int .i64 x))) (fun d => D.vi d) (fun r => .one (.int .i64 r)) k = k x := pullD_some x rfl rfl
theorem pullB {β : Type} (x : Bool) (k : Bool → Option β) : pullD (some (.one (.bool x))) (fun d => D.vb d) (fun r => .one (.bool r)) k = k x := pullD_some x rfl rfl
theorem Dig.set {l : List Int} (h : Dig l) (p : Nat) {x : Int} (h0 : 0 ≤ x) (h1 : x < 1000000000) : Dig (l.set p x) := fun y hy => by
  rcases List.mem_or_eq_of_mem_set hy with hy | rfl
  · exact h y hy
  · exact ⟨h0, h1⟩
theorem readW {l : List Int} {i : Nat} {v : Int} (h : l[i]? = some v) : readD (l.map iD) ((i : Int).toNat * 1) 1 false = some (iD v) := by
  unfold readD
  simp [h]
end Go.Ev
/- Lists told by place: tables, sums of the first, and how a program builds them. -/
namespace Go.Ev
open Go.RowKit
/-- The numbers f 0, .., f (n - 1). -/
def tab (n : Nat) (f : Nat → Int) : List Int := (List.range n).map f
theorem mulB {x y A B : Int} (h1 : -A ≤ x) (h2 : x ≤ A) (h3 : -B ≤ y) (h4 : y ≤ B) : -(A * B) ≤ x * y ∧ x * y ≤ A * B := by
  have hA : 0 ≤ A := by omega
  have hB : 0 ≤ B := by omega
  have e1 : 0 ≤ (A - x) * (B - y) := Int.mul_nonneg (by omega) (by omega)
  have e2 : 0 ≤ (A + x) * (B + y) := Int.mul_nonneg (by omega) (by omega)
  have e3 : 0 ≤ (A - x) * (B + y) := Int.mul_nonneg (by omega) (by omega)
  have e4 : 0 ≤ (A + x) * (B - y) := Int.mul_nonneg (by omega) (by omega)
  have f1 : (A - x) * (B - y) = A * B - A * y - x * B + x * y := by grind
  have f2 : (A + x) * (B + y) = A * B + A * y + x * B + x * y := by grind
  have f3 : (A - x) * (B + y) = A * B + A * y - x * B - x * y := by grind
  have f4 : (A + x) * (B - y) = A * B - A * y + x * B - x * y := by grind
  omega
theorem wrapJ (x : Int) (h1 : -9223372036854775808 ≤ x) (h2 : x < 9223372036854775808) : IntKind.i64.wrap x = x := by
  unfold IntKind.wrap
  show (if (true && _) then _ else _) = _
  simp only [Bool.true_and, decide_eq_true_eq]
  show (if x % 18446744073709551616 ≥ 9223372036854775808 then x % 18446744073709551616 - 18446744073709551616 else x % 18446744073709551616) = x
  split <;> omega
theorem natI {i : Nat} (h : i < 1000000000000000) : IntKind.i64.wrap ((i : Int) + 1) = ((i + 1 : Nat) : Int) := by rw [wrapJ _ (by omega) (by omega)]; omega
end Go.Ev
/- Lists of pairs of numbers told by place; loops that look for the first error. -/
namespace Go.Ev
open Go.RowKit
def cP (l : List (Int × Int)) : List D := (l.map fun p => [iD p.1, iD p.2]).flatten
abbrev lP (l : List (Int × Int)) : D := .list l.length (cP l)
def ta (l : List (Int × Int)) (i : Nat) : Int := (l[i]?.getD (0, 0)).1
def va (l : List (Int × Int)) (i : Nat) : Int := (l[i]?.getD (0, 0)).2
theorem cP_nil : cP [] = [] := rfl
theorem cP_cons (p : Int × Int) (l : List (Int × Int)) : cP (p :: l) = iD p.1 :: iD p.2 :: cP l := rfl
theorem cP_drop : ∀ (i : Nat) (l : List (Int × Int)), (cP l).drop (i * 2) = cP (l.drop i)
  | 0, l => by simp
  | i + 1, [] => by simp [cP_nil]
  | i + 1, p :: l => by
    rw [cP_cons, show (i + 1) * 2 = i * 2 + 1 + 1 by omega, List.drop_succ_cons, List.drop_succ_cons, cP_drop i l, List.drop_succ_cons]
theorem pt_get {l : List (Int × Int)} {i : Nat} (h : i < l.length) : l[i]? = some (ta l i, va l i) := by
  unfold ta va
  rw [List.getElem?_eq_getElem h]
  rfl
theorem pt_drop {l : List (Int × Int)} {i : Nat} (h : i < l.length) : l.drop i = (ta l i, va l i) :: l.drop (i + 1) := by
  rw [List.drop_eq_getElem_cons h]
  congr 1
  have := pt_get h
  rw [List.getElem?_eq_getElem h] at this
  exact Option.some.inj this
theorem readP {l : List (Int × Int)} {i : Nat} (h : i < l.length) : readD (cP l) (i * 2) 2 true = some (.agg [iD (ta l i), iD (va l i)]) := by
  unfold readD
  simp only
  rw [cP_drop, pt_drop h, cP_cons]
  simp
end Go.Ev
/- Structs and arrays of numbers, as arguments. -/
namespace Go.Proofs.Ytjjbacbjdilhmaa
open Go.Ev Go.RowKit
theorem ints3_of {ds : List D} (h : okDs [.int .i64, .int .i64, .int .i64] ds) : ∃ x0 x1 x2 : Int, ds = [iD x0, iD x1, iD x2] := by
  simp only [okDs, okD] at h
  obtain ⟨_, _, rfl, ⟨x0, rfl, -⟩, _, _, rfl, ⟨x1, rfl, -⟩, _, _, rfl, ⟨x2, rfl, -⟩, rfl⟩ := h
  exact ⟨x0, x1, x2, rfl⟩
theorem int_of {k : IntKind} {d : D} (h : okD (.int k) d) : ∃ x, d = .one (.int k x) ∧ (Lit.int k x).wf = true := by
  simp only [okD] at h
  exact h
end Go.Proofs.Ytjjbacbjdilhmaa
/- Runs inside models: what is asked, with its proofs. -/
namespace Go.Proofs.Ytjjbacbjdilhmaa
open Go.Ev Go.RowKit
set_option maxRecDepth 100000
noncomputable section
/-- A truth that is asked, and why it is so. -/
structure PC where
  c : Bool
  q : Bool
  h : c = q
abbrev PC.p (x : PC) : Bool × Bool := (x.c, x.q)
def pairsC : List PC → List (Bool × Bool)
  | [] => []
  | x :: xs => (x.c, x.q) :: pairsC xs
theorem pairsC_ok : ∀ xs : List PC, allC (pairsC xs)
  | [] => trivial
  | x :: xs => ⟨x.h, pairsC_ok xs⟩
abbrev c_T : PC := ⟨true, true, rfl⟩
abbrev c_F : PC := ⟨false, false, rfl⟩
abbrev c_d {p : Prop} [Decidable p] (h : p) : PC := ⟨decide p, true, decide_eq_true h⟩
abbrev c_n {p : Prop} [Decidable p] (h : ¬ p) : PC := ⟨decide p, false, decide_eq_false h⟩
abbrev c_f {p : Prop} (h : p) : PC := ⟨fact p, true, fact_mk h⟩
abbrev c_b {α : Type} [BEq α] [LawfulBEq α] {a b : α} (h : a ≠ b) : PC := ⟨a != b, true, bne_iff_ne.2 h⟩
abbrev c_bn {α : Type} [BEq α] [LawfulBEq α] {a b : α} (h : a = b) : PC := ⟨a != b, false, bne_eq_false_iff_eq.2 h⟩
abbrev c_e {α : Type} [BEq α] [LawfulBEq α] {a b : α} (h : a = b) : PC := ⟨a == b, true, beq_iff_eq.2 h⟩
abbrev c_en {α : Type} [BEq α] [LawfulBEq α] {a b : α} (h : a ≠ b) : PC := ⟨a == b, false, beq_eq_false_iff_ne.2 h⟩
abbrev c_q {c q : Bool} (h : c = q) : PC := ⟨c, q, h⟩
abbrev c_no {c : Bool} (h : c = false) : PC := ⟨!c, true, by rw [h]; rfl⟩
abbrev c_nn {c : Bool} (h : c = true) : PC := ⟨!c, false, by rw [h]; rfl⟩
abbrev c_le (n : Nat) : PC := ⟨fact (n + 1 ≤ n + 1), true, fact_mk (Nat.le_refl _)⟩
def bT : Nat → List Bool → List Bool
  | 0, l => l
  | n + 1, l => true :: bT n l
def bF : Nat → List Bool → List Bool
  | 0, l => l
  | n + 1, l => false :: bF n l
/-- What is asked of calls and loops, and why it is so. -/
structure PK where
  q : Go.Ev.Ask
  h : AskOK (ctx [] []) Tabs q
def asksK : List PK → List Go.Ev.Ask
  | [] => []
  | x :: xs => x.q :: asksK xs
theorem asksK_ok : ∀ xs : List PK, allK (asksK xs)
  | [] => trivial
  | x :: xs => ⟨x.h, asksK_ok xs⟩
abbrev k_c {g : FuncId} {ds : List D} {r : D} (h : Con g ds r) : PK := ⟨.call g ds r, h⟩
abbrev k_l {c : Code} {E : List AV × AHeap} {base : Nat} {x : LExit} {ds : List D} (h : LoopC c E base noFrame x ds) (ora : List Bool) (vals vals' : List D) : PK := ⟨loopAsk c E base noFrame x ds ora vals vals', h _ _ _ _⟩
theorem con_pc {op : Bool} {I : List Nat} {sp : List LSpec} (n : Nat) {g : FuncId} {ds : List D} {r : D} (ora : List Bool) (res : List D) (pcs : List PC) (pks : List PK)
    (h : okOut (run (ctxS op I sp) n (.enter g (avOfL 0 ds).1) ⟨[], (avOfL 0 ds).2.1, (avOfL 0 ds).2.2, ora, ⟨res, noFrame⟩⟩) = some (r, pairsC pcs, asksK pks)) : Con g ds r :=
  con_of h (pairsC_ok pcs) (asksK_ok pks)
theorem step_pc {I : List Nat} {sp : List LSpec} {l : LoopAt} {S1 : List AV × AHeap} {g : Option GS} {x : AX} (fuel : Nat) (ora : List Bool) (vals : List D) (pcs : List PC) (pks : List PK)
    (r : Option Out) (hr : r = run (ctx I sp) fuel (.code l.f l.c) ⟨S1.1, S1.2, l.nx, ora, ⟨vals, l.fr⟩⟩) (h1 : r = some (outOf r))
    (h2 : ((outOf r).x, (outOf r).st.res.fr, (outOf r).log, (outOf r).st.tmps) = (x, l.fr, ⟨pairsC pcs, asksK pks⟩, AV.renL (qOf l.base (nsOf g) ((outOf r).st.tmps, (outOf r).st.heap)) (aOf l.base (nsOf g) ((outOf r).st.tmps, (outOf r).st.heap)) (stateOf g).1))
    (h3 : (stateOf g).2.map (fun e => hget (outOf r).st.heap (qOf l.base (nsOf g) ((outOf r).st.tmps, (outOf r).st.heap) e.1)) = (stateOf g).2.map (fun e => some (⟨AV.renL (qOf l.base (nsOf g) ((outOf r).st.tmps, (outOf r).st.heap)) (aOf l.base (nsOf g) ((outOf r).st.tmps, (outOf r).st.heap)) e.2.cells, e.2.opn, e.2.kind⟩ : ABlock)))
    (h4 : (namesIn l.nx (stateOf g).2 && distinctBy (qOf l.base (nsOf g) ((outOf r).st.tmps, (outOf r).st.heap)) (stateOf g).2 && aboveBy l.low l.base (qOf l.base (nsOf g) ((outOf r).st.tmps, (outOf r).st.heap)) (stateOf g).2) = true)
    (h5 : (AV.okL l.nx S1.1 && Nat.ble l.low (outOf r).low) = true) (h6 : (List.range l.low).map (hget (stateOf g).2) = (List.range l.low).map (hget S1.2)) : Step (ctx I sp) Tabs l S1 (stateOf g) x :=
  step_of r hr h1 h2 h3 h4 h5 h6 rfl (pairsC_ok pcs) (asksK_ok pks)
end
end Go.Proofs.Ytjjbacbjdilhmaa
/- The stage's examples hold. -/
namespace Go.Proofs.Ytjjbacbjdilhmaa
open Go.Ev Go.RowKit
set_option maxRecDepth 100000
noncomputable section
theorem aw_all : Con 9 [] (.one (.bool true)) :=
  con_ofK (S := [(109, 3000009), (109, 3000036)]) (K := []) (sp := []) (n := 60000) (ora := []) (res := []) (conds := [(false, false), (false, false), (false, false), (false, false), (false, false), (false, false), (false, false), (false, false), (false, false), (false, false), (false, false), (false, false), (false, false), (false, false), (false, false), (false, false), (false, false), (false, false), (false, false), (false, false), (false, false), (false, false), (false, false), (false, false), (false, false), (false, false), (false, false), (false, false), (false, false), (false, false), (false, false), (false, false), (false, false), (false, false), (false, false), (false, false), (false, false), (false, false), (false, false), (false, false), (false, false), (false, false), (false, false), (false, false), (false, false), (false, false), (false, false), (false, false), (false, false), (false, false), (false, false), (false, false), (false, false), (false, false), (false, false), (false, false)]) (cls := [])
    (by kernel_rfl) ⟨rfl, rfl, rfl, rfl, rfl, rfl, rfl, rfl, rfl, rfl, rfl, rfl, rfl, rfl, rfl, rfl, rfl, rfl, rfl, rfl, rfl, rfl, rfl, rfl, rfl, rfl, rfl, rfl, rfl, rfl, rfl, rfl, rfl, rfl, rfl, rfl, rfl, rfl, rfl, rfl, rfl, rfl, rfl, rfl, rfl, rfl, rfl, rfl, rfl, rfl, rfl, rfl, rfl, rfl, rfl, rfl, trivial⟩ trivial
def m_9 (ds : List D) : Option D := pullD (some (.tup ds)) (fun _ => ()) (fun _ => .tup []) fun _ => some (.one (.bool true))
theorem m_9_ok {ds : List D} {r : D} (h : m_9 ds = some r) : Con 9 ds r := by
  unfold m_9 at h
  obtain ⟨⟨⟩, e0, h0⟩ := pullD_elim h
  obtain rfl := tup_inj e0
  obtain rfl := Option.some.inj h0
  exact aw_all
theorem m_9_eq : m_9 [] = some (.one (.bool true)) := pullD_some () rfl rfl
end
end Go.Proofs.Ytjjbacbjdilhmaa
namespace Go.Proofs.Ytjjbacbjdilhmaa
open Go.Ev Go.RowKit
set_option maxRecDepth 100000
set_option maxHeartbeats 8000000
set_option linter.all false
noncomputable section
def firstOf_x2_0 : LExit := ⟨some 0, [], (2 :: (4 :: (List.range' 7 8)))⟩
def firstOf_x2_1 : LExit := ⟨none, [.val 2], (4 :: (List.range' 7 8))⟩
def firstOf_sp : List LSpec := [⟨50, 2, [firstOf_x2_0, firstOf_x2_1]⟩]
def firstOf_L2_E (k : Nat) (c : List D)  : List AV × AHeap := ([.dsl 0, .pure (.tuple #[]), .pure (.int .i64 (0 : Int)), .pure (.tuple #[]), .pure (.tuple #[]), .dsl 0, .pure (.int .i64 (k : Int)), .pure (.int .i64 (0 : Int)), .pure (.tuple #[]), .pure (.tuple #[]), .pure (.tuple #[]), .pure (.tuple #[]), .pure (.tuple #[]), .pure (.tuple #[]), .pure (.tuple #[])], [(0, { cells := [], opn := none, kind := .deep k c })])
def firstOf_L2_A : LoopAt := ⟨50, loopAt Try.prog 50 0, 1, 11, 1, noFrame⟩
theorem firstOf_L2_ok : (firstOf_L2_A).OK := ⟨by show 1 ≤ 11; decide, by show 1 ≤ 1; decide, by kernel_rfl, rfl⟩
def firstOf_L2_gs (k : Nat) (c : List D)  : Go.Ev.Rd → Option GS
  | .next 0 ds => ghost [.val 7] (2 :: (4 :: (List.range' 8 7))) (firstOf_L2_E k c).1 (firstOf_L2_E k c).2 1 ds
  | .out 0 ds => ghost firstOf_x2_0.live firstOf_x2_0.junk (firstOf_L2_E k c).1 (firstOf_L2_E k c).2 1 ds
  | .out 1 ds => ghost firstOf_x2_1.live firstOf_x2_1.junk (firstOf_L2_E k c).1 (firstOf_L2_E k c).2 1 ds
  | _ => none
def firstOf_L2_ex : Nat → Option Nat
  | 0 => firstOf_x2_0.ex
  | 1 => firstOf_x2_1.ex
  | _ => none
def firstOf_L2_ax : Go.Ev.Rd → AX
  | .next _ _ => .normal
  | .out j _ => axOf (firstOf_L2_ex j)
def firstOf_L2_S0 (k : Nat) (c : List D)  (ds : List D) : Option Go.Ev.Rd := pullD (α := Int) (some (.tup ds)) (fun d => ((D.vi (D.at d 0)))) (fun s7 => .tup [iD s7]) fun s7 => ((if s7 < (k : Int) then guardP ((0 : Int) ≤ s7 ∧ s7.toNat < k) (pullD (α := Int) (readD c (s7.toNat * 1) 1 false) (fun d => ((D.vi d))) (fun v0 => iD v0) fun v0 => ((if v0 ≠ (0 : Int) then some (.out 1 [iD v0]) else some (.next 0 [iD (IntKind.i64.wrap (s7 + (1 : Int)))])))) else some (.out 0 [])))
def firstOf_L2_S (k : Nat) (c : List D)  : Go.Ev.Rd → Option Go.Ev.Rd
  | .next 0 ds => firstOf_L2_S0 k c ds
  | _ => none
theorem firstOf_L2_S_ok (k : Nat) (c : List D)  : ∀ s_ t_, firstOf_L2_S k c s_ = some t_ → Step (ctx [50] firstOf_sp) Tabs firstOf_L2_A (stateOf (firstOf_L2_gs k c s_)) (stateOf (firstOf_L2_gs k c t_)) (firstOf_L2_ax t_) ∧ EndOK firstOf_L2_A.nx firstOf_L2_A.low (firstOf_L2_gs k c) t_
  | .next 0 ds, t_, h => by
    have h_ : firstOf_L2_S0 k c ds = some t_ := h
    clear h
    unfold firstOf_L2_S0 at h_
    obtain ⟨s7, e0, h0⟩ := pullD_elim h_
    clear h_
    obtain rfl := tup_inj e0
    by_cases b1_ : s7 < (k : Int)
    · have h2_ := (if_pos b1_).symm.trans h0
      obtain ⟨f3_, h4_⟩ := guardP_elim h2_
      obtain ⟨v0, f5_, h6_⟩ := pullD_elim h4_
      replace f5_ := readD_elim f5_
      by_cases b7_ : v0 ≠ (0 : Int)
      · have h8_ := (if_pos b7_).symm.trans h6_
        obtain rfl := Option.some.inj h8_
        exact ⟨step_pc 3000 (bT 2 []) [iD v0] [c_d b1_, c_f f3_, c_f f5_, c_b b7_] [] _ rfl (by kernel_rfl) (by kernel_rfl) (by kernel_rfl) (by kernel_rfl) (by kernel_rfl) (by kernel_rfl), by kernel_rfl, by kernel_rfl⟩
      have h8_ := (if_neg b7_).symm.trans h6_
      have b9_ : v0 = (0 : Int) := by first | exact b7_ | simpa using b7_
      obtain rfl := Option.some.inj h8_
      exact ⟨step_pc 3000 (bT 1 (bF 1 [])) [iD v0] [c_d b1_, c_f f3_, c_f f5_, c_bn b9_] [] _ rfl (by kernel_rfl) (by kernel_rfl) (by kernel_rfl) (by kernel_rfl) (by kernel_rfl) (by kernel_rfl), trivial⟩
    have h2_ := (if_neg b1_).symm.trans h0
    obtain rfl := Option.some.inj h2_
    exact ⟨step_pc 3000 (bF 1 []) [] [c_n b1_] [] _ rfl (by kernel_rfl) (by kernel_rfl) (by kernel_rfl) (by kernel_rfl) (by kernel_rfl) (by kernel_rfl), by kernel_rfl, by kernel_rfl⟩
  | .next (_ + 1) _, _, h => by cases h
  | .out _ _, _, h => by cases h
theorem firstOf_L2_go (k : Nat) (c : List D)  {q : Nat} {ds : List D} {j : Nat} {es : List D} (h : runR (firstOf_L2_S k c) (.next q ds) = some (.out j es)) : Runs (ctx [50] firstOf_sp) Tabs firstOf_L2_A (stateOf (firstOf_L2_gs k c (.next q ds))) (stateOf (firstOf_L2_gs k c (.out j es))) (firstOf_L2_ax (.out j es)) ∧ (nxtOf (firstOf_L2_gs k c (.out j es)), lowGS (firstOf_L2_gs k c (.out j es))) = (firstOf_L2_A.nx, firstOf_L2_A.low) :=
  runs_of' (good true _ _) firstOf_L2_ok (ax := firstOf_L2_ax) (fun _ _ => rfl) (fun _ _ => axOf_end _) (firstOf_L2_S_ok k c) h
theorem firstOf_L2_in0 (k : Nat) (c : List D)  {es : List D} (h : runR (firstOf_L2_S k c) (.next 0 [iD ((0 : Int))]) = some (.out 0 es)) : LoopC (loopAt Try.prog 50 0) (firstOf_L2_E k c) 1 noFrame firstOf_x2_0 es :=
  have r := firstOf_L2_go k c h
  loopin_as rfl (loop_in (l := firstOf_L2_A) (E := (firstOf_L2_E k c)) (S := stateOf (firstOf_L2_gs k c (.next 0 [iD ((0 : Int))]))) (ns := nsOf (firstOf_L2_gs k c (.next 0 [iD ((0 : Int))]))) firstOf_L2_ok r.1 r.2 (by kernel_rfl) (by kernel_rfl) (by kernel_rfl) (by kernel_rfl))
theorem firstOf_L2_in1 (k : Nat) (c : List D)  {es : List D} (h : runR (firstOf_L2_S k c) (.next 0 [iD ((0 : Int))]) = some (.out 1 es)) : LoopC (loopAt Try.prog 50 0) (firstOf_L2_E k c) 1 noFrame firstOf_x2_1 es :=
  have r := firstOf_L2_go k c h
  loopin_as rfl (loop_in (l := firstOf_L2_A) (E := (firstOf_L2_E k c)) (S := stateOf (firstOf_L2_gs k c (.next 0 [iD ((0 : Int))]))) (ns := nsOf (firstOf_L2_gs k c (.next 0 [iD ((0 : Int))]))) firstOf_L2_ok r.1 r.2 (by kernel_rfl) (by kernel_rfl) (by kernel_rfl) (by kernel_rfl))
def firstOf_M (k : Nat) (c : List D) : Option D := bindL (runR (firstOf_L2_S k c) (.next 0 [iD ((0 : Int))])) fun j ds => (if j = 0 then pullD (some (.tup ds)) (fun _ => ()) (fun _ => .tup []) fun _ => (some (iD (0 : Int))) else if j = 1 then pullD (α := Int) (some (.tup ds)) (fun d => ((D.vi (D.at d 0)))) (fun l0 => .tup [iD l0]) fun l0 => (some (iD l0)) else none)
theorem firstOf_M_ok (k : Nat) (c : List D) {r : D} (h : firstOf_M k c = some r) : Con 50 [.list k c] r := by
  unfold firstOf_M at h
  obtain ⟨j, ds, e1_, h2_⟩ := bindL_elim h
  by_cases j3_ : j = 0
  · have h6_ := (if_pos j3_).symm.trans h2_
    clear h2_
    subst j3_
    obtain ⟨⟨⟩, e4_, h7_⟩ := pullD_elim h6_
    clear h6_
    obtain rfl := tup_inj e4_
    have k5_ := firstOf_L2_in0 k c e1_
    obtain rfl := Option.some.inj h7_
    exact con_pc (op := true) (I := [50]) (sp := firstOf_sp) 3000 [] [.tup [iD (Int.ofNat 0)]] [] [k_l k5_ [] [.tup [iD (Int.ofNat 0)]] []] (by kernel_rfl)
  have h8_ := (if_neg j3_).symm.trans h2_
  clear h2_
  by_cases j9_ : j = 1
  · have h12_ := (if_pos j9_).symm.trans h8_
    clear h8_
    subst j9_
    obtain ⟨l0, e10_, h13_⟩ := pullD_elim h12_
    clear h12_
    obtain rfl := tup_inj e10_
    have k11_ := firstOf_L2_in1 k c e1_
    obtain rfl := Option.some.inj h13_
    exact con_pc (op := true) (I := [50]) (sp := firstOf_sp) 3000 [] [.tup [iD (Int.ofNat 1), iD l0]] [] [k_l k11_ [] [.tup [iD (Int.ofNat 1), iD l0]] []] (by kernel_rfl)
  have h14_ := (if_neg j9_).symm.trans h8_
  clear h8_
  cases h14_
def m_50 (ds : List D) : Option D := pullD (α := Nat × (List D)) (some (.tup ds)) (fun d => ((D.ln (D.at d 0)), (D.lc (D.at d 0)))) (fun (k, c) => .tup [.list k c]) fun (k, c) => firstOf_M k c
theorem m_50_ok {ds : List D} {r : D} (h : m_50 ds = some r) : Con 50 ds r := by
  unfold m_50 at h
  obtain ⟨⟨k, c⟩, e0, h0⟩ := pullD_elim h
  obtain rfl := tup_inj e0
  exact firstOf_M_ok k c h0
theorem m_50_eq (k : Nat) (c : List D) : m_50 [.list k c] = firstOf_M k c := pullD_some (k, c) rfl rfl
def inOrder_L2_S0 (k : Nat) (c : List D)  (ds : List D) : Option Go.Ev.Rd := pullD (α := Int) (some (.tup ds)) (fun d => ((D.vi (D.at d 0)))) (fun s7 => .tup [iD s7]) fun s7 => ((if s7 < (k : Int) then guardP ((0 : Int) ≤ s7 ∧ s7.toNat < k) (pullD (α := Int × Int) (readD c (s7.toNat * 2) 2 true) (fun d => ((D.vi (D.at d 0)), (D.vi (D.at d 1)))) (fun (v0, v1) => .agg [iD v0, iD v1]) fun (v0, v1) => ((if v0 > v1 then some (.out 1 [iD (9 : Int)]) else some (.next 0 [iD (IntKind.i64.wrap (s7 + (1 : Int)))])))) else some (.out 0 [])))
def inOrder_L2_S (k : Nat) (c : List D)  : Go.Ev.Rd → Option Go.Ev.Rd
  | .next 0 ds => inOrder_L2_S0 k c ds
  | _ => none
def inOrder_M (k : Nat) (c : List D) : Option D := bindL (runR (inOrder_L2_S k c) (.next 0 [iD ((0 : Int))])) fun j ds => (if j = 0 then pullD (some (.tup ds)) (fun _ => ()) (fun _ => .tup []) fun _ => (some (iD (0 : Int))) else if j = 1 then pullD (α := Int) (some (.tup ds)) (fun d => ((D.vi (D.at d 0)))) (fun l0 => .tup [iD l0]) fun l0 => (some (iD l0)) else none)
def m_64 (ds : List D) : Option D := pullD (α := Nat × (List D)) (some (.tup ds)) (fun d => ((D.ln (D.at d 0)), (D.lc (D.at d 0)))) (fun (k, c) => .tup [.list k c]) fun (k, c) => inOrder_M k c
theorem m_64_eq (k : Nat) (c : List D) : m_64 [.list k c] = inOrder_M k c := pullD_some (k, c) rfl rfl
def within_sp : List LSpec := []
def within_M (n lo hi : Int) : Option D := (if lo ≤ n then some (.one (.bool (decide (n ≤ hi)))) else some (.one (.bool false)))
theorem within_M_ok (n lo hi : Int) {r : D} (h : within_M n lo hi = some r) : Con 24 [iD n, iD lo, iD hi] r := by
  unfold within_M at h
  by_cases b1_ : lo ≤ n
  · have h2_ := (if_pos b1_).symm.trans h
    obtain rfl := Option.some.inj h2_
    exact con_pc (op := true) (I := [24]) (sp := within_sp) 3000 (bT 4 []) [] [c_d b1_, c_d b1_, c_d b1_, c_d b1_] [] (by kernel_rfl)
  have h2_ := (if_neg b1_).symm.trans h
  obtain rfl := Option.some.inj h2_
  exact con_pc (op := true) (I := [24]) (sp := within_sp) 3000 (bF 4 []) [] [c_n b1_, c_n b1_, c_n b1_, c_n b1_] [] (by kernel_rfl)
def m_24 (ds : List D) : Option D := pullD (α := Int × Int × Int) (some (.tup ds)) (fun d => ((D.vi (D.at d 0)), (D.vi (D.at d 1)), (D.vi (D.at d 2)))) (fun (n, lo, hi) => .tup [iD n, iD lo, iD hi]) fun (n, lo, hi) => within_M n lo hi
theorem m_24_ok {ds : List D} {r : D} (h : m_24 ds = some r) : Con 24 ds r := by
  unfold m_24 at h
  obtain ⟨⟨n, lo, hi⟩, e0, h0⟩ := pullD_elim h
  obtain rfl := tup_inj e0
  exact within_M_ok n lo hi h0
theorem m_24_eq (n lo hi : Int) : m_24 [iD n, iD lo, iD hi] = within_M n lo hi := pullD_some (n, lo, hi) rfl rfl
def floor_sp : List LSpec := []
def floor_M (n d : Int) : Option D := guardP (d ≠ (0 : Int)) ((if n.tmod d < (0 : Int) then some (iD (IntKind.i64.wrap (IntKind.i64.wrap (n.tdiv d) - (1 : Int)))) else some (iD (IntKind.i64.wrap (n.tdiv d)))))
theorem floor_M_ok (n d : Int) {r : D} (h : floor_M n d = some r) : Con 65 [iD n, iD d] r := by
  unfold floor_M at h
  obtain ⟨f1_, h2_⟩ := guardP_elim h
  by_cases b3_ : n.tmod d < (0 : Int)
  · have h4_ := (if_pos b3_).symm.trans h2_
    obtain rfl := Option.some.inj h4_
    exact con_pc (op := true) (I := [65]) (sp := floor_sp) 3000 (bT 1 []) [] [c_en f1_, c_en f1_, c_d b3_] [] (by kernel_rfl)
  have h4_ := (if_neg b3_).symm.trans h2_
  obtain rfl := Option.some.inj h4_
  exact con_pc (op := true) (I := [65]) (sp := floor_sp) 3000 (bF 1 []) [] [c_en f1_, c_en f1_, c_n b3_] [] (by kernel_rfl)
def m_65 (ds : List D) : Option D := pullD (α := Int × Int) (some (.tup ds)) (fun d => ((D.vi (D.at d 0)), (D.vi (D.at d 1)))) (fun (n, d) => .tup [iD n, iD d]) fun (n, d) => floor_M n d
theorem m_65_ok {ds : List D} {r : D} (h : m_65 ds = some r) : Con 65 ds r := by
  unfold m_65 at h
  obtain ⟨⟨n, d⟩, e0, h0⟩ := pullD_elim h
  obtain rfl := tup_inj e0
  exact floor_M_ok n d h0
theorem m_65_eq (n d : Int) : m_65 [iD n, iD d] = floor_M n d := pullD_some (n, d) rfl rfl
end
end Go.Proofs.Ytjjbacbjdilhmaa
namespace Go.Proofs.Ytjjbacbjdilhmaa
open Go.Ev Go.RowKit
set_option maxRecDepth 100000
set_option maxHeartbeats 8000000
set_option linter.all false
noncomputable section
abbrev shNK2_0 (a0 : Int) (a1 : Int) (a2 : Int) (a3 : Int) : D := .agg [.one (.int .i64 a0), .one (.int .i64 a1), .one (.int .i64 a2), .one (.int .i64 a3)]
def divisor_x1_0 : LExit := ⟨some 0, [.val 0], (1 :: (List.range' 5 6))⟩
def divisor_sp : List LSpec := [⟨98, 1, [divisor_x1_0]⟩]
def divisor_L1_E (a b : Int)  : List AV × AHeap := ([.pure (.int .i64 a), .pure (.int .i64 b), .pure (.tuple #[]), .pure (.tuple #[]), .pure (.int .i64 (0 : Int)), .pure (.tuple #[]), .pure (.tuple #[]), .pure (.tuple #[]), .pure (.tuple #[]), .pure (.tuple #[]), .pure (.tuple #[]), .pure (.tuple #[]), .pure (.tuple #[]), .pure (.tuple #[]), .pure (.tuple #[])], [])
def divisor_L1_A : LoopAt := ⟨98, loopAt Try.prog 98 0, 0, 8, 0, noFrame⟩
theorem divisor_L1_ok : (divisor_L1_A).OK := ⟨by show 0 ≤ 8; decide, by show 0 ≤ 0; decide, by kernel_rfl, rfl⟩
def divisor_L1_gs (a b : Int)  : Go.Ev.Rd → Option GS
  | .next 0 ds => ghost [.val 0, .val 1] (List.range' 5 6) (divisor_L1_E a b).1 (divisor_L1_E a b).2 0 ds
  | .out 0 ds => ghost divisor_x1_0.live divisor_x1_0.junk (divisor_L1_E a b).1 (divisor_L1_E a b).2 0 ds
  | _ => none
def divisor_L1_ex : Nat → Option Nat
  | 0 => divisor_x1_0.ex
  | _ => none
def divisor_L1_ax : Go.Ev.Rd → AX
  | .next _ _ => .normal
  | .out j _ => axOf (divisor_L1_ex j)
def divisor_L1_S0 (a b : Int)  (ds : List D) : Option Go.Ev.Rd := pullD (α := Int × Int) (some (.tup ds)) (fun d => ((D.vi (D.at d 0)), (D.vi (D.at d 1)))) (fun (s0, s1) => .tup [iD s0, iD s1]) fun (s0, s1) => ((if s1 ≠ (0 : Int) then some (.next 0 [iD s1, iD (s0.tmod s1)]) else some (.out 0 [iD s0])))
def divisor_L1_S (a b : Int)  : Go.Ev.Rd → Option Go.Ev.Rd
  | .next 0 ds => divisor_L1_S0 a b ds
  | _ => none
theorem divisor_L1_S_ok (a b : Int)  : ∀ s_ t_, divisor_L1_S a b s_ = some t_ → Step (ctx [98] divisor_sp) Tabs divisor_L1_A (stateOf (divisor_L1_gs a b s_)) (stateOf (divisor_L1_gs a b t_)) (divisor_L1_ax t_) ∧ EndOK divisor_L1_A.nx divisor_L1_A.low (divisor_L1_gs a b) t_
  | .next 0 ds, t_, h => by
    have h_ : divisor_L1_S0 a b ds = some t_ := h
    clear h
    unfold divisor_L1_S0 at h_
    obtain ⟨⟨s0, s1⟩, e0, h0⟩ := pullD_elim h_
    clear h_
    obtain rfl := tup_inj e0
    by_cases b1_ : s1 ≠ (0 : Int)
    · have h2_ := (if_pos b1_).symm.trans h0
      obtain rfl := Option.some.inj h2_
      exact ⟨step_pc 3000 (bT 1 []) [] [c_b b1_, c_en b1_] [] _ rfl (by kernel_rfl) (by kernel_rfl) (by kernel_rfl) (by kernel_rfl) (by kernel_rfl) (by kernel_rfl), trivial⟩
    have h2_ := (if_neg b1_).symm.trans h0
    have b3_ : s1 = (0 : Int) := by first | exact b1_ | simpa using b1_
    obtain rfl := Option.some.inj h2_
    exact ⟨step_pc 3000 (bF 1 []) [] [c_bn b3_] [] _ rfl (by kernel_rfl) (by kernel_rfl) (by kernel_rfl) (by kernel_rfl) (by kernel_rfl) (by kernel_rfl), by kernel_rfl, by kernel_rfl⟩
  | .next (_ + 1) _, _, h => by cases h
  | .out _ _, _, h => by cases h
theorem divisor_L1_go (a b : Int)  {q : Nat} {ds : List D} {j : Nat} {es : List D} (h : runR (divisor_L1_S a b) (.next q ds) = some (.out j es)) : Runs (ctx [98] divisor_sp) Tabs divisor_L1_A (stateOf (divisor_L1_gs a b (.next q ds))) (stateOf (divisor_L1_gs a b (.out j es))) (divisor_L1_ax (.out j es)) ∧ (nxtOf (divisor_L1_gs a b (.out j es)), lowGS (divisor_L1_gs a b (.out j es))) = (divisor_L1_A.nx, divisor_L1_A.low) :=
  runs_of' (good true _ _) divisor_L1_ok (ax := divisor_L1_ax) (fun _ _ => rfl) (fun _ _ => axOf_end _) (divisor_L1_S_ok a b) h
theorem divisor_L1_in0 (a b : Int)  {es : List D} (h : runR (divisor_L1_S a b) (.next 0 [iD a, iD b]) = some (.out 0 es)) : LoopC (loopAt Try.prog 98 0) (divisor_L1_E a b) 0 noFrame divisor_x1_0 es :=
  have r := divisor_L1_go a b h
  loopin_as rfl (loop_in (l := divisor_L1_A) (E := (divisor_L1_E a b)) (S := stateOf (divisor_L1_gs a b (.next 0 [iD a, iD b]))) (ns := nsOf (divisor_L1_gs a b (.next 0 [iD a, iD b]))) divisor_L1_ok r.1 r.2 (by kernel_rfl) (by kernel_rfl) (by kernel_rfl) (by kernel_rfl))
def divisor_M (a b : Int) : Option D := bindL (runR (divisor_L1_S a b) (.next 0 [iD a, iD b])) fun j ds => (if j = 0 then pullD (α := Int) (some (.tup ds)) (fun d => ((D.vi (D.at d 0)))) (fun l0 => .tup [iD l0]) fun l0 => (some (iD (if IntKind.i64.wrap ((0 : Int) - l0) > l0 then IntKind.i64.wrap ((0 : Int) - l0) else l0))) else none)
theorem divisor_M_ok (a b : Int) {r : D} (h : divisor_M a b = some r) : Con 98 [iD a, iD b] r := by
  unfold divisor_M at h
  obtain ⟨j, ds, e1_, h2_⟩ := bindL_elim h
  by_cases j3_ : j = 0
  · have h6_ := (if_pos j3_).symm.trans h2_
    clear h2_
    subst j3_
    obtain ⟨l0, e4_, h7_⟩ := pullD_elim h6_
    clear h6_
    obtain rfl := tup_inj e4_
    have k5_ := divisor_L1_in0 a b e1_
    obtain rfl := Option.some.inj h7_
    exact con_pc (op := true) (I := [98]) (sp := divisor_sp) 3000 [] [.tup [iD (Int.ofNat 0), iD l0]] [] [k_l k5_ [] [.tup [iD (Int.ofNat 0), iD l0]] []] (by kernel_rfl)
  have h8_ := (if_neg j3_).symm.trans h2_
  clear h2_
  cases h8_
def m_98 (ds : List D) : Option D := pullD (α := Int × Int) (some (.tup ds)) (fun d => ((D.vi (D.at d 0)), (D.vi (D.at d 1)))) (fun (a, b) => .tup [iD a, iD b]) fun (a, b) => divisor_M a b
theorem m_98_ok {ds : List D} {r : D} (h : m_98 ds = some r) : Con 98 ds r := by
  unfold m_98 at h
  obtain ⟨⟨a, b⟩, e0, h0⟩ := pullD_elim h
  obtain rfl := tup_inj e0
  exact divisor_M_ok a b h0
theorem m_98_eq (a b : Int) : m_98 [iD a, iD b] = divisor_M a b := pullD_some (a, b) rfl rfl
def size_sp : List LSpec := []
def size_M (n : Int) : Option D := some (iD (if IntKind.i64.wrap ((0 : Int) - n) > n then IntKind.i64.wrap ((0 : Int) - n) else n))
theorem size_M_ok (n : Int) {r : D} (h : size_M n = some r) : Con 116 [iD n] r := by
  unfold size_M at h
  obtain rfl := Option.some.inj h
  exact con_pc (op := true) (I := [116]) (sp := size_sp) 3000 [] [] [] [] (by kernel_rfl)
def m_116 (ds : List D) : Option D := pullD (α := Int) (some (.tup ds)) (fun d => ((D.vi (D.at d 0)))) (fun n => .tup [iD n]) fun n => size_M n
theorem m_116_ok {ds : List D} {r : D} (h : m_116 ds = some r) : Con 116 ds r := by
  unfold m_116 at h
  obtain ⟨n, e0, h0⟩ := pullD_elim h
  obtain rfl := tup_inj e0
  exact size_M_ok n h0
theorem m_116_eq (n : Int) : m_116 [iD n] = size_M n := pullD_some n rfl rfl
def gcd_x1_0 : LExit := ⟨some 0, [.val 0], (1 :: (List.range' 5 6))⟩
def gcd_sp : List LSpec := [⟨99, 1, [gcd_x1_0]⟩]
def gcd_L1_E (a b : Int)  : List AV × AHeap := ([.pure (.int .i64 a), .pure (.int .i64 b), .pure (.tuple #[]), .pure (.tuple #[]), .pure (.int .i64 (0 : Int)), .pure (.tuple #[]), .pure (.tuple #[]), .pure (.tuple #[]), .pure (.tuple #[]), .pure (.tuple #[]), .pure (.tuple #[]), .pure (.tuple #[]), .pure (.tuple #[])], [])
def gcd_L1_A : LoopAt := ⟨99, loopAt Try.prog 99 0, 0, 8, 0, noFrame⟩
theorem gcd_L1_ok : (gcd_L1_A).OK := ⟨by show 0 ≤ 8; decide, by show 0 ≤ 0; decide, by kernel_rfl, rfl⟩
def gcd_L1_gs (a b : Int)  : Go.Ev.Rd → Option GS
  | .next 0 ds => ghost [.val 0, .val 1] (List.range' 5 6) (gcd_L1_E a b).1 (gcd_L1_E a b).2 0 ds
  | .out 0 ds => ghost gcd_x1_0.live gcd_x1_0.junk (gcd_L1_E a b).1 (gcd_L1_E a b).2 0 ds
  | _ => none
def gcd_L1_ex : Nat → Option Nat
  | 0 => gcd_x1_0.ex
  | _ => none
def gcd_L1_ax : Go.Ev.Rd → AX
  | .next _ _ => .normal
  | .out j _ => axOf (gcd_L1_ex j)
def gcd_L1_S0 (a b : Int)  (ds : List D) : Option Go.Ev.Rd := pullD (α := Int × Int) (some (.tup ds)) (fun d => ((D.vi (D.at d 0)), (D.vi (D.at d 1)))) (fun (s0, s1) => .tup [iD s0, iD s1]) fun (s0, s1) => ((if s1 ≠ (0 : Int) then some (.next 0 [iD s1, iD (s0.tmod s1)]) else some (.out 0 [iD s0])))
def gcd_L1_S (a b : Int)  : Go.Ev.Rd → Option Go.Ev.Rd
  | .next 0 ds => gcd_L1_S0 a b ds
  | _ => none
theorem gcd_L1_S_ok (a b : Int)  : ∀ s_ t_, gcd_L1_S a b s_ = some t_ → Step (ctx [99] gcd_sp) Tabs gcd_L1_A (stateOf (gcd_L1_gs a b s_)) (stateOf (gcd_L1_gs a b t_)) (gcd_L1_ax t_) ∧ EndOK gcd_L1_A.nx gcd_L1_A.low (gcd_L1_gs a b) t_
  | .next 0 ds, t_, h => by
    have h_ : gcd_L1_S0 a b ds = some t_ := h
    clear h
    unfold gcd_L1_S0 at h_
    obtain ⟨⟨s0, s1⟩, e0, h0⟩ := pullD_elim h_
    clear h_
    obtain rfl := tup_inj e0
    by_cases b1_ : s1 ≠ (0 : Int)
    · have h2_ := (if_pos b1_).symm.trans h0
      obtain rfl := Option.some.inj h2_
      exact ⟨step_pc 3000 (bT 1 []) [] [c_b b1_, c_en b1_] [] _ rfl (by kernel_rfl) (by kernel_rfl) (by kernel_rfl) (by kernel_rfl) (by kernel_rfl) (by kernel_rfl), trivial⟩
    have h2_ := (if_neg b1_).symm.trans h0
    have b3_ : s1 = (0 : Int) := by first | exact b1_ | simpa using b1_
    obtain rfl := Option.some.inj h2_
    exact ⟨step_pc 3000 (bF 1 []) [] [c_bn b3_] [] _ rfl (by kernel_rfl) (by kernel_rfl) (by kernel_rfl) (by kernel_rfl) (by kernel_rfl) (by kernel_rfl), by kernel_rfl, by kernel_rfl⟩
  | .next (_ + 1) _, _, h => by cases h
  | .out _ _, _, h => by cases h
theorem gcd_L1_go (a b : Int)  {q : Nat} {ds : List D} {j : Nat} {es : List D} (h : runR (gcd_L1_S a b) (.next q ds) = some (.out j es)) : Runs (ctx [99] gcd_sp) Tabs gcd_L1_A (stateOf (gcd_L1_gs a b (.next q ds))) (stateOf (gcd_L1_gs a b (.out j es))) (gcd_L1_ax (.out j es)) ∧ (nxtOf (gcd_L1_gs a b (.out j es)), lowGS (gcd_L1_gs a b (.out j es))) = (gcd_L1_A.nx, gcd_L1_A.low) :=
  runs_of' (good true _ _) gcd_L1_ok (ax := gcd_L1_ax) (fun _ _ => rfl) (fun _ _ => axOf_end _) (gcd_L1_S_ok a b) h
theorem gcd_L1_in0 (a b : Int)  {es : List D} (h : runR (gcd_L1_S a b) (.next 0 [iD a, iD b]) = some (.out 0 es)) : LoopC (loopAt Try.prog 99 0) (gcd_L1_E a b) 0 noFrame gcd_x1_0 es :=
  have r := gcd_L1_go a b h
  loopin_as rfl (loop_in (l := gcd_L1_A) (E := (gcd_L1_E a b)) (S := stateOf (gcd_L1_gs a b (.next 0 [iD a, iD b]))) (ns := nsOf (gcd_L1_gs a b (.next 0 [iD a, iD b]))) gcd_L1_ok r.1 r.2 (by kernel_rfl) (by kernel_rfl) (by kernel_rfl) (by kernel_rfl))
def gcd_M (a b : Int) : Option D := bindL (runR (gcd_L1_S a b) (.next 0 [iD a, iD b])) fun j ds => (if j = 0 then pullD (α := Int) (some (.tup ds)) (fun d => ((D.vi (D.at d 0)))) (fun l0 => .tup [iD l0]) fun l0 => (pullD (α := Int) (m_116 [iD l0]) (fun d => ((D.vi d))) (fun r1 => iD r1) fun r1 => (some (iD r1))) else none)
theorem gcd_M_ok (a b : Int) {r : D} (h : gcd_M a b = some r) : Con 99 [iD a, iD b] r := by
  unfold gcd_M at h
  obtain ⟨j, ds, e1_, h2_⟩ := bindL_elim h
  by_cases j3_ : j = 0
  · have h6_ := (if_pos j3_).symm.trans h2_
    clear h2_
    subst j3_
    obtain ⟨l0, e4_, h7_⟩ := pullD_elim h6_
    clear h6_
    obtain rfl := tup_inj e4_
    have k5_ := gcd_L1_in0 a b e1_
    obtain ⟨r1, f8_, h9_⟩ := pullD_elim h7_
    replace f8_ := m_116_ok f8_
    obtain rfl := Option.some.inj h9_
    exact con_pc (op := true) (I := [99]) (sp := gcd_sp) 3000 [] [.tup [iD (Int.ofNat 0), iD l0], iD r1] [] [k_l k5_ [] [.tup [iD (Int.ofNat 0), iD l0], iD r1] [iD r1], k_c f8_] (by kernel_rfl)
  have h10_ := (if_neg j3_).symm.trans h2_
  clear h2_
  cases h10_
def m_99 (ds : List D) : Option D := pullD (α := Int × Int) (some (.tup ds)) (fun d => ((D.vi (D.at d 0)), (D.vi (D.at d 1)))) (fun (a, b) => .tup [iD a, iD b]) fun (a, b) => gcd_M a b
theorem m_99_ok {ds : List D} {r : D} (h : m_99 ds = some r) : Con 99 ds r := by
  unfold m_99 at h
  obtain ⟨⟨a, b⟩, e0, h0⟩ := pullD_elim h
  obtain rfl := tup_inj e0
  exact gcd_M_ok a b h0
theorem m_99_eq (a b : Int) : m_99 [iD a, iD b] = gcd_M a b := pullD_some (a, b) rfl rfl
def lowest_sp : List LSpec := []
def lowest_M (n d : Int) : Option D := pullD (α := Int) (m_99 [iD n, iD d]) (fun d => ((D.vi d))) (fun r0 => iD r0) fun r0 => ((if d < (0 : Int) then guardP (IntKind.i64.wrap ((0 : Int) - r0) ≠ (0 : Int)) (some (.agg [iD (IntKind.i64.wrap (n.tdiv (IntKind.i64.wrap ((0 : Int) - r0)))), iD (IntKind.i64.wrap (d.tdiv (IntKind.i64.wrap ((0 : Int) - r0))))])) else guardP (r0 ≠ (0 : Int)) (some (.agg [iD (IntKind.i64.wrap (n.tdiv r0)), iD (IntKind.i64.wrap (d.tdiv r0))]))))
theorem lowest_M_ok (n d : Int) {r : D} (h : lowest_M n d = some r) : Con 75 [iD n, iD d] r := by
  unfold lowest_M at h
  obtain ⟨r0, f1_, h2_⟩ := pullD_elim h
  replace f1_ := m_99_ok f1_
  by_cases b3_ : d < (0 : Int)
  · have h4_ := (if_pos b3_).symm.trans h2_
    obtain ⟨f5_, h6_⟩ := guardP_elim h4_
    obtain rfl := Option.some.inj h6_
    exact con_pc (op := true) (I := [75]) (sp := lowest_sp) 3000 (bT 1 []) [iD r0] [c_d b3_, c_en f5_, c_en f5_] [k_c f1_] (by kernel_rfl)
  have h4_ := (if_neg b3_).symm.trans h2_
  obtain ⟨f7_, h8_⟩ := guardP_elim h4_
  obtain rfl := Option.some.inj h8_
  exact con_pc (op := true) (I := [75]) (sp := lowest_sp) 3000 (bF 1 []) [iD r0] [c_n b3_, c_en f7_, c_en f7_] [k_c f1_] (by kernel_rfl)
def m_75 (ds : List D) : Option D := pullD (α := Int × Int) (some (.tup ds)) (fun d => ((D.vi (D.at d 0)), (D.vi (D.at d 1)))) (fun (n, d) => .tup [iD n, iD d]) fun (n, d) => lowest_M n d
theorem m_75_ok {ds : List D} {r : D} (h : m_75 ds = some r) : Con 75 ds r := by
  unfold m_75 at h
  obtain ⟨⟨n, d⟩, e0, h0⟩ := pullD_elim h
  obtain rfl := tup_inj e0
  exact lowest_M_ok n d h0
theorem m_75_eq (n d : Int) : m_75 [iD n, iD d] = lowest_M n d := pullD_some (n, d) rfl rfl
def reduced_sp : List LSpec := []
def reduced_M (n d : Int) : Option D := pullD (α := Int) (m_98 [iD n, iD d]) (fun d => ((D.vi d))) (fun r0 => iD r0) fun r0 => (guardP (r0 ≠ (0 : Int)) (some (.agg [iD (IntKind.i64.wrap (n.tdiv r0)), iD (IntKind.i64.wrap (d.tdiv r0))])))
theorem reduced_M_ok (n d : Int) {r : D} (h : reduced_M n d = some r) : Con 72 [iD n, iD d] r := by
  unfold reduced_M at h
  obtain ⟨r0, f1_, h2_⟩ := pullD_elim h
  replace f1_ := m_98_ok f1_
  obtain ⟨f3_, h4_⟩ := guardP_elim h2_
  obtain rfl := Option.some.inj h4_
  exact con_pc (op := true) (I := [72]) (sp := reduced_sp) 3000 [] [iD r0] [c_en f3_, c_en f3_] [k_c f1_] (by kernel_rfl)
def m_72 (ds : List D) : Option D := pullD (α := Int × Int) (some (.tup ds)) (fun d => ((D.vi (D.at d 0)), (D.vi (D.at d 1)))) (fun (n, d) => .tup [iD n, iD d]) fun (n, d) => reduced_M n d
theorem m_72_ok {ds : List D} {r : D} (h : m_72 ds = some r) : Con 72 ds r := by
  unfold m_72 at h
  obtain ⟨⟨n, d⟩, e0, h0⟩ := pullD_elim h
  obtain rfl := tup_inj e0
  exact reduced_M_ok n d h0
theorem m_72_eq (n d : Int) : m_72 [iD n, iD d] = reduced_M n d := pullD_some (n, d) rfl rfl
def isTemp_sp : List LSpec := []
def isTemp_M (n : Int) : Option D := pullD (α := Bool) (m_24 [iD n, iD (-500 : Int), iD (3000 : Int)]) (fun d => ((D.vb d))) (fun r0 => .one (.bool r0)) fun r0 => (some (.one (.bool r0)))
theorem isTemp_M_ok (n : Int) {r : D} (h : isTemp_M n = some r) : Con 76 [iD n] r := by
  unfold isTemp_M at h
  obtain ⟨r0, f1_, h2_⟩ := pullD_elim h
  replace f1_ := m_24_ok f1_
  obtain rfl := Option.some.inj h2_
  exact con_pc (op := true) (I := [76]) (sp := isTemp_sp) 3000 [] [.one (.bool r0)] [] [k_c f1_] (by kernel_rfl)
def m_76 (ds : List D) : Option D := pullD (α := Int) (some (.tup ds)) (fun d => ((D.vi (D.at d 0)))) (fun n => .tup [iD n]) fun n => isTemp_M n
theorem m_76_ok {ds : List D} {r : D} (h : m_76 ds = some r) : Con 76 ds r := by
  unfold m_76 at h
  obtain ⟨n, e0, h0⟩ := pullD_elim h
  obtain rfl := tup_inj e0
  exact isTemp_M_ok n h0
theorem m_76_eq (n : Int) : m_76 [iD n] = isTemp_M n := pullD_some n rfl rfl
def ratioOf_M_s1 (a b c d : Int)  : Option D := pullD (α := Int) (m_64 [.list 1 [iD a, iD b]]) (fun d => ((D.vi d))) (fun r37 => iD r37) fun r37 => (pullD (α := Int) (m_50 [.list 2 [iD (2 : Int), iD r37]]) (fun d => ((D.vi d))) (fun r38 => iD r38) fun r38 => ((if c < (1 : Int) then pullD (α := Int) (m_64 [.list 1 [iD c, iD d]]) (fun d => ((D.vi d))) (fun r39 => iD r39) fun r39 => (pullD (α := Int) (m_50 [.list 2 [iD (2 : Int), iD r39]]) (fun d => ((D.vi d))) (fun r40 => iD r40) fun r40 => (pullD (α := Int) (m_50 [.list 2 [iD r38, iD r40]]) (fun d => ((D.vi d))) (fun r41 => iD r41) fun r41 => ((if r41 ≠ (0 : Int) then some (.tup [(shNK2_0 (0 : Int) (0 : Int) (0 : Int) (0 : Int)), iD r41]) else pullD (α := Int × Int) (m_72 [iD a, iD d]) (fun d => ((D.vi (D.at d 0)), (D.vi (D.at d 1)))) (fun (r42, r43) => .agg [iD r42, iD r43]) fun (r42, r43) => (pullD (α := Int × Int) (m_72 [iD b, iD c]) (fun d => ((D.vi (D.at d 0)), (D.vi (D.at d 1)))) (fun (r44, r45) => .agg [iD r44, iD r45]) fun (r44, r45) => (some (.tup [(shNK2_0 r42 r43 r44 r45), iD (0 : Int)]))))))) else (if c > (1000000000 : Int) then pullD (α := Int) (m_64 [.list 1 [iD c, iD d]]) (fun d => ((D.vi d))) (fun r46 => iD r46) fun r46 => (pullD (α := Int) (m_50 [.list 2 [iD (2 : Int), iD r46]]) (fun d => ((D.vi d))) (fun r47 => iD r47) fun r47 => (pullD (α := Int) (m_50 [.list 2 [iD r38, iD r47]]) (fun d => ((D.vi d))) (fun r48 => iD r48) fun r48 => ((if r48 ≠ (0 : Int) then some (.tup [(shNK2_0 (0 : Int) (0 : Int) (0 : Int) (0 : Int)), iD r48]) else pullD (α := Int × Int) (m_72 [iD a, iD d]) (fun d => ((D.vi (D.at d 0)), (D.vi (D.at d 1)))) (fun (r49, r50) => .agg [iD r49, iD r50]) fun (r49, r50) => (pullD (α := Int × Int) (m_72 [iD b, iD c]) (fun d => ((D.vi (D.at d 0)), (D.vi (D.at d 1)))) (fun (r51, r52) => .agg [iD r51, iD r52]) fun (r51, r52) => (some (.tup [(shNK2_0 r49 r50 r51 r52), iD (0 : Int)]))))))) else (if d < (1 : Int) then pullD (α := Int) (m_64 [.list 1 [iD c, iD d]]) (fun d => ((D.vi d))) (fun r53 => iD r53) fun r53 => (pullD (α := Int) (m_50 [.list 2 [iD (2 : Int), iD r53]]) (fun d => ((D.vi d))) (fun r54 => iD r54) fun r54 => (pullD (α := Int) (m_50 [.list 2 [iD r38, iD r54]]) (fun d => ((D.vi d))) (fun r55 => iD r55) fun r55 => ((if r55 ≠ (0 : Int) then some (.tup [(shNK2_0 (0 : Int) (0 : Int) (0 : Int) (0 : Int)), iD r55]) else pullD (α := Int × Int) (m_72 [iD a, iD d]) (fun d => ((D.vi (D.at d 0)), (D.vi (D.at d 1)))) (fun (r56, r57) => .agg [iD r56, iD r57]) fun (r56, r57) => (pullD (α := Int × Int) (m_72 [iD b, iD c]) (fun d => ((D.vi (D.at d 0)), (D.vi (D.at d 1)))) (fun (r58, r59) => .agg [iD r58, iD r59]) fun (r58, r59) => (some (.tup [(shNK2_0 r56 r57 r58 r59), iD (0 : Int)]))))))) else (if d > (1000000000 : Int) then pullD (α := Int) (m_64 [.list 1 [iD c, iD d]]) (fun d => ((D.vi d))) (fun r60 => iD r60) fun r60 => (pullD (α := Int) (m_50 [.list 2 [iD (2 : Int), iD r60]]) (fun d => ((D.vi d))) (fun r61 => iD r61) fun r61 => (pullD (α := Int) (m_50 [.list 2 [iD r38, iD r61]]) (fun d => ((D.vi d))) (fun r62 => iD r62) fun r62 => ((if r62 ≠ (0 : Int) then some (.tup [(shNK2_0 (0 : Int) (0 : Int) (0 : Int) (0 : Int)), iD r62]) else pullD (α := Int × Int) (m_72 [iD a, iD d]) (fun d => ((D.vi (D.at d 0)), (D.vi (D.at d 1)))) (fun (r63, r64) => .agg [iD r63, iD r64]) fun (r63, r64) => (pullD (α := Int × Int) (m_72 [iD b, iD c]) (fun d => ((D.vi (D.at d 0)), (D.vi (D.at d 1)))) (fun (r65, r66) => .agg [iD r65, iD r66]) fun (r65, r66) => (some (.tup [(shNK2_0 r63 r64 r65 r66), iD (0 : Int)]))))))) else pullD (α := Int) (m_64 [.list 1 [iD c, iD d]]) (fun d => ((D.vi d))) (fun r67 => iD r67) fun r67 => (pullD (α := Int) (m_50 [.list 2 [iD (0 : Int), iD r67]]) (fun d => ((D.vi d))) (fun r68 => iD r68) fun r68 => (pullD (α := Int) (m_50 [.list 2 [iD r38, iD r68]]) (fun d => ((D.vi d))) (fun r69 => iD r69) fun r69 => ((if r69 ≠ (0 : Int) then some (.tup [(shNK2_0 (0 : Int) (0 : Int) (0 : Int) (0 : Int)), iD r69]) else pullD (α := Int × Int) (m_72 [iD a, iD d]) (fun d => ((D.vi (D.at d 0)), (D.vi (D.at d 1)))) (fun (r70, r71) => .agg [iD r70, iD r71]) fun (r70, r71) => (pullD (α := Int × Int) (m_72 [iD b, iD c]) (fun d => ((D.vi (D.at d 0)), (D.vi (D.at d 1)))) (fun (r72, r73) => .agg [iD r72, iD r73]) fun (r72, r73) => (some (.tup [(shNK2_0 r70 r71 r72 r73), iD (0 : Int)])))))))))))))
def ratioOf_M_s2 (a b c d : Int)  : Option D := pullD (α := Int) (m_64 [.list 1 [iD a, iD b]]) (fun d => ((D.vi d))) (fun r74 => iD r74) fun r74 => (pullD (α := Int) (m_50 [.list 2 [iD (2 : Int), iD r74]]) (fun d => ((D.vi d))) (fun r75 => iD r75) fun r75 => ((if c < (1 : Int) then pullD (α := Int) (m_64 [.list 1 [iD c, iD d]]) (fun d => ((D.vi d))) (fun r76 => iD r76) fun r76 => (pullD (α := Int) (m_50 [.list 2 [iD (2 : Int), iD r76]]) (fun d => ((D.vi d))) (fun r77 => iD r77) fun r77 => (pullD (α := Int) (m_50 [.list 2 [iD r75, iD r77]]) (fun d => ((D.vi d))) (fun r78 => iD r78) fun r78 => ((if r78 ≠ (0 : Int) then some (.tup [(shNK2_0 (0 : Int) (0 : Int) (0 : Int) (0 : Int)), iD r78]) else pullD (α := Int × Int) (m_72 [iD a, iD d]) (fun d => ((D.vi (D.at d 0)), (D.vi (D.at d 1)))) (fun (r79, r80) => .agg [iD r79, iD r80]) fun (r79, r80) => (pullD (α := Int × Int) (m_72 [iD b, iD c]) (fun d => ((D.vi (D.at d 0)), (D.vi (D.at d 1)))) (fun (r81, r82) => .agg [iD r81, iD r82]) fun (r81, r82) => (some (.tup [(shNK2_0 r79 r80 r81 r82), iD (0 : Int)]))))))) else (if c > (1000000000 : Int) then pullD (α := Int) (m_64 [.list 1 [iD c, iD d]]) (fun d => ((D.vi d))) (fun r83 => iD r83) fun r83 => (pullD (α := Int) (m_50 [.list 2 [iD (2 : Int), iD r83]]) (fun d => ((D.vi d))) (fun r84 => iD r84) fun r84 => (pullD (α := Int) (m_50 [.list 2 [iD r75, iD r84]]) (fun d => ((D.vi d))) (fun r85 => iD r85) fun r85 => ((if r85 ≠ (0 : Int) then some (.tup [(shNK2_0 (0 : Int) (0 : Int) (0 : Int) (0 : Int)), iD r85]) else pullD (α := Int × Int) (m_72 [iD a, iD d]) (fun d => ((D.vi (D.at d 0)), (D.vi (D.at d 1)))) (fun (r86, r87) => .agg [iD r86, iD r87]) fun (r86, r87) => (pullD (α := Int × Int) (m_72 [iD b, iD c]) (fun d => ((D.vi (D.at d 0)), (D.vi (D.at d 1)))) (fun (r88, r89) => .agg [iD r88, iD r89]) fun (r88, r89) => (some (.tup [(shNK2_0 r86 r87 r88 r89), iD (0 : Int)]))))))) else (if d < (1 : Int) then pullD (α := Int) (m_64 [.list 1 [iD c, iD d]]) (fun d => ((D.vi d))) (fun r90 => iD r90) fun r90 => (pullD (α := Int) (m_50 [.list 2 [iD (2 : Int), iD r90]]) (fun d => ((D.vi d))) (fun r91 => iD r91) fun r91 => (pullD (α := Int) (m_50 [.list 2 [iD r75, iD r91]]) (fun d => ((D.vi d))) (fun r92 => iD r92) fun r92 => ((if r92 ≠ (0 : Int) then some (.tup [(shNK2_0 (0 : Int) (0 : Int) (0 : Int) (0 : Int)), iD r92]) else pullD (α := Int × Int) (m_72 [iD a, iD d]) (fun d => ((D.vi (D.at d 0)), (D.vi (D.at d 1)))) (fun (r93, r94) => .agg [iD r93, iD r94]) fun (r93, r94) => (pullD (α := Int × Int) (m_72 [iD b, iD c]) (fun d => ((D.vi (D.at d 0)), (D.vi (D.at d 1)))) (fun (r95, r96) => .agg [iD r95, iD r96]) fun (r95, r96) => (some (.tup [(shNK2_0 r93 r94 r95 r96), iD (0 : Int)]))))))) else (if d > (1000000000 : Int) then pullD (α := Int) (m_64 [.list 1 [iD c, iD d]]) (fun d => ((D.vi d))) (fun r97 => iD r97) fun r97 => (pullD (α := Int) (m_50 [.list 2 [iD (2 : Int), iD r97]]) (fun d => ((D.vi d))) (fun r98 => iD r98) fun r98 => (pullD (α := Int) (m_50 [.list 2 [iD r75, iD r98]]) (fun d => ((D.vi d))) (fun r99 => iD r99) fun r99 => ((if r99 ≠ (0 : Int) then some (.tup [(shNK2_0 (0 : Int) (0 : Int) (0 : Int) (0 : Int)), iD r99]) else pullD (α := Int × Int) (m_72 [iD a, iD d]) (fun d => ((D.vi (D.at d 0)), (D.vi (D.at d 1)))) (fun (r100, r101) => .agg [iD r100, iD r101]) fun (r100, r101) => (pullD (α := Int × Int) (m_72 [iD b, iD c]) (fun d => ((D.vi (D.at d 0)), (D.vi (D.at d 1)))) (fun (r102, r103) => .agg [iD r102, iD r103]) fun (r102, r103) => (some (.tup [(shNK2_0 r100 r101 r102 r103), iD (0 : Int)]))))))) else pullD (α := Int) (m_64 [.list 1 [iD c, iD d]]) (fun d => ((D.vi d))) (fun r104 => iD r104) fun r104 => (pullD (α := Int) (m_50 [.list 2 [iD (0 : Int), iD r104]]) (fun d => ((D.vi d))) (fun r105 => iD r105) fun r105 => (pullD (α := Int) (m_50 [.list 2 [iD r75, iD r105]]) (fun d => ((D.vi d))) (fun r106 => iD r106) fun r106 => ((if r106 ≠ (0 : Int) then some (.tup [(shNK2_0 (0 : Int) (0 : Int) (0 : Int) (0 : Int)), iD r106]) else pullD (α := Int × Int) (m_72 [iD a, iD d]) (fun d => ((D.vi (D.at d 0)), (D.vi (D.at d 1)))) (fun (r107, r108) => .agg [iD r107, iD r108]) fun (r107, r108) => (pullD (α := Int × Int) (m_72 [iD b, iD c]) (fun d => ((D.vi (D.at d 0)), (D.vi (D.at d 1)))) (fun (r109, r110) => .agg [iD r109, iD r110]) fun (r109, r110) => (some (.tup [(shNK2_0 r107 r108 r109 r110), iD (0 : Int)])))))))))))))
end
end Go.Proofs.Ytjjbacbjdilhmaa
namespace Go.Proofs.Ytjjbacbjdilhmaa
open Go.Ev Go.RowKit
set_option maxRecDepth 100000
set_option maxHeartbeats 8000000
set_option linter.all false
noncomputable section
abbrev shNK4_0 (a0 : Int) (a1 : Int) (a2 : Int) : D := .agg [.one (.int .i64 a0), .one (.int .i64 a1), .one (.int .i64 a2)]
def shNK4_0P (d : D) : Int × Int × Int := (D.vi (D.at d 0), D.vi (D.at d 1), D.vi (D.at d 2))
abbrev shNK4_1 (a0 : Int) (a1 : Int) (a2 : Int) (a3 : Int) : D := .agg [.one (.int .i64 a0), .one (.int .i64 a1), .one (.int .i64 a2), .one (.int .i64 a3)]
def rises_sp : List LSpec := []
def rises_M (a b c : Int) : Option D := some (.agg [iD (IntKind.i64.wrap (b - a)), iD (IntKind.i64.wrap (c - b))])
theorem rises_M_ok (a b c : Int) {r : D} (h : rises_M a b c = some r) : Con 100 [(shNK4_0 a b c)] r := by
  unfold rises_M at h
  obtain rfl := Option.some.inj h
  exact con_pc (op := true) (I := [100]) (sp := rises_sp) 3000 [] [] [] [] (by kernel_rfl)
def m_100 (ds : List D) : Option D := pullD (α := Int × Int × Int) (some (.tup ds)) (fun d => ((D.vi (D.at (D.at d 0) 0)), (D.vi (D.at (D.at d 0) 1)), (D.vi (D.at (D.at d 0) 2)))) (fun (a, b, c) => .tup [(shNK4_0 a b c)]) fun (a, b, c) => rises_M a b c
theorem m_100_ok {ds : List D} {r : D} (h : m_100 ds = some r) : Con 100 ds r := by
  unfold m_100 at h
  obtain ⟨⟨a, b, c⟩, e0, h0⟩ := pullD_elim h
  obtain rfl := tup_inj e0
  exact rises_M_ok a b c h0
theorem m_100_eq (a b c : Int) : m_100 [(shNK4_0 a b c)] = rises_M a b c := pullD_some (a, b, c) rfl rfl
def changed_sp : List LSpec := []
def changed_M (a b c e : Int) : Option D := some ((shNK4_0 (IntKind.i64.wrap (a + e)) (IntKind.i64.wrap (b - e)) (IntKind.i64.wrap (c + e))))
theorem changed_M_ok (a b c e : Int) {r : D} (h : changed_M a b c e = some r) : Con 79 [(shNK4_0 a b c), iD e] r := by
  unfold changed_M at h
  obtain rfl := Option.some.inj h
  exact con_pc (op := true) (I := [79]) (sp := changed_sp) 3000 [] [] [] [] (by kernel_rfl)
def m_79 (ds : List D) : Option D := pullD (α := Int × Int × Int × Int) (some (.tup ds)) (fun d => ((D.vi (D.at (D.at d 0) 0)), (D.vi (D.at (D.at d 0) 1)), (D.vi (D.at (D.at d 0) 2)), (D.vi (D.at d 1)))) (fun (a, b, c, e) => .tup [(shNK4_0 a b c), iD e]) fun (a, b, c, e) => changed_M a b c e
theorem m_79_ok {ds : List D} {r : D} (h : m_79 ds = some r) : Con 79 ds r := by
  unfold m_79 at h
  obtain ⟨⟨a, b, c, e⟩, e0, h0⟩ := pullD_elim h
  obtain rfl := tup_inj e0
  exact changed_M_ok a b c e h0
theorem m_79_eq (a b c e : Int) : m_79 [(shNK4_0 a b c), iD e] = changed_M a b c e := pullD_some (a, b, c, e) rfl rfl
def isClosed_sp : List LSpec := []
def isClosed_M (a b c : Int) : Option D := pullD (α := Int × Int) (m_100 [(shNK4_0 a b c)]) (fun d => ((D.vi (D.at d 0)), (D.vi (D.at d 1)))) (fun (r0, r1) => .agg [iD r0, iD r1]) fun (r0, r1) => ((if r1 ≥ (0 : Int) then some (.one (.bool (decide (r0 > r1)))) else some (.one (.bool false))))
theorem isClosed_M_ok (a b c : Int) {r : D} (h : isClosed_M a b c = some r) : Con 80 [(shNK4_0 a b c)] r := by
  unfold isClosed_M at h
  obtain ⟨⟨r0, r1⟩, f1_, h2_⟩ := pullD_elim h
  replace f1_ := m_100_ok f1_
  by_cases b3_ : r1 ≥ (0 : Int)
  · have h4_ := (if_pos b3_).symm.trans h2_
    obtain rfl := Option.some.inj h4_
    exact con_pc (op := true) (I := [80]) (sp := isClosed_sp) 3000 (bT 6 []) [.agg [iD r0, iD r1]] [c_d b3_, c_d b3_, c_d b3_, c_d b3_, c_d b3_, c_d b3_] [k_c f1_] (by kernel_rfl)
  have h4_ := (if_neg b3_).symm.trans h2_
  obtain rfl := Option.some.inj h4_
  exact con_pc (op := true) (I := [80]) (sp := isClosed_sp) 3000 (bF 6 []) [.agg [iD r0, iD r1]] [c_n b3_, c_n b3_, c_n b3_, c_n b3_, c_n b3_, c_n b3_] [k_c f1_] (by kernel_rfl)
def m_80 (ds : List D) : Option D := pullD (α := Int × Int × Int) (some (.tup ds)) (fun d => ((D.vi (D.at (D.at d 0) 0)), (D.vi (D.at (D.at d 0) 1)), (D.vi (D.at (D.at d 0) 2)))) (fun (a, b, c) => .tup [(shNK4_0 a b c)]) fun (a, b, c) => isClosed_M a b c
theorem m_80_ok {ds : List D} {r : D} (h : m_80 ds = some r) : Con 80 ds r := by
  unfold m_80 at h
  obtain ⟨⟨a, b, c⟩, e0, h0⟩ := pullD_elim h
  obtain rfl := tup_inj e0
  exact isClosed_M_ok a b c h0
theorem m_80_eq (a b c : Int) : m_80 [(shNK4_0 a b c)] = isClosed_M a b c := pullD_some (a, b, c) rfl rfl
def endW_sp : List LSpec := []
def endW_M (a b c : Int) : Option D := pullD (α := Int × Int) (m_100 [(shNK4_0 a b c)]) (fun d => ((D.vi (D.at d 0)), (D.vi (D.at d 1)))) (fun (r0, r1) => .agg [iD r0, iD r1]) fun (r0, r1) => (pullD (α := Int × Int) (m_72 [iD (IntKind.i64.wrap (IntKind.i64.wrap (c * IntKind.i64.wrap (r0 - r1)) + IntKind.i64.wrap (r1 * r1))), iD (IntKind.i64.wrap (r0 - r1))]) (fun d => ((D.vi (D.at d 0)), (D.vi (D.at d 1)))) (fun (r2, r3) => .agg [iD r2, iD r3]) fun (r2, r3) => (some (.agg [iD r2, iD r3])))
theorem endW_M_ok (a b c : Int) {r : D} (h : endW_M a b c = some r) : Con 81 [(shNK4_0 a b c)] r := by
  unfold endW_M at h
  obtain ⟨⟨r0, r1⟩, f1_, h2_⟩ := pullD_elim h
  replace f1_ := m_100_ok f1_
  obtain ⟨⟨r2, r3⟩, f3_, h4_⟩ := pullD_elim h2_
  replace f3_ := m_72_ok f3_
  obtain rfl := Option.some.inj h4_
  exact con_pc (op := true) (I := [81]) (sp := endW_sp) 3000 [] [.agg [iD r0, iD r1], .agg [iD r2, iD r3]] [] [k_c f1_, k_c f3_] (by kernel_rfl)
def m_81 (ds : List D) : Option D := pullD (α := Int × Int × Int) (some (.tup ds)) (fun d => ((D.vi (D.at (D.at d 0) 0)), (D.vi (D.at (D.at d 0) 1)), (D.vi (D.at (D.at d 0) 2)))) (fun (a, b, c) => .tup [(shNK4_0 a b c)]) fun (a, b, c) => endW_M a b c
theorem m_81_ok {ds : List D} {r : D} (h : m_81 ds = some r) : Con 81 ds r := by
  unfold m_81 at h
  obtain ⟨⟨a, b, c⟩, e0, h0⟩ := pullD_elim h
  obtain rfl := tup_inj e0
  exact endW_M_ok a b c h0
theorem m_81_eq (a b c : Int) : m_81 [(shNK4_0 a b c)] = endW_M a b c := pullD_some (a, b, c) rfl rfl
def endOf_sp : List LSpec := []
def endOf_M_s0 (a b c e : Int)  : Option D := (if e < (0 : Int) then pullD (α := Int) (m_50 [.list 2 [iD (2 : Int), iD (2 : Int)]]) (fun d => ((D.vi d))) (fun r0 => iD r0) fun r0 => ((if r0 ≠ (0 : Int) then some (.tup [(shNK4_1 (0 : Int) (0 : Int) (0 : Int) (0 : Int)), iD r0]) else pullD (m_79 [(shNK4_0 a b c), iD (IntKind.i64.wrap ((0 : Int) - e))]) shNK4_0P (fun (r1, r2, r3) => (shNK4_0 r1 r2 r3)) fun (r1, r2, r3) => (pullD (m_79 [(shNK4_0 a b c), iD e]) shNK4_0P (fun (r4, r5, r6) => (shNK4_0 r4 r5 r6)) fun (r4, r5, r6) => (pullD (α := Bool) (m_80 [(shNK4_0 r1 r2 r3)]) (fun d => ((D.vb d))) (fun r7 => .one (.bool r7)) fun r7 => ((if r7 = false then some (.tup [(shNK4_1 (0 : Int) (0 : Int) (0 : Int) (0 : Int)), iD (21 : Int)]) else pullD (α := Bool) (m_80 [(shNK4_0 r4 r5 r6)]) (fun d => ((D.vb d))) (fun r8 => .one (.bool r8)) fun r8 => ((if r8 = false then some (.tup [(shNK4_1 (0 : Int) (0 : Int) (0 : Int) (0 : Int)), iD (21 : Int)]) else pullD (α := Int × Int) (m_81 [(shNK4_0 r1 r2 r3)]) (fun d => ((D.vi (D.at d 0)), (D.vi (D.at d 1)))) (fun (r9, r10) => .agg [iD r9, iD r10]) fun (r9, r10) => (pullD (α := Int × Int) (m_81 [(shNK4_0 r4 r5 r6)]) (fun d => ((D.vi (D.at d 0)), (D.vi (D.at d 1)))) (fun (r11, r12) => .agg [iD r11, iD r12]) fun (r11, r12) => (some (.tup [(shNK4_1 r9 r10 r11 r12), iD (0 : Int)]))))))))))) else (if e > (100 : Int) then pullD (α := Int) (m_50 [.list 2 [iD (2 : Int), iD (2 : Int)]]) (fun d => ((D.vi d))) (fun r13 => iD r13) fun r13 => ((if r13 ≠ (0 : Int) then some (.tup [(shNK4_1 (0 : Int) (0 : Int) (0 : Int) (0 : Int)), iD r13]) else pullD (m_79 [(shNK4_0 a b c), iD (IntKind.i64.wrap ((0 : Int) - e))]) shNK4_0P (fun (r14, r15, r16) => (shNK4_0 r14 r15 r16)) fun (r14, r15, r16) => (pullD (m_79 [(shNK4_0 a b c), iD e]) shNK4_0P (fun (r17, r18, r19) => (shNK4_0 r17 r18 r19)) fun (r17, r18, r19) => (pullD (α := Bool) (m_80 [(shNK4_0 r14 r15 r16)]) (fun d => ((D.vb d))) (fun r20 => .one (.bool r20)) fun r20 => ((if r20 = false then some (.tup [(shNK4_1 (0 : Int) (0 : Int) (0 : Int) (0 : Int)), iD (21 : Int)]) else pullD (α := Bool) (m_80 [(shNK4_0 r17 r18 r19)]) (fun d => ((D.vb d))) (fun r21 => .one (.bool r21)) fun r21 => ((if r21 = false then some (.tup [(shNK4_1 (0 : Int) (0 : Int) (0 : Int) (0 : Int)), iD (21 : Int)]) else pullD (α := Int × Int) (m_81 [(shNK4_0 r14 r15 r16)]) (fun d => ((D.vi (D.at d 0)), (D.vi (D.at d 1)))) (fun (r22, r23) => .agg [iD r22, iD r23]) fun (r22, r23) => (pullD (α := Int × Int) (m_81 [(shNK4_0 r17 r18 r19)]) (fun d => ((D.vi (D.at d 0)), (D.vi (D.at d 1)))) (fun (r24, r25) => .agg [iD r24, iD r25]) fun (r24, r25) => (some (.tup [(shNK4_1 r22 r23 r24 r25), iD (0 : Int)]))))))))))) else pullD (α := Int) (m_50 [.list 2 [iD (2 : Int), iD (0 : Int)]]) (fun d => ((D.vi d))) (fun r26 => iD r26) fun r26 => ((if r26 ≠ (0 : Int) then some (.tup [(shNK4_1 (0 : Int) (0 : Int) (0 : Int) (0 : Int)), iD r26]) else pullD (m_79 [(shNK4_0 a b c), iD (IntKind.i64.wrap ((0 : Int) - e))]) shNK4_0P (fun (r27, r28, r29) => (shNK4_0 r27 r28 r29)) fun (r27, r28, r29) => (pullD (m_79 [(shNK4_0 a b c), iD e]) shNK4_0P (fun (r30, r31, r32) => (shNK4_0 r30 r31 r32)) fun (r30, r31, r32) => (pullD (α := Bool) (m_80 [(shNK4_0 r27 r28 r29)]) (fun d => ((D.vb d))) (fun r33 => .one (.bool r33)) fun r33 => ((if r33 = false then some (.tup [(shNK4_1 (0 : Int) (0 : Int) (0 : Int) (0 : Int)), iD (21 : Int)]) else pullD (α := Bool) (m_80 [(shNK4_0 r30 r31 r32)]) (fun d => ((D.vb d))) (fun r34 => .one (.bool r34)) fun r34 => ((if r34 = false then some (.tup [(shNK4_1 (0 : Int) (0 : Int) (0 : Int) (0 : Int)), iD (21 : Int)]) else pullD (α := Int × Int) (m_81 [(shNK4_0 r27 r28 r29)]) (fun d => ((D.vi (D.at d 0)), (D.vi (D.at d 1)))) (fun (r35, r36) => .agg [iD r35, iD r36]) fun (r35, r36) => (pullD (α := Int × Int) (m_81 [(shNK4_0 r30 r31 r32)]) (fun d => ((D.vi (D.at d 0)), (D.vi (D.at d 1)))) (fun (r37, r38) => .agg [iD r37, iD r38]) fun (r37, r38) => (some (.tup [(shNK4_1 r35 r36 r37 r38), iD (0 : Int)])))))))))))))
def endOf_M_s1 (a b c e : Int)  : Option D := (if e < (0 : Int) then pullD (α := Int) (m_50 [.list 2 [iD (2 : Int), iD (2 : Int)]]) (fun d => ((D.vi d))) (fun r39 => iD r39) fun r39 => ((if r39 ≠ (0 : Int) then some (.tup [(shNK4_1 (0 : Int) (0 : Int) (0 : Int) (0 : Int)), iD r39]) else pullD (m_79 [(shNK4_0 a b c), iD (IntKind.i64.wrap ((0 : Int) - e))]) shNK4_0P (fun (r40, r41, r42) => (shNK4_0 r40 r41 r42)) fun (r40, r41, r42) => (pullD (m_79 [(shNK4_0 a b c), iD e]) shNK4_0P (fun (r43, r44, r45) => (shNK4_0 r43 r44 r45)) fun (r43, r44, r45) => (pullD (α := Bool) (m_80 [(shNK4_0 r40 r41 r42)]) (fun d => ((D.vb d))) (fun r46 => .one (.bool r46)) fun r46 => ((if r46 = false then some (.tup [(shNK4_1 (0 : Int) (0 : Int) (0 : Int) (0 : Int)), iD (21 : Int)]) else pullD (α := Bool) (m_80 [(shNK4_0 r43 r44 r45)]) (fun d => ((D.vb d))) (fun r47 => .one (.bool r47)) fun r47 => ((if r47 = false then some (.tup [(shNK4_1 (0 : Int) (0 : Int) (0 : Int) (0 : Int)), iD (21 : Int)]) else pullD (α := Int × Int) (m_81 [(shNK4_0 r40 r41 r42)]) (fun d => ((D.vi (D.at d 0)), (D.vi (D.at d 1)))) (fun (r48, r49) => .agg [iD r48, iD r49]) fun (r48, r49) => (pullD (α := Int × Int) (m_81 [(shNK4_0 r43 r44 r45)]) (fun d => ((D.vi (D.at d 0)), (D.vi (D.at d 1)))) (fun (r50, r51) => .agg [iD r50, iD r51]) fun (r50, r51) => (some (.tup [(shNK4_1 r48 r49 r50 r51), iD (0 : Int)]))))))))))) else (if e > (100 : Int) then pullD (α := Int) (m_50 [.list 2 [iD (2 : Int), iD (2 : Int)]]) (fun d => ((D.vi d))) (fun r52 => iD r52) fun r52 => ((if r52 ≠ (0 : Int) then some (.tup [(shNK4_1 (0 : Int) (0 : Int) (0 : Int) (0 : Int)), iD r52]) else pullD (m_79 [(shNK4_0 a b c), iD (IntKind.i64.wrap ((0 : Int) - e))]) shNK4_0P (fun (r53, r54, r55) => (shNK4_0 r53 r54 r55)) fun (r53, r54, r55) => (pullD (m_79 [(shNK4_0 a b c), iD e]) shNK4_0P (fun (r56, r57, r58) => (shNK4_0 r56 r57 r58)) fun (r56, r57, r58) => (pullD (α := Bool) (m_80 [(shNK4_0 r53 r54 r55)]) (fun d => ((D.vb d))) (fun r59 => .one (.bool r59)) fun r59 => ((if r59 = false then some (.tup [(shNK4_1 (0 : Int) (0 : Int) (0 : Int) (0 : Int)), iD (21 : Int)]) else pullD (α := Bool) (m_80 [(shNK4_0 r56 r57 r58)]) (fun d => ((D.vb d))) (fun r60 => .one (.bool r60)) fun r60 => ((if r60 = false then some (.tup [(shNK4_1 (0 : Int) (0 : Int) (0 : Int) (0 : Int)), iD (21 : Int)]) else pullD (α := Int × Int) (m_81 [(shNK4_0 r53 r54 r55)]) (fun d => ((D.vi (D.at d 0)), (D.vi (D.at d 1)))) (fun (r61, r62) => .agg [iD r61, iD r62]) fun (r61, r62) => (pullD (α := Int × Int) (m_81 [(shNK4_0 r56 r57 r58)]) (fun d => ((D.vi (D.at d 0)), (D.vi (D.at d 1)))) (fun (r63, r64) => .agg [iD r63, iD r64]) fun (r63, r64) => (some (.tup [(shNK4_1 r61 r62 r63 r64), iD (0 : Int)]))))))))))) else pullD (α := Int) (m_50 [.list 2 [iD (2 : Int), iD (0 : Int)]]) (fun d => ((D.vi d))) (fun r65 => iD r65) fun r65 => ((if r65 ≠ (0 : Int) then some (.tup [(shNK4_1 (0 : Int) (0 : Int) (0 : Int) (0 : Int)), iD r65]) else pullD (m_79 [(shNK4_0 a b c), iD (IntKind.i64.wrap ((0 : Int) - e))]) shNK4_0P (fun (r66, r67, r68) => (shNK4_0 r66 r67 r68)) fun (r66, r67, r68) => (pullD (m_79 [(shNK4_0 a b c), iD e]) shNK4_0P (fun (r69, r70, r71) => (shNK4_0 r69 r70 r71)) fun (r69, r70, r71) => (pullD (α := Bool) (m_80 [(shNK4_0 r66 r67 r68)]) (fun d => ((D.vb d))) (fun r72 => .one (.bool r72)) fun r72 => ((if r72 = false then some (.tup [(shNK4_1 (0 : Int) (0 : Int) (0 : Int) (0 : Int)), iD (21 : Int)]) else pullD (α := Bool) (m_80 [(shNK4_0 r69 r70 r71)]) (fun d => ((D.vb d))) (fun r73 => .one (.bool r73)) fun r73 => ((if r73 = false then some (.tup [(shNK4_1 (0 : Int) (0 : Int) (0 : Int) (0 : Int)), iD (21 : Int)]) else pullD (α := Int × Int) (m_81 [(shNK4_0 r66 r67 r68)]) (fun d => ((D.vi (D.at d 0)), (D.vi (D.at d 1)))) (fun (r74, r75) => .agg [iD r74, iD r75]) fun (r74, r75) => (pullD (α := Int × Int) (m_81 [(shNK4_0 r69 r70 r71)]) (fun d => ((D.vi (D.at d 0)), (D.vi (D.at d 1)))) (fun (r76, r77) => .agg [iD r76, iD r77]) fun (r76, r77) => (some (.tup [(shNK4_1 r74 r75 r76 r77), iD (0 : Int)])))))))))))))
def endOf_M_s2 (a b c e : Int)  : Option D := (if e < (0 : Int) then pullD (α := Int) (m_50 [.list 2 [iD (2 : Int), iD (2 : Int)]]) (fun d => ((D.vi d))) (fun r78 => iD r78) fun r78 => ((if r78 ≠ (0 : Int) then some (.tup [(shNK4_1 (0 : Int) (0 : Int) (0 : Int) (0 : Int)), iD r78]) else pullD (m_79 [(shNK4_0 a b c), iD (IntKind.i64.wrap ((0 : Int) - e))]) shNK4_0P (fun (r79, r80, r81) => (shNK4_0 r79 r80 r81)) fun (r79, r80, r81) => (pullD (m_79 [(shNK4_0 a b c), iD e]) shNK4_0P (fun (r82, r83, r84) => (shNK4_0 r82 r83 r84)) fun (r82, r83, r84) => (pullD (α := Bool) (m_80 [(shNK4_0 r79 r80 r81)]) (fun d => ((D.vb d))) (fun r85 => .one (.bool r85)) fun r85 => ((if r85 = false then some (.tup [(shNK4_1 (0 : Int) (0 : Int) (0 : Int) (0 : Int)), iD (21 : Int)]) else pullD (α := Bool) (m_80 [(shNK4_0 r82 r83 r84)]) (fun d => ((D.vb d))) (fun r86 => .one (.bool r86)) fun r86 => ((if r86 = false then some (.tup [(shNK4_1 (0 : Int) (0 : Int) (0 : Int) (0 : Int)), iD (21 : Int)]) else pullD (α := Int × Int) (m_81 [(shNK4_0 r79 r80 r81)]) (fun d => ((D.vi (D.at d 0)), (D.vi (D.at d 1)))) (fun (r87, r88) => .agg [iD r87, iD r88]) fun (r87, r88) => (pullD (α := Int × Int) (m_81 [(shNK4_0 r82 r83 r84)]) (fun d => ((D.vi (D.at d 0)), (D.vi (D.at d 1)))) (fun (r89, r90) => .agg [iD r89, iD r90]) fun (r89, r90) => (some (.tup [(shNK4_1 r87 r88 r89 r90), iD (0 : Int)]))))))))))) else (if e > (100 : Int) then pullD (α := Int) (m_50 [.list 2 [iD (2 : Int), iD (2 : Int)]]) (fun d => ((D.vi d))) (fun r91 => iD r91) fun r91 => ((if r91 ≠ (0 : Int) then some (.tup [(shNK4_1 (0 : Int) (0 : Int) (0 : Int) (0 : Int)), iD r91]) else pullD (m_79 [(shNK4_0 a b c), iD (IntKind.i64.wrap ((0 : Int) - e))]) shNK4_0P (fun (r92, r93, r94) => (shNK4_0 r92 r93 r94)) fun (r92, r93, r94) => (pullD (m_79 [(shNK4_0 a b c), iD e]) shNK4_0P (fun (r95, r96, r97) => (shNK4_0 r95 r96 r97)) fun (r95, r96, r97) => (pullD (α := Bool) (m_80 [(shNK4_0 r92 r93 r94)]) (fun d => ((D.vb d))) (fun r98 => .one (.bool r98)) fun r98 => ((if r98 = false then some (.tup [(shNK4_1 (0 : Int) (0 : Int) (0 : Int) (0 : Int)), iD (21 : Int)]) else pullD (α := Bool) (m_80 [(shNK4_0 r95 r96 r97)]) (fun d => ((D.vb d))) (fun r99 => .one (.bool r99)) fun r99 => ((if r99 = false then some (.tup [(shNK4_1 (0 : Int) (0 : Int) (0 : Int) (0 : Int)), iD (21 : Int)]) else pullD (α := Int × Int) (m_81 [(shNK4_0 r92 r93 r94)]) (fun d => ((D.vi (D.at d 0)), (D.vi (D.at d 1)))) (fun (r100, r101) => .agg [iD r100, iD r101]) fun (r100, r101) => (pullD (α := Int × Int) (m_81 [(shNK4_0 r95 r96 r97)]) (fun d => ((D.vi (D.at d 0)), (D.vi (D.at d 1)))) (fun (r102, r103) => .agg [iD r102, iD r103]) fun (r102, r103) => (some (.tup [(shNK4_1 r100 r101 r102 r103), iD (0 : Int)]))))))))))) else pullD (α := Int) (m_50 [.list 2 [iD (2 : Int), iD (0 : Int)]]) (fun d => ((D.vi d))) (fun r104 => iD r104) fun r104 => ((if r104 ≠ (0 : Int) then some (.tup [(shNK4_1 (0 : Int) (0 : Int) (0 : Int) (0 : Int)), iD r104]) else pullD (m_79 [(shNK4_0 a b c), iD (IntKind.i64.wrap ((0 : Int) - e))]) shNK4_0P (fun (r105, r106, r107) => (shNK4_0 r105 r106 r107)) fun (r105, r106, r107) => (pullD (m_79 [(shNK4_0 a b c), iD e]) shNK4_0P (fun (r108, r109, r110) => (shNK4_0 r108 r109 r110)) fun (r108, r109, r110) => (pullD (α := Bool) (m_80 [(shNK4_0 r105 r106 r107)]) (fun d => ((D.vb d))) (fun r111 => .one (.bool r111)) fun r111 => ((if r111 = false then some (.tup [(shNK4_1 (0 : Int) (0 : Int) (0 : Int) (0 : Int)), iD (21 : Int)]) else pullD (α := Bool) (m_80 [(shNK4_0 r108 r109 r110)]) (fun d => ((D.vb d))) (fun r112 => .one (.bool r112)) fun r112 => ((if r112 = false then some (.tup [(shNK4_1 (0 : Int) (0 : Int) (0 : Int) (0 : Int)), iD (21 : Int)]) else pullD (α := Int × Int) (m_81 [(shNK4_0 r105 r106 r107)]) (fun d => ((D.vi (D.at d 0)), (D.vi (D.at d 1)))) (fun (r113, r114) => .agg [iD r113, iD r114]) fun (r113, r114) => (pullD (α := Int × Int) (m_81 [(shNK4_0 r108 r109 r110)]) (fun d => ((D.vi (D.at d 0)), (D.vi (D.at d 1)))) (fun (r115, r116) => .agg [iD r115, iD r116]) fun (r115, r116) => (some (.tup [(shNK4_1 r113 r114 r115 r116), iD (0 : Int)])))))))))))))
def endOf_M_s3 (a b c e : Int)  : Option D := (if e < (0 : Int) then pullD (α := Int) (m_50 [.list 2 [iD (2 : Int), iD (2 : Int)]]) (fun d => ((D.vi d))) (fun r117 => iD r117) fun r117 => ((if r117 ≠ (0 : Int) then some (.tup [(shNK4_1 (0 : Int) (0 : Int) (0 : Int) (0 : Int)), iD r117]) else pullD (m_79 [(shNK4_0 a b c), iD (IntKind.i64.wrap ((0 : Int) - e))]) shNK4_0P (fun (r118, r119, r120) => (shNK4_0 r118 r119 r120)) fun (r118, r119, r120) => (pullD (m_79 [(shNK4_0 a b c), iD e]) shNK4_0P (fun (r121, r122, r123) => (shNK4_0 r121 r122 r123)) fun (r121, r122, r123) => (pullD (α := Bool) (m_80 [(shNK4_0 r118 r119 r120)]) (fun d => ((D.vb d))) (fun r124 => .one (.bool r124)) fun r124 => ((if r124 = false then some (.tup [(shNK4_1 (0 : Int) (0 : Int) (0 : Int) (0 : Int)), iD (21 : Int)]) else pullD (α := Bool) (m_80 [(shNK4_0 r121 r122 r123)]) (fun d => ((D.vb d))) (fun r125 => .one (.bool r125)) fun r125 => ((if r125 = false then some (.tup [(shNK4_1 (0 : Int) (0 : Int) (0 : Int) (0 : Int)), iD (21 : Int)]) else pullD (α := Int × Int) (m_81 [(shNK4_0 r118 r119 r120)]) (fun d => ((D.vi (D.at d 0)), (D.vi (D.at d 1)))) (fun (r126, r127) => .agg [iD r126, iD r127]) fun (r126, r127) => (pullD (α := Int × Int) (m_81 [(shNK4_0 r121 r122 r123)]) (fun d => ((D.vi (D.at d 0)), (D.vi (D.at d 1)))) (fun (r128, r129) => .agg [iD r128, iD r129]) fun (r128, r129) => (some (.tup [(shNK4_1 r126 r127 r128 r129), iD (0 : Int)]))))))))))) else (if e > (100 : Int) then pullD (α := Int) (m_50 [.list 2 [iD (2 : Int), iD (2 : Int)]]) (fun d => ((D.vi d))) (fun r130 => iD r130) fun r130 => ((if r130 ≠ (0 : Int) then some (.tup [(shNK4_1 (0 : Int) (0 : Int) (0 : Int) (0 : Int)), iD r130]) else pullD (m_79 [(shNK4_0 a b c), iD (IntKind.i64.wrap ((0 : Int) - e))]) shNK4_0P (fun (r131, r132, r133) => (shNK4_0 r131 r132 r133)) fun (r131, r132, r133) => (pullD (m_79 [(shNK4_0 a b c), iD e]) shNK4_0P (fun (r134, r135, r136) => (shNK4_0 r134 r135 r136)) fun (r134, r135, r136) => (pullD (α := Bool) (m_80 [(shNK4_0 r131 r132 r133)]) (fun d => ((D.vb d))) (fun r137 => .one (.bool r137)) fun r137 => ((if r137 = false then some (.tup [(shNK4_1 (0 : Int) (0 : Int) (0 : Int) (0 : Int)), iD (21 : Int)]) else pullD (α := Bool) (m_80 [(shNK4_0 r134 r135 r136)]) (fun d => ((D.vb d))) (fun r138 => .one (.bool r138)) fun r138 => ((if r138 = false then some (.tup [(shNK4_1 (0 : Int) (0 : Int) (0 : Int) (0 : Int)), iD (21 : Int)]) else pullD (α := Int × Int) (m_81 [(shNK4_0 r131 r132 r133)]) (fun d => ((D.vi (D.at d 0)), (D.vi (D.at d 1)))) (fun (r139, r140) => .agg [iD r139, iD r140]) fun (r139, r140) => (pullD (α := Int × Int) (m_81 [(shNK4_0 r134 r135 r136)]) (fun d => ((D.vi (D.at d 0)), (D.vi (D.at d 1)))) (fun (r141, r142) => .agg [iD r141, iD r142]) fun (r141, r142) => (some (.tup [(shNK4_1 r139 r140 r141 r142), iD (0 : Int)]))))))))))) else pullD (α := Int) (m_50 [.list 2 [iD (2 : Int), iD (0 : Int)]]) (fun d => ((D.vi d))) (fun r143 => iD r143) fun r143 => ((if r143 ≠ (0 : Int) then some (.tup [(shNK4_1 (0 : Int) (0 : Int) (0 : Int) (0 : Int)), iD r143]) else pullD (m_79 [(shNK4_0 a b c), iD (IntKind.i64.wrap ((0 : Int) - e))]) shNK4_0P (fun (r144, r145, r146) => (shNK4_0 r144 r145 r146)) fun (r144, r145, r146) => (pullD (m_79 [(shNK4_0 a b c), iD e]) shNK4_0P (fun (r147, r148, r149) => (shNK4_0 r147 r148 r149)) fun (r147, r148, r149) => (pullD (α := Bool) (m_80 [(shNK4_0 r144 r145 r146)]) (fun d => ((D.vb d))) (fun r150 => .one (.bool r150)) fun r150 => ((if r150 = false then some (.tup [(shNK4_1 (0 : Int) (0 : Int) (0 : Int) (0 : Int)), iD (21 : Int)]) else pullD (α := Bool) (m_80 [(shNK4_0 r147 r148 r149)]) (fun d => ((D.vb d))) (fun r151 => .one (.bool r151)) fun r151 => ((if r151 = false then some (.tup [(shNK4_1 (0 : Int) (0 : Int) (0 : Int) (0 : Int)), iD (21 : Int)]) else pullD (α := Int × Int) (m_81 [(shNK4_0 r144 r145 r146)]) (fun d => ((D.vi (D.at d 0)), (D.vi (D.at d 1)))) (fun (r152, r153) => .agg [iD r152, iD r153]) fun (r152, r153) => (pullD (α := Int × Int) (m_81 [(shNK4_0 r147 r148 r149)]) (fun d => ((D.vi (D.at d 0)), (D.vi (D.at d 1)))) (fun (r154, r155) => .agg [iD r154, iD r155]) fun (r154, r155) => (some (.tup [(shNK4_1 r152 r153 r154 r155), iD (0 : Int)])))))))))))))
def endOf_M_s4 (a b c e : Int)  : Option D := (if e < (0 : Int) then pullD (α := Int) (m_50 [.list 2 [iD (2 : Int), iD (2 : Int)]]) (fun d => ((D.vi d))) (fun r156 => iD r156) fun r156 => ((if r156 ≠ (0 : Int) then some (.tup [(shNK4_1 (0 : Int) (0 : Int) (0 : Int) (0 : Int)), iD r156]) else pullD (m_79 [(shNK4_0 a b c), iD (IntKind.i64.wrap ((0 : Int) - e))]) shNK4_0P (fun (r157, r158, r159) => (shNK4_0 r157 r158 r159)) fun (r157, r158, r159) => (pullD (m_79 [(shNK4_0 a b c), iD e]) shNK4_0P (fun (r160, r161, r162) => (shNK4_0 r160 r161 r162)) fun (r160, r161, r162) => (pullD (α := Bool) (m_80 [(shNK4_0 r157 r158 r159)]) (fun d => ((D.vb d))) (fun r163 => .one (.bool r163)) fun r163 => ((if r163 = false then some (.tup [(shNK4_1 (0 : Int) (0 : Int) (0 : Int) (0 : Int)), iD (21 : Int)]) else pullD (α := Bool) (m_80 [(shNK4_0 r160 r161 r162)]) (fun d => ((D.vb d))) (fun r164 => .one (.bool r164)) fun r164 => ((if r164 = false then some (.tup [(shNK4_1 (0 : Int) (0 : Int) (0 : Int) (0 : Int)), iD (21 : Int)]) else pullD (α := Int × Int) (m_81 [(shNK4_0 r157 r158 r159)]) (fun d => ((D.vi (D.at d 0)), (D.vi (D.at d 1)))) (fun (r165, r166) => .agg [iD r165, iD r166]) fun (r165, r166) => (pullD (α := Int × Int) (m_81 [(shNK4_0 r160 r161 r162)]) (fun d => ((D.vi (D.at d 0)), (D.vi (D.at d 1)))) (fun (r167, r168) => .agg [iD r167, iD r168]) fun (r167, r168) => (some (.tup [(shNK4_1 r165 r166 r167 r168), iD (0 : Int)]))))))))))) else (if e > (100 : Int) then pullD (α := Int) (m_50 [.list 2 [iD (2 : Int), iD (2 : Int)]]) (fun d => ((D.vi d))) (fun r169 => iD r169) fun r169 => ((if r169 ≠ (0 : Int) then some (.tup [(shNK4_1 (0 : Int) (0 : Int) (0 : Int) (0 : Int)), iD r169]) else pullD (m_79 [(shNK4_0 a b c), iD (IntKind.i64.wrap ((0 : Int) - e))]) shNK4_0P (fun (r170, r171, r172) => (shNK4_0 r170 r171 r172)) fun (r170, r171, r172) => (pullD (m_79 [(shNK4_0 a b c), iD e]) shNK4_0P (fun (r173, r174, r175) => (shNK4_0 r173 r174 r175)) fun (r173, r174, r175) => (pullD (α := Bool) (m_80 [(shNK4_0 r170 r171 r172)]) (fun d => ((D.vb d))) (fun r176 => .one (.bool r176)) fun r176 => ((if r176 = false then some (.tup [(shNK4_1 (0 : Int) (0 : Int) (0 : Int) (0 : Int)), iD (21 : Int)]) else pullD (α := Bool) (m_80 [(shNK4_0 r173 r174 r175)]) (fun d => ((D.vb d))) (fun r177 => .one (.bool r177)) fun r177 => ((if r177 = false then some (.tup [(shNK4_1 (0 : Int) (0 : Int) (0 : Int) (0 : Int)), iD (21 : Int)]) else pullD (α := Int × Int) (m_81 [(shNK4_0 r170 r171 r172)]) (fun d => ((D.vi (D.at d 0)), (D.vi (D.at d 1)))) (fun (r178, r179) => .agg [iD r178, iD r179]) fun (r178, r179) => (pullD (α := Int × Int) (m_81 [(shNK4_0 r173 r174 r175)]) (fun d => ((D.vi (D.at d 0)), (D.vi (D.at d 1)))) (fun (r180, r181) => .agg [iD r180, iD r181]) fun (r180, r181) => (some (.tup [(shNK4_1 r178 r179 r180 r181), iD (0 : Int)]))))))))))) else pullD (α := Int) (m_50 [.list 2 [iD (2 : Int), iD (0 : Int)]]) (fun d => ((D.vi d))) (fun r182 => iD r182) fun r182 => ((if r182 ≠ (0 : Int) then some (.tup [(shNK4_1 (0 : Int) (0 : Int) (0 : Int) (0 : Int)), iD r182]) else pullD (m_79 [(shNK4_0 a b c), iD (IntKind.i64.wrap ((0 : Int) - e))]) shNK4_0P (fun (r183, r184, r185) => (shNK4_0 r183 r184 r185)) fun (r183, r184, r185) => (pullD (m_79 [(shNK4_0 a b c), iD e]) shNK4_0P (fun (r186, r187, r188) => (shNK4_0 r186 r187 r188)) fun (r186, r187, r188) => (pullD (α := Bool) (m_80 [(shNK4_0 r183 r184 r185)]) (fun d => ((D.vb d))) (fun r189 => .one (.bool r189)) fun r189 => ((if r189 = false then some (.tup [(shNK4_1 (0 : Int) (0 : Int) (0 : Int) (0 : Int)), iD (21 : Int)]) else pullD (α := Bool) (m_80 [(shNK4_0 r186 r187 r188)]) (fun d => ((D.vb d))) (fun r190 => .one (.bool r190)) fun r190 => ((if r190 = false then some (.tup [(shNK4_1 (0 : Int) (0 : Int) (0 : Int) (0 : Int)), iD (21 : Int)]) else pullD (α := Int × Int) (m_81 [(shNK4_0 r183 r184 r185)]) (fun d => ((D.vi (D.at d 0)), (D.vi (D.at d 1)))) (fun (r191, r192) => .agg [iD r191, iD r192]) fun (r191, r192) => (pullD (α := Int × Int) (m_81 [(shNK4_0 r186 r187 r188)]) (fun d => ((D.vi (D.at d 0)), (D.vi (D.at d 1)))) (fun (r193, r194) => .agg [iD r193, iD r194]) fun (r193, r194) => (some (.tup [(shNK4_1 r191 r192 r193 r194), iD (0 : Int)])))))))))))))
def endOf_M_s5 (a b c e : Int)  : Option D := (if c > (3000 : Int) then (if e < (0 : Int) then pullD (α := Int) (m_50 [.list 2 [iD (2 : Int), iD (2 : Int)]]) (fun d => ((D.vi d))) (fun r195 => iD r195) fun r195 => ((if r195 ≠ (0 : Int) then some (.tup [(shNK4_1 (0 : Int) (0 : Int) (0 : Int) (0 : Int)), iD r195]) else pullD (m_79 [(shNK4_0 a b c), iD (IntKind.i64.wrap ((0 : Int) - e))]) shNK4_0P (fun (r196, r197, r198) => (shNK4_0 r196 r197 r198)) fun (r196, r197, r198) => (pullD (m_79 [(shNK4_0 a b c), iD e]) shNK4_0P (fun (r199, r200, r201) => (shNK4_0 r199 r200 r201)) fun (r199, r200, r201) => (pullD (α := Bool) (m_80 [(shNK4_0 r196 r197 r198)]) (fun d => ((D.vb d))) (fun r202 => .one (.bool r202)) fun r202 => ((if r202 = false then some (.tup [(shNK4_1 (0 : Int) (0 : Int) (0 : Int) (0 : Int)), iD (21 : Int)]) else pullD (α := Bool) (m_80 [(shNK4_0 r199 r200 r201)]) (fun d => ((D.vb d))) (fun r203 => .one (.bool r203)) fun r203 => ((if r203 = false then some (.tup [(shNK4_1 (0 : Int) (0 : Int) (0 : Int) (0 : Int)), iD (21 : Int)]) else pullD (α := Int × Int) (m_81 [(shNK4_0 r196 r197 r198)]) (fun d => ((D.vi (D.at d 0)), (D.vi (D.at d 1)))) (fun (r204, r205) => .agg [iD r204, iD r205]) fun (r204, r205) => (pullD (α := Int × Int) (m_81 [(shNK4_0 r199 r200 r201)]) (fun d => ((D.vi (D.at d 0)), (D.vi (D.at d 1)))) (fun (r206, r207) => .agg [iD r206, iD r207]) fun (r206, r207) => (some (.tup [(shNK4_1 r204 r205 r206 r207), iD (0 : Int)]))))))))))) else (if e > (100 : Int) then pullD (α := Int) (m_50 [.list 2 [iD (2 : Int), iD (2 : Int)]]) (fun d => ((D.vi d))) (fun r208 => iD r208) fun r208 => ((if r208 ≠ (0 : Int) then some (.tup [(shNK4_1 (0 : Int) (0 : Int) (0 : Int) (0 : Int)), iD r208]) else pullD (m_79 [(shNK4_0 a b c), iD (IntKind.i64.wrap ((0 : Int) - e))]) shNK4_0P (fun (r209, r210, r211) => (shNK4_0 r209 r210 r211)) fun (r209, r210, r211) => (pullD (m_79 [(shNK4_0 a b c), iD e]) shNK4_0P (fun (r212, r213, r214) => (shNK4_0 r212 r213 r214)) fun (r212, r213, r214) => (pullD (α := Bool) (m_80 [(shNK4_0 r209 r210 r211)]) (fun d => ((D.vb d))) (fun r215 => .one (.bool r215)) fun r215 => ((if r215 = false then some (.tup [(shNK4_1 (0 : Int) (0 : Int) (0 : Int) (0 : Int)), iD (21 : Int)]) else pullD (α := Bool) (m_80 [(shNK4_0 r212 r213 r214)]) (fun d => ((D.vb d))) (fun r216 => .one (.bool r216)) fun r216 => ((if r216 = false then some (.tup [(shNK4_1 (0 : Int) (0 : Int) (0 : Int) (0 : Int)), iD (21 : Int)]) else pullD (α := Int × Int) (m_81 [(shNK4_0 r209 r210 r211)]) (fun d => ((D.vi (D.at d 0)), (D.vi (D.at d 1)))) (fun (r217, r218) => .agg [iD r217, iD r218]) fun (r217, r218) => (pullD (α := Int × Int) (m_81 [(shNK4_0 r212 r213 r214)]) (fun d => ((D.vi (D.at d 0)), (D.vi (D.at d 1)))) (fun (r219, r220) => .agg [iD r219, iD r220]) fun (r219, r220) => (some (.tup [(shNK4_1 r217 r218 r219 r220), iD (0 : Int)]))))))))))) else pullD (α := Int) (m_50 [.list 2 [iD (2 : Int), iD (0 : Int)]]) (fun d => ((D.vi d))) (fun r221 => iD r221) fun r221 => ((if r221 ≠ (0 : Int) then some (.tup [(shNK4_1 (0 : Int) (0 : Int) (0 : Int) (0 : Int)), iD r221]) else pullD (m_79 [(shNK4_0 a b c), iD (IntKind.i64.wrap ((0 : Int) - e))]) shNK4_0P (fun (r222, r223, r224) => (shNK4_0 r222 r223 r224)) fun (r222, r223, r224) => (pullD (m_79 [(shNK4_0 a b c), iD e]) shNK4_0P (fun (r225, r226, r227) => (shNK4_0 r225 r226 r227)) fun (r225, r226, r227) => (pullD (α := Bool) (m_80 [(shNK4_0 r222 r223 r224)]) (fun d => ((D.vb d))) (fun r228 => .one (.bool r228)) fun r228 => ((if r228 = false then some (.tup [(shNK4_1 (0 : Int) (0 : Int) (0 : Int) (0 : Int)), iD (21 : Int)]) else pullD (α := Bool) (m_80 [(shNK4_0 r225 r226 r227)]) (fun d => ((D.vb d))) (fun r229 => .one (.bool r229)) fun r229 => ((if r229 = false then some (.tup [(shNK4_1 (0 : Int) (0 : Int) (0 : Int) (0 : Int)), iD (21 : Int)]) else pullD (α := Int × Int) (m_81 [(shNK4_0 r222 r223 r224)]) (fun d => ((D.vi (D.at d 0)), (D.vi (D.at d 1)))) (fun (r230, r231) => .agg [iD r230, iD r231]) fun (r230, r231) => (pullD (α := Int × Int) (m_81 [(shNK4_0 r225 r226 r227)]) (fun d => ((D.vi (D.at d 0)), (D.vi (D.at d 1)))) (fun (r232, r233) => .agg [iD r232, iD r233]) fun (r232, r233) => (some (.tup [(shNK4_1 r230 r231 r232 r233), iD (0 : Int)]))))))))))))) else (if e < (0 : Int) then pullD (α := Int) (m_50 [.list 2 [iD (0 : Int), iD (2 : Int)]]) (fun d => ((D.vi d))) (fun r234 => iD r234) fun r234 => ((if r234 ≠ (0 : Int) then some (.tup [(shNK4_1 (0 : Int) (0 : Int) (0 : Int) (0 : Int)), iD r234]) else pullD (m_79 [(shNK4_0 a b c), iD (IntKind.i64.wrap ((0 : Int) - e))]) shNK4_0P (fun (r235, r236, r237) => (shNK4_0 r235 r236 r237)) fun (r235, r236, r237) => (pullD (m_79 [(shNK4_0 a b c), iD e]) shNK4_0P (fun (r238, r239, r240) => (shNK4_0 r238 r239 r240)) fun (r238, r239, r240) => (pullD (α := Bool) (m_80 [(shNK4_0 r235 r236 r237)]) (fun d => ((D.vb d))) (fun r241 => .one (.bool r241)) fun r241 => ((if r241 = false then some (.tup [(shNK4_1 (0 : Int) (0 : Int) (0 : Int) (0 : Int)), iD (21 : Int)]) else pullD (α := Bool) (m_80 [(shNK4_0 r238 r239 r240)]) (fun d => ((D.vb d))) (fun r242 => .one (.bool r242)) fun r242 => ((if r242 = false then some (.tup [(shNK4_1 (0 : Int) (0 : Int) (0 : Int) (0 : Int)), iD (21 : Int)]) else pullD (α := Int × Int) (m_81 [(shNK4_0 r235 r236 r237)]) (fun d => ((D.vi (D.at d 0)), (D.vi (D.at d 1)))) (fun (r243, r244) => .agg [iD r243, iD r244]) fun (r243, r244) => (pullD (α := Int × Int) (m_81 [(shNK4_0 r238 r239 r240)]) (fun d => ((D.vi (D.at d 0)), (D.vi (D.at d 1)))) (fun (r245, r246) => .agg [iD r245, iD r246]) fun (r245, r246) => (some (.tup [(shNK4_1 r243 r244 r245 r246), iD (0 : Int)]))))))))))) else (if e > (100 : Int) then pullD (α := Int) (m_50 [.list 2 [iD (0 : Int), iD (2 : Int)]]) (fun d => ((D.vi d))) (fun r247 => iD r247) fun r247 => ((if r247 ≠ (0 : Int) then some (.tup [(shNK4_1 (0 : Int) (0 : Int) (0 : Int) (0 : Int)), iD r247]) else pullD (m_79 [(shNK4_0 a b c), iD (IntKind.i64.wrap ((0 : Int) - e))]) shNK4_0P (fun (r248, r249, r250) => (shNK4_0 r248 r249 r250)) fun (r248, r249, r250) => (pullD (m_79 [(shNK4_0 a b c), iD e]) shNK4_0P (fun (r251, r252, r253) => (shNK4_0 r251 r252 r253)) fun (r251, r252, r253) => (pullD (α := Bool) (m_80 [(shNK4_0 r248 r249 r250)]) (fun d => ((D.vb d))) (fun r254 => .one (.bool r254)) fun r254 => ((if r254 = false then some (.tup [(shNK4_1 (0 : Int) (0 : Int) (0 : Int) (0 : Int)), iD (21 : Int)]) else pullD (α := Bool) (m_80 [(shNK4_0 r251 r252 r253)]) (fun d => ((D.vb d))) (fun r255 => .one (.bool r255)) fun r255 => ((if r255 = false then some (.tup [(shNK4_1 (0 : Int) (0 : Int) (0 : Int) (0 : Int)), iD (21 : Int)]) else pullD (α := Int × Int) (m_81 [(shNK4_0 r248 r249 r250)]) (fun d => ((D.vi (D.at d 0)), (D.vi (D.at d 1)))) (fun (r256, r257) => .agg [iD r256, iD r257]) fun (r256, r257) => (pullD (α := Int × Int) (m_81 [(shNK4_0 r251 r252 r253)]) (fun d => ((D.vi (D.at d 0)), (D.vi (D.at d 1)))) (fun (r258, r259) => .agg [iD r258, iD r259]) fun (r258, r259) => (some (.tup [(shNK4_1 r256 r257 r258 r259), iD (0 : Int)]))))))))))) else pullD (α := Int) (m_50 [.list 2 [iD (0 : Int), iD (0 : Int)]]) (fun d => ((D.vi d))) (fun r260 => iD r260) fun r260 => ((if r260 ≠ (0 : Int) then some (.tup [(shNK4_1 (0 : Int) (0 : Int) (0 : Int) (0 : Int)), iD r260]) else pullD (m_79 [(shNK4_0 a b c), iD (IntKind.i64.wrap ((0 : Int) - e))]) shNK4_0P (fun (r261, r262, r263) => (shNK4_0 r261 r262 r263)) fun (r261, r262, r263) => (pullD (m_79 [(shNK4_0 a b c), iD e]) shNK4_0P (fun (r264, r265, r266) => (shNK4_0 r264 r265 r266)) fun (r264, r265, r266) => (pullD (α := Bool) (m_80 [(shNK4_0 r261 r262 r263)]) (fun d => ((D.vb d))) (fun r267 => .one (.bool r267)) fun r267 => ((if r267 = false then some (.tup [(shNK4_1 (0 : Int) (0 : Int) (0 : Int) (0 : Int)), iD (21 : Int)]) else pullD (α := Bool) (m_80 [(shNK4_0 r264 r265 r266)]) (fun d => ((D.vb d))) (fun r268 => .one (.bool r268)) fun r268 => ((if r268 = false then some (.tup [(shNK4_1 (0 : Int) (0 : Int) (0 : Int) (0 : Int)), iD (21 : Int)]) else pullD (α := Int × Int) (m_81 [(shNK4_0 r261 r262 r263)]) (fun d => ((D.vi (D.at d 0)), (D.vi (D.at d 1)))) (fun (r269, r270) => .agg [iD r269, iD r270]) fun (r269, r270) => (pullD (α := Int × Int) (m_81 [(shNK4_0 r264 r265 r266)]) (fun d => ((D.vi (D.at d 0)), (D.vi (D.at d 1)))) (fun (r271, r272) => .agg [iD r271, iD r272]) fun (r271, r272) => (some (.tup [(shNK4_1 r269 r270 r271 r272), iD (0 : Int)]))))))))))))))
def endOf_M (a b c e : Int) : Option D := (if a < (-500 : Int) then endOf_M_s0 a b c e else (if a > (3000 : Int) then endOf_M_s1 a b c e else (if b < (-500 : Int) then endOf_M_s2 a b c e else (if b > (3000 : Int) then endOf_M_s3 a b c e else (if c < (-500 : Int) then endOf_M_s4 a b c e else endOf_M_s5 a b c e)))))
theorem endOf_M_s0_ok (a b c e : Int)  (b1_ : a < (-500 : Int)) {r : D} (h : endOf_M_s0 a b c e = some r) : Con 38 [(shNK4_0 a b c), iD e] r := by
  unfold endOf_M_s0 at h
  by_cases bq1_ : e < (0 : Int)
  · have hq2_ := (if_pos bq1_).symm.trans h
    obtain ⟨r0, fq3_, hq4_⟩ := pullD_elim hq2_
    replace fq3_ := m_50_ok fq3_
    by_cases bq5_ : r0 ≠ (0 : Int)
    · have hq6_ := (if_pos bq5_).symm.trans hq4_
      obtain rfl := Option.some.inj hq6_
      exact con_pc (op := true) (I := [38, 51, 73, 63, 97]) (sp := endOf_sp) 3000 (bT 13 []) [iD r0] [c_T, c_d b1_, c_d b1_, c_d b1_, c_d b1_, c_T, c_T, c_d bq1_, c_d bq1_, c_d bq1_, c_d bq1_, c_T, c_le 1, c_b bq5_] [k_c fq3_] (by kernel_rfl)
    have hq6_ := (if_neg bq5_).symm.trans hq4_
    have bq7_ : r0 = (0 : Int) := by first | exact bq5_ | simpa using bq5_
    obtain ⟨⟨r1, r2, r3⟩, fq8_, hq9_⟩ := pullD_elim hq6_
    replace fq8_ := m_79_ok fq8_
    obtain ⟨⟨r4, r5, r6⟩, fq10_, hq11_⟩ := pullD_elim hq9_
    replace fq10_ := m_79_ok fq10_
    obtain ⟨r7, fq12_, hq13_⟩ := pullD_elim hq11_
    replace fq12_ := m_80_ok fq12_
    by_cases bq14_ : r7 = false
    · have hq15_ := (if_pos bq14_).symm.trans hq13_
      obtain rfl := Option.some.inj hq15_
      exact con_pc (op := true) (I := [38, 51, 73, 63, 97]) (sp := endOf_sp) 3000 (bT 12 (bF 1 (bT 5 []))) [iD r0, (shNK4_0 r1 r2 r3), (shNK4_0 r4 r5 r6), .one (.bool r7)] [c_T, c_d b1_, c_d b1_, c_d b1_, c_d b1_, c_T, c_T, c_d bq1_, c_d bq1_, c_d bq1_, c_d bq1_, c_T, c_le 1, c_bn bq7_, c_no bq14_, c_no bq14_, c_no bq14_, c_no bq14_, c_T] [k_c fq3_, k_c fq8_, k_c fq10_, k_c fq12_] (by kernel_rfl)
    have hq15_ := (if_neg bq14_).symm.trans hq13_
    have bq16_ : r7 = true := by first | exact bq14_ | simpa using bq14_
    obtain ⟨r8, fq17_, hq18_⟩ := pullD_elim hq15_
    replace fq17_ := m_80_ok fq17_
    by_cases bq19_ : r8 = false
    · have hq20_ := (if_pos bq19_).symm.trans hq18_
      obtain rfl := Option.some.inj hq20_
      exact con_pc (op := true) (I := [38, 51, 73, 63, 97]) (sp := endOf_sp) 3000 (bT 12 (bF 5 (bT 1 []))) [iD r0, (shNK4_0 r1 r2 r3), (shNK4_0 r4 r5 r6), .one (.bool r7), .one (.bool r8)] [c_T, c_d b1_, c_d b1_, c_d b1_, c_d b1_, c_T, c_T, c_d bq1_, c_d bq1_, c_d bq1_, c_d bq1_, c_T, c_le 1, c_bn bq7_, c_nn bq16_, c_nn bq16_, c_nn bq16_, c_nn bq16_, c_no bq19_] [k_c fq3_, k_c fq8_, k_c fq10_, k_c fq12_, k_c fq17_] (by kernel_rfl)
    have hq20_ := (if_neg bq19_).symm.trans hq18_
    have bq21_ : r8 = true := by first | exact bq19_ | simpa using bq19_
    obtain ⟨⟨r9, r10⟩, fq22_, hq23_⟩ := pullD_elim hq20_
    replace fq22_ := m_81_ok fq22_
    obtain ⟨⟨r11, r12⟩, fq24_, hq25_⟩ := pullD_elim hq23_
    replace fq24_ := m_81_ok fq24_
    obtain rfl := Option.some.inj hq25_
    exact con_pc (op := true) (I := [38, 51, 73, 63, 97]) (sp := endOf_sp) 3000 (bT 12 (bF 6 [])) [iD r0, (shNK4_0 r1 r2 r3), (shNK4_0 r4 r5 r6), .one (.bool r7), .one (.bool r8), .agg [iD r9, iD r10], .agg [iD r11, iD r12]] [c_T, c_d b1_, c_d b1_, c_d b1_, c_d b1_, c_T, c_T, c_d bq1_, c_d bq1_, c_d bq1_, c_d bq1_, c_T, c_le 1, c_bn bq7_, c_nn bq16_, c_nn bq16_, c_nn bq16_, c_nn bq16_, c_nn bq21_] [k_c fq3_, k_c fq8_, k_c fq10_, k_c fq12_, k_c fq17_, k_c fq22_, k_c fq24_] (by kernel_rfl)
  have hq2_ := (if_neg bq1_).symm.trans h
  by_cases bq26_ : e > (100 : Int)
  · have hq27_ := (if_pos bq26_).symm.trans hq2_
    obtain ⟨r13, fq28_, hq29_⟩ := pullD_elim hq27_
    replace fq28_ := m_50_ok fq28_
    by_cases bq30_ : r13 ≠ (0 : Int)
    · have hq31_ := (if_pos bq30_).symm.trans hq29_
      obtain rfl := Option.some.inj hq31_
      exact con_pc (op := true) (I := [38, 51, 73, 63, 97]) (sp := endOf_sp) 3000 (bT 7 (bF 4 (bT 2 []))) [iD r13] [c_T, c_d b1_, c_d b1_, c_d b1_, c_d b1_, c_T, c_T, c_n bq1_, c_n bq1_, c_n bq1_, c_n bq1_, c_d bq26_, c_le 1, c_b bq30_] [k_c fq28_] (by kernel_rfl)
    have hq31_ := (if_neg bq30_).symm.trans hq29_
    have bq32_ : r13 = (0 : Int) := by first | exact bq30_ | simpa using bq30_
    obtain ⟨⟨r14, r15, r16⟩, fq33_, hq34_⟩ := pullD_elim hq31_
    replace fq33_ := m_79_ok fq33_
    obtain ⟨⟨r17, r18, r19⟩, fq35_, hq36_⟩ := pullD_elim hq34_
    replace fq35_ := m_79_ok fq35_
    obtain ⟨r20, fq37_, hq38_⟩ := pullD_elim hq36_
    replace fq37_ := m_80_ok fq37_
    by_cases bq39_ : r20 = false
    · have hq40_ := (if_pos bq39_).symm.trans hq38_
      obtain rfl := Option.some.inj hq40_
      exact con_pc (op := true) (I := [38, 51, 73, 63, 97]) (sp := endOf_sp) 3000 (bT 7 (bF 4 (bT 1 (bF 1 (bT 5 []))))) [iD r13, (shNK4_0 r14 r15 r16), (shNK4_0 r17 r18 r19), .one (.bool r20)] [c_T, c_d b1_, c_d b1_, c_d b1_, c_d b1_, c_T, c_T, c_n bq1_, c_n bq1_, c_n bq1_, c_n bq1_, c_d bq26_, c_le 1, c_bn bq32_, c_no bq39_, c_no bq39_, c_no bq39_, c_no bq39_, c_T] [k_c fq28_, k_c fq33_, k_c fq35_, k_c fq37_] (by kernel_rfl)
    have hq40_ := (if_neg bq39_).symm.trans hq38_
    have bq41_ : r20 = true := by first | exact bq39_ | simpa using bq39_
    obtain ⟨r21, fq42_, hq43_⟩ := pullD_elim hq40_
    replace fq42_ := m_80_ok fq42_
    by_cases bq44_ : r21 = false
    · have hq45_ := (if_pos bq44_).symm.trans hq43_
      obtain rfl := Option.some.inj hq45_
      exact con_pc (op := true) (I := [38, 51, 73, 63, 97]) (sp := endOf_sp) 3000 (bT 7 (bF 4 (bT 1 (bF 5 (bT 1 []))))) [iD r13, (shNK4_0 r14 r15 r16), (shNK4_0 r17 r18 r19), .one (.bool r20), .one (.bool r21)] [c_T, c_d b1_, c_d b1_, c_d b1_, c_d b1_, c_T, c_T, c_n bq1_, c_n bq1_, c_n bq1_, c_n bq1_, c_d bq26_, c_le 1, c_bn bq32_, c_nn bq41_, c_nn bq41_, c_nn bq41_, c_nn bq41_, c_no bq44_] [k_c fq28_, k_c fq33_, k_c fq35_, k_c fq37_, k_c fq42_] (by kernel_rfl)
    have hq45_ := (if_neg bq44_).symm.trans hq43_
    have bq46_ : r21 = true := by first | exact bq44_ | simpa using bq44_
    obtain ⟨⟨r22, r23⟩, fq47_, hq48_⟩ := pullD_elim hq45_
    replace fq47_ := m_81_ok fq47_
    obtain ⟨⟨r24, r25⟩, fq49_, hq50_⟩ := pullD_elim hq48_
    replace fq49_ := m_81_ok fq49_
    obtain rfl := Option.some.inj hq50_
    exact con_pc (op := true) (I := [38, 51, 73, 63, 97]) (sp := endOf_sp) 3000 (bT 7 (bF 4 (bT 1 (bF 6 [])))) [iD r13, (shNK4_0 r14 r15 r16), (shNK4_0 r17 r18 r19), .one (.bool r20), .one (.bool r21), .agg [iD r22, iD r23], .agg [iD r24, iD r25]] [c_T, c_d b1_, c_d b1_, c_d b1_, c_d b1_, c_T, c_T, c_n bq1_, c_n bq1_, c_n bq1_, c_n bq1_, c_d bq26_, c_le 1, c_bn bq32_, c_nn bq41_, c_nn bq41_, c_nn bq41_, c_nn bq41_, c_nn bq46_] [k_c fq28_, k_c fq33_, k_c fq35_, k_c fq37_, k_c fq42_, k_c fq47_, k_c fq49_] (by kernel_rfl)
  have hq27_ := (if_neg bq26_).symm.trans hq2_
  obtain ⟨r26, fq51_, hq52_⟩ := pullD_elim hq27_
  replace fq51_ := m_50_ok fq51_
  by_cases bq53_ : r26 ≠ (0 : Int)
  · have hq54_ := (if_pos bq53_).symm.trans hq52_
    obtain rfl := Option.some.inj hq54_
    exact con_pc (op := true) (I := [38, 51, 73, 63, 97]) (sp := endOf_sp) 3000 (bT 7 (bF 6 (bT 1 []))) [iD r26] [c_T, c_d b1_, c_d b1_, c_d b1_, c_d b1_, c_T, c_T, c_n bq1_, c_n bq1_, c_n bq1_, c_n bq1_, c_n bq26_, c_F, c_le 1, c_b bq53_] [k_c fq51_] (by kernel_rfl)
  have hq54_ := (if_neg bq53_).symm.trans hq52_
  have bq55_ : r26 = (0 : Int) := by first | exact bq53_ | simpa using bq53_
  obtain ⟨⟨r27, r28, r29⟩, fq56_, hq57_⟩ := pullD_elim hq54_
  replace fq56_ := m_79_ok fq56_
  obtain ⟨⟨r30, r31, r32⟩, fq58_, hq59_⟩ := pullD_elim hq57_
  replace fq58_ := m_79_ok fq58_
  obtain ⟨r33, fq60_, hq61_⟩ := pullD_elim hq59_
  replace fq60_ := m_80_ok fq60_
  by_cases bq62_ : r33 = false
  · have hq63_ := (if_pos bq62_).symm.trans hq61_
    obtain rfl := Option.some.inj hq63_
    exact con_pc (op := true) (I := [38, 51, 73, 63, 97]) (sp := endOf_sp) 3000 (bT 7 (bF 7 (bT 5 []))) [iD r26, (shNK4_0 r27 r28 r29), (shNK4_0 r30 r31 r32), .one (.bool r33)] [c_T, c_d b1_, c_d b1_, c_d b1_, c_d b1_, c_T, c_T, c_n bq1_, c_n bq1_, c_n bq1_, c_n bq1_, c_n bq26_, c_F, c_le 1, c_bn bq55_, c_no bq62_, c_no bq62_, c_no bq62_, c_no bq62_, c_T] [k_c fq51_, k_c fq56_, k_c fq58_, k_c fq60_] (by kernel_rfl)
  have hq63_ := (if_neg bq62_).symm.trans hq61_
  have bq64_ : r33 = true := by first | exact bq62_ | simpa using bq62_
  obtain ⟨r34, fq65_, hq66_⟩ := pullD_elim hq63_
  replace fq65_ := m_80_ok fq65_
  by_cases bq67_ : r34 = false
  · have hq68_ := (if_pos bq67_).symm.trans hq66_
    obtain rfl := Option.some.inj hq68_
    exact con_pc (op := true) (I := [38, 51, 73, 63, 97]) (sp := endOf_sp) 3000 (bT 7 (bF 11 (bT 1 []))) [iD r26, (shNK4_0 r27 r28 r29), (shNK4_0 r30 r31 r32), .one (.bool r33), .one (.bool r34)] [c_T, c_d b1_, c_d b1_, c_d b1_, c_d b1_, c_T, c_T, c_n bq1_, c_n bq1_, c_n bq1_, c_n bq1_, c_n bq26_, c_F, c_le 1, c_bn bq55_, c_nn bq64_, c_nn bq64_, c_nn bq64_, c_nn bq64_, c_no bq67_] [k_c fq51_, k_c fq56_, k_c fq58_, k_c fq60_, k_c fq65_] (by kernel_rfl)
  have hq68_ := (if_neg bq67_).symm.trans hq66_
  have bq69_ : r34 = true := by first | exact bq67_ | simpa using bq67_
  obtain ⟨⟨r35, r36⟩, fq70_, hq71_⟩ := pullD_elim hq68_
  replace fq70_ := m_81_ok fq70_
  obtain ⟨⟨r37, r38⟩, fq72_, hq73_⟩ := pullD_elim hq71_
  replace fq72_ := m_81_ok fq72_
  obtain rfl := Option.some.inj hq73_
  exact con_pc (op := true) (I := [38, 51, 73, 63, 97]) (sp := endOf_sp) 3000 (bT 7 (bF 12 [])) [iD r26, (shNK4_0 r27 r28 r29), (shNK4_0 r30 r31 r32), .one (.bool r33), .one (.bool r34), .agg [iD r35, iD r36], .agg [iD r37, iD r38]] [c_T, c_d b1_, c_d b1_, c_d b1_, c_d b1_, c_T, c_T, c_n bq1_, c_n bq1_, c_n bq1_, c_n bq1_, c_n bq26_, c_F, c_le 1, c_bn bq55_, c_nn bq64_, c_nn bq64_, c_nn bq64_, c_nn bq64_, c_nn bq69_] [k_c fq51_, k_c fq56_, k_c fq58_, k_c fq60_, k_c fq65_, k_c fq70_, k_c fq72_] (by kernel_rfl)
theorem endOf_M_s1_ok (a b c e : Int)  (b1_ : ¬ (a < (-500 : Int))) (b3_ : a > (3000 : Int)) {r : D} (h : endOf_M_s1 a b c e = some r) : Con 38 [(shNK4_0 a b c), iD e] r := by
  unfold endOf_M_s1 at h
  by_cases bq1_ : e < (0 : Int)
  · have hq2_ := (if_pos bq1_).symm.trans h
    obtain ⟨r39, fq3_, hq4_⟩ := pullD_elim hq2_
    replace fq3_ := m_50_ok fq3_
    by_cases bq5_ : r39 ≠ (0 : Int)
    · have hq6_ := (if_pos bq5_).symm.trans hq4_
      obtain rfl := Option.some.inj hq6_
      exact con_pc (op := true) (I := [38, 51, 73, 63, 97]) (sp := endOf_sp) 3000 (bT 1 (bF 4 (bT 8 []))) [iD r39] [c_T, c_n b1_, c_n b1_, c_n b1_, c_n b1_, c_d b3_, c_T, c_d bq1_, c_d bq1_, c_d bq1_, c_d bq1_, c_T, c_le 1, c_b bq5_] [k_c fq3_] (by kernel_rfl)
    have hq6_ := (if_neg bq5_).symm.trans hq4_
    have bq7_ : r39 = (0 : Int) := by first | exact bq5_ | simpa using bq5_
    obtain ⟨⟨r40, r41, r42⟩, fq8_, hq9_⟩ := pullD_elim hq6_
    replace fq8_ := m_79_ok fq8_
    obtain ⟨⟨r43, r44, r45⟩, fq10_, hq11_⟩ := pullD_elim hq9_
    replace fq10_ := m_79_ok fq10_
    obtain ⟨r46, fq12_, hq13_⟩ := pullD_elim hq11_
    replace fq12_ := m_80_ok fq12_
    by_cases bq14_ : r46 = false
    · have hq15_ := (if_pos bq14_).symm.trans hq13_
      obtain rfl := Option.some.inj hq15_
      exact con_pc (op := true) (I := [38, 51, 73, 63, 97]) (sp := endOf_sp) 3000 (bT 1 (bF 4 (bT 7 (bF 1 (bT 5 []))))) [iD r39, (shNK4_0 r40 r41 r42), (shNK4_0 r43 r44 r45), .one (.bool r46)] [c_T, c_n b1_, c_n b1_, c_n b1_, c_n b1_, c_d b3_, c_T, c_d bq1_, c_d bq1_, c_d bq1_, c_d bq1_, c_T, c_le 1, c_bn bq7_, c_no bq14_, c_no bq14_, c_no bq14_, c_no bq14_, c_T] [k_c fq3_, k_c fq8_, k_c fq10_, k_c fq12_] (by kernel_rfl)
    have hq15_ := (if_neg bq14_).symm.trans hq13_
    have bq16_ : r46 = true := by first | exact bq14_ | simpa using bq14_
    obtain ⟨r47, fq17_, hq18_⟩ := pullD_elim hq15_
    replace fq17_ := m_80_ok fq17_
    by_cases bq19_ : r47 = false
    · have hq20_ := (if_pos bq19_).symm.trans hq18_
      obtain rfl := Option.some.inj hq20_
      exact con_pc (op := true) (I := [38, 51, 73, 63, 97]) (sp := endOf_sp) 3000 (bT 1 (bF 4 (bT 7 (bF 5 (bT 1 []))))) [iD r39, (shNK4_0 r40 r41 r42), (shNK4_0 r43 r44 r45), .one (.bool r46), .one (.bool r47)] [c_T, c_n b1_, c_n b1_, c_n b1_, c_n b1_, c_d b3_, c_T, c_d bq1_, c_d bq1_, c_d bq1_, c_d bq1_, c_T, c_le 1, c_bn bq7_, c_nn bq16_, c_nn bq16_, c_nn bq16_, c_nn bq16_, c_no bq19_] [k_c fq3_, k_c fq8_, k_c fq10_, k_c fq12_, k_c fq17_] (by kernel_rfl)
    have hq20_ := (if_neg bq19_).symm.trans hq18_
    have bq21_ : r47 = true := by first | exact bq19_ | simpa using bq19_
    obtain ⟨⟨r48, r49⟩, fq22_, hq23_⟩ := pullD_elim hq20_
    replace fq22_ := m_81_ok fq22_
    obtain ⟨⟨r50, r51⟩, fq24_, hq25_⟩ := pullD_elim hq23_
    replace fq24_ := m_81_ok fq24_
    obtain rfl := Option.some.inj hq25_
    exact con_pc (op := true) (I := [38, 51, 73, 63, 97]) (sp := endOf_sp) 3000 (bT 1 (bF 4 (bT 7 (bF 6 [])))) [iD r39, (shNK4_0 r40 r41 r42), (shNK4_0 r43 r44 r45), .one (.bool r46), .one (.bool r47), .agg [iD r48, iD r49], .agg [iD r50, iD r51]] [c_T, c_n b1_, c_n b1_, c_n b1_, c_n b1_, c_d b3_, c_T, c_d bq1_, c_d bq1_, c_d bq1_, c_d bq1_, c_T, c_le 1, c_bn bq7_, c_nn bq16_, c_nn bq16_, c_nn bq16_, c_nn bq16_, c_nn bq21_] [k_c fq3_, k_c fq8_, k_c fq10_, k_c fq12_, k_c fq17_, k_c fq22_, k_c fq24_] (by kernel_rfl)
  have hq2_ := (if_neg bq1_).symm.trans h
  by_cases bq26_ : e > (100 : Int)
  · have hq27_ := (if_pos bq26_).symm.trans hq2_
    obtain ⟨r52, fq28_, hq29_⟩ := pullD_elim hq27_
    replace fq28_ := m_50_ok fq28_
    by_cases bq30_ : r52 ≠ (0 : Int)
    · have hq31_ := (if_pos bq30_).symm.trans hq29_
      obtain rfl := Option.some.inj hq31_
      exact con_pc (op := true) (I := [38, 51, 73, 63, 97]) (sp := endOf_sp) 3000 (bT 1 (bF 4 (bT 2 (bF 4 (bT 2 []))))) [iD r52] [c_T, c_n b1_, c_n b1_, c_n b1_, c_n b1_, c_d b3_, c_T, c_n bq1_, c_n bq1_, c_n bq1_, c_n bq1_, c_d bq26_, c_le 1, c_b bq30_] [k_c fq28_] (by kernel_rfl)
    have hq31_ := (if_neg bq30_).symm.trans hq29_
    have bq32_ : r52 = (0 : Int) := by first | exact bq30_ | simpa using bq30_
    obtain ⟨⟨r53, r54, r55⟩, fq33_, hq34_⟩ := pullD_elim hq31_
    replace fq33_ := m_79_ok fq33_
    obtain ⟨⟨r56, r57, r58⟩, fq35_, hq36_⟩ := pullD_elim hq34_
    replace fq35_ := m_79_ok fq35_
    obtain ⟨r59, fq37_, hq38_⟩ := pullD_elim hq36_
    replace fq37_ := m_80_ok fq37_
    by_cases bq39_ : r59 = false
    · have hq40_ := (if_pos bq39_).symm.trans hq38_
      obtain rfl := Option.some.inj hq40_
      exact con_pc (op := true) (I := [38, 51, 73, 63, 97]) (sp := endOf_sp) 3000 (bT 1 (bF 4 (bT 2 (bF 4 (bT 1 (bF 1 (bT 5 []))))))) [iD r52, (shNK4_0 r53 r54 r55), (shNK4_0 r56 r57 r58), .one (.bool r59)] [c_T, c_n b1_, c_n b1_, c_n b1_, c_n b1_, c_d b3_, c_T, c_n bq1_, c_n bq1_, c_n bq1_, c_n bq1_, c_d bq26_, c_le 1, c_bn bq32_, c_no bq39_, c_no bq39_, c_no bq39_, c_no bq39_, c_T] [k_c fq28_, k_c fq33_, k_c fq35_, k_c fq37_] (by kernel_rfl)
    have hq40_ := (if_neg bq39_).symm.trans hq38_
    have bq41_ : r59 = true := by first | exact bq39_ | simpa using bq39_
    obtain ⟨r60, fq42_, hq43_⟩ := pullD_elim hq40_
    replace fq42_ := m_80_ok fq42_
    by_cases bq44_ : r60 = false
    · have hq45_ := (if_pos bq44_).symm.trans hq43_
      obtain rfl := Option.some.inj hq45_
      exact con_pc (op := true) (I := [38, 51, 73, 63, 97]) (sp := endOf_sp) 3000 (bT 1 (bF 4 (bT 2 (bF 4 (bT 1 (bF 5 (bT 1 []))))))) [iD r52, (shNK4_0 r53 r54 r55), (shNK4_0 r56 r57 r58), .one (.bool r59), .one (.bool r60)] [c_T, c_n b1_, c_n b1_, c_n b1_, c_n b1_, c_d b3_, c_T, c_n bq1_, c_n bq1_, c_n bq1_, c_n bq1_, c_d bq26_, c_le 1, c_bn bq32_, c_nn bq41_, c_nn bq41_, c_nn bq41_, c_nn bq41_, c_no bq44_] [k_c fq28_, k_c fq33_, k_c fq35_, k_c fq37_, k_c fq42_] (by kernel_rfl)
    have hq45_ := (if_neg bq44_).symm.trans hq43_
    have bq46_ : r60 = true := by first | exact bq44_ | simpa using bq44_
    obtain ⟨⟨r61, r62⟩, fq47_, hq48_⟩ := pullD_elim hq45_
    replace fq47_ := m_81_ok fq47_
    obtain ⟨⟨r63, r64⟩, fq49_, hq50_⟩ := pullD_elim hq48_
    replace fq49_ := m_81_ok fq49_
    obtain rfl := Option.some.inj hq50_
    exact con_pc (op := true) (I := [38, 51, 73, 63, 97]) (sp := endOf_sp) 3000 (bT 1 (bF 4 (bT 2 (bF 4 (bT 1 (bF 6 [])))))) [iD r52, (shNK4_0 r53 r54 r55), (shNK4_0 r56 r57 r58), .one (.bool r59), .one (.bool r60), .agg [iD r61, iD r62], .agg [iD r63, iD r64]] [c_T, c_n b1_, c_n b1_, c_n b1_, c_n b1_, c_d b3_, c_T, c_n bq1_, c_n bq1_, c_n bq1_, c_n bq1_, c_d bq26_, c_le 1, c_bn bq32_, c_nn bq41_, c_nn bq41_, c_nn bq41_, c_nn bq41_, c_nn bq46_] [k_c fq28_, k_c fq33_, k_c fq35_, k_c fq37_, k_c fq42_, k_c fq47_, k_c fq49_] (by kernel_rfl)
  have hq27_ := (if_neg bq26_).symm.trans hq2_
  obtain ⟨r65, fq51_, hq52_⟩ := pullD_elim hq27_
  replace fq51_ := m_50_ok fq51_
  by_cases bq53_ : r65 ≠ (0 : Int)
  · have hq54_ := (if_pos bq53_).symm.trans hq52_
    obtain rfl := Option.some.inj hq54_
    exact con_pc (op := true) (I := [38, 51, 73, 63, 97]) (sp := endOf_sp) 3000 (bT 1 (bF 4 (bT 2 (bF 6 (bT 1 []))))) [iD r65] [c_T, c_n b1_, c_n b1_, c_n b1_, c_n b1_, c_d b3_, c_T, c_n bq1_, c_n bq1_, c_n bq1_, c_n bq1_, c_n bq26_, c_F, c_le 1, c_b bq53_] [k_c fq51_] (by kernel_rfl)
  have hq54_ := (if_neg bq53_).symm.trans hq52_
  have bq55_ : r65 = (0 : Int) := by first | exact bq53_ | simpa using bq53_
  obtain ⟨⟨r66, r67, r68⟩, fq56_, hq57_⟩ := pullD_elim hq54_
  replace fq56_ := m_79_ok fq56_
  obtain ⟨⟨r69, r70, r71⟩, fq58_, hq59_⟩ := pullD_elim hq57_
  replace fq58_ := m_79_ok fq58_
  obtain ⟨r72, fq60_, hq61_⟩ := pullD_elim hq59_
  replace fq60_ := m_80_ok fq60_
  by_cases bq62_ : r72 = false
  · have hq63_ := (if_pos bq62_).symm.trans hq61_
    obtain rfl := Option.some.inj hq63_
    exact con_pc (op := true) (I := [38, 51, 73, 63, 97]) (sp := endOf_sp) 3000 (bT 1 (bF 4 (bT 2 (bF 7 (bT 5 []))))) [iD r65, (shNK4_0 r66 r67 r68), (shNK4_0 r69 r70 r71), .one (.bool r72)] [c_T, c_n b1_, c_n b1_, c_n b1_, c_n b1_, c_d b3_, c_T, c_n bq1_, c_n bq1_, c_n bq1_, c_n bq1_, c_n bq26_, c_F, c_le 1, c_bn bq55_, c_no bq62_, c_no bq62_, c_no bq62_, c_no bq62_, c_T] [k_c fq51_, k_c fq56_, k_c fq58_, k_c fq60_] (by kernel_rfl)
  have hq63_ := (if_neg bq62_).symm.trans hq61_
  have bq64_ : r72 = true := by first | exact bq62_ | simpa using bq62_
  obtain ⟨r73, fq65_, hq66_⟩ := pullD_elim hq63_
  replace fq65_ := m_80_ok fq65_
  by_cases bq67_ : r73 = false
  · have hq68_ := (if_pos bq67_).symm.trans hq66_
    obtain rfl := Option.some.inj hq68_
    exact con_pc (op := true) (I := [38, 51, 73, 63, 97]) (sp := endOf_sp) 3000 (bT 1 (bF 4 (bT 2 (bF 11 (bT 1 []))))) [iD r65, (shNK4_0 r66 r67 r68), (shNK4_0 r69 r70 r71), .one (.bool r72), .one (.bool r73)] [c_T, c_n b1_, c_n b1_, c_n b1_, c_n b1_, c_d b3_, c_T, c_n bq1_, c_n bq1_, c_n bq1_, c_n bq1_, c_n bq26_, c_F, c_le 1, c_bn bq55_, c_nn bq64_, c_nn bq64_, c_nn bq64_, c_nn bq64_, c_no bq67_] [k_c fq51_, k_c fq56_, k_c fq58_, k_c fq60_, k_c fq65_] (by kernel_rfl)
  have hq68_ := (if_neg bq67_).symm.trans hq66_
  have bq69_ : r73 = true := by first | exact bq67_ | simpa using bq67_
  obtain ⟨⟨r74, r75⟩, fq70_, hq71_⟩ := pullD_elim hq68_
  replace fq70_ := m_81_ok fq70_
  obtain ⟨⟨r76, r77⟩, fq72_, hq73_⟩ := pullD_elim hq71_
  replace fq72_ := m_81_ok fq72_
  obtain rfl := Option.some.inj hq73_
  exact con_pc (op := true) (I := [38, 51, 73, 63, 97]) (sp := endOf_sp) 3000 (bT 1 (bF 4 (bT 2 (bF 12 [])))) [iD r65, (shNK4_0 r66 r67 r68), (shNK4_0 r69 r70 r71), .one (.bool r72), .one (.bool r73), .agg [iD r74, iD r75], .agg [iD r76, iD r77]] [c_T, c_n b1_, c_n b1_, c_n b1_, c_n b1_, c_d b3_, c_T, c_n bq1_, c_n bq1_, c_n bq1_, c_n bq1_, c_n bq26_, c_F, c_le 1, c_bn bq55_, c_nn bq64_, c_nn bq64_, c_nn bq64_, c_nn bq64_, c_nn bq69_] [k_c fq51_, k_c fq56_, k_c fq58_, k_c fq60_, k_c fq65_, k_c fq70_, k_c fq72_] (by kernel_rfl)
theorem endOf_M_s2_ok (a b c e : Int)  (b1_ : ¬ (a < (-500 : Int))) (b3_ : ¬ (a > (3000 : Int))) (b5_ : b < (-500 : Int)) {r : D} (h : endOf_M_s2 a b c e = some r) : Con 38 [(shNK4_0 a b c), iD e] r := by
  unfold endOf_M_s2 at h
  by_cases bq1_ : e < (0 : Int)
  · have hq2_ := (if_pos bq1_).symm.trans h
    obtain ⟨r78, fq3_, hq4_⟩ := pullD_elim hq2_
    replace fq3_ := m_50_ok fq3_
    by_cases bq5_ : r78 ≠ (0 : Int)
    · have hq6_ := (if_pos bq5_).symm.trans hq4_
      obtain rfl := Option.some.inj hq6_
      exact con_pc (op := true) (I := [38, 51, 73, 63, 97]) (sp := endOf_sp) 3000 (bT 1 (bF 5 (bT 13 []))) [iD r78] [c_T, c_n b1_, c_n b1_, c_n b1_, c_n b1_, c_n b3_, c_T, c_d b5_, c_d b5_, c_d b5_, c_d b5_, c_T, c_T, c_d bq1_, c_d bq1_, c_d bq1_, c_d bq1_, c_T, c_le 1, c_b bq5_] [k_c fq3_] (by kernel_rfl)
    have hq6_ := (if_neg bq5_).symm.trans hq4_
    have bq7_ : r78 = (0 : Int) := by first | exact bq5_ | simpa using bq5_
    obtain ⟨⟨r79, r80, r81⟩, fq8_, hq9_⟩ := pullD_elim hq6_
    replace fq8_ := m_79_ok fq8_
    obtain ⟨⟨r82, r83, r84⟩, fq10_, hq11_⟩ := pullD_elim hq9_
    replace fq10_ := m_79_ok fq10_
    obtain ⟨r85, fq12_, hq13_⟩ := pullD_elim hq11_
    replace fq12_ := m_80_ok fq12_
    by_cases bq14_ : r85 = false
    · have hq15_ := (if_pos bq14_).symm.trans hq13_
      obtain rfl := Option.some.inj hq15_
      exact con_pc (op := true) (I := [38, 51, 73, 63, 97]) (sp := endOf_sp) 3000 (bT 1 (bF 5 (bT 12 (bF 1 (bT 5 []))))) [iD r78, (shNK4_0 r79 r80 r81), (shNK4_0 r82 r83 r84), .one (.bool r85)] [c_T, c_n b1_, c_n b1_, c_n b1_, c_n b1_, c_n b3_, c_T, c_d b5_, c_d b5_, c_d b5_, c_d b5_, c_T, c_T, c_d bq1_, c_d bq1_, c_d bq1_, c_d bq1_, c_T, c_le 1, c_bn bq7_, c_no bq14_, c_no bq14_, c_no bq14_, c_no bq14_, c_T] [k_c fq3_, k_c fq8_, k_c fq10_, k_c fq12_] (by kernel_rfl)
    have hq15_ := (if_neg bq14_).symm.trans hq13_
    have bq16_ : r85 = true := by first | exact bq14_ | simpa using bq14_
    obtain ⟨r86, fq17_, hq18_⟩ := pullD_elim hq15_
    replace fq17_ := m_80_ok fq17_
    by_cases bq19_ : r86 = false
    · have hq20_ := (if_pos bq19_).symm.trans hq18_
      obtain rfl := Option.some.inj hq20_
      exact con_pc (op := true) (I := [38, 51, 73, 63, 97]) (sp := endOf_sp) 3000 (bT 1 (bF 5 (bT 12 (bF 5 (bT 1 []))))) [iD r78, (shNK4_0 r79 r80 r81), (shNK4_0 r82 r83 r84), .one (.bool r85), .one (.bool r86)] [c_T, c_n b1_, c_n b1_, c_n b1_, c_n b1_, c_n b3_, c_T, c_d b5_, c_d b5_, c_d b5_, c_d b5_, c_T, c_T, c_d bq1_, c_d bq1_, c_d bq1_, c_d bq1_, c_T, c_le 1, c_bn bq7_, c_nn bq16_, c_nn bq16_, c_nn bq16_, c_nn bq16_, c_no bq19_] [k_c fq3_, k_c fq8_, k_c fq10_, k_c fq12_, k_c fq17_] (by kernel_rfl)
    have hq20_ := (if_neg bq19_).symm.trans hq18_
    have bq21_ : r86 = true := by first | exact bq19_ | simpa using bq19_
    obtain ⟨⟨r87, r88⟩, fq22_, hq23_⟩ := pullD_elim hq20_
    replace fq22_ := m_81_ok fq22_
    obtain ⟨⟨r89, r90⟩, fq24_, hq25_⟩ := pullD_elim hq23_
    replace fq24_ := m_81_ok fq24_
    obtain rfl := Option.some.inj hq25_
    exact con_pc (op := true) (I := [38, 51, 73, 63, 97]) (sp := endOf_sp) 3000 (bT 1 (bF 5 (bT 12 (bF 6 [])))) [iD r78, (shNK4_0 r79 r80 r81), (shNK4_0 r82 r83 r84), .one (.bool r85), .one (.bool r86), .agg [iD r87, iD r88], .agg [iD r89, iD r90]] [c_T, c_n b1_, c_n b1_, c_n b1_, c_n b1_, c_n b3_, c_T, c_d b5_, c_d b5_, c_d b5_, c_d b5_, c_T, c_T, c_d bq1_, c_d bq1_, c_d bq1_, c_d bq1_, c_T, c_le 1, c_bn bq7_, c_nn bq16_, c_nn bq16_, c_nn bq16_, c_nn bq16_, c_nn bq21_] [k_c fq3_, k_c fq8_, k_c fq10_, k_c fq12_, k_c fq17_, k_c fq22_, k_c fq24_] (by kernel_rfl)
  have hq2_ := (if_neg bq1_).symm.trans h
  by_cases bq26_ : e > (100 : Int)
  · have hq27_ := (if_pos bq26_).symm.trans hq2_
    obtain ⟨r91, fq28_, hq29_⟩ := pullD_elim hq27_
    replace fq28_ := m_50_ok fq28_
    by_cases bq30_ : r91 ≠ (0 : Int)
    · have hq31_ := (if_pos bq30_).symm.trans hq29_
      obtain rfl := Option.some.inj hq31_
      exact con_pc (op := true) (I := [38, 51, 73, 63, 97]) (sp := endOf_sp) 3000 (bT 1 (bF 5 (bT 7 (bF 4 (bT 2 []))))) [iD r91] [c_T, c_n b1_, c_n b1_, c_n b1_, c_n b1_, c_n b3_, c_T, c_d b5_, c_d b5_, c_d b5_, c_d b5_, c_T, c_T, c_n bq1_, c_n bq1_, c_n bq1_, c_n bq1_, c_d bq26_, c_le 1, c_b bq30_] [k_c fq28_] (by kernel_rfl)
    have hq31_ := (if_neg bq30_).symm.trans hq29_
    have bq32_ : r91 = (0 : Int) := by first | exact bq30_ | simpa using bq30_
    obtain ⟨⟨r92, r93, r94⟩, fq33_, hq34_⟩ := pullD_elim hq31_
    replace fq33_ := m_79_ok fq33_
    obtain ⟨⟨r95, r96, r97⟩, fq35_, hq36_⟩ := pullD_elim hq34_
    replace fq35_ := m_79_ok fq35_
    obtain ⟨r98, fq37_, hq38_⟩ := pullD_elim hq36_
    replace fq37_ := m_80_ok fq37_
    by_cases bq39_ : r98 = false
    · have hq40_ := (if_pos bq39_).symm.trans hq38_
      obtain rfl := Option.some.inj hq40_
      exact con_pc (op := true) (I := [38, 51, 73, 63, 97]) (sp := endOf_sp) 3000 (bT 1 (bF 5 (bT 7 (bF 4 (bT 1 (bF 1 (bT 5 []))))))) [iD r91, (shNK4_0 r92 r93 r94), (shNK4_0 r95 r96 r97), .one (.bool r98)] [c_T, c_n b1_, c_n b1_, c_n b1_, c_n b1_, c_n b3_, c_T, c_d b5_, c_d b5_, c_d b5_, c_d b5_, c_T, c_T, c_n bq1_, c_n bq1_, c_n bq1_, c_n bq1_, c_d bq26_, c_le 1, c_bn bq32_, c_no bq39_, c_no bq39_, c_no bq39_, c_no bq39_, c_T] [k_c fq28_, k_c fq33_, k_c fq35_, k_c fq37_] (by kernel_rfl)
    have hq40_ := (if_neg bq39_).symm.trans hq38_
    have bq41_ : r98 = true := by first | exact bq39_ | simpa using bq39_
    obtain ⟨r99, fq42_, hq43_⟩ := pullD_elim hq40_
    replace fq42_ := m_80_ok fq42_
    by_cases bq44_ : r99 = false
    · have hq45_ := (if_pos bq44_).symm.trans hq43_
      obtain rfl := Option.some.inj hq45_
      exact con_pc (op := true) (I := [38, 51, 73, 63, 97]) (sp := endOf_sp) 3000 (bT 1 (bF 5 (bT 7 (bF 4 (bT 1 (bF 5 (bT 1 []))))))) [iD r91, (shNK4_0 r92 r93 r94), (shNK4_0 r95 r96 r97), .one (.bool r98), .one (.bool r99)] [c_T, c_n b1_, c_n b1_, c_n b1_, c_n b1_, c_n b3_, c_T, c_d b5_, c_d b5_, c_d b5_, c_d b5_, c_T, c_T, c_n bq1_, c_n bq1_, c_n bq1_, c_n bq1_, c_d bq26_, c_le 1, c_bn bq32_, c_nn bq41_, c_nn bq41_, c_nn bq41_, c_nn bq41_, c_no bq44_] [k_c fq28_, k_c fq33_, k_c fq35_, k_c fq37_, k_c fq42_] (by kernel_rfl)
    have hq45_ := (if_neg bq44_).symm.trans hq43_
    have bq46_ : r99 = true := by first | exact bq44_ | simpa using bq44_
    obtain ⟨⟨r100, r101⟩, fq47_, hq48_⟩ := pullD_elim hq45_
    replace fq47_ := m_81_ok fq47_
    obtain ⟨⟨r102, r103⟩, fq49_, hq50_⟩ := pullD_elim hq48_
    replace fq49_ := m_81_ok fq49_
    obtain rfl := Option.some.inj hq50_
    exact con_pc (op := true) (I := [38, 51, 73, 63, 97]) (sp := endOf_sp) 3000 (bT 1 (bF 5 (bT 7 (bF 4 (bT 1 (bF 6 [])))))) [iD r91, (shNK4_0 r92 r93 r94), (shNK4_0 r95 r96 r97), .one (.bool r98), .one (.bool r99), .agg [iD r100, iD r101], .agg [iD r102, iD r103]] [c_T, c_n b1_, c_n b1_, c_n b1_, c_n b1_, c_n b3_, c_T, c_d b5_, c_d b5_, c_d b5_, c_d b5_, c_T, c_T, c_n bq1_, c_n bq1_, c_n bq1_, c_n bq1_, c_d bq26_, c_le 1, c_bn bq32_, c_nn bq41_, c_nn bq41_, c_nn bq41_, c_nn bq41_, c_nn bq46_] [k_c fq28_, k_c fq33_, k_c fq35_, k_c fq37_, k_c fq42_, k_c fq47_, k_c fq49_] (by kernel_rfl)
  have hq27_ := (if_neg bq26_).symm.trans hq2_
  obtain ⟨r104, fq51_, hq52_⟩ := pullD_elim hq27_
  replace fq51_ := m_50_ok fq51_
  by_cases bq53_ : r104 ≠ (0 : Int)
  · have hq54_ := (if_pos bq53_).symm.trans hq52_
    obtain rfl := Option.some.inj hq54_
    exact con_pc (op := true) (I := [38, 51, 73, 63, 97]) (sp := endOf_sp) 3000 (bT 1 (bF 5 (bT 7 (bF 6 (bT 1 []))))) [iD r104] [c_T, c_n b1_, c_n b1_, c_n b1_, c_n b1_, c_n b3_, c_T, c_d b5_, c_d b5_, c_d b5_, c_d b5_, c_T, c_T, c_n bq1_, c_n bq1_, c_n bq1_, c_n bq1_, c_n bq26_, c_F, c_le 1, c_b bq53_] [k_c fq51_] (by kernel_rfl)
  have hq54_ := (if_neg bq53_).symm.trans hq52_
  have bq55_ : r104 = (0 : Int) := by first | exact bq53_ | simpa using bq53_
  obtain ⟨⟨r105, r106, r107⟩, fq56_, hq57_⟩ := pullD_elim hq54_
  replace fq56_ := m_79_ok fq56_
  obtain ⟨⟨r108, r109, r110⟩, fq58_, hq59_⟩ := pullD_elim hq57_
  replace fq58_ := m_79_ok fq58_
  obtain ⟨r111, fq60_, hq61_⟩ := pullD_elim hq59_
  replace fq60_ := m_80_ok fq60_
  by_cases bq62_ : r111 = false
  · have hq63_ := (if_pos bq62_).symm.trans hq61_
    obtain rfl := Option.some.inj hq63_
    exact con_pc (op := true) (I := [38, 51, 73, 63, 97]) (sp := endOf_sp) 3000 (bT 1 (bF 5 (bT 7 (bF 7 (bT 5 []))))) [iD r104, (shNK4_0 r105 r106 r107), (shNK4_0 r108 r109 r110), .one (.bool r111)] [c_T, c_n b1_, c_n b1_, c_n b1_, c_n b1_, c_n b3_, c_T, c_d b5_, c_d b5_, c_d b5_, c_d b5_, c_T, c_T, c_n bq1_, c_n bq1_, c_n bq1_, c_n bq1_, c_n bq26_, c_F, c_le 1, c_bn bq55_, c_no bq62_, c_no bq62_, c_no bq62_, c_no bq62_, c_T] [k_c fq51_, k_c fq56_, k_c fq58_, k_c fq60_] (by kernel_rfl)
  have hq63_ := (if_neg bq62_).symm.trans hq61_
  have bq64_ : r111 = true := by first | exact bq62_ | simpa using bq62_
  obtain ⟨r112, fq65_, hq66_⟩ := pullD_elim hq63_
  replace fq65_ := m_80_ok fq65_
  by_cases bq67_ : r112 = false
  · have hq68_ := (if_pos bq67_).symm.trans hq66_
    obtain rfl := Option.some.inj hq68_
    exact con_pc (op := true) (I := [38, 51, 73, 63, 97]) (sp := endOf_sp) 3000 (bT 1 (bF 5 (bT 7 (bF 11 (bT 1 []))))) [iD r104, (shNK4_0 r105 r106 r107), (shNK4_0 r108 r109 r110), .one (.bool r111), .one (.bool r112)] [c_T, c_n b1_, c_n b1_, c_n b1_, c_n b1_, c_n b3_, c_T, c_d b5_, c_d b5_, c_d b5_, c_d b5_, c_T, c_T, c_n bq1_, c_n bq1_, c_n bq1_, c_n bq1_, c_n bq26_, c_F, c_le 1, c_bn bq55_, c_nn bq64_, c_nn bq64_, c_nn bq64_, c_nn bq64_, c_no bq67_] [k_c fq51_, k_c fq56_, k_c fq58_, k_c fq60_, k_c fq65_] (by kernel_rfl)
  have hq68_ := (if_neg bq67_).symm.trans hq66_
  have bq69_ : r112 = true := by first | exact bq67_ | simpa using bq67_
  obtain ⟨⟨r113, r114⟩, fq70_, hq71_⟩ := pullD_elim hq68_
  replace fq70_ := m_81_ok fq70_
  obtain ⟨⟨r115, r116⟩, fq72_, hq73_⟩ := pullD_elim hq71_
  replace fq72_ := m_81_ok fq72_
  obtain rfl := Option.some.inj hq73_
  exact con_pc (op := true) (I := [38, 51, 73, 63, 97]) (sp := endOf_sp) 3000 (bT 1 (bF 5 (bT 7 (bF 12 [])))) [iD r104, (shNK4_0 r105 r106 r107), (shNK4_0 r108 r109 r110), .one (.bool r111), .one (.bool r112), .agg [iD r113, iD r114], .agg [iD r115, iD r116]] [c_T, c_n b1_, c_n b1_, c_n b1_, c_n b1_, c_n b3_, c_T, c_d b5_, c_d b5_, c_d b5_, c_d b5_, c_T, c_T, c_n bq1_, c_n bq1_, c_n bq1_, c_n bq1_, c_n bq26_, c_F, c_le 1, c_bn bq55_, c_nn bq64_, c_nn bq64_, c_nn bq64_, c_nn bq64_, c_nn bq69_] [k_c fq51_, k_c fq56_, k_c fq58_, k_c fq60_, k_c fq65_, k_c fq70_, k_c fq72_] (by kernel_rfl)
theorem endOf_M_s3_ok (a b c e : Int)  (b1_ : ¬ (a < (-500 : Int))) (b3_ : ¬ (a > (3000 : Int))) (b5_ : ¬ (b < (-500 : Int))) (b7_ : b > (3000 : Int)) {r : D} (h : endOf_M_s3 a b c e = some r) : Con 38 [(shNK4_0 a b c), iD e] r := by
  unfold endOf_M_s3 at h
  by_cases bq1_ : e < (0 : Int)
  · have hq2_ := (if_pos bq1_).symm.trans h
    obtain ⟨r117, fq3_, hq4_⟩ := pullD_elim hq2_
    replace fq3_ := m_50_ok fq3_
    by_cases bq5_ : r117 ≠ (0 : Int)
    · have hq6_ := (if_pos bq5_).symm.trans hq4_
      obtain rfl := Option.some.inj hq6_
      exact con_pc (op := true) (I := [38, 51, 73, 63, 97]) (sp := endOf_sp) 3000 (bT 1 (bF 5 (bT 1 (bF 4 (bT 8 []))))) [iD r117] [c_T, c_n b1_, c_n b1_, c_n b1_, c_n b1_, c_n b3_, c_T, c_n b5_, c_n b5_, c_n b5_, c_n b5_, c_d b7_, c_T, c_d bq1_, c_d bq1_, c_d bq1_, c_d bq1_, c_T, c_le 1, c_b bq5_] [k_c fq3_] (by kernel_rfl)
    have hq6_ := (if_neg bq5_).symm.trans hq4_
    have bq7_ : r117 = (0 : Int) := by first | exact bq5_ | simpa using bq5_
    obtain ⟨⟨r118, r119, r120⟩, fq8_, hq9_⟩ := pullD_elim hq6_
    replace fq8_ := m_79_ok fq8_
    obtain ⟨⟨r121, r122, r123⟩, fq10_, hq11_⟩ := pullD_elim hq9_
    replace fq10_ := m_79_ok fq10_
    obtain ⟨r124, fq12_, hq13_⟩ := pullD_elim hq11_
    replace fq12_ := m_80_ok fq12_
    by_cases bq14_ : r124 = false
    · have hq15_ := (if_pos bq14_).symm.trans hq13_
      obtain rfl := Option.some.inj hq15_
      exact con_pc (op := true) (I := [38, 51, 73, 63, 97]) (sp := endOf_sp) 3000 (bT 1 (bF 5 (bT 1 (bF 4 (bT 7 (bF 1 (bT 5 []))))))) [iD r117, (shNK4_0 r118 r119 r120), (shNK4_0 r121 r122 r123), .one (.bool r124)] [c_T, c_n b1_, c_n b1_, c_n b1_, c_n b1_, c_n b3_, c_T, c_n b5_, c_n b5_, c_n b5_, c_n b5_, c_d b7_, c_T, c_d bq1_, c_d bq1_, c_d bq1_, c_d bq1_, c_T, c_le 1, c_bn bq7_, c_no bq14_, c_no bq14_, c_no bq14_, c_no bq14_, c_T] [k_c fq3_, k_c fq8_, k_c fq10_, k_c fq12_] (by kernel_rfl)
    have hq15_ := (if_neg bq14_).symm.trans hq13_
    have bq16_ : r124 = true := by first | exact bq14_ | simpa using bq14_
    obtain ⟨r125, fq17_, hq18_⟩ := pullD_elim hq15_
    replace fq17_ := m_80_ok fq17_
    by_cases bq19_ : r125 = false
    · have hq20_ := (if_pos bq19_).symm.trans hq18_
      obtain rfl := Option.some.inj hq20_
      exact con_pc (op := true) (I := [38, 51, 73, 63, 97]) (sp := endOf_sp) 3000 (bT 1 (bF 5 (bT 1 (bF 4 (bT 7 (bF 5 (bT 1 []))))))) [iD r117, (shNK4_0 r118 r119 r120), (shNK4_0 r121 r122 r123), .one (.bool r124), .one (.bool r125)] [c_T, c_n b1_, c_n b1_, c_n b1_, c_n b1_, c_n b3_, c_T, c_n b5_, c_n b5_, c_n b5_, c_n b5_, c_d b7_, c_T, c_d bq1_, c_d bq1_, c_d bq1_, c_d bq1_, c_T, c_le 1, c_bn bq7_, c_nn bq16_, c_nn bq16_, c_nn bq16_, c_nn bq16_, c_no bq19_] [k_c fq3_, k_c fq8_, k_c fq10_, k_c fq12_, k_c fq17_] (by kernel_rfl)
    have hq20_ := (if_neg bq19_).symm.trans hq18_
    have bq21_ : r125 = true := by first | exact bq19_ | simpa using bq19_
    obtain ⟨⟨r126, r127⟩, fq22_, hq23_⟩ := pullD_elim hq20_
    replace fq22_ := m_81_ok fq22_
    obtain ⟨⟨r128, r129⟩, fq24_, hq25_⟩ := pullD_elim hq23_
    replace fq24_ := m_81_ok fq24_
    obtain rfl := Option.some.inj hq25_
    exact con_pc (op := true) (I := [38, 51, 73, 63, 97]) (sp := endOf_sp) 3000 (bT 1 (bF 5 (bT 1 (bF 4 (bT 7 (bF 6 [])))))) [iD r117, (shNK4_0 r118 r119 r120), (shNK4_0 r121 r122 r123), .one (.bool r124), .one (.bool r125), .agg [iD r126, iD r127], .agg [iD r128, iD r129]] [c_T, c_n b1_, c_n b1_, c_n b1_, c_n b1_, c_n b3_, c_T, c_n b5_, c_n b5_, c_n b5_, c_n b5_, c_d b7_, c_T, c_d bq1_, c_d bq1_, c_d bq1_, c_d bq1_, c_T, c_le 1, c_bn bq7_, c_nn bq16_, c_nn bq16_, c_nn bq16_, c_nn bq16_, c_nn bq21_] [k_c fq3_, k_c fq8_, k_c fq10_, k_c fq12_, k_c fq17_, k_c fq22_, k_c fq24_] (by kernel_rfl)
  have hq2_ := (if_neg bq1_).symm.trans h
  by_cases bq26_ : e > (100 : Int)
  · have hq27_ := (if_pos bq26_).symm.trans hq2_
    obtain ⟨r130, fq28_, hq29_⟩ := pullD_elim hq27_
    replace fq28_ := m_50_ok fq28_
    by_cases bq30_ : r130 ≠ (0 : Int)
    · have hq31_ := (if_pos bq30_).symm.trans hq29_
      obtain rfl := Option.some.inj hq31_
      exact con_pc (op := true) (I := [38, 51, 73, 63, 97]) (sp := endOf_sp) 3000 (bT 1 (bF 5 (bT 1 (bF 4 (bT 2 (bF 4 (bT 2 []))))))) [iD r130] [c_T, c_n b1_, c_n b1_, c_n b1_, c_n b1_, c_n b3_, c_T, c_n b5_, c_n b5_, c_n b5_, c_n b5_, c_d b7_, c_T, c_n bq1_, c_n bq1_, c_n bq1_, c_n bq1_, c_d bq26_, c_le 1, c_b bq30_] [k_c fq28_] (by kernel_rfl)
    have hq31_ := (if_neg bq30_).symm.trans hq29_
    have bq32_ : r130 = (0 : Int) := by first | exact bq30_ | simpa using bq30_
    obtain ⟨⟨r131, r132, r133⟩, fq33_, hq34_⟩ := pullD_elim hq31_
    replace fq33_ := m_79_ok fq33_
    obtain ⟨⟨r134, r135, r136⟩, fq35_, hq36_⟩ := pullD_elim hq34_
    replace fq35_ := m_79_ok fq35_
    obtain ⟨r137, fq37_, hq38_⟩ := pullD_elim hq36_
    replace fq37_ := m_80_ok fq37_
    by_cases bq39_ : r137 = false
    · have hq40_ := (if_pos bq39_).symm.trans hq38_
      obtain rfl := Option.some.inj hq40_
      exact con_pc (op := true) (I := [38, 51, 73, 63, 97]) (sp := endOf_sp) 3000 (bT 1 (bF 5 (bT 1 (bF 4 (bT 2 (bF 4 (bT 1 (bF 1 (bT 5 []))))))))) [iD r130, (shNK4_0 r131 r132 r133), (shNK4_0 r134 r135 r136), .one (.bool r137)] [c_T, c_n b1_, c_n b1_, c_n b1_, c_n b1_, c_n b3_, c_T, c_n b5_, c_n b5_, c_n b5_, c_n b5_, c_d b7_, c_T, c_n bq1_, c_n bq1_, c_n bq1_, c_n bq1_, c_d bq26_, c_le 1, c_bn bq32_, c_no bq39_, c_no bq39_, c_no bq39_, c_no bq39_, c_T] [k_c fq28_, k_c fq33_, k_c fq35_, k_c fq37_] (by kernel_rfl)
    have hq40_ := (if_neg bq39_).symm.trans hq38_
    have bq41_ : r137 = true := by first | exact bq39_ | simpa using bq39_
    obtain ⟨r138, fq42_, hq43_⟩ := pullD_elim hq40_
    replace fq42_ := m_80_ok fq42_
    by_cases bq44_ : r138 = false
    · have hq45_ := (if_pos bq44_).symm.trans hq43_
      obtain rfl := Option.some.inj hq45_
      exact con_pc (op := true) (I := [38, 51, 73, 63, 97]) (sp := endOf_sp) 3000 (bT 1 (bF 5 (bT 1 (bF 4 (bT 2 (bF 4 (bT 1 (bF 5 (bT 1 []))))))))) [iD r130, (shNK4_0 r131 r132 r133), (shNK4_0 r134 r135 r136), .one (.bool r137), .one (.bool r138)] [c_T, c_n b1_, c_n b1_, c_n b1_, c_n b1_, c_n b3_, c_T, c_n b5_, c_n b5_, c_n b5_, c_n b5_, c_d b7_, c_T, c_n bq1_, c_n bq1_, c_n bq1_, c_n bq1_, c_d bq26_, c_le 1, c_bn bq32_, c_nn bq41_, c_nn bq41_, c_nn bq41_, c_nn bq41_, c_no bq44_] [k_c fq28_, k_c fq33_, k_c fq35_, k_c fq37_, k_c fq42_] (by kernel_rfl)
    have hq45_ := (if_neg bq44_).symm.trans hq43_
    have bq46_ : r138 = true := by first | exact bq44_ | simpa using bq44_
    obtain ⟨⟨r139, r140⟩, fq47_, hq48_⟩ := pullD_elim hq45_
    replace fq47_ := m_81_ok fq47_
    obtain ⟨⟨r141, r142⟩, fq49_, hq50_⟩ := pullD_elim hq48_
    replace fq49_ := m_81_ok fq49_
    obtain rfl := Option.some.inj hq50_
    exact con_pc (op := true) (I := [38, 51, 73, 63, 97]) (sp := endOf_sp) 3000 (bT 1 (bF 5 (bT 1 (bF 4 (bT 2 (bF 4 (bT 1 (bF 6 [])))))))) [iD r130, (shNK4_0 r131 r132 r133), (shNK4_0 r134 r135 r136), .one (.bool r137), .one (.bool r138), .agg [iD r139, iD r140], .agg [iD r141, iD r142]] [c_T, c_n b1_, c_n b1_, c_n b1_, c_n b1_, c_n b3_, c_T, c_n b5_, c_n b5_, c_n b5_, c_n b5_, c_d b7_, c_T, c_n bq1_, c_n bq1_, c_n bq1_, c_n bq1_, c_d bq26_, c_le 1, c_bn bq32_, c_nn bq41_, c_nn bq41_, c_nn bq41_, c_nn bq41_, c_nn bq46_] [k_c fq28_, k_c fq33_, k_c fq35_, k_c fq37_, k_c fq42_, k_c fq47_, k_c fq49_] (by kernel_rfl)
  have hq27_ := (if_neg bq26_).symm.trans hq2_
  obtain ⟨r143, fq51_, hq52_⟩ := pullD_elim hq27_
  replace fq51_ := m_50_ok fq51_
  by_cases bq53_ : r143 ≠ (0 : Int)
  · have hq54_ := (if_pos bq53_).symm.trans hq52_
    obtain rfl := Option.some.inj hq54_
    exact con_pc (op := true) (I := [38, 51, 73, 63, 97]) (sp := endOf_sp) 3000 (bT 1 (bF 5 (bT 1 (bF 4 (bT 2 (bF 6 (bT 1 []))))))) [iD r143] [c_T, c_n b1_, c_n b1_, c_n b1_, c_n b1_, c_n b3_, c_T, c_n b5_, c_n b5_, c_n b5_, c_n b5_, c_d b7_, c_T, c_n bq1_, c_n bq1_, c_n bq1_, c_n bq1_, c_n bq26_, c_F, c_le 1, c_b bq53_] [k_c fq51_] (by kernel_rfl)
  have hq54_ := (if_neg bq53_).symm.trans hq52_
  have bq55_ : r143 = (0 : Int) := by first | exact bq53_ | simpa using bq53_
  obtain ⟨⟨r144, r145, r146⟩, fq56_, hq57_⟩ := pullD_elim hq54_
  replace fq56_ := m_79_ok fq56_
  obtain ⟨⟨r147, r148, r149⟩, fq58_, hq59_⟩ := pullD_elim hq57_
  replace fq58_ := m_79_ok fq58_
  obtain ⟨r150, fq60_, hq61_⟩ := pullD_elim hq59_
  replace fq60_ := m_80_ok fq60_
  by_cases bq62_ : r150 = false
  · have hq63_ := (if_pos bq62_).symm.trans hq61_
    obtain rfl := Option.some.inj hq63_
    exact con_pc (op := true) (I := [38, 51, 73, 63, 97]) (sp := endOf_sp) 3000 (bT 1 (bF 5 (bT 1 (bF 4 (bT 2 (bF 7 (bT 5 []))))))) [iD r143, (shNK4_0 r144 r145 r146), (shNK4_0 r147 r148 r149), .one (.bool r150)] [c_T, c_n b1_, c_n b1_, c_n b1_, c_n b1_, c_n b3_, c_T, c_n b5_, c_n b5_, c_n b5_, c_n b5_, c_d b7_, c_T, c_n bq1_, c_n bq1_, c_n bq1_, c_n bq1_, c_n bq26_, c_F, c_le 1, c_bn bq55_, c_no bq62_, c_no bq62_, c_no bq62_, c_no bq62_, c_T] [k_c fq51_, k_c fq56_, k_c fq58_, k_c fq60_] (by kernel_rfl)
  have hq63_ := (if_neg bq62_).symm.trans hq61_
  have bq64_ : r150 = true := by first | exact bq62_ | simpa using bq62_
  obtain ⟨r151, fq65_, hq66_⟩ := pullD_elim hq63_
  replace fq65_ := m_80_ok fq65_
  by_cases bq67_ : r151 = false
  · have hq68_ := (if_pos bq67_).symm.trans hq66_
    obtain rfl := Option.some.inj hq68_
    exact con_pc (op := true) (I := [38, 51, 73, 63, 97]) (sp := endOf_sp) 3000 (bT 1 (bF 5 (bT 1 (bF 4 (bT 2 (bF 11 (bT 1 []))))))) [iD r143, (shNK4_0 r144 r145 r146), (shNK4_0 r147 r148 r149), .one (.bool r150), .one (.bool r151)] [c_T, c_n b1_, c_n b1_, c_n b1_, c_n b1_, c_n b3_, c_T, c_n b5_, c_n b5_, c_n b5_, c_n b5_, c_d b7_, c_T, c_n bq1_, c_n bq1_, c_n bq1_, c_n bq1_, c_n bq26_, c_F, c_le 1, c_bn bq55_, c_nn bq64_, c_nn bq64_, c_nn bq64_, c_nn bq64_, c_no bq67_] [k_c fq51_, k_c fq56_, k_c fq58_, k_c fq60_, k_c fq65_] (by kernel_rfl)
  have hq68_ := (if_neg bq67_).symm.trans hq66_
  have bq69_ : r151 = true := by first | exact bq67_ | simpa using bq67_
  obtain ⟨⟨r152, r153⟩, fq70_, hq71_⟩ := pullD_elim hq68_
  replace fq70_ := m_81_ok fq70_
  obtain ⟨⟨r154, r155⟩, fq72_, hq73_⟩ := pullD_elim hq71_
  replace fq72_ := m_81_ok fq72_
  obtain rfl := Option.some.inj hq73_
  exact con_pc (op := true) (I := [38, 51, 73, 63, 97]) (sp := endOf_sp) 3000 (bT 1 (bF 5 (bT 1 (bF 4 (bT 2 (bF 12 [])))))) [iD r143, (shNK4_0 r144 r145 r146), (shNK4_0 r147 r148 r149), .one (.bool r150), .one (.bool r151), .agg [iD r152, iD r153], .agg [iD r154, iD r155]] [c_T, c_n b1_, c_n b1_, c_n b1_, c_n b1_, c_n b3_, c_T, c_n b5_, c_n b5_, c_n b5_, c_n b5_, c_d b7_, c_T, c_n bq1_, c_n bq1_, c_n bq1_, c_n bq1_, c_n bq26_, c_F, c_le 1, c_bn bq55_, c_nn bq64_, c_nn bq64_, c_nn bq64_, c_nn bq64_, c_nn bq69_] [k_c fq51_, k_c fq56_, k_c fq58_, k_c fq60_, k_c fq65_, k_c fq70_, k_c fq72_] (by kernel_rfl)
theorem endOf_M_s4_ok (a b c e : Int)  (b1_ : ¬ (a < (-500 : Int))) (b3_ : ¬ (a > (3000 : Int))) (b5_ : ¬ (b < (-500 : Int))) (b7_ : ¬ (b > (3000 : Int))) (b9_ : c < (-500 : Int)) {r : D} (h : endOf_M_s4 a b c e = some r) : Con 38 [(shNK4_0 a b c), iD e] r := by
  unfold endOf_M_s4 at h
  by_cases bq1_ : e < (0 : Int)
  · have hq2_ := (if_pos bq1_).symm.trans h
    obtain ⟨r156, fq3_, hq4_⟩ := pullD_elim hq2_
    replace fq3_ := m_50_ok fq3_
    by_cases bq5_ : r156 ≠ (0 : Int)
    · have hq6_ := (if_pos bq5_).symm.trans hq4_
      obtain rfl := Option.some.inj hq6_
      exact con_pc (op := true) (I := [38, 51, 73, 63, 97]) (sp := endOf_sp) 3000 (bT 1 (bF 5 (bT 1 (bF 5 (bT 13 []))))) [iD r156] [c_T, c_n b1_, c_n b1_, c_n b1_, c_n b1_, c_n b3_, c_T, c_n b5_, c_n b5_, c_n b5_, c_n b5_, c_n b7_, c_T, c_d b9_, c_d b9_, c_d b9_, c_d b9_, c_T, c_T, c_d bq1_, c_d bq1_, c_d bq1_, c_d bq1_, c_T, c_le 1, c_b bq5_] [k_c fq3_] (by kernel_rfl)
    have hq6_ := (if_neg bq5_).symm.trans hq4_
    have bq7_ : r156 = (0 : Int) := by first | exact bq5_ | simpa using bq5_
    obtain ⟨⟨r157, r158, r159⟩, fq8_, hq9_⟩ := pullD_elim hq6_
    replace fq8_ := m_79_ok fq8_
    obtain ⟨⟨r160, r161, r162⟩, fq10_, hq11_⟩ := pullD_elim hq9_
    replace fq10_ := m_79_ok fq10_
    obtain ⟨r163, fq12_, hq13_⟩ := pullD_elim hq11_
    replace fq12_ := m_80_ok fq12_
    by_cases bq14_ : r163 = false
    · have hq15_ := (if_pos bq14_).symm.trans hq13_
      obtain rfl := Option.some.inj hq15_
      exact con_pc (op := true) (I := [38, 51, 73, 63, 97]) (sp := endOf_sp) 3000 (bT 1 (bF 5 (bT 1 (bF 5 (bT 12 (bF 1 (bT 5 []))))))) [iD r156, (shNK4_0 r157 r158 r159), (shNK4_0 r160 r161 r162), .one (.bool r163)] [c_T, c_n b1_, c_n b1_, c_n b1_, c_n b1_, c_n b3_, c_T, c_n b5_, c_n b5_, c_n b5_, c_n b5_, c_n b7_, c_T, c_d b9_, c_d b9_, c_d b9_, c_d b9_, c_T, c_T, c_d bq1_, c_d bq1_, c_d bq1_, c_d bq1_, c_T, c_le 1, c_bn bq7_, c_no bq14_, c_no bq14_, c_no bq14_, c_no bq14_, c_T] [k_c fq3_, k_c fq8_, k_c fq10_, k_c fq12_] (by kernel_rfl)
    have hq15_ := (if_neg bq14_).symm.trans hq13_
    have bq16_ : r163 = true := by first | exact bq14_ | simpa using bq14_
    obtain ⟨r164, fq17_, hq18_⟩ := pullD_elim hq15_
    replace fq17_ := m_80_ok fq17_
    by_cases bq19_ : r164 = false
    · have hq20_ := (if_pos bq19_).symm.trans hq18_
      obtain rfl := Option.some.inj hq20_
      exact con_pc (op := true) (I := [38, 51, 73, 63, 97]) (sp := endOf_sp) 3000 (bT 1 (bF 5 (bT 1 (bF 5 (bT 12 (bF 5 (bT 1 []))))))) [iD r156, (shNK4_0 r157 r158 r159), (shNK4_0 r160 r161 r162), .one (.bool r163), .one (.bool r164)] [c_T, c_n b1_, c_n b1_, c_n b1_, c_n b1_, c_n b3_, c_T, c_n b5_, c_n b5_, c_n b5_, c_n b5_, c_n b7_, c_T, c_d b9_, c_d b9_, c_d b9_, c_d b9_, c_T, c_T, c_d bq1_, c_d bq1_, c_d bq1_, c_d bq1_, c_T, c_le 1, c_bn bq7_, c_nn bq16_, c_nn bq16_, c_nn bq16_, c_nn bq16_, c_no bq19_] [k_c fq3_, k_c fq8_, k_c fq10_, k_c fq12_, k_c fq17_] (by kernel_rfl)
    have hq20_ := (if_neg bq19_).symm.trans hq18_
    have bq21_ : r164 = true := by first | exact bq19_ | simpa using bq19_
    obtain ⟨⟨r165, r166⟩, fq22_, hq23_⟩ := pullD_elim hq20_
    replace fq22_ := m_81_ok fq22_
    obtain ⟨⟨r167, r168⟩, fq24_, hq25_⟩ := pullD_elim hq23_
    replace fq24_ := m_81_ok fq24_
    obtain rfl := Option.some.inj hq25_
    exact con_pc (op := true) (I := [38, 51, 73, 63, 97]) (sp := endOf_sp) 3000 (bT 1 (bF 5 (bT 1 (bF 5 (bT 12 (bF 6 [])))))) [iD r156, (shNK4_0 r157 r158 r159), (shNK4_0 r160 r161 r162), .one (.bool r163), .one (.bool r164), .agg [iD r165, iD r166], .agg [iD r167, iD r168]] [c_T, c_n b1_, c_n b1_, c_n b1_, c_n b1_, c_n b3_, c_T, c_n b5_, c_n b5_, c_n b5_, c_n b5_, c_n b7_, c_T, c_d b9_, c_d b9_, c_d b9_, c_d b9_, c_T, c_T, c_d bq1_, c_d bq1_, c_d bq1_, c_d bq1_, c_T, c_le 1, c_bn bq7_, c_nn bq16_, c_nn bq16_, c_nn bq16_, c_nn bq16_, c_nn bq21_] [k_c fq3_, k_c fq8_, k_c fq10_, k_c fq12_, k_c fq17_, k_c fq22_, k_c fq24_] (by kernel_rfl)
  have hq2_ := (if_neg bq1_).symm.trans h
  by_cases bq26_ : e > (100 : Int)
  · have hq27_ := (if_pos bq26_).symm.trans hq2_
    obtain ⟨r169, fq28_, hq29_⟩ := pullD_elim hq27_
    replace fq28_ := m_50_ok fq28_
    by_cases bq30_ : r169 ≠ (0 : Int)
    · have hq31_ := (if_pos bq30_).symm.trans hq29_
      obtain rfl := Option.some.inj hq31_
      exact con_pc (op := true) (I := [38, 51, 73, 63, 97]) (sp := endOf_sp) 3000 (bT 1 (bF 5 (bT 1 (bF 5 (bT 7 (bF 4 (bT 2 []))))))) [iD r169] [c_T, c_n b1_, c_n b1_, c_n b1_, c_n b1_, c_n b3_, c_T, c_n b5_, c_n b5_, c_n b5_, c_n b5_, c_n b7_, c_T, c_d b9_, c_d b9_, c_d b9_, c_d b9_, c_T, c_T, c_n bq1_, c_n bq1_, c_n bq1_, c_n bq1_, c_d bq26_, c_le 1, c_b bq30_] [k_c fq28_] (by kernel_rfl)
    have hq31_ := (if_neg bq30_).symm.trans hq29_
    have bq32_ : r169 = (0 : Int) := by first | exact bq30_ | simpa using bq30_
    obtain ⟨⟨r170, r171, r172⟩, fq33_, hq34_⟩ := pullD_elim hq31_
    replace fq33_ := m_79_ok fq33_
    obtain ⟨⟨r173, r174, r175⟩, fq35_, hq36_⟩ := pullD_elim hq34_
    replace fq35_ := m_79_ok fq35_
    obtain ⟨r176, fq37_, hq38_⟩ := pullD_elim hq36_
    replace fq37_ := m_80_ok fq37_
    by_cases bq39_ : r176 = false
    · have hq40_ := (if_pos bq39_).symm.trans hq38_
      obtain rfl := Option.some.inj hq40_
      exact con_pc (op := true) (I := [38, 51, 73, 63, 97]) (sp := endOf_sp) 3000 (bT 1 (bF 5 (bT 1 (bF 5 (bT 7 (bF 4 (bT 1 (bF 1 (bT 5 []))))))))) [iD r169, (shNK4_0 r170 r171 r172), (shNK4_0 r173 r174 r175), .one (.bool r176)] [c_T, c_n b1_, c_n b1_, c_n b1_, c_n b1_, c_n b3_, c_T, c_n b5_, c_n b5_, c_n b5_, c_n b5_, c_n b7_, c_T, c_d b9_, c_d b9_, c_d b9_, c_d b9_, c_T, c_T, c_n bq1_, c_n bq1_, c_n bq1_, c_n bq1_, c_d bq26_, c_le 1, c_bn bq32_, c_no bq39_, c_no bq39_, c_no bq39_, c_no bq39_, c_T] [k_c fq28_, k_c fq33_, k_c fq35_, k_c fq37_] (by kernel_rfl)
    have hq40_ := (if_neg bq39_).symm.trans hq38_
    have bq41_ : r176 = true := by first | exact bq39_ | simpa using bq39_
    obtain ⟨r177, fq42_, hq43_⟩ := pullD_elim hq40_
    replace fq42_ := m_80_ok fq42_
    by_cases bq44_ : r177 = false
    · have hq45_ := (if_pos bq44_).symm.trans hq43_
      obtain rfl := Option.some.inj hq45_
      exact con_pc (op := true) (I := [38, 51, 73, 63, 97]) (sp := endOf_sp) 3000 (bT 1 (bF 5 (bT 1 (bF 5 (bT 7 (bF 4 (bT 1 (bF 5 (bT 1 []))))))))) [iD r169, (shNK4_0 r170 r171 r172), (shNK4_0 r173 r174 r175), .one (.bool r176), .one (.bool r177)] [c_T, c_n b1_, c_n b1_, c_n b1_, c_n b1_, c_n b3_, c_T, c_n b5_, c_n b5_, c_n b5_, c_n b5_, c_n b7_, c_T, c_d b9_, c_d b9_, c_d b9_, c_d b9_, c_T, c_T, c_n bq1_, c_n bq1_, c_n bq1_, c_n bq1_, c_d bq26_, c_le 1, c_bn bq32_, c_nn bq41_, c_nn bq41_, c_nn bq41_, c_nn bq41_, c_no bq44_] [k_c fq28_, k_c fq33_, k_c fq35_, k_c fq37_, k_c fq42_] (by kernel_rfl)
    have hq45_ := (if_neg bq44_).symm.trans hq43_
    have bq46_ : r177 = true := by first | exact bq44_ | simpa using bq44_
    obtain ⟨⟨r178, r179⟩, fq47_, hq48_⟩ := pullD_elim hq45_
    replace fq47_ := m_81_ok fq47_
    obtain ⟨⟨r180, r181⟩, fq49_, hq50_⟩ := pullD_elim hq48_
    replace fq49_ := m_81_ok fq49_
    obtain rfl := Option.some.inj hq50_
    exact con_pc (op := true) (I := [38, 51, 73, 63, 97]) (sp := endOf_sp) 3000 (bT 1 (bF 5 (bT 1 (bF 5 (bT 7 (bF 4 (bT 1 (bF 6 [])))))))) [iD r169, (shNK4_0 r170 r171 r172), (shNK4_0 r173 r174 r175), .one (.bool r176), .one (.bool r177), .agg [iD r178, iD r179], .agg [iD r180, iD r181]] [c_T, c_n b1_, c_n b1_, c_n b1_, c_n b1_, c_n b3_, c_T, c_n b5_, c_n b5_, c_n b5_, c_n b5_, c_n b7_, c_T, c_d b9_, c_d b9_, c_d b9_, c_d b9_, c_T, c_T, c_n bq1_, c_n bq1_, c_n bq1_, c_n bq1_, c_d bq26_, c_le 1, c_bn bq32_, c_nn bq41_, c_nn bq41_, c_nn bq41_, c_nn bq41_, c_nn bq46_] [k_c fq28_, k_c fq33_, k_c fq35_, k_c fq37_, k_c fq42_, k_c fq47_, k_c fq49_] (by kernel_rfl)
  have hq27_ := (if_neg bq26_).symm.trans hq2_
  obtain ⟨r182, fq51_, hq52_⟩ := pullD_elim hq27_
  replace fq51_ := m_50_ok fq51_
  by_cases bq53_ : r182 ≠ (0 : Int)
  · have hq54_ := (if_pos bq53_).symm.trans hq52_
    obtain rfl := Option.some.inj hq54_
    exact con_pc (op := true) (I := [38, 51, 73, 63, 97]) (sp := endOf_sp) 3000 (bT 1 (bF 5 (bT 1 (bF 5 (bT 7 (bF 6 (bT 1 []))))))) [iD r182] [c_T, c_n b1_, c_n b1_, c_n b1_, c_n b1_, c_n b3_, c_T, c_n b5_, c_n b5_, c_n b5_, c_n b5_, c_n b7_, c_T, c_d b9_, c_d b9_, c_d b9_, c_d b9_, c_T, c_T, c_n bq1_, c_n bq1_, c_n bq1_, c_n bq1_, c_n bq26_, c_F, c_le 1, c_b bq53_] [k_c fq51_] (by kernel_rfl)
  have hq54_ := (if_neg bq53_).symm.trans hq52_
  have bq55_ : r182 = (0 : Int) := by first | exact bq53_ | simpa using bq53_
  obtain ⟨⟨r183, r184, r185⟩, fq56_, hq57_⟩ := pullD_elim hq54_
  replace fq56_ := m_79_ok fq56_
  obtain ⟨⟨r186, r187, r188⟩, fq58_, hq59_⟩ := pullD_elim hq57_
  replace fq58_ := m_79_ok fq58_
  obtain ⟨r189, fq60_, hq61_⟩ := pullD_elim hq59_
  replace fq60_ := m_80_ok fq60_
  by_cases bq62_ : r189 = false
  · have hq63_ := (if_pos bq62_).symm.trans hq61_
    obtain rfl := Option.some.inj hq63_
    exact con_pc (op := true) (I := [38, 51, 73, 63, 97]) (sp := endOf_sp) 3000 (bT 1 (bF 5 (bT 1 (bF 5 (bT 7 (bF 7 (bT 5 []))))))) [iD r182, (shNK4_0 r183 r184 r185), (shNK4_0 r186 r187 r188), .one (.bool r189)] [c_T, c_n b1_, c_n b1_, c_n b1_, c_n b1_, c_n b3_, c_T, c_n b5_, c_n b5_, c_n b5_, c_n b5_, c_n b7_, c_T, c_d b9_, c_d b9_, c_d b9_, c_d b9_, c_T, c_T, c_n bq1_, c_n bq1_, c_n bq1_, c_n bq1_, c_n bq26_, c_F, c_le 1, c_bn bq55_, c_no bq62_, c_no bq62_, c_no bq62_, c_no bq62_, c_T] [k_c fq51_, k_c fq56_, k_c fq58_, k_c fq60_] (by kernel_rfl)
  have hq63_ := (if_neg bq62_).symm.trans hq61_
  have bq64_ : r189 = true := by first | exact bq62_ | simpa using bq62_
  obtain ⟨r190, fq65_, hq66_⟩ := pullD_elim hq63_
  replace fq65_ := m_80_ok fq65_
  by_cases bq67_ : r190 = false
  · have hq68_ := (if_pos bq67_).symm.trans hq66_
    obtain rfl := Option.some.inj hq68_
    exact con_pc (op := true) (I := [38, 51, 73, 63, 97]) (sp := endOf_sp) 3000 (bT 1 (bF 5 (bT 1 (bF 5 (bT 7 (bF 11 (bT 1 []))))))) [iD r182, (shNK4_0 r183 r184 r185), (shNK4_0 r186 r187 r188), .one (.bool r189), .one (.bool r190)] [c_T, c_n b1_, c_n b1_, c_n b1_, c_n b1_, c_n b3_, c_T, c_n b5_, c_n b5_, c_n b5_, c_n b5_, c_n b7_, c_T, c_d b9_, c_d b9_, c_d b9_, c_d b9_, c_T, c_T, c_n bq1_, c_n bq1_, c_n bq1_, c_n bq1_, c_n bq26_, c_F, c_le 1, c_bn bq55_, c_nn bq64_, c_nn bq64_, c_nn bq64_, c_nn bq64_, c_no bq67_] [k_c fq51_, k_c fq56_, k_c fq58_, k_c fq60_, k_c fq65_] (by kernel_rfl)
  have hq68_ := (if_neg bq67_).symm.trans hq66_
  have bq69_ : r190 = true := by first | exact bq67_ | simpa using bq67_
  obtain ⟨⟨r191, r192⟩, fq70_, hq71_⟩ := pullD_elim hq68_
  replace fq70_ := m_81_ok fq70_
  obtain ⟨⟨r193, r194⟩, fq72_, hq73_⟩ := pullD_elim hq71_
  replace fq72_ := m_81_ok fq72_
  obtain rfl := Option.some.inj hq73_
  exact con_pc (op := true) (I := [38, 51, 73, 63, 97]) (sp := endOf_sp) 3000 (bT 1 (bF 5 (bT 1 (bF 5 (bT 7 (bF 12 [])))))) [iD r182, (shNK4_0 r183 r184 r185), (shNK4_0 r186 r187 r188), .one (.bool r189), .one (.bool r190), .agg [iD r191, iD r192], .agg [iD r193, iD r194]] [c_T, c_n b1_, c_n b1_, c_n b1_, c_n b1_, c_n b3_, c_T, c_n b5_, c_n b5_, c_n b5_, c_n b5_, c_n b7_, c_T, c_d b9_, c_d b9_, c_d b9_, c_d b9_, c_T, c_T, c_n bq1_, c_n bq1_, c_n bq1_, c_n bq1_, c_n bq26_, c_F, c_le 1, c_bn bq55_, c_nn bq64_, c_nn bq64_, c_nn bq64_, c_nn bq64_, c_nn bq69_] [k_c fq51_, k_c fq56_, k_c fq58_, k_c fq60_, k_c fq65_, k_c fq70_, k_c fq72_] (by kernel_rfl)
theorem endOf_M_s5_ok (a b c e : Int)  (b1_ : ¬ (a < (-500 : Int))) (b3_ : ¬ (a > (3000 : Int))) (b5_ : ¬ (b < (-500 : Int))) (b7_ : ¬ (b > (3000 : Int))) (b9_ : ¬ (c < (-500 : Int))) {r : D} (h : endOf_M_s5 a b c e = some r) : Con 38 [(shNK4_0 a b c), iD e] r := by
  unfold endOf_M_s5 at h
  by_cases bq1_ : c > (3000 : Int)
  · have hq2_ := (if_pos bq1_).symm.trans h
    by_cases bq3_ : e < (0 : Int)
    · have hq4_ := (if_pos bq3_).symm.trans hq2_
      obtain ⟨r195, fq5_, hq6_⟩ := pullD_elim hq4_
      replace fq5_ := m_50_ok fq5_
      by_cases bq7_ : r195 ≠ (0 : Int)
      · have hq8_ := (if_pos bq7_).symm.trans hq6_
        obtain rfl := Option.some.inj hq8_
        exact con_pc (op := true) (I := [38, 51, 73, 63, 97]) (sp := endOf_sp) 3000 (bT 1 (bF 5 (bT 1 (bF 5 (bT 1 (bF 4 (bT 8 []))))))) [iD r195] [c_T, c_n b1_, c_n b1_, c_n b1_, c_n b1_, c_n b3_, c_T, c_n b5_, c_n b5_, c_n b5_, c_n b5_, c_n b7_, c_T, c_n b9_, c_n b9_, c_n b9_, c_n b9_, c_d bq1_, c_T, c_d bq3_, c_d bq3_, c_d bq3_, c_d bq3_, c_T, c_le 1, c_b bq7_] [k_c fq5_] (by kernel_rfl)
      have hq8_ := (if_neg bq7_).symm.trans hq6_
      have bq9_ : r195 = (0 : Int) := by first | exact bq7_ | simpa using bq7_
      obtain ⟨⟨r196, r197, r198⟩, fq10_, hq11_⟩ := pullD_elim hq8_
      replace fq10_ := m_79_ok fq10_
      obtain ⟨⟨r199, r200, r201⟩, fq12_, hq13_⟩ := pullD_elim hq11_
      replace fq12_ := m_79_ok fq12_
      obtain ⟨r202, fq14_, hq15_⟩ := pullD_elim hq13_
      replace fq14_ := m_80_ok fq14_
      by_cases bq16_ : r202 = false
      · have hq17_ := (if_pos bq16_).symm.trans hq15_
        obtain rfl := Option.some.inj hq17_
        exact con_pc (op := true) (I := [38, 51, 73, 63, 97]) (sp := endOf_sp) 3000 (bT 1 (bF 5 (bT 1 (bF 5 (bT 1 (bF 4 (bT 7 (bF 1 (bT 5 []))))))))) [iD r195, (shNK4_0 r196 r197 r198), (shNK4_0 r199 r200 r201), .one (.bool r202)] [c_T, c_n b1_, c_n b1_, c_n b1_, c_n b1_, c_n b3_, c_T, c_n b5_, c_n b5_, c_n b5_, c_n b5_, c_n b7_, c_T, c_n b9_, c_n b9_, c_n b9_, c_n b9_, c_d bq1_, c_T, c_d bq3_, c_d bq3_, c_d bq3_, c_d bq3_, c_T, c_le 1, c_bn bq9_, c_no bq16_, c_no bq16_, c_no bq16_, c_no bq16_, c_T] [k_c fq5_, k_c fq10_, k_c fq12_, k_c fq14_] (by kernel_rfl)
      have hq17_ := (if_neg bq16_).symm.trans hq15_
      have bq18_ : r202 = true := by first | exact bq16_ | simpa using bq16_
      obtain ⟨r203, fq19_, hq20_⟩ := pullD_elim hq17_
      replace fq19_ := m_80_ok fq19_
      by_cases bq21_ : r203 = false
      · have hq22_ := (if_pos bq21_).symm.trans hq20_
        obtain rfl := Option.some.inj hq22_
        exact con_pc (op := true) (I := [38, 51, 73, 63, 97]) (sp := endOf_sp) 3000 (bT 1 (bF 5 (bT 1 (bF 5 (bT 1 (bF 4 (bT 7 (bF 5 (bT 1 []))))))))) [iD r195, (shNK4_0 r196 r197 r198), (shNK4_0 r199 r200 r201), .one (.bool r202), .one (.bool r203)] [c_T, c_n b1_, c_n b1_, c_n b1_, c_n b1_, c_n b3_, c_T, c_n b5_, c_n b5_, c_n b5_, c_n b5_, c_n b7_, c_T, c_n b9_, c_n b9_, c_n b9_, c_n b9_, c_d bq1_, c_T, c_d bq3_, c_d bq3_, c_d bq3_, c_d bq3_, c_T, c_le 1, c_bn bq9_, c_nn bq18_, c_nn bq18_, c_nn bq18_, c_nn bq18_, c_no bq21_] [k_c fq5_, k_c fq10_, k_c fq12_, k_c fq14_, k_c fq19_] (by kernel_rfl)
      have hq22_ := (if_neg bq21_).symm.trans hq20_
      have bq23_ : r203 = true := by first | exact bq21_ | simpa using bq21_
      obtain ⟨⟨r204, r205⟩, fq24_, hq25_⟩ := pullD_elim hq22_
      replace fq24_ := m_81_ok fq24_
      obtain ⟨⟨r206, r207⟩, fq26_, hq27_⟩ := pullD_elim hq25_
      replace fq26_ := m_81_ok fq26_
      obtain rfl := Option.some.inj hq27_
      exact con_pc (op := true) (I := [38, 51, 73, 63, 97]) (sp := endOf_sp) 3000 (bT 1 (bF 5 (bT 1 (bF 5 (bT 1 (bF 4 (bT 7 (bF 6 [])))))))) [iD r195, (shNK4_0 r196 r197 r198), (shNK4_0 r199 r200 r201), .one (.bool r202), .one (.bool r203), .agg [iD r204, iD r205], .agg [iD r206, iD r207]] [c_T, c_n b1_, c_n b1_, c_n b1_, c_n b1_, c_n b3_, c_T, c_n b5_, c_n b5_, c_n b5_, c_n b5_, c_n b7_, c_T, c_n b9_, c_n b9_, c_n b9_, c_n b9_, c_d bq1_, c_T, c_d bq3_, c_d bq3_, c_d bq3_, c_d bq3_, c_T, c_le 1, c_bn bq9_, c_nn bq18_, c_nn bq18_, c_nn bq18_, c_nn bq18_, c_nn bq23_] [k_c fq5_, k_c fq10_, k_c fq12_, k_c fq14_, k_c fq19_, k_c fq24_, k_c fq26_] (by kernel_rfl)
    have hq4_ := (if_neg bq3_).symm.trans hq2_
    by_cases bq28_ : e > (100 : Int)
    · have hq29_ := (if_pos bq28_).symm.trans hq4_
      obtain ⟨r208, fq30_, hq31_⟩ := pullD_elim hq29_
      replace fq30_ := m_50_ok fq30_
      by_cases bq32_ : r208 ≠ (0 : Int)
      · have hq33_ := (if_pos bq32_).symm.trans hq31_
        obtain rfl := Option.some.inj hq33_
        exact con_pc (op := true) (I := [38, 51, 73, 63, 97]) (sp := endOf_sp) 3000 (bT 1 (bF 5 (bT 1 (bF 5 (bT 1 (bF 4 (bT 2 (bF 4 (bT 2 []))))))))) [iD r208] [c_T, c_n b1_, c_n b1_, c_n b1_, c_n b1_, c_n b3_, c_T, c_n b5_, c_n b5_, c_n b5_, c_n b5_, c_n b7_, c_T, c_n b9_, c_n b9_, c_n b9_, c_n b9_, c_d bq1_, c_T, c_n bq3_, c_n bq3_, c_n bq3_, c_n bq3_, c_d bq28_, c_le 1, c_b bq32_] [k_c fq30_] (by kernel_rfl)
      have hq33_ := (if_neg bq32_).symm.trans hq31_
      have bq34_ : r208 = (0 : Int) := by first | exact bq32_ | simpa using bq32_
      obtain ⟨⟨r209, r210, r211⟩, fq35_, hq36_⟩ := pullD_elim hq33_
      replace fq35_ := m_79_ok fq35_
      obtain ⟨⟨r212, r213, r214⟩, fq37_, hq38_⟩ := pullD_elim hq36_
      replace fq37_ := m_79_ok fq37_
      obtain ⟨r215, fq39_, hq40_⟩ := pullD_elim hq38_
      replace fq39_ := m_80_ok fq39_
      by_cases bq41_ : r215 = false
      · have hq42_ := (if_pos bq41_).symm.trans hq40_
        obtain rfl := Option.some.inj hq42_
        exact con_pc (op := true) (I := [38, 51, 73, 63, 97]) (sp := endOf_sp) 3000 (bT 1 (bF 5 (bT 1 (bF 5 (bT 1 (bF 4 (bT 2 (bF 4 (bT 1 (bF 1 (bT 5 []))))))))))) [iD r208, (shNK4_0 r209 r210 r211), (shNK4_0 r212 r213 r214), .one (.bool r215)] [c_T, c_n b1_, c_n b1_, c_n b1_, c_n b1_, c_n b3_, c_T, c_n b5_, c_n b5_, c_n b5_, c_n b5_, c_n b7_, c_T, c_n b9_, c_n b9_, c_n b9_, c_n b9_, c_d bq1_, c_T, c_n bq3_, c_n bq3_, c_n bq3_, c_n bq3_, c_d bq28_, c_le 1, c_bn bq34_, c_no bq41_, c_no bq41_, c_no bq41_, c_no bq41_, c_T] [k_c fq30_, k_c fq35_, k_c fq37_, k_c fq39_] (by kernel_rfl)
      have hq42_ := (if_neg bq41_).symm.trans hq40_
      have bq43_ : r215 = true := by first | exact bq41_ | simpa using bq41_
      obtain ⟨r216, fq44_, hq45_⟩ := pullD_elim hq42_
      replace fq44_ := m_80_ok fq44_
      by_cases bq46_ : r216 = false
      · have hq47_ := (if_pos bq46_).symm.trans hq45_
        obtain rfl := Option.some.inj hq47_
        exact con_pc (op := true) (I := [38, 51, 73, 63, 97]) (sp := endOf_sp) 3000 (bT 1 (bF 5 (bT 1 (bF 5 (bT 1 (bF 4 (bT 2 (bF 4 (bT 1 (bF 5 (bT 1 []))))))))))) [iD r208, (shNK4_0 r209 r210 r211), (shNK4_0 r212 r213 r214), .one (.bool r215), .one (.bool r216)] [c_T, c_n b1_, c_n b1_, c_n b1_, c_n b1_, c_n b3_, c_T, c_n b5_, c_n b5_, c_n b5_, c_n b5_, c_n b7_, c_T, c_n b9_, c_n b9_, c_n b9_, c_n b9_, c_d bq1_, c_T, c_n bq3_, c_n bq3_, c_n bq3_, c_n bq3_, c_d bq28_, c_le 1, c_bn bq34_, c_nn bq43_, c_nn bq43_, c_nn bq43_, c_nn bq43_, c_no bq46_] [k_c fq30_, k_c fq35_, k_c fq37_, k_c fq39_, k_c fq44_] (by kernel_rfl)
      have hq47_ := (if_neg bq46_).symm.trans hq45_
      have bq48_ : r216 = true := by first | exact bq46_ | simpa using bq46_
      obtain ⟨⟨r217, r218⟩, fq49_, hq50_⟩ := pullD_elim hq47_
      replace fq49_ := m_81_ok fq49_
      obtain ⟨⟨r219, r220⟩, fq51_, hq52_⟩ := pullD_elim hq50_
      replace fq51_ := m_81_ok fq51_
      obtain rfl := Option.some.inj hq52_
      exact con_pc (op := true) (I := [38, 51, 73, 63, 97]) (sp := endOf_sp) 3000 (bT 1 (bF 5 (bT 1 (bF 5 (bT 1 (bF 4 (bT 2 (bF 4 (bT 1 (bF 6 [])))))))))) [iD r208, (shNK4_0 r209 r210 r211), (shNK4_0 r212 r213 r214), .one (.bool r215), .one (.bool r216), .agg [iD r217, iD r218], .agg [iD r219, iD r220]] [c_T, c_n b1_, c_n b1_, c_n b1_, c_n b1_, c_n b3_, c_T, c_n b5_, c_n b5_, c_n b5_, c_n b5_, c_n b7_, c_T, c_n b9_, c_n b9_, c_n b9_, c_n b9_, c_d bq1_, c_T, c_n bq3_, c_n bq3_, c_n bq3_, c_n bq3_, c_d bq28_, c_le 1, c_bn bq34_, c_nn bq43_, c_nn bq43_, c_nn bq43_, c_nn bq43_, c_nn bq48_] [k_c fq30_, k_c fq35_, k_c fq37_, k_c fq39_, k_c fq44_, k_c fq49_, k_c fq51_] (by kernel_rfl)
    have hq29_ := (if_neg bq28_).symm.trans hq4_
    obtain ⟨r221, fq53_, hq54_⟩ := pullD_elim hq29_
    replace fq53_ := m_50_ok fq53_
    by_cases bq55_ : r221 ≠ (0 : Int)
    · have hq56_ := (if_pos bq55_).symm.trans hq54_
      obtain rfl := Option.some.inj hq56_
      exact con_pc (op := true) (I := [38, 51, 73, 63, 97]) (sp := endOf_sp) 3000 (bT 1 (bF 5 (bT 1 (bF 5 (bT 1 (bF 4 (bT 2 (bF 6 (bT 1 []))))))))) [iD r221] [c_T, c_n b1_, c_n b1_, c_n b1_, c_n b1_, c_n b3_, c_T, c_n b5_, c_n b5_, c_n b5_, c_n b5_, c_n b7_, c_T, c_n b9_, c_n b9_, c_n b9_, c_n b9_, c_d bq1_, c_T, c_n bq3_, c_n bq3_, c_n bq3_, c_n bq3_, c_n bq28_, c_F, c_le 1, c_b bq55_] [k_c fq53_] (by kernel_rfl)
    have hq56_ := (if_neg bq55_).symm.trans hq54_
    have bq57_ : r221 = (0 : Int) := by first | exact bq55_ | simpa using bq55_
    obtain ⟨⟨r222, r223, r224⟩, fq58_, hq59_⟩ := pullD_elim hq56_
    replace fq58_ := m_79_ok fq58_
    obtain ⟨⟨r225, r226, r227⟩, fq60_, hq61_⟩ := pullD_elim hq59_
    replace fq60_ := m_79_ok fq60_
    obtain ⟨r228, fq62_, hq63_⟩ := pullD_elim hq61_
    replace fq62_ := m_80_ok fq62_
    by_cases bq64_ : r228 = false
    · have hq65_ := (if_pos bq64_).symm.trans hq63_
      obtain rfl := Option.some.inj hq65_
      exact con_pc (op := true) (I := [38, 51, 73, 63, 97]) (sp := endOf_sp) 3000 (bT 1 (bF 5 (bT 1 (bF 5 (bT 1 (bF 4 (bT 2 (bF 7 (bT 5 []))))))))) [iD r221, (shNK4_0 r222 r223 r224), (shNK4_0 r225 r226 r227), .one (.bool r228)] [c_T, c_n b1_, c_n b1_, c_n b1_, c_n b1_, c_n b3_, c_T, c_n b5_, c_n b5_, c_n b5_, c_n b5_, c_n b7_, c_T, c_n b9_, c_n b9_, c_n b9_, c_n b9_, c_d bq1_, c_T, c_n bq3_, c_n bq3_, c_n bq3_, c_n bq3_, c_n bq28_, c_F, c_le 1, c_bn bq57_, c_no bq64_, c_no bq64_, c_no bq64_, c_no bq64_, c_T] [k_c fq53_, k_c fq58_, k_c fq60_, k_c fq62_] (by kernel_rfl)
    have hq65_ := (if_neg bq64_).symm.trans hq63_
    have bq66_ : r228 = true := by first | exact bq64_ | simpa using bq64_
    obtain ⟨r229, fq67_, hq68_⟩ := pullD_elim hq65_
    replace fq67_ := m_80_ok fq67_
    by_cases bq69_ : r229 = false
    · have hq70_ := (if_pos bq69_).symm.trans hq68_
      obtain rfl := Option.some.inj hq70_
      exact con_pc (op := true) (I := [38, 51, 73, 63, 97]) (sp := endOf_sp) 3000 (bT 1 (bF 5 (bT 1 (bF 5 (bT 1 (bF 4 (bT 2 (bF 11 (bT 1 []))))))))) [iD r221, (shNK4_0 r222 r223 r224), (shNK4_0 r225 r226 r227), .one (.bool r228), .one (.bool r229)] [c_T, c_n b1_, c_n b1_, c_n b1_, c_n b1_, c_n b3_, c_T, c_n b5_, c_n b5_, c_n b5_, c_n b5_, c_n b7_, c_T, c_n b9_, c_n b9_, c_n b9_, c_n b9_, c_d bq1_, c_T, c_n bq3_, c_n bq3_, c_n bq3_, c_n bq3_, c_n bq28_, c_F, c_le 1, c_bn bq57_, c_nn bq66_, c_nn bq66_, c_nn bq66_, c_nn bq66_, c_no bq69_] [k_c fq53_, k_c fq58_, k_c fq60_, k_c fq62_, k_c fq67_] (by kernel_rfl)
    have hq70_ := (if_neg bq69_).symm.trans hq68_
    have bq71_ : r229 = true := by first | exact bq69_ | simpa using bq69_
    obtain ⟨⟨r230, r231⟩, fq72_, hq73_⟩ := pullD_elim hq70_
    replace fq72_ := m_81_ok fq72_
    obtain ⟨⟨r232, r233⟩, fq74_, hq75_⟩ := pullD_elim hq73_
    replace fq74_ := m_81_ok fq74_
    obtain rfl := Option.some.inj hq75_
    exact con_pc (op := true) (I := [38, 51, 73, 63, 97]) (sp := endOf_sp) 3000 (bT 1 (bF 5 (bT 1 (bF 5 (bT 1 (bF 4 (bT 2 (bF 12 [])))))))) [iD r221, (shNK4_0 r222 r223 r224), (shNK4_0 r225 r226 r227), .one (.bool r228), .one (.bool r229), .agg [iD r230, iD r231], .agg [iD r232, iD r233]] [c_T, c_n b1_, c_n b1_, c_n b1_, c_n b1_, c_n b3_, c_T, c_n b5_, c_n b5_, c_n b5_, c_n b5_, c_n b7_, c_T, c_n b9_, c_n b9_, c_n b9_, c_n b9_, c_d bq1_, c_T, c_n bq3_, c_n bq3_, c_n bq3_, c_n bq3_, c_n bq28_, c_F, c_le 1, c_bn bq57_, c_nn bq66_, c_nn bq66_, c_nn bq66_, c_nn bq66_, c_nn bq71_] [k_c fq53_, k_c fq58_, k_c fq60_, k_c fq62_, k_c fq67_, k_c fq72_, k_c fq74_] (by kernel_rfl)
  have hq2_ := (if_neg bq1_).symm.trans h
  by_cases bq76_ : e < (0 : Int)
  · have hq77_ := (if_pos bq76_).symm.trans hq2_
    obtain ⟨r234, fq78_, hq79_⟩ := pullD_elim hq77_
    replace fq78_ := m_50_ok fq78_
    by_cases bq80_ : r234 ≠ (0 : Int)
    · have hq81_ := (if_pos bq80_).symm.trans hq79_
      obtain rfl := Option.some.inj hq81_
      exact con_pc (op := true) (I := [38, 51, 73, 63, 97]) (sp := endOf_sp) 3000 (bT 1 (bF 5 (bT 1 (bF 5 (bT 1 (bF 6 (bT 7 []))))))) [iD r234] [c_T, c_n b1_, c_n b1_, c_n b1_, c_n b1_, c_n b3_, c_T, c_n b5_, c_n b5_, c_n b5_, c_n b5_, c_n b7_, c_T, c_n b9_, c_n b9_, c_n b9_, c_n b9_, c_n bq1_, c_F, c_T, c_d bq76_, c_d bq76_, c_d bq76_, c_d bq76_, c_T, c_le 1, c_b bq80_] [k_c fq78_] (by kernel_rfl)
    have hq81_ := (if_neg bq80_).symm.trans hq79_
    have bq82_ : r234 = (0 : Int) := by first | exact bq80_ | simpa using bq80_
    obtain ⟨⟨r235, r236, r237⟩, fq83_, hq84_⟩ := pullD_elim hq81_
    replace fq83_ := m_79_ok fq83_
    obtain ⟨⟨r238, r239, r240⟩, fq85_, hq86_⟩ := pullD_elim hq84_
    replace fq85_ := m_79_ok fq85_
    obtain ⟨r241, fq87_, hq88_⟩ := pullD_elim hq86_
    replace fq87_ := m_80_ok fq87_
    by_cases bq89_ : r241 = false
    · have hq90_ := (if_pos bq89_).symm.trans hq88_
      obtain rfl := Option.some.inj hq90_
      exact con_pc (op := true) (I := [38, 51, 73, 63, 97]) (sp := endOf_sp) 3000 (bT 1 (bF 5 (bT 1 (bF 5 (bT 1 (bF 6 (bT 6 (bF 1 (bT 5 []))))))))) [iD r234, (shNK4_0 r235 r236 r237), (shNK4_0 r238 r239 r240), .one (.bool r241)] [c_T, c_n b1_, c_n b1_, c_n b1_, c_n b1_, c_n b3_, c_T, c_n b5_, c_n b5_, c_n b5_, c_n b5_, c_n b7_, c_T, c_n b9_, c_n b9_, c_n b9_, c_n b9_, c_n bq1_, c_F, c_T, c_d bq76_, c_d bq76_, c_d bq76_, c_d bq76_, c_T, c_le 1, c_bn bq82_, c_no bq89_, c_no bq89_, c_no bq89_, c_no bq89_, c_T] [k_c fq78_, k_c fq83_, k_c fq85_, k_c fq87_] (by kernel_rfl)
    have hq90_ := (if_neg bq89_).symm.trans hq88_
    have bq91_ : r241 = true := by first | exact bq89_ | simpa using bq89_
    obtain ⟨r242, fq92_, hq93_⟩ := pullD_elim hq90_
    replace fq92_ := m_80_ok fq92_
    by_cases bq94_ : r242 = false
    · have hq95_ := (if_pos bq94_).symm.trans hq93_
      obtain rfl := Option.some.inj hq95_
      exact con_pc (op := true) (I := [38, 51, 73, 63, 97]) (sp := endOf_sp) 3000 (bT 1 (bF 5 (bT 1 (bF 5 (bT 1 (bF 6 (bT 6 (bF 5 (bT 1 []))))))))) [iD r234, (shNK4_0 r235 r236 r237), (shNK4_0 r238 r239 r240), .one (.bool r241), .one (.bool r242)] [c_T, c_n b1_, c_n b1_, c_n b1_, c_n b1_, c_n b3_, c_T, c_n b5_, c_n b5_, c_n b5_, c_n b5_, c_n b7_, c_T, c_n b9_, c_n b9_, c_n b9_, c_n b9_, c_n bq1_, c_F, c_T, c_d bq76_, c_d bq76_, c_d bq76_, c_d bq76_, c_T, c_le 1, c_bn bq82_, c_nn bq91_, c_nn bq91_, c_nn bq91_, c_nn bq91_, c_no bq94_] [k_c fq78_, k_c fq83_, k_c fq85_, k_c fq87_, k_c fq92_] (by kernel_rfl)
    have hq95_ := (if_neg bq94_).symm.trans hq93_
    have bq96_ : r242 = true := by first | exact bq94_ | simpa using bq94_
    obtain ⟨⟨r243, r244⟩, fq97_, hq98_⟩ := pullD_elim hq95_
    replace fq97_ := m_81_ok fq97_
    obtain ⟨⟨r245, r246⟩, fq99_, hq100_⟩ := pullD_elim hq98_
    replace fq99_ := m_81_ok fq99_
    obtain rfl := Option.some.inj hq100_
    exact con_pc (op := true) (I := [38, 51, 73, 63, 97]) (sp := endOf_sp) 3000 (bT 1 (bF 5 (bT 1 (bF 5 (bT 1 (bF 6 (bT 6 (bF 6 [])))))))) [iD r234, (shNK4_0 r235 r236 r237), (shNK4_0 r238 r239 r240), .one (.bool r241), .one (.bool r242), .agg [iD r243, iD r244], .agg [iD r245, iD r246]] [c_T, c_n b1_, c_n b1_, c_n b1_, c_n b1_, c_n b3_, c_T, c_n b5_, c_n b5_, c_n b5_, c_n b5_, c_n b7_, c_T, c_n b9_, c_n b9_, c_n b9_, c_n b9_, c_n bq1_, c_F, c_T, c_d bq76_, c_d bq76_, c_d bq76_, c_d bq76_, c_T, c_le 1, c_bn bq82_, c_nn bq91_, c_nn bq91_, c_nn bq91_, c_nn bq91_, c_nn bq96_] [k_c fq78_, k_c fq83_, k_c fq85_, k_c fq87_, k_c fq92_, k_c fq97_, k_c fq99_] (by kernel_rfl)
  have hq77_ := (if_neg bq76_).symm.trans hq2_
  by_cases bq101_ : e > (100 : Int)
  · have hq102_ := (if_pos bq101_).symm.trans hq77_
    obtain ⟨r247, fq103_, hq104_⟩ := pullD_elim hq102_
    replace fq103_ := m_50_ok fq103_
    by_cases bq105_ : r247 ≠ (0 : Int)
    · have hq106_ := (if_pos bq105_).symm.trans hq104_
      obtain rfl := Option.some.inj hq106_
      exact con_pc (op := true) (I := [38, 51, 73, 63, 97]) (sp := endOf_sp) 3000 (bT 1 (bF 5 (bT 1 (bF 5 (bT 1 (bF 6 (bT 1 (bF 4 (bT 2 []))))))))) [iD r247] [c_T, c_n b1_, c_n b1_, c_n b1_, c_n b1_, c_n b3_, c_T, c_n b5_, c_n b5_, c_n b5_, c_n b5_, c_n b7_, c_T, c_n b9_, c_n b9_, c_n b9_, c_n b9_, c_n bq1_, c_F, c_T, c_n bq76_, c_n bq76_, c_n bq76_, c_n bq76_, c_d bq101_, c_le 1, c_b bq105_] [k_c fq103_] (by kernel_rfl)
    have hq106_ := (if_neg bq105_).symm.trans hq104_
    have bq107_ : r247 = (0 : Int) := by first | exact bq105_ | simpa using bq105_
    obtain ⟨⟨r248, r249, r250⟩, fq108_, hq109_⟩ := pullD_elim hq106_
    replace fq108_ := m_79_ok fq108_
    obtain ⟨⟨r251, r252, r253⟩, fq110_, hq111_⟩ := pullD_elim hq109_
    replace fq110_ := m_79_ok fq110_
    obtain ⟨r254, fq112_, hq113_⟩ := pullD_elim hq111_
    replace fq112_ := m_80_ok fq112_
    by_cases bq114_ : r254 = false
    · have hq115_ := (if_pos bq114_).symm.trans hq113_
      obtain rfl := Option.some.inj hq115_
      exact con_pc (op := true) (I := [38, 51, 73, 63, 97]) (sp := endOf_sp) 3000 (bT 1 (bF 5 (bT 1 (bF 5 (bT 1 (bF 6 (bT 1 (bF 4 (bT 1 (bF 1 (bT 5 []))))))))))) [iD r247, (shNK4_0 r248 r249 r250), (shNK4_0 r251 r252 r253), .one (.bool r254)] [c_T, c_n b1_, c_n b1_, c_n b1_, c_n b1_, c_n b3_, c_T, c_n b5_, c_n b5_, c_n b5_, c_n b5_, c_n b7_, c_T, c_n b9_, c_n b9_, c_n b9_, c_n b9_, c_n bq1_, c_F, c_T, c_n bq76_, c_n bq76_, c_n bq76_, c_n bq76_, c_d bq101_, c_le 1, c_bn bq107_, c_no bq114_, c_no bq114_, c_no bq114_, c_no bq114_, c_T] [k_c fq103_, k_c fq108_, k_c fq110_, k_c fq112_] (by kernel_rfl)
    have hq115_ := (if_neg bq114_).symm.trans hq113_
    have bq116_ : r254 = true := by first | exact bq114_ | simpa using bq114_
    obtain ⟨r255, fq117_, hq118_⟩ := pullD_elim hq115_
    replace fq117_ := m_80_ok fq117_
    by_cases bq119_ : r255 = false
    · have hq120_ := (if_pos bq119_).symm.trans hq118_
      obtain rfl := Option.some.inj hq120_
      exact con_pc (op := true) (I := [38, 51, 73, 63, 97]) (sp := endOf_sp) 3000 (bT 1 (bF 5 (bT 1 (bF 5 (bT 1 (bF 6 (bT 1 (bF 4 (bT 1 (bF 5 (bT 1 []))))))))))) [iD r247, (shNK4_0 r248 r249 r250), (shNK4_0 r251 r252 r253), .one (.bool r254), .one (.bool r255)] [c_T, c_n b1_, c_n b1_, c_n b1_, c_n b1_, c_n b3_, c_T, c_n b5_, c_n b5_, c_n b5_, c_n b5_, c_n b7_, c_T, c_n b9_, c_n b9_, c_n b9_, c_n b9_, c_n bq1_, c_F, c_T, c_n bq76_, c_n bq76_, c_n bq76_, c_n bq76_, c_d bq101_, c_le 1, c_bn bq107_, c_nn bq116_, c_nn bq116_, c_nn bq116_, c_nn bq116_, c_no bq119_] [k_c fq103_, k_c fq108_, k_c fq110_, k_c fq112_, k_c fq117_] (by kernel_rfl)
    have hq120_ := (if_neg bq119_).symm.trans hq118_
    have bq121_ : r255 = true := by first | exact bq119_ | simpa using bq119_
    obtain ⟨⟨r256, r257⟩, fq122_, hq123_⟩ := pullD_elim hq120_
    replace fq122_ := m_81_ok fq122_
    obtain ⟨⟨r258, r259⟩, fq124_, hq125_⟩ := pullD_elim hq123_
    replace fq124_ := m_81_ok fq124_
    obtain rfl := Option.some.inj hq125_
    exact con_pc (op := true) (I := [38, 51, 73, 63, 97]) (sp := endOf_sp) 3000 (bT 1 (bF 5 (bT 1 (bF 5 (bT 1 (bF 6 (bT 1 (bF 4 (bT 1 (bF 6 [])))))))))) [iD r247, (shNK4_0 r248 r249 r250), (shNK4_0 r251 r252 r253), .one (.bool r254), .one (.bool r255), .agg [iD r256, iD r257], .agg [iD r258, iD r259]] [c_T, c_n b1_, c_n b1_, c_n b1_, c_n b1_, c_n b3_, c_T, c_n b5_, c_n b5_, c_n b5_, c_n b5_, c_n b7_, c_T, c_n b9_, c_n b9_, c_n b9_, c_n b9_, c_n bq1_, c_F, c_T, c_n bq76_, c_n bq76_, c_n bq76_, c_n bq76_, c_d bq101_, c_le 1, c_bn bq107_, c_nn bq116_, c_nn bq116_, c_nn bq116_, c_nn bq116_, c_nn bq121_] [k_c fq103_, k_c fq108_, k_c fq110_, k_c fq112_, k_c fq117_, k_c fq122_, k_c fq124_] (by kernel_rfl)
  have hq102_ := (if_neg bq101_).symm.trans hq77_
  obtain ⟨r260, fq126_, hq127_⟩ := pullD_elim hq102_
  replace fq126_ := m_50_ok fq126_
  by_cases bq128_ : r260 ≠ (0 : Int)
  · have hq129_ := (if_pos bq128_).symm.trans hq127_
    obtain rfl := Option.some.inj hq129_
    exact con_pc (op := true) (I := [38, 51, 73, 63, 97]) (sp := endOf_sp) 3000 (bT 1 (bF 5 (bT 1 (bF 5 (bT 1 (bF 6 (bT 1 (bF 6 (bT 1 []))))))))) [iD r260] [c_T, c_n b1_, c_n b1_, c_n b1_, c_n b1_, c_n b3_, c_T, c_n b5_, c_n b5_, c_n b5_, c_n b5_, c_n b7_, c_T, c_n b9_, c_n b9_, c_n b9_, c_n b9_, c_n bq1_, c_F, c_T, c_n bq76_, c_n bq76_, c_n bq76_, c_n bq76_, c_n bq101_, c_F, c_le 1, c_b bq128_] [k_c fq126_] (by kernel_rfl)
  have hq129_ := (if_neg bq128_).symm.trans hq127_
  have bq130_ : r260 = (0 : Int) := by first | exact bq128_ | simpa using bq128_
  obtain ⟨⟨r261, r262, r263⟩, fq131_, hq132_⟩ := pullD_elim hq129_
  replace fq131_ := m_79_ok fq131_
  obtain ⟨⟨r264, r265, r266⟩, fq133_, hq134_⟩ := pullD_elim hq132_
  replace fq133_ := m_79_ok fq133_
  obtain ⟨r267, fq135_, hq136_⟩ := pullD_elim hq134_
  replace fq135_ := m_80_ok fq135_
  by_cases bq137_ : r267 = false
  · have hq138_ := (if_pos bq137_).symm.trans hq136_
    obtain rfl := Option.some.inj hq138_
    exact con_pc (op := true) (I := [38, 51, 73, 63, 97]) (sp := endOf_sp) 3000 (bT 1 (bF 5 (bT 1 (bF 5 (bT 1 (bF 6 (bT 1 (bF 7 (bT 5 []))))))))) [iD r260, (shNK4_0 r261 r262 r263), (shNK4_0 r264 r265 r266), .one (.bool r267)] [c_T, c_n b1_, c_n b1_, c_n b1_, c_n b1_, c_n b3_, c_T, c_n b5_, c_n b5_, c_n b5_, c_n b5_, c_n b7_, c_T, c_n b9_, c_n b9_, c_n b9_, c_n b9_, c_n bq1_, c_F, c_T, c_n bq76_, c_n bq76_, c_n bq76_, c_n bq76_, c_n bq101_, c_F, c_le 1, c_bn bq130_, c_no bq137_, c_no bq137_, c_no bq137_, c_no bq137_, c_T] [k_c fq126_, k_c fq131_, k_c fq133_, k_c fq135_] (by kernel_rfl)
  have hq138_ := (if_neg bq137_).symm.trans hq136_
  have bq139_ : r267 = true := by first | exact bq137_ | simpa using bq137_
  obtain ⟨r268, fq140_, hq141_⟩ := pullD_elim hq138_
  replace fq140_ := m_80_ok fq140_
  by_cases bq142_ : r268 = false
  · have hq143_ := (if_pos bq142_).symm.trans hq141_
    obtain rfl := Option.some.inj hq143_
    exact con_pc (op := true) (I := [38, 51, 73, 63, 97]) (sp := endOf_sp) 3000 (bT 1 (bF 5 (bT 1 (bF 5 (bT 1 (bF 6 (bT 1 (bF 11 (bT 1 []))))))))) [iD r260, (shNK4_0 r261 r262 r263), (shNK4_0 r264 r265 r266), .one (.bool r267), .one (.bool r268)] [c_T, c_n b1_, c_n b1_, c_n b1_, c_n b1_, c_n b3_, c_T, c_n b5_, c_n b5_, c_n b5_, c_n b5_, c_n b7_, c_T, c_n b9_, c_n b9_, c_n b9_, c_n b9_, c_n bq1_, c_F, c_T, c_n bq76_, c_n bq76_, c_n bq76_, c_n bq76_, c_n bq101_, c_F, c_le 1, c_bn bq130_, c_nn bq139_, c_nn bq139_, c_nn bq139_, c_nn bq139_, c_no bq142_] [k_c fq126_, k_c fq131_, k_c fq133_, k_c fq135_, k_c fq140_] (by kernel_rfl)
  have hq143_ := (if_neg bq142_).symm.trans hq141_
  have bq144_ : r268 = true := by first | exact bq142_ | simpa using bq142_
  obtain ⟨⟨r269, r270⟩, fq145_, hq146_⟩ := pullD_elim hq143_
  replace fq145_ := m_81_ok fq145_
  obtain ⟨⟨r271, r272⟩, fq147_, hq148_⟩ := pullD_elim hq146_
  replace fq147_ := m_81_ok fq147_
  obtain rfl := Option.some.inj hq148_
  exact con_pc (op := true) (I := [38, 51, 73, 63, 97]) (sp := endOf_sp) 3000 (bT 1 (bF 5 (bT 1 (bF 5 (bT 1 (bF 6 (bT 1 (bF 12 [])))))))) [iD r260, (shNK4_0 r261 r262 r263), (shNK4_0 r264 r265 r266), .one (.bool r267), .one (.bool r268), .agg [iD r269, iD r270], .agg [iD r271, iD r272]] [c_T, c_n b1_, c_n b1_, c_n b1_, c_n b1_, c_n b3_, c_T, c_n b5_, c_n b5_, c_n b5_, c_n b5_, c_n b7_, c_T, c_n b9_, c_n b9_, c_n b9_, c_n b9_, c_n bq1_, c_F, c_T, c_n bq76_, c_n bq76_, c_n bq76_, c_n bq76_, c_n bq101_, c_F, c_le 1, c_bn bq130_, c_nn bq139_, c_nn bq139_, c_nn bq139_, c_nn bq139_, c_nn bq144_] [k_c fq126_, k_c fq131_, k_c fq133_, k_c fq135_, k_c fq140_, k_c fq145_, k_c fq147_] (by kernel_rfl)
theorem endOf_M_ok (a b c e : Int) {r : D} (h : endOf_M a b c e = some r) : Con 38 [(shNK4_0 a b c), iD e] r := by
  unfold endOf_M at h
  by_cases b1_ : a < (-500 : Int)
  · have h2_ := (if_pos b1_).symm.trans h
    exact endOf_M_s0_ok a b c e b1_ h2_
  have h2_ := (if_neg b1_).symm.trans h
  by_cases b3_ : a > (3000 : Int)
  · have h4_ := (if_pos b3_).symm.trans h2_
    exact endOf_M_s1_ok a b c e b1_ b3_ h4_
  have h4_ := (if_neg b3_).symm.trans h2_
  by_cases b5_ : b < (-500 : Int)
  · have h6_ := (if_pos b5_).symm.trans h4_
    exact endOf_M_s2_ok a b c e b1_ b3_ b5_ h6_
  have h6_ := (if_neg b5_).symm.trans h4_
  by_cases b7_ : b > (3000 : Int)
  · have h8_ := (if_pos b7_).symm.trans h6_
    exact endOf_M_s3_ok a b c e b1_ b3_ b5_ b7_ h8_
  have h8_ := (if_neg b7_).symm.trans h6_
  by_cases b9_ : c < (-500 : Int)
  · have h10_ := (if_pos b9_).symm.trans h8_
    exact endOf_M_s4_ok a b c e b1_ b3_ b5_ b7_ b9_ h10_
  have h10_ := (if_neg b9_).symm.trans h8_
  exact endOf_M_s5_ok a b c e b1_ b3_ b5_ b7_ b9_ h10_
def m_38 (ds : List D) : Option D := pullD (α := Int × Int × Int × Int) (some (.tup ds)) (fun d => ((D.vi (D.at (D.at d 0) 0)), (D.vi (D.at (D.at d 0) 1)), (D.vi (D.at (D.at d 0) 2)), (D.vi (D.at d 1)))) (fun (a, b, c, e) => .tup [(shNK4_0 a b c), iD e]) fun (a, b, c, e) => endOf_M a b c e
theorem m_38_ok {ds : List D} {r : D} (h : m_38 ds = some r) : Con 38 ds r := by
  unfold m_38 at h
  obtain ⟨⟨a, b, c, e⟩, e0, h0⟩ := pullD_elim h
  obtain rfl := tup_inj e0
  exact endOf_M_ok a b c e h0
theorem m_38_eq (a b c e : Int) : m_38 [(shNK4_0 a b c), iD e] = endOf_M a b c e := pullD_some (a, b, c, e) rfl rfl
def endV_sp : List LSpec := []
def endV_M (a b c : Int) : Option D := pullD (α := Int × Int) (m_75 [iD (IntKind.i64.wrap (IntKind.i64.wrap (c * IntKind.i64.wrap (IntKind.i64.wrap (b - a) - IntKind.i64.wrap (c - b))) + IntKind.i64.wrap (IntKind.i64.wrap (c - b) * IntKind.i64.wrap (c - b)))), iD (IntKind.i64.wrap (IntKind.i64.wrap (b - a) - IntKind.i64.wrap (c - b)))]) (fun d => ((D.vi (D.at d 0)), (D.vi (D.at d 1)))) (fun (r0, r1) => .agg [iD r0, iD r1]) fun (r0, r1) => (some (.agg [iD r0, iD r1]))
theorem endV_M_ok (a b c : Int) {r : D} (h : endV_M a b c = some r) : Con 41 [(shNK4_0 a b c)] r := by
  unfold endV_M at h
  obtain ⟨⟨r0, r1⟩, f1_, h2_⟩ := pullD_elim h
  replace f1_ := m_75_ok f1_
  obtain rfl := Option.some.inj h2_
  exact con_pc (op := true) (I := [41]) (sp := endV_sp) 3000 [] [.agg [iD r0, iD r1]] [] [k_c f1_] (by kernel_rfl)
def m_41 (ds : List D) : Option D := pullD (α := Int × Int × Int) (some (.tup ds)) (fun d => ((D.vi (D.at (D.at d 0) 0)), (D.vi (D.at (D.at d 0) 1)), (D.vi (D.at (D.at d 0) 2)))) (fun (a, b, c) => .tup [(shNK4_0 a b c)]) fun (a, b, c) => endV_M a b c
theorem m_41_ok {ds : List D} {r : D} (h : m_41 ds = some r) : Con 41 ds r := by
  unfold m_41 at h
  obtain ⟨⟨a, b, c⟩, e0, h0⟩ := pullD_elim h
  obtain rfl := tup_inj e0
  exact endV_M_ok a b c h0
theorem m_41_eq (a b c : Int) : m_41 [(shNK4_0 a b c)] = endV_M a b c := pullD_some (a, b, c) rfl rfl
def endR_sp : List LSpec := []
def endR_M (a b c e : Int) : Option D := pullD (α := Bool) (m_76 [iD a]) (fun d => ((D.vb d))) (fun r0 => .one (.bool r0)) fun r0 => ((if r0 = false then some (.tup [(shNK4_1 (0 : Int) (0 : Int) (0 : Int) (0 : Int)), iD (2 : Int)]) else pullD (α := Bool) (m_76 [iD b]) (fun d => ((D.vb d))) (fun r1 => .one (.bool r1)) fun r1 => ((if r1 = false then some (.tup [(shNK4_1 (0 : Int) (0 : Int) (0 : Int) (0 : Int)), iD (2 : Int)]) else pullD (α := Bool) (m_76 [iD c]) (fun d => ((D.vb d))) (fun r2 => .one (.bool r2)) fun r2 => ((if r2 = false then some (.tup [(shNK4_1 (0 : Int) (0 : Int) (0 : Int) (0 : Int)), iD (2 : Int)]) else pullD (α := Bool) (m_24 [iD e, iD (0 : Int), iD (100 : Int)]) (fun d => ((D.vb d))) (fun r3 => .one (.bool r3)) fun r3 => ((if r3 = false then some (.tup [(shNK4_1 (0 : Int) (0 : Int) (0 : Int) (0 : Int)), iD (2 : Int)]) else (if IntKind.i64.wrap (IntKind.i64.wrap (c - b) - IntKind.i64.wrap ((2 : Int) * e)) < (0 : Int) then some (.tup [(shNK4_1 (0 : Int) (0 : Int) (0 : Int) (0 : Int)), iD (21 : Int)]) else (if IntKind.i64.wrap (IntKind.i64.wrap (IntKind.i64.wrap (b - a) - IntKind.i64.wrap (c - b)) - IntKind.i64.wrap ((4 : Int) * e)) ≤ (0 : Int) then some (.tup [(shNK4_1 (0 : Int) (0 : Int) (0 : Int) (0 : Int)), iD (21 : Int)]) else pullD (α := Int × Int) (m_41 [(shNK4_0 (IntKind.i64.wrap (a - e)) (IntKind.i64.wrap (b + e)) (IntKind.i64.wrap (c - e)))]) (fun d => ((D.vi (D.at d 0)), (D.vi (D.at d 1)))) (fun (r4, r5) => .agg [iD r4, iD r5]) fun (r4, r5) => (pullD (α := Int × Int) (m_41 [(shNK4_0 (IntKind.i64.wrap (a + e)) (IntKind.i64.wrap (b - e)) (IntKind.i64.wrap (c + e)))]) (fun d => ((D.vi (D.at d 0)), (D.vi (D.at d 1)))) (fun (r6, r7) => .agg [iD r6, iD r7]) fun (r6, r7) => (some (.tup [(shNK4_1 r4 r5 r6 r7), iD (0 : Int)])))))))))))))
theorem endR_M_ok (a b c e : Int) {r : D} (h : endR_M a b c e = some r) : Con 39 [(shNK4_0 a b c), iD e] r := by
  unfold endR_M at h
  obtain ⟨r0, f1_, h2_⟩ := pullD_elim h
  replace f1_ := m_76_ok f1_
  by_cases b3_ : r0 = false
  · have h4_ := (if_pos b3_).symm.trans h2_
    obtain rfl := Option.some.inj h4_
    exact con_pc (op := true) (I := [39]) (sp := endR_sp) 3000 (bT 15 []) [.one (.bool r0)] [c_no b3_, c_no b3_, c_no b3_, c_no b3_, c_no b3_, c_T, c_T, c_T, c_T, c_T, c_T, c_T, c_T, c_T, c_T] [k_c f1_] (by kernel_rfl)
  have h4_ := (if_neg b3_).symm.trans h2_
  have b5_ : r0 = true := by first | exact b3_ | simpa using b3_
  obtain ⟨r1, f6_, h7_⟩ := pullD_elim h4_
  replace f6_ := m_76_ok f6_
  by_cases b8_ : r1 = false
  · have h9_ := (if_pos b8_).symm.trans h7_
    obtain rfl := Option.some.inj h9_
    exact con_pc (op := true) (I := [39]) (sp := endR_sp) 3000 (bF 5 (bT 10 [])) [.one (.bool r0), .one (.bool r1)] [c_nn b5_, c_nn b5_, c_nn b5_, c_nn b5_, c_nn b5_, c_no b8_, c_no b8_, c_no b8_, c_no b8_, c_no b8_, c_T, c_T, c_T, c_T, c_T] [k_c f1_, k_c f6_] (by kernel_rfl)
  have h9_ := (if_neg b8_).symm.trans h7_
  have b10_ : r1 = true := by first | exact b8_ | simpa using b8_
  obtain ⟨r2, f11_, h12_⟩ := pullD_elim h9_
  replace f11_ := m_76_ok f11_
  by_cases b13_ : r2 = false
  · have h14_ := (if_pos b13_).symm.trans h12_
    obtain rfl := Option.some.inj h14_
    exact con_pc (op := true) (I := [39]) (sp := endR_sp) 3000 (bF 10 (bT 5 [])) [.one (.bool r0), .one (.bool r1), .one (.bool r2)] [c_nn b5_, c_nn b5_, c_nn b5_, c_nn b5_, c_nn b5_, c_nn b10_, c_nn b10_, c_nn b10_, c_nn b10_, c_nn b10_, c_no b13_, c_no b13_, c_no b13_, c_no b13_, c_T] [k_c f1_, k_c f6_, k_c f11_] (by kernel_rfl)
  have h14_ := (if_neg b13_).symm.trans h12_
  have b15_ : r2 = true := by first | exact b13_ | simpa using b13_
  obtain ⟨r3, f16_, h17_⟩ := pullD_elim h14_
  replace f16_ := m_24_ok f16_
  by_cases b18_ : r3 = false
  · have h19_ := (if_pos b18_).symm.trans h17_
    obtain rfl := Option.some.inj h19_
    exact con_pc (op := true) (I := [39]) (sp := endR_sp) 3000 (bF 14 (bT 1 [])) [.one (.bool r0), .one (.bool r1), .one (.bool r2), .one (.bool r3)] [c_nn b5_, c_nn b5_, c_nn b5_, c_nn b5_, c_nn b5_, c_nn b10_, c_nn b10_, c_nn b10_, c_nn b10_, c_nn b10_, c_nn b15_, c_nn b15_, c_nn b15_, c_nn b15_, c_no b18_] [k_c f1_, k_c f6_, k_c f11_, k_c f16_] (by kernel_rfl)
  have h19_ := (if_neg b18_).symm.trans h17_
  have b20_ : r3 = true := by first | exact b18_ | simpa using b18_
  by_cases b21_ : IntKind.i64.wrap (IntKind.i64.wrap (c - b) - IntKind.i64.wrap ((2 : Int) * e)) < (0 : Int)
  · have h22_ := (if_pos b21_).symm.trans h19_
    obtain rfl := Option.some.inj h22_
    exact con_pc (op := true) (I := [39]) (sp := endR_sp) 3000 (bF 15 (bT 17 [])) [.one (.bool r0), .one (.bool r1), .one (.bool r2), .one (.bool r3)] [c_nn b5_, c_nn b5_, c_nn b5_, c_nn b5_, c_nn b5_, c_nn b10_, c_nn b10_, c_nn b10_, c_nn b10_, c_nn b10_, c_nn b15_, c_nn b15_, c_nn b15_, c_nn b15_, c_nn b20_, c_d b21_, c_d b21_, c_d b21_, c_d b21_, c_d b21_, c_d b21_, c_d b21_, c_d b21_, c_d b21_, c_d b21_, c_d b21_, c_d b21_, c_d b21_, c_d b21_, c_d b21_, c_d b21_, c_T] [k_c f1_, k_c f6_, k_c f11_, k_c f16_] (by kernel_rfl)
  have h22_ := (if_neg b21_).symm.trans h19_
  by_cases b23_ : IntKind.i64.wrap (IntKind.i64.wrap (IntKind.i64.wrap (b - a) - IntKind.i64.wrap (c - b)) - IntKind.i64.wrap ((4 : Int) * e)) ≤ (0 : Int)
  · have h24_ := (if_pos b23_).symm.trans h22_
    obtain rfl := Option.some.inj h24_
    exact con_pc (op := true) (I := [39]) (sp := endR_sp) 3000 (bF 31 (bT 1 [])) [.one (.bool r0), .one (.bool r1), .one (.bool r2), .one (.bool r3)] [c_nn b5_, c_nn b5_, c_nn b5_, c_nn b5_, c_nn b5_, c_nn b10_, c_nn b10_, c_nn b10_, c_nn b10_, c_nn b10_, c_nn b15_, c_nn b15_, c_nn b15_, c_nn b15_, c_nn b20_, c_n b21_, c_n b21_, c_n b21_, c_n b21_, c_n b21_, c_n b21_, c_n b21_, c_n b21_, c_n b21_, c_n b21_, c_n b21_, c_n b21_, c_n b21_, c_n b21_, c_n b21_, c_n b21_, c_d b23_] [k_c f1_, k_c f6_, k_c f11_, k_c f16_] (by kernel_rfl)
  have h24_ := (if_neg b23_).symm.trans h22_
  obtain ⟨⟨r4, r5⟩, f25_, h26_⟩ := pullD_elim h24_
  replace f25_ := m_41_ok f25_
  obtain ⟨⟨r6, r7⟩, f27_, h28_⟩ := pullD_elim h26_
  replace f27_ := m_41_ok f27_
  obtain rfl := Option.some.inj h28_
  exact con_pc (op := true) (I := [39]) (sp := endR_sp) 3000 (bF 32 []) [.one (.bool r0), .one (.bool r1), .one (.bool r2), .one (.bool r3), .agg [iD r4, iD r5], .agg [iD r6, iD r7]] [c_nn b5_, c_nn b5_, c_nn b5_, c_nn b5_, c_nn b5_, c_nn b10_, c_nn b10_, c_nn b10_, c_nn b10_, c_nn b10_, c_nn b15_, c_nn b15_, c_nn b15_, c_nn b15_, c_nn b20_, c_n b21_, c_n b21_, c_n b21_, c_n b21_, c_n b21_, c_n b21_, c_n b21_, c_n b21_, c_n b21_, c_n b21_, c_n b21_, c_n b21_, c_n b21_, c_n b21_, c_n b21_, c_n b21_, c_n b23_] [k_c f1_, k_c f6_, k_c f11_, k_c f16_, k_c f25_, k_c f27_] (by kernel_rfl)
def m_39 (ds : List D) : Option D := pullD (α := Int × Int × Int × Int) (some (.tup ds)) (fun d => ((D.vi (D.at (D.at d 0) 0)), (D.vi (D.at (D.at d 0) 1)), (D.vi (D.at (D.at d 0) 2)), (D.vi (D.at d 1)))) (fun (a, b, c, e) => .tup [(shNK4_0 a b c), iD e]) fun (a, b, c, e) => endR_M a b c e
theorem m_39_ok {ds : List D} {r : D} (h : m_39 ds = some r) : Con 39 ds r := by
  unfold m_39 at h
  obtain ⟨⟨a, b, c, e⟩, e0, h0⟩ := pullD_elim h
  obtain rfl := tup_inj e0
  exact endR_M_ok a b c e h0
theorem m_39_eq (a b c e : Int) : m_39 [(shNK4_0 a b c), iD e] = endR_M a b c e := pullD_some (a, b, c, e) rfl rfl
def mod_sp : List LSpec := []
def mod_M (a b : Int) : Option D := guardP (b ≠ (0 : Int)) ((if a.tmod b < (0 : Int) then some (iD (IntKind.i64.wrap (a.tmod b + b))) else some (iD (a.tmod b))))
theorem mod_M_ok (a b : Int) {r : D} (h : mod_M a b = some r) : Con 40 [iD a, iD b] r := by
  unfold mod_M at h
  obtain ⟨f1_, h2_⟩ := guardP_elim h
  by_cases b3_ : a.tmod b < (0 : Int)
  · have h4_ := (if_pos b3_).symm.trans h2_
    obtain rfl := Option.some.inj h4_
    exact con_pc (op := true) (I := [40]) (sp := mod_sp) 3000 (bT 1 []) [] [c_en f1_, c_d b3_] [] (by kernel_rfl)
  have h4_ := (if_neg b3_).symm.trans h2_
  obtain rfl := Option.some.inj h4_
  exact con_pc (op := true) (I := [40]) (sp := mod_sp) 3000 (bF 1 []) [] [c_en f1_, c_n b3_] [] (by kernel_rfl)
def m_40 (ds : List D) : Option D := pullD (α := Int × Int) (some (.tup ds)) (fun d => ((D.vi (D.at d 0)), (D.vi (D.at d 1)))) (fun (a, b) => .tup [iD a, iD b]) fun (a, b) => mod_M a b
theorem m_40_ok {ds : List D} {r : D} (h : m_40 ds = some r) : Con 40 ds r := by
  unfold m_40 at h
  obtain ⟨⟨a, b⟩, e0, h0⟩ := pullD_elim h
  obtain rfl := tup_inj e0
  exact mod_M_ok a b h0
theorem m_40_eq (a b : Int) : m_40 [iD a, iD b] = mod_M a b := pullD_some (a, b) rfl rfl
def compare_x1_0 : LExit := ⟨none, [.val 8], (List.range' 0 4 ++ (List.range' 9 38))⟩
def compare_sp : List LSpec := [⟨42, 1, [compare_x1_0]⟩]
def compare_L1_E (a b c d : Int)  : List AV × AHeap := ([.pure (.int .i64 a), .pure (.int .i64 b), .pure (.int .i64 c), .pure (.int .i64 d), .pure (.tuple #[]), .pure (.tuple #[]), .pure (.tuple #[]), .pure (.tuple #[]), .pure (.int .i64 (0 : Int)), .pure (.tuple #[]), .pure (.tuple #[]), .pure (.tuple #[]), .pure (.tuple #[]), .pure (.tuple #[]), .pure (.tuple #[]), .pure (.tuple #[]), .pure (.tuple #[]), .pure (.tuple #[]), .pure (.tuple #[]), .pure (.tuple #[]), .pure (.tuple #[]), .pure (.tuple #[]), .pure (.tuple #[]), .pure (.tuple #[]), .pure (.tuple #[]), .pure (.tuple #[]), .pure (.tuple #[]), .pure (.tuple #[]), .pure (.tuple #[]), .pure (.tuple #[]), .pure (.tuple #[]), .pure (.tuple #[]), .pure (.tuple #[]), .pure (.tuple #[]), .pure (.tuple #[]), .pure (.tuple #[]), .pure (.tuple #[]), .pure (.tuple #[]), .pure (.tuple #[]), .pure (.tuple #[]), .pure (.tuple #[]), .pure (.tuple #[]), .pure (.tuple #[]), .pure (.tuple #[]), .pure (.tuple #[]), .pure (.tuple #[]), .pure (.tuple #[])], [])
def compare_L1_A : LoopAt := ⟨42, loopAt Try.prog 42 0, 0, 43, 0, noFrame⟩
theorem compare_L1_ok : (compare_L1_A).OK := ⟨by show 0 ≤ 43; decide, by show 0 ≤ 0; decide, by kernel_rfl, rfl⟩
def compare_L1_gs (a b c d : Int)  : Go.Ev.Rd → Option GS
  | .next 0 ds => ghost [.val 0, .val 1, .val 2, .val 3] (List.range' 8 39) (compare_L1_E a b c d).1 (compare_L1_E a b c d).2 0 ds
  | .out 0 ds => ghost compare_x1_0.live compare_x1_0.junk (compare_L1_E a b c d).1 (compare_L1_E a b c d).2 0 ds
  | _ => none
def compare_L1_ex : Nat → Option Nat
  | 0 => compare_x1_0.ex
  | _ => none
def compare_L1_ax : Go.Ev.Rd → AX
  | .next _ _ => .normal
  | .out j _ => axOf (compare_L1_ex j)
def compare_L1_S0 (a b c d : Int)  (ds : List D) : Option Go.Ev.Rd := pullD (α := Int × Int × Int × Int) (some (.tup ds)) (fun d => ((D.vi (D.at d 0)), (D.vi (D.at d 1)), (D.vi (D.at d 2)), (D.vi (D.at d 3)))) (fun (s0, s1, s2, s3) => .tup [iD s0, iD s1, iD s2, iD s3]) fun (s0, s1, s2, s3) => (pullD (α := Int) (m_65 [iD s0, iD s1]) (fun d => ((D.vi d))) (fun r0 => iD r0) fun r0 => (pullD (α := Int) (m_65 [iD s2, iD s3]) (fun d => ((D.vi d))) (fun r1 => iD r1) fun r1 => ((if r0 < r1 then some (.out 0 [iD (-1 : Int)]) else (if r0 > r1 then some (.out 0 [iD (1 : Int)]) else (if IntKind.i64.wrap (s0 - IntKind.i64.wrap (r0 * s1)) = (0 : Int) then (if IntKind.i64.wrap (s2 - IntKind.i64.wrap (r1 * s3)) = (0 : Int) then some (.out 0 [iD (0 : Int)]) else some (.out 0 [iD (-1 : Int)])) else (if IntKind.i64.wrap (s2 - IntKind.i64.wrap (r1 * s3)) = (0 : Int) then some (.out 0 [iD (1 : Int)]) else some (.next 0 [iD s3, iD (IntKind.i64.wrap (s2 - IntKind.i64.wrap (r1 * s3))), iD s1, iD (IntKind.i64.wrap (s0 - IntKind.i64.wrap (r0 * s1)))]))))))))
def compare_L1_S (a b c d : Int)  : Go.Ev.Rd → Option Go.Ev.Rd
  | .next 0 ds => compare_L1_S0 a b c d ds
  | _ => none
theorem compare_L1_S_ok (a b c d : Int)  : ∀ s_ t_, compare_L1_S a b c d s_ = some t_ → Step (ctx [42] compare_sp) Tabs compare_L1_A (stateOf (compare_L1_gs a b c d s_)) (stateOf (compare_L1_gs a b c d t_)) (compare_L1_ax t_) ∧ EndOK compare_L1_A.nx compare_L1_A.low (compare_L1_gs a b c d) t_
  | .next 0 ds, t_, h => by
    have h_ : compare_L1_S0 a b c d ds = some t_ := h
    clear h
    unfold compare_L1_S0 at h_
    obtain ⟨⟨s0, s1, s2, s3⟩, e0, h0⟩ := pullD_elim h_
    clear h_
    obtain rfl := tup_inj e0
    obtain ⟨r0, f1_, h2_⟩ := pullD_elim h0
    replace f1_ := m_65_ok f1_
    obtain ⟨r1, f3_, h4_⟩ := pullD_elim h2_
    replace f3_ := m_65_ok f3_
    by_cases b5_ : r0 < r1
    · have h6_ := (if_pos b5_).symm.trans h4_
      obtain rfl := Option.some.inj h6_
      exact ⟨step_pc 3000 (bT 1 []) [iD r0, iD r1] [c_d b5_] [k_c f1_, k_c f3_] _ rfl (by kernel_rfl) (by kernel_rfl) (by kernel_rfl) (by kernel_rfl) (by kernel_rfl) (by kernel_rfl), by kernel_rfl, by kernel_rfl⟩
    have h6_ := (if_neg b5_).symm.trans h4_
    by_cases b7_ : r0 > r1
    · have h8_ := (if_pos b7_).symm.trans h6_
      obtain rfl := Option.some.inj h8_
      exact ⟨step_pc 3000 (bF 1 (bT 1 [])) [iD r0, iD r1] [c_n b5_, c_d b7_] [k_c f1_, k_c f3_] _ rfl (by kernel_rfl) (by kernel_rfl) (by kernel_rfl) (by kernel_rfl) (by kernel_rfl) (by kernel_rfl), by kernel_rfl, by kernel_rfl⟩
    have h8_ := (if_neg b7_).symm.trans h6_
    by_cases b9_ : IntKind.i64.wrap (s0 - IntKind.i64.wrap (r0 * s1)) = (0 : Int)
    · have h10_ := (if_pos b9_).symm.trans h8_
      by_cases b11_ : IntKind.i64.wrap (s2 - IntKind.i64.wrap (r1 * s3)) = (0 : Int)
      · have h12_ := (if_pos b11_).symm.trans h10_
        obtain rfl := Option.some.inj h12_
        exact ⟨step_pc 3000 (bF 2 (bT 4 [])) [iD r0, iD r1] [c_n b5_, c_n b7_, c_e b9_, c_e b9_, c_e b9_, c_e b11_] [k_c f1_, k_c f3_] _ rfl (by kernel_rfl) (by kernel_rfl) (by kernel_rfl) (by kernel_rfl) (by kernel_rfl) (by kernel_rfl), by kernel_rfl, by kernel_rfl⟩
      have h12_ := (if_neg b11_).symm.trans h10_
      have b13_ : IntKind.i64.wrap (s2 - IntKind.i64.wrap (r1 * s3)) ≠ (0 : Int) := by first | exact b11_ | simpa using b11_
      obtain rfl := Option.some.inj h12_
      exact ⟨step_pc 3000 (bF 2 (bT 3 (bF 1 (bT 1 [])))) [iD r0, iD r1] [c_n b5_, c_n b7_, c_e b9_, c_e b9_, c_e b9_, c_en b13_, c_e b9_] [k_c f1_, k_c f3_] _ rfl (by kernel_rfl) (by kernel_rfl) (by kernel_rfl) (by kernel_rfl) (by kernel_rfl) (by kernel_rfl), by kernel_rfl, by kernel_rfl⟩
    have h10_ := (if_neg b9_).symm.trans h8_
    have b14_ : IntKind.i64.wrap (s0 - IntKind.i64.wrap (r0 * s1)) ≠ (0 : Int) := by first | exact b9_ | simpa using b9_
    by_cases b15_ : IntKind.i64.wrap (s2 - IntKind.i64.wrap (r1 * s3)) = (0 : Int)
    · have h16_ := (if_pos b15_).symm.trans h10_
      obtain rfl := Option.some.inj h16_
      exact ⟨step_pc 3000 (bF 7 (bT 1 [])) [iD r0, iD r1] [c_n b5_, c_n b7_, c_en b14_, c_en b14_, c_en b14_, c_F, c_en b14_, c_e b15_] [k_c f1_, k_c f3_] _ rfl (by kernel_rfl) (by kernel_rfl) (by kernel_rfl) (by kernel_rfl) (by kernel_rfl) (by kernel_rfl), by kernel_rfl, by kernel_rfl⟩
    have h16_ := (if_neg b15_).symm.trans h10_
    have b17_ : IntKind.i64.wrap (s2 - IntKind.i64.wrap (r1 * s3)) ≠ (0 : Int) := by first | exact b15_ | simpa using b15_
    obtain rfl := Option.some.inj h16_
    exact ⟨step_pc 3000 (bF 8 []) [iD r0, iD r1] [c_n b5_, c_n b7_, c_en b14_, c_en b14_, c_en b14_, c_F, c_en b14_, c_en b17_] [k_c f1_, k_c f3_] _ rfl (by kernel_rfl) (by kernel_rfl) (by kernel_rfl) (by kernel_rfl) (by kernel_rfl) (by kernel_rfl), trivial⟩
  | .next (_ + 1) _, _, h => by cases h
  | .out _ _, _, h => by cases h
theorem compare_L1_go (a b c d : Int)  {q : Nat} {ds : List D} {j : Nat} {es : List D} (h : runR (compare_L1_S a b c d) (.next q ds) = some (.out j es)) : Runs (ctx [42] compare_sp) Tabs compare_L1_A (stateOf (compare_L1_gs a b c d (.next q ds))) (stateOf (compare_L1_gs a b c d (.out j es))) (compare_L1_ax (.out j es)) ∧ (nxtOf (compare_L1_gs a b c d (.out j es)), lowGS (compare_L1_gs a b c d (.out j es))) = (compare_L1_A.nx, compare_L1_A.low) :=
  runs_of' (good true _ _) compare_L1_ok (ax := compare_L1_ax) (fun _ _ => rfl) (fun _ _ => axOf_end _) (compare_L1_S_ok a b c d) h
theorem compare_L1_in0 (a b c d : Int)  {es : List D} (h : runR (compare_L1_S a b c d) (.next 0 [iD a, iD b, iD c, iD d]) = some (.out 0 es)) : LoopC (loopAt Try.prog 42 0) (compare_L1_E a b c d) 0 noFrame compare_x1_0 es :=
  have r := compare_L1_go a b c d h
  loopin_as rfl (loop_in (l := compare_L1_A) (E := (compare_L1_E a b c d)) (S := stateOf (compare_L1_gs a b c d (.next 0 [iD a, iD b, iD c, iD d]))) (ns := nsOf (compare_L1_gs a b c d (.next 0 [iD a, iD b, iD c, iD d]))) compare_L1_ok r.1 r.2 (by kernel_rfl) (by kernel_rfl) (by kernel_rfl) (by kernel_rfl))
def compare_M (a b c d : Int) : Option D := bindL (runR (compare_L1_S a b c d) (.next 0 [iD a, iD b, iD c, iD d])) fun j ds => (if j = 0 then pullD (α := Int) (some (.tup ds)) (fun d => ((D.vi (D.at d 0)))) (fun l0 => .tup [iD l0]) fun l0 => (some (iD l0)) else none)
theorem compare_M_ok (a b c d : Int) {r : D} (h : compare_M a b c d = some r) : Con 42 [iD a, iD b, iD c, iD d] r := by
  unfold compare_M at h
  obtain ⟨j, ds, e1_, h2_⟩ := bindL_elim h
  by_cases j3_ : j = 0
  · have h6_ := (if_pos j3_).symm.trans h2_
    clear h2_
    subst j3_
    obtain ⟨l0, e4_, h7_⟩ := pullD_elim h6_
    clear h6_
    obtain rfl := tup_inj e4_
    have k5_ := compare_L1_in0 a b c d e1_
    obtain rfl := Option.some.inj h7_
    exact con_pc (op := true) (I := [42]) (sp := compare_sp) 3000 [] [.tup [iD (Int.ofNat 0), iD l0]] [] [k_l k5_ [] [.tup [iD (Int.ofNat 0), iD l0]] []] (by kernel_rfl)
  have h8_ := (if_neg j3_).symm.trans h2_
  clear h2_
  cases h8_
def m_42 (ds : List D) : Option D := pullD (α := Int × Int × Int × Int) (some (.tup ds)) (fun d => ((D.vi (D.at d 0)), (D.vi (D.at d 1)), (D.vi (D.at d 2)), (D.vi (D.at d 3)))) (fun (a, b, c, d) => .tup [iD a, iD b, iD c, iD d]) fun (a, b, c, d) => compare_M a b c d
theorem m_42_ok {ds : List D} {r : D} (h : m_42 ds = some r) : Con 42 ds r := by
  unfold m_42 at h
  obtain ⟨⟨a, b, c, d⟩, e0, h0⟩ := pullD_elim h
  obtain rfl := tup_inj e0
  exact compare_M_ok a b c d h0
theorem m_42_eq (a b c d : Int) : m_42 [iD a, iD b, iD c, iD d] = compare_M a b c d := pullD_some (a, b, c, d) rfl rfl
def law8_sp : List LSpec := []
def law8_M (a b c e x y z : Int) : Option D := pullD (α := Bool) (m_9 []) (fun d => ((D.vb d))) (fun r0 => .one (.bool r0)) fun r0 => ((if r0 = false then some (.one (.bool false)) else pullD (α := Int × Int × Int × Int × Int) (m_38 [(shNK4_0 a b c), iD e]) (fun d => ((D.vi (D.at (D.at d 0) 0)), (D.vi (D.at (D.at d 0) 1)), (D.vi (D.at (D.at d 0) 2)), (D.vi (D.at (D.at d 0) 3)), (D.vi (D.at d 1)))) (fun (r1, r2, r3, r4, r5) => .tup [(shNK4_1 r1 r2 r3 r4), iD r5]) fun (r1, r2, r3, r4, r5) => (pullD (α := Int × Int × Int × Int × Int) (m_39 [(shNK4_0 a b c), iD e]) (fun d => ((D.vi (D.at (D.at d 0) 0)), (D.vi (D.at (D.at d 0) 1)), (D.vi (D.at (D.at d 0) 2)), (D.vi (D.at (D.at d 0) 3)), (D.vi (D.at d 1)))) (fun (r6, r7, r8, r9, r10) => .tup [(shNK4_1 r6 r7 r8 r9), iD r10]) fun (r6, r7, r8, r9, r10) => ((if r5 ≠ r10 then some (.one (.bool false)) else (if (!(r1 == r6 && (r2 == r7 && true) && (r3 == r8 && (r4 == r9 && true) && true))) = true then some (.one (.bool false)) else (if r10 ≠ (0 : Int) then some (.one (.bool true)) else pullD (α := Int) (m_40 [iD x, iD (IntKind.i64.wrap (IntKind.i64.wrap ((2 : Int) * e) + (1 : Int)))]) (fun d => ((D.vi d))) (fun r11 => iD r11) fun r11 => (pullD (α := Int) (m_40 [iD y, iD (IntKind.i64.wrap (IntKind.i64.wrap ((2 : Int) * e) + (1 : Int)))]) (fun d => ((D.vi d))) (fun r12 => iD r12) fun r12 => (pullD (α := Int) (m_40 [iD z, iD (IntKind.i64.wrap (IntKind.i64.wrap ((2 : Int) * e) + (1 : Int)))]) (fun d => ((D.vi d))) (fun r13 => iD r13) fun r13 => (pullD (α := Int × Int) (m_41 [(shNK4_0 (IntKind.i64.wrap (IntKind.i64.wrap (a - e) + r11)) (IntKind.i64.wrap (IntKind.i64.wrap (b - e) + r12)) (IntKind.i64.wrap (IntKind.i64.wrap (c - e) + r13)))]) (fun d => ((D.vi (D.at d 0)), (D.vi (D.at d 1)))) (fun (r14, r15) => .agg [iD r14, iD r15]) fun (r14, r15) => (pullD (α := Int) (m_42 [iD r1, iD r2, iD r14, iD r15]) (fun d => ((D.vi d))) (fun r16 => iD r16) fun r16 => ((if r16 ≤ (0 : Int) then pullD (α := Int) (m_42 [iD r14, iD r15, iD r3, iD r4]) (fun d => ((D.vi d))) (fun r17 => iD r17) fun r17 => ((if r17 ≤ (0 : Int) then pullD (α := Int) (m_42 [iD r1, iD r2, iD (IntKind.i64.wrap (c - e)), iD (1 : Int)]) (fun d => ((D.vi d))) (fun r18 => iD r18) fun r18 => ((if r18 ≥ (0 : Int) then (if e > (0 : Int) then some (.one (.bool true)) else some (.one (.bool (r1 == r3 && (r2 == r4 && true))))) else some (.one (.bool false)))) else some (.one (.bool false)))) else some (.one (.bool false)))))))))))))))
theorem law8_M_ok (a b c e x y z : Int) {r : D} (h : law8_M a b c e x y z = some r) : Con 8 [(shNK4_0 a b c), iD e, (shNK4_0 x y z)] r := by
  unfold law8_M at h
  obtain ⟨r0, f1_, h2_⟩ := pullD_elim h
  replace f1_ := m_9_ok f1_
  by_cases b3_ : r0 = false
  · have h4_ := (if_pos b3_).symm.trans h2_
    obtain rfl := Option.some.inj h4_
    exact con_pc (op := true) (I := [8]) (sp := law8_sp) 3000 (bT 1 []) [.one (.bool r0)] [c_no b3_] [k_c f1_] (by kernel_rfl)
  have h4_ := (if_neg b3_).symm.trans h2_
  have b5_ : r0 = true := by first | exact b3_ | simpa using b3_
  obtain ⟨⟨r1, r2, r3, r4, r5⟩, f6_, h7_⟩ := pullD_elim h4_
  replace f6_ := m_38_ok f6_
  obtain ⟨⟨r6, r7, r8, r9, r10⟩, f8_, h9_⟩ := pullD_elim h7_
  replace f8_ := m_39_ok f8_
  by_cases b10_ : r5 ≠ r10
  · have h11_ := (if_pos b10_).symm.trans h9_
    obtain rfl := Option.some.inj h11_
    exact con_pc (op := true) (I := [8]) (sp := law8_sp) 3000 (bF 1 (bT 5 [])) [.one (.bool r0), .tup [(shNK4_1 r1 r2 r3 r4), iD r5], .tup [(shNK4_1 r6 r7 r8 r9), iD r10]] [c_nn b5_, c_b b10_, c_b b10_, c_b b10_, c_b b10_, c_T] [k_c f1_, k_c f6_, k_c f8_] (by kernel_rfl)
  have h11_ := (if_neg b10_).symm.trans h9_
  have b12_ : r5 = r10 := by first | exact b10_ | simpa using b10_
  by_cases b13_ : (!(r1 == r6 && (r2 == r7 && true) && (r3 == r8 && (r4 == r9 && true) && true))) = true
  · have h14_ := (if_pos b13_).symm.trans h11_
    obtain rfl := Option.some.inj h14_
    exact con_pc (op := true) (I := [8]) (sp := law8_sp) 3000 (bF 5 (bT 1 [])) [.one (.bool r0), .tup [(shNK4_1 r1 r2 r3 r4), iD r5], .tup [(shNK4_1 r6 r7 r8 r9), iD r10]] [c_nn b5_, c_bn b12_, c_bn b12_, c_bn b12_, c_bn b12_, c_q b13_] [k_c f1_, k_c f6_, k_c f8_] (by kernel_rfl)
  have h14_ := (if_neg b13_).symm.trans h11_
  have b15_ : (!(r1 == r6 && (r2 == r7 && true) && (r3 == r8 && (r4 == r9 && true) && true))) = false := by first | exact b13_ | simpa using b13_
  by_cases b16_ : r10 ≠ (0 : Int)
  · have h17_ := (if_pos b16_).symm.trans h14_
    obtain rfl := Option.some.inj h17_
    exact con_pc (op := true) (I := [8]) (sp := law8_sp) 3000 (bF 6 (bT 1 [])) [.one (.bool r0), .tup [(shNK4_1 r1 r2 r3 r4), iD r5], .tup [(shNK4_1 r6 r7 r8 r9), iD r10]] [c_nn b5_, c_bn b12_, c_bn b12_, c_bn b12_, c_bn b12_, c_q b15_, c_b b16_] [k_c f1_, k_c f6_, k_c f8_] (by kernel_rfl)
  have h17_ := (if_neg b16_).symm.trans h14_
  have b18_ : r10 = (0 : Int) := by first | exact b16_ | simpa using b16_
  obtain ⟨r11, f19_, h20_⟩ := pullD_elim h17_
  replace f19_ := m_40_ok f19_
  obtain ⟨r12, f21_, h22_⟩ := pullD_elim h20_
  replace f21_ := m_40_ok f21_
  obtain ⟨r13, f23_, h24_⟩ := pullD_elim h22_
  replace f23_ := m_40_ok f23_
  obtain ⟨⟨r14, r15⟩, f25_, h26_⟩ := pullD_elim h24_
  replace f25_ := m_41_ok f25_
  obtain ⟨r16, f27_, h28_⟩ := pullD_elim h26_
  replace f27_ := m_42_ok f27_
  by_cases b29_ : r16 ≤ (0 : Int)
  · have h30_ := (if_pos b29_).symm.trans h28_
    obtain ⟨r17, f31_, h32_⟩ := pullD_elim h30_
    replace f31_ := m_42_ok f31_
    by_cases b33_ : r17 ≤ (0 : Int)
    · have h34_ := (if_pos b33_).symm.trans h32_
      obtain ⟨r18, f35_, h36_⟩ := pullD_elim h34_
      replace f35_ := m_42_ok f35_
      by_cases b37_ : r18 ≥ (0 : Int)
      · have h38_ := (if_pos b37_).symm.trans h36_
        by_cases b39_ : e > (0 : Int)
        · have h40_ := (if_pos b39_).symm.trans h38_
          obtain rfl := Option.some.inj h40_
          exact con_pc (op := true) (I := [8]) (sp := law8_sp) 3000 (bF 7 (bT 3 (bF 1 (bT 37 [])))) [.one (.bool r0), .tup [(shNK4_1 r1 r2 r3 r4), iD r5], .tup [(shNK4_1 r6 r7 r8 r9), iD r10], iD r11, iD r12, iD r13, .agg [iD r14, iD r15], iD r16, iD r17, iD r18] [c_nn b5_, c_bn b12_, c_bn b12_, c_bn b12_, c_bn b12_, c_q b15_, c_bn b18_, c_T, c_T, c_T, c_F, c_d b29_, c_d b29_, c_d b29_, c_d b29_, c_d b29_, c_d b29_, c_d b29_, c_d b29_, c_d b29_, c_d b29_, c_d b29_, c_d b29_, c_d b29_, c_d b33_, c_d b33_, c_d b33_, c_d b33_, c_d b33_, c_d b33_, c_d b33_, c_d b33_, c_d b33_, c_d b33_, c_d b33_, c_d b33_, c_d b33_, c_d b37_, c_d b37_, c_d b37_, c_d b39_, c_d b39_, c_d b39_, c_d b39_, c_d b39_, c_d b37_, c_d b39_, c_d b37_] [k_c f1_, k_c f6_, k_c f8_, k_c f19_, k_c f21_, k_c f23_, k_c f25_, k_c f27_, k_c f31_, k_c f35_] (by kernel_rfl)
        have h40_ := (if_neg b39_).symm.trans h38_
        obtain rfl := Option.some.inj h40_
        exact con_pc (op := true) (I := [8]) (sp := law8_sp) 3000 (bF 7 (bT 3 (bF 1 (bT 29 (bF 5 (bT 1 (bF 1 (bT 1 [])))))))) [.one (.bool r0), .tup [(shNK4_1 r1 r2 r3 r4), iD r5], .tup [(shNK4_1 r6 r7 r8 r9), iD r10], iD r11, iD r12, iD r13, .agg [iD r14, iD r15], iD r16, iD r17, iD r18] [c_nn b5_, c_bn b12_, c_bn b12_, c_bn b12_, c_bn b12_, c_q b15_, c_bn b18_, c_T, c_T, c_T, c_F, c_d b29_, c_d b29_, c_d b29_, c_d b29_, c_d b29_, c_d b29_, c_d b29_, c_d b29_, c_d b29_, c_d b29_, c_d b29_, c_d b29_, c_d b29_, c_d b33_, c_d b33_, c_d b33_, c_d b33_, c_d b33_, c_d b33_, c_d b33_, c_d b33_, c_d b33_, c_d b33_, c_d b33_, c_d b33_, c_d b33_, c_d b37_, c_d b37_, c_d b37_, c_n b39_, c_n b39_, c_n b39_, c_n b39_, c_n b39_, c_d b37_, c_n b39_, c_d b37_] [k_c f1_, k_c f6_, k_c f8_, k_c f19_, k_c f21_, k_c f23_, k_c f25_, k_c f27_, k_c f31_, k_c f35_] (by kernel_rfl)
      have h38_ := (if_neg b37_).symm.trans h36_
      obtain rfl := Option.some.inj h38_
      exact con_pc (op := true) (I := [8]) (sp := law8_sp) 3000 (bF 7 (bT 3 (bF 1 (bT 26 (bF 5 []))))) [.one (.bool r0), .tup [(shNK4_1 r1 r2 r3 r4), iD r5], .tup [(shNK4_1 r6 r7 r8 r9), iD r10], iD r11, iD r12, iD r13, .agg [iD r14, iD r15], iD r16, iD r17, iD r18] [c_nn b5_, c_bn b12_, c_bn b12_, c_bn b12_, c_bn b12_, c_q b15_, c_bn b18_, c_T, c_T, c_T, c_F, c_d b29_, c_d b29_, c_d b29_, c_d b29_, c_d b29_, c_d b29_, c_d b29_, c_d b29_, c_d b29_, c_d b29_, c_d b29_, c_d b29_, c_d b29_, c_d b33_, c_d b33_, c_d b33_, c_d b33_, c_d b33_, c_d b33_, c_d b33_, c_d b33_, c_d b33_, c_d b33_, c_d b33_, c_d b33_, c_d b33_, c_n b37_, c_n b37_, c_n b37_, c_n b37_, c_n b37_] [k_c f1_, k_c f6_, k_c f8_, k_c f19_, k_c f21_, k_c f23_, k_c f25_, k_c f27_, k_c f31_, k_c f35_] (by kernel_rfl)
    have h34_ := (if_neg b33_).symm.trans h32_
    obtain rfl := Option.some.inj h34_
    exact con_pc (op := true) (I := [8]) (sp := law8_sp) 3000 (bF 7 (bT 3 (bF 1 (bT 13 (bF 18 []))))) [.one (.bool r0), .tup [(shNK4_1 r1 r2 r3 r4), iD r5], .tup [(shNK4_1 r6 r7 r8 r9), iD r10], iD r11, iD r12, iD r13, .agg [iD r14, iD r15], iD r16, iD r17] [c_nn b5_, c_bn b12_, c_bn b12_, c_bn b12_, c_bn b12_, c_q b15_, c_bn b18_, c_T, c_T, c_T, c_F, c_d b29_, c_d b29_, c_d b29_, c_d b29_, c_d b29_, c_d b29_, c_d b29_, c_d b29_, c_d b29_, c_d b29_, c_d b29_, c_d b29_, c_d b29_, c_n b33_, c_n b33_, c_n b33_, c_n b33_, c_n b33_, c_n b33_, c_n b33_, c_n b33_, c_n b33_, c_n b33_, c_n b33_, c_n b33_, c_n b33_, c_F, c_F, c_F, c_F, c_F] [k_c f1_, k_c f6_, k_c f8_, k_c f19_, k_c f21_, k_c f23_, k_c f25_, k_c f27_, k_c f31_] (by kernel_rfl)
  have h30_ := (if_neg b29_).symm.trans h28_
  obtain rfl := Option.some.inj h30_
  exact con_pc (op := true) (I := [8]) (sp := law8_sp) 3000 (bF 7 (bT 3 (bF 32 []))) [.one (.bool r0), .tup [(shNK4_1 r1 r2 r3 r4), iD r5], .tup [(shNK4_1 r6 r7 r8 r9), iD r10], iD r11, iD r12, iD r13, .agg [iD r14, iD r15], iD r16] [c_nn b5_, c_bn b12_, c_bn b12_, c_bn b12_, c_bn b12_, c_q b15_, c_bn b18_, c_T, c_T, c_T, c_F, c_n b29_, c_n b29_, c_n b29_, c_n b29_, c_n b29_, c_n b29_, c_n b29_, c_n b29_, c_n b29_, c_n b29_, c_n b29_, c_n b29_, c_n b29_, c_F, c_F, c_F, c_F, c_F, c_F, c_F, c_F, c_F, c_F, c_F, c_F, c_F, c_F, c_F, c_F, c_F, c_F] [k_c f1_, k_c f6_, k_c f8_, k_c f19_, k_c f21_, k_c f23_, k_c f25_, k_c f27_] (by kernel_rfl)
def m_8 (ds : List D) : Option D := pullD (α := Int × Int × Int × Int × Int × Int × Int) (some (.tup ds)) (fun d => ((D.vi (D.at (D.at d 0) 0)), (D.vi (D.at (D.at d 0) 1)), (D.vi (D.at (D.at d 0) 2)), (D.vi (D.at d 1)), (D.vi (D.at (D.at d 2) 0)), (D.vi (D.at (D.at d 2) 1)), (D.vi (D.at (D.at d 2) 2)))) (fun (a, b, c, e, x, y, z) => .tup [(shNK4_0 a b c), iD e, (shNK4_0 x y z)]) fun (a, b, c, e, x, y, z) => law8_M a b c e x y z
theorem m_8_ok {ds : List D} {r : D} (h : m_8 ds = some r) : Con 8 ds r := by
  unfold m_8 at h
  obtain ⟨⟨a, b, c, e, x, y, z⟩, e0, h0⟩ := pullD_elim h
  obtain rfl := tup_inj e0
  exact law8_M_ok a b c e x y z h0
theorem m_8_eq (a b c e x y z : Int) : m_8 [(shNK4_0 a b c), iD e, (shNK4_0 x y z)] = law8_M a b c e x y z := pullD_some (a, b, c, e, x, y, z) rfl rfl
end
end Go.Proofs.Ytjjbacbjdilhmaa
/- Figures and their times. -/
namespace Go.Proofs.Ytjjbacbjdilhmaa
open Go.Ev Go.RowKit
set_option maxRecDepth 100000
/-! ### Errors -/
def firstV : List Int → Int
  | [] => 0
  | x :: l => if x = 0 then firstV l else x
theorem first_go (k : Nat) : ∀ (pre l : List Int), k = (pre ++ l).length → k ≤ 1000000 → (∀ x ∈ pre, x = 0) →
    runR (firstOf_L2_S k ((pre ++ l).map iD)) (.next 0 [iD (pre.length : Int)]) = some (if firstV l = 0 then .out 0 [] else .out 1 [iD (firstV l)]) := by
  intro pre l
  induction l generalizing pre with
  | nil =>
    intro hk _ _
    rw [List.append_nil] at hk ⊢
    refine runR_exit ?_
    show firstOf_L2_S0 _ _ _ = _
    unfold firstOf_L2_S0
    rw [pullD_some (pre.length : Int) (by rfl) (by rfl), if_neg (by omega)]
  | cons x l ih =>
    intro hk hs hp
    have hg : (pre ++ x :: l)[pre.length]? = some x := by simp
    have hlt : pre.length < k := by rw [hk, List.length_append, List.length_cons]; omega
    by_cases hx : x = 0
    · have st : firstOf_L2_S k ((pre ++ x :: l).map iD) (.next 0 [iD (pre.length : Int)]) = some (.next 0 [iD (((pre ++ [x]).length : Nat) : Int)]) := by
        show firstOf_L2_S0 _ _ _ = _
        unfold firstOf_L2_S0
        rw [pullD_some (pre.length : Int) (by rfl) (by rfl), if_pos (by omega), guardP_pos (by omega), readW hg, pullI, if_neg (by simp [hx]), wrapJ _ (by omega) (by omega), List.length_append, List.length_singleton]
        rfl
      have h2 := ih (pre ++ [x]) (by rw [hk]; simp) hs (fun y hy => by
        rcases List.mem_append.1 hy with h | h
        · exact hp y h
        · simp at h; rw [h]; exact hx)
      rw [List.append_assoc, List.singleton_append] at h2
      rw [runR_next st, h2]
      simp [firstV, hx]
    · refine (runR_exit (j := 1) (es := [iD x]) ?_).trans ?_
      · show firstOf_L2_S0 _ _ _ = _
        unfold firstOf_L2_S0
        rw [pullD_some (pre.length : Int) (by rfl) (by rfl), if_pos (by omega), guardP_pos (by omega), readW hg, pullI, if_pos hx]
      · simp [firstV, hx]
theorem firstOf_eq (l : List Int) (hl : l.length ≤ 1000000) : m_50 [lD l] = some (iD (firstV l)) := by
  have h := first_go l.length [] l rfl hl (fun _ h => by cases h)
  simp only [List.nil_append, List.length_nil] at h
  have h : runR (firstOf_L2_S l.length (l.map iD)) (.next 0 [.one (.int .i64 0)]) = some (if firstV l = 0 then .out 0 [] else .out 1 [iD (firstV l)]) := h
  rw [m_50_eq]
  unfold firstOf_M
  by_cases h0 : firstV l = 0
  · rw [if_pos h0] at h
    rw [bindL_some h, if_pos rfl, pullD_some () (by rfl) (by rfl), h0]
  · rw [if_neg h0] at h
    rw [bindL_some h, if_neg (by decide), if_pos rfl, pullD_some (firstV l) (by rfl) (by rfl)]
theorem f2 (x y : Int) : m_50 [.list 2 [iD x, iD y]] = some (iD (firstV [x, y])) := firstOf_eq [x, y] (by simp)
theorem f3 (x y z : Int) : m_50 [.list 3 [iD x, iD y, iD z]] = some (iD (firstV [x, y, z])) := firstOf_eq [x, y, z] (by simp)
/-- A loop that looks for what is not so. -/
theorem scanB {n : Nat} {ok : Nat → Bool} {bad : List D} {S : Rd → Option Rd} (hs : ∀ i, i < n → S (.next 0 [iD (i : Int)]) = if ok i = true then some (.next 0 [iD ((i + 1 : Nat) : Int)]) else some (.out 1 bad)) (he : S (.next 0 [iD (n : Int)]) = some (.out 0 [])) :
    ∀ m i, i + m = n → runR S (.next 0 [iD (i : Int)]) = if (List.range' i m).all ok = true then some (.out 0 []) else some (.out 1 bad) := by
  intro m
  induction m with
  | zero =>
    intro i hi
    have : i = n := by omega
    subst this
    rw [runR_exit he]; rfl
  | succ m ih =>
    intro i hi
    have h1 := hs i (by omega)
    rw [List.range'_succ, List.all_cons]
    cases h0 : ok i with
    | true =>
      rw [h0, if_pos rfl] at h1
      rw [runR_next h1, ih (i + 1) (by omega), Bool.true_and]
    | false =>
      rw [h0, if_neg (by decide)] at h1
      rw [runR_exit h1, Bool.false_and, if_neg (by decide)]
/-- Are all pairs in order? -/
def ordE (l : List (Int × Int)) : Int := if (List.range' 0 l.length).all (fun i => decide (ta l i ≤ va l i)) = true then 0 else 9
theorem inOrder_eq (l : List (Int × Int)) (hl : l.length ≤ 1000000) : m_64 [lP l] = some (iD (ordE l)) := by
  rw [m_64_eq]
  unfold inOrder_M
  have h := scanB (n := l.length) (ok := fun i => decide (ta l i ≤ va l i)) (bad := [iD 9]) (S := inOrder_L2_S l.length (cP l)) (fun i hi => by
    show inOrder_L2_S0 _ _ _ = _
    unfold inOrder_L2_S0
    rw [pullD_some (i : Int) (by rfl) (by rfl), if_pos (by omega), guardP_pos (by omega), show ((i : Int).toNat) = i from rfl, readP hi, pullD_some (ta l i, va l i) (by rfl) (by rfl), natI (by omega)]
    dsimp only
    by_cases h : ta l i ≤ va l i
    · rw [if_neg (by omega), if_pos (by simpa using h)]
    · rw [if_pos (by omega), if_neg (by simpa using h)]) (by
    show inOrder_L2_S0 _ _ _ = _
    unfold inOrder_L2_S0
    rw [pullD_some (l.length : Int) (by rfl) (by rfl), if_neg (by omega)]) l.length 0 (by omega)
  rw [Int.natCast_zero] at h
  unfold ordE
  by_cases q : (List.range' 0 l.length).all (fun i => decide (ta l i ≤ va l i)) = true
  · rw [if_pos q] at h ⊢
    rw [bindL_some h, if_pos rfl, pullD_some () (by rfl) (by rfl)]
  · rw [if_neg q] at h ⊢
    rw [bindL_some h, if_neg (by decide), if_pos rfl, pullD_some (9 : Int) (by rfl) (by rfl)]
theorem ord1 (a b : Int) : m_64 [.list 1 [iD a, iD b]] = some (iD (if a ≤ b then 0 else 9)) := by
  have := inOrder_eq [(a, b)] (by simp)
  refine this.trans ?_
  congr 3
  unfold ordE
  simp [List.range', ta, va]
theorem within_eq (n lo hi : Int) : m_24 [iD n, iD lo, iD hi] = some (.one (.bool (decide (lo ≤ n ∧ n ≤ hi)))) := by
  rw [m_24_eq]
  unfold within_M
  by_cases h : lo ≤ n
  · rw [if_pos h]; simp [h]
  · rw [if_neg h]; simp [h]
/-! ### Rounded -/
def flW (n d : Int) : Int := if n.tmod d < 0 then IntKind.i64.wrap (IntKind.i64.wrap (n.tdiv d) - 1) else IntKind.i64.wrap (n.tdiv d)
theorem floor_eq (n : Int) {d : Int} (hd : d ≠ 0) : m_65 [iD n, iD d] = some (iD (flW n d)) := by
  rw [m_65_eq]
  unfold floor_M flW
  rw [guardP_pos hd]
  split <;> rfl
/-! ### Figures -/
/-! ### Times -/
end Go.Proofs.Ytjjbacbjdilhmaa
/- Quotients, resistances. -/
namespace Go.Proofs.Ytjjbacbjdilhmaa
open Go.Ev Go.RowKit
set_option maxRecDepth 100000
/-! ### Divisors -/
/-- Where the division with a remainder ends. -/
def eu (a b : Int) : Int := if h : b = 0 then a else eu b (a.tmod b)
termination_by b.natAbs
decreasing_by
  rw [Int.natAbs_tmod]
  exact Nat.mod_lt _ (by omega)
theorem eu_zero (a : Int) : eu a 0 = a := by unfold eu; simp
theorem eu_step {a b : Int} (h : b ≠ 0) : eu a b = eu b (a.tmod b) := by
  conv => lhs; unfold eu
  rw [dif_neg h]
theorem eu_gcd (a b : Int) : (eu a b).natAbs = Int.gcd a b := by
  generalize hk : b.natAbs = k
  induction k using Nat.strongRecOn generalizing a b with
  | ind k ih =>
    by_cases h : b = 0
    · subst h; rw [eu_zero]; simp
    · have hlt : (a.tmod b).natAbs < b.natAbs := by rw [Int.natAbs_tmod]; exact Nat.mod_lt _ (by omega)
      rw [eu_step h, ih _ (by omega) b (a.tmod b) rfl]
      show Nat.gcd b.natAbs (a.tmod b).natAbs = Nat.gcd a.natAbs b.natAbs
      rw [Int.natAbs_tmod, Nat.gcd_comm a.natAbs, Nat.gcd_rec b.natAbs a.natAbs, Nat.gcd_comm]
def absW (r : Int) : Int := if IntKind.i64.wrap (0 - r) > r then IntKind.i64.wrap (0 - r) else r
theorem absW_eq {r : Int} (h : r.natAbs < 9223372036854775808) : absW r = (r.natAbs : Int) := by
  unfold absW
  rw [wrapJ _ (by omega) (by omega)]
  split <;> omega
theorem div_go (x y : Int) : ∀ (k : Nat) (a b : Int), b.natAbs ≤ k → runR (divisor_L1_S x y) (.next 0 [iD a, iD b]) = some (.out 0 [iD (eu a b)]) := by
  intro k
  induction k with
  | zero =>
    intro a b h
    have hb : b = 0 := by omega
    subst hb
    refine runR_exit ?_
    show divisor_L1_S0 x y _ = _
    unfold divisor_L1_S0
    rw [pullD_some (a, (0 : Int)) (by rfl) (by rfl)]
    dsimp only
    rw [if_neg (by simp), eu_zero]
  | succ k ih =>
    intro a b h
    by_cases hb : b = 0
    · exact ih a b (by omega)
    · have st : divisor_L1_S x y (.next 0 [iD a, iD b]) = some (.next 0 [iD b, iD (a.tmod b)]) := by
        show divisor_L1_S0 x y _ = _
        unfold divisor_L1_S0
        rw [pullD_some (a, b) (by rfl) (by rfl)]
        dsimp only
        rw [if_pos hb]
      have hlt : (a.tmod b).natAbs < b.natAbs := by rw [Int.natAbs_tmod]; exact Nat.mod_lt _ (by omega)
      rw [runR_next st, ih b (a.tmod b) (by omega), ← eu_step hb]
theorem divisor_eq (a b : Int) : m_98 [iD a, iD b] = some (iD (absW (eu a b))) := by
  rw [m_98_eq]
  unfold divisor_M
  rw [div_go a b b.natAbs a b (Nat.le_refl _), bindL_some rfl, if_pos rfl, pullD_some (eu a b) (by rfl) (by rfl)]
  rfl
theorem gcd_loop (x y : Int) : ∀ (k : Nat) (a b : Int), b.natAbs ≤ k → runR (gcd_L1_S x y) (.next 0 [iD a, iD b]) = some (.out 0 [iD (eu a b)]) := by
  intro k
  induction k with
  | zero =>
    intro a b h
    have hb : b = 0 := by omega
    subst hb
    refine runR_exit ?_
    show gcd_L1_S0 x y _ = _
    unfold gcd_L1_S0
    rw [pullD_some (a, (0 : Int)) (by rfl) (by rfl)]
    dsimp only
    rw [if_neg (by simp), eu_zero]
  | succ k ih =>
    intro a b h
    by_cases hb : b = 0
    · exact ih a b (by omega)
    · have st : gcd_L1_S x y (.next 0 [iD a, iD b]) = some (.next 0 [iD b, iD (a.tmod b)]) := by
        show gcd_L1_S0 x y _ = _
        unfold gcd_L1_S0
        rw [pullD_some (a, b) (by rfl) (by rfl)]
        dsimp only
        rw [if_pos hb]
      have hlt : (a.tmod b).natAbs < b.natAbs := by rw [Int.natAbs_tmod]; exact Nat.mod_lt _ (by omega)
      rw [runR_next st, ih b (a.tmod b) (by omega), ← eu_step hb]
theorem gcdI_eq (a b : Int) : m_99 [iD a, iD b] = some (iD (absW (eu a b))) := by
  rw [m_99_eq]
  unfold gcd_M
  rw [gcd_loop a b b.natAbs a b (Nat.le_refl _), bindL_some rfl, if_pos rfl, pullD_some (eu a b) (by rfl) (by rfl), m_116_eq]
  unfold size_M
  rw [pullI]
  rfl
theorem absW_gcd {a b : Int} (h : 0 < b) (h2 : b < 9223372036854775808) : absW (eu a b) = ((Int.gcd a b : Nat) : Int) := by
  have h1 : Int.gcd a b ≤ b.natAbs := Nat.le_of_dvd (by omega) (Int.gcd_dvd_natAbs_right a b)
  rw [absW_eq (by rw [eu_gcd]; omega), eu_gcd]
def rdN (n d : Int) : Int := IntKind.i64.wrap (n.tdiv (absW (eu n d)))
def rdD (n d : Int) : Int := IntKind.i64.wrap (d.tdiv (absW (eu n d)))
theorem absW_pos {n d : Int} (hd : 0 < d) (h2 : d < 9223372036854775808) : absW (eu n d) ≠ 0 := by
  rw [absW_gcd hd h2]
  have : 0 < Int.gcd n d := Int.gcd_pos_of_ne_zero_right _ (by omega)
  omega
theorem reduced_eq (n : Int) {d : Int} (hd : 0 < d) (h2 : d < 9223372036854775808) : m_72 [iD n, iD d] = some (.agg [iD (rdN n d), iD (rdD n d)]) := by
  rw [m_72_eq]
  unfold reduced_M
  rw [divisor_eq, pullI, guardP_pos (absW_pos hd h2)]
  rfl
theorem lowest_eq (n : Int) {d : Int} (hd : 0 < d) (h2 : d < 9223372036854775808) : m_75 [iD n, iD d] = some (.agg [iD (rdN n d), iD (rdD n d)]) := by
  rw [m_75_eq]
  unfold lowest_M
  rw [gcdI_eq, pullI, if_neg (by omega), guardP_pos (absW_pos hd h2)]
  rfl
/-! ### Ranges -/
theorem gv2 (x : Int) : firstV [2, x] = 2 := rfl
theorem gv0 (x : Int) : firstV [0, x] = x := by
  unfold firstV firstV
  simp only [if_true]
  split
  · rename_i h; rw [h]; rfl
  · rfl
theorem n2 : ((2 : Int) ≠ 0) = True := by decide
theorem n0 : ((0 : Int) ≠ 0) = False := by decide
theorem rs1 (a b c d : Int) : ratioOf_M_s1 a b c d = some (.tup [.agg [iD 0, iD 0, iD 0, iD 0], iD 2]) := by
  unfold ratioOf_M_s1
  simp only [ord1, f2, pullI, gv2, n2, if_true, ite_self]
theorem rs2 (a b c d : Int) : ratioOf_M_s2 a b c d = some (.tup [.agg [iD 0, iD 0, iD 0, iD 0], iD 2]) := by
  unfold ratioOf_M_s2
  simp only [ord1, f2, pullI, gv2, n2, if_true, ite_self]
/-! ### Resistances -/
theorem isTemp_eq (n : Int) : m_76 [iD n] = some (.one (.bool (decide (-500 ≤ n ∧ n ≤ 3000)))) := by
  rw [m_76_eq]
  unfold isTemp_M
  rw [within_eq, pullB]
end Go.Proofs.Ytjjbacbjdilhmaa
/- End temperatures. -/
namespace Go.Proofs.Ytjjbacbjdilhmaa
open Go.Ev Go.RowKit
set_option maxRecDepth 100000
/-! ### Comparing -/
theorem flW_eq {n d : Int} (hd : 0 < d) (h1 : -4611686018427387904 ≤ n) (h2 : n ≤ 4611686018427387904) : flW n d = n / d := by
  unfold flW
  have e1 := Int.mul_tdiv_add_tmod n d
  have e2 : (n.tmod d).natAbs < d.natAbs := by rw [Int.natAbs_tmod]; exact Nat.mod_lt _ (by omega)
  have b1 : (n.tdiv d).natAbs ≤ n.natAbs := by rw [Int.natAbs_tdiv]; exact Nat.div_le_self _ _
  have hq : IntKind.i64.wrap (n.tdiv d) = n.tdiv d := wrapJ _ (by omega) (by omega)
  rw [hq]
  by_cases h : n.tmod d < 0
  · rw [if_pos h, wrapJ _ (by omega) (by omega)]
    exact ((Int.ediv_emod_unique hd).2 ⟨(show n.tmod d + d + d * (n.tdiv d - 1) = n by rw [Int.mul_sub]; omega), by omega, by omega⟩).1.symm
  · rw [if_neg h]
    exact ((Int.ediv_emod_unique hd).2 ⟨(show n.tmod d + d * n.tdiv d = n by omega), by omega, by omega⟩).1.symm
/-- A sign. -/
def sg (x : Int) : Int := if x < 0 then -1 else if x > 0 then 1 else 0
theorem sg_neg {x : Int} (h : x < 0) : sg x = -1 := by unfold sg; rw [if_pos h]
theorem sg_pos {x : Int} (h : 0 < x) : sg x = 1 := by unfold sg; rw [if_neg (by omega), if_pos h]
theorem sg_zero {x : Int} (h : x = 0) : sg x = 0 := by unfold sg; rw [if_neg (by omega), if_neg (by omega)]
theorem modB {n d : Int} (hd : 0 < d) : 0 ≤ n - n / d * d ∧ n - n / d * d < d := by
  have h1 := Int.mul_ediv_add_emod n d
  have h2 := Int.emod_nonneg n (show d ≠ 0 by omega)
  have h3 := Int.emod_lt_of_pos n hd
  rw [Int.mul_comm] at h1
  omega
theorem divB {n d : Int} (hd : 0 < d) (h1 : -1000000000000 ≤ n) (h2 : n ≤ 1000000000000) : -1000000000000 ≤ n / d ∧ n / d ≤ 1000000000000 :=
  ⟨(Int.le_ediv_iff_mul_le hd).2 (by have := Int.mul_le_mul_of_nonneg_left (show 1 ≤ d by omega) (show (0 : Int) ≤ 1000000000000 by decide); omega), by
    have := Int.ediv_le_ediv hd h2
    have := Int.ediv_le_self (a := 1000000000000) d (by decide)
    omega⟩
theorem cmp_go (x1 x2 x3 x4 : Int) : ∀ (fuel : Nat) (n d m k : Int), 0 < d → 0 < k → d + k ≤ fuel → -1000000000000 ≤ n → n ≤ 1000000000000 → -1000000000000 ≤ m → m ≤ 1000000000000 → d ≤ 1000000000000 → k ≤ 1000000000000 →
    runR (compare_L1_S x1 x2 x3 x4) (.next 0 [iD n, iD d, iD m, iD k]) = some (.out 0 [iD (sg (n * k - m * d))]) := by
  intro fuel
  induction fuel with
  | zero => intro n d m k hd hk hf; omega
  | succ fuel ih =>
    intro n d m k hd hk hf n1 n2 m1 m2 d2 k2
    obtain ⟨r1, r2⟩ := modB (n := n) hd
    obtain ⟨s1, s2⟩ := modB (n := m) hk
    have b1 := divB (n := n) hd n1 n2
    have b2 := divB (n := m) hk m1 m2
    generalize hp : n / d = p at *
    generalize hq : m / k = q at *
    have ep : flW n d = p := by rw [flW_eq hd (by omega) (by omega), hp]
    have eq' : flW m k = q := by rw [flW_eq hk (by omega) (by omega), hq]
    have w1 : IntKind.i64.wrap (p * d) = p * d := wrapJ _ (by omega) (by omega)
    have w2 : IntKind.i64.wrap (q * k) = q * k := wrapJ _ (by omega) (by omega)
    have w3 : IntKind.i64.wrap (n - p * d) = n - p * d := wrapJ _ (by omega) (by omega)
    have w4 : IntKind.i64.wrap (m - q * k) = m - q * k := wrapJ _ (by omega) (by omega)
    -- what is compared
    have key : n * k - m * d = (p - q) * (d * k) + ((n - p * d) * k - (m - q * k) * d) := by grind
    have st : compare_L1_S x1 x2 x3 x4 (.next 0 [iD n, iD d, iD m, iD k]) = (if p < q then some (.out 0 [iD (-1 : Int)]) else (if p > q then some (.out 0 [iD (1 : Int)]) else (if n - p * d = (0 : Int) then (if m - q * k = (0 : Int) then some (.out 0 [iD (0 : Int)]) else some (.out 0 [iD (-1 : Int)])) else (if m - q * k = (0 : Int) then some (.out 0 [iD (1 : Int)]) else some (.next 0 [iD k, iD (m - q * k), iD d, iD (n - p * d)]))))) := by
      show compare_L1_S0 x1 x2 x3 x4 _ = _
      unfold compare_L1_S0
      rw [pullD_some (n, d, m, k) (by rfl) (by rfl)]
      dsimp only
      rw [floor_eq n (by omega), pullI, floor_eq m (by omega), pullI, ep, eq', w1, w2, w3, w4]
    have u1 : 0 ≤ (n - p * d) * k := Int.mul_nonneg r1 (by omega)
    have u2 : (n - p * d) * k < d * k := Int.mul_lt_mul_of_pos_right r2 hk
    have u3 : 0 ≤ (m - q * k) * d := Int.mul_nonneg s1 (by omega)
    have u4 : (m - q * k) * d < d * k := by rw [Int.mul_comm d k]; exact Int.mul_lt_mul_of_pos_right s2 hd
    by_cases c1 : p < q
    · rw [if_pos c1] at st
      rw [runR_exit st, sg_neg]
      have : (p - q) * (d * k) ≤ (-1) * (d * k) := Int.mul_le_mul_of_nonneg_right (by omega) (by omega)
      rw [key]; omega
    rw [if_neg c1] at st
    by_cases c2 : p > q
    · rw [if_pos c2] at st
      rw [runR_exit st, sg_pos]
      have : 1 * (d * k) ≤ (p - q) * (d * k) := Int.mul_le_mul_of_nonneg_right (by omega) (by omega)
      rw [key]; omega
    rw [if_neg c2] at st
    have hpq : p - q = 0 := by omega
    rw [hpq, Int.zero_mul, Int.zero_add] at key
    rw [key]
    generalize n - p * d = a at *
    generalize m - q * k = b at *
    by_cases c3 : a = 0
    · rw [if_pos c3] at st
      subst c3
      by_cases c4 : b = 0
      · rw [if_pos c4] at st
        rw [runR_exit st, sg_zero (by rw [c4]; omega)]
      · rw [if_neg c4] at st
        rw [runR_exit st, sg_neg]
        have : 0 < b * d := Int.mul_pos (by omega) hd
        omega
    rw [if_neg c3] at st
    by_cases c4 : b = 0
    · rw [if_pos c4] at st
      subst c4
      rw [runR_exit st, sg_pos]
      have : 0 < a * k := Int.mul_pos (by omega) hk
      omega
    rw [if_neg c4] at st
    rw [runR_next st, ih k b d a (by omega) (by omega) (by omega) (by omega) (by omega) (by omega) (by omega) (by omega) (by omega)]
    rw [Int.mul_comm k a, Int.mul_comm d b]
theorem compare_eq {n d m k : Int} (hd : 0 < d) (hk : 0 < k) (n1 : -1000000000000 ≤ n) (n2 : n ≤ 1000000000000) (m1 : -1000000000000 ≤ m) (m2 : m ≤ 1000000000000) (d2 : d ≤ 1000000000000) (k2 : k ≤ 1000000000000) : m_42 [iD n, iD d, iD m, iD k] = some (iD (sg (n * k - m * d))) := by
  rw [m_42_eq]
  unfold compare_M
  rw [bindL_some (cmp_go n d m k (d + k).toNat n d m k hd hk (by omega) n1 n2 m1 m2 d2 k2), if_pos rfl, pullD_some (sg (n * k - m * d)) (by rfl) (by rfl)]
/-! ### Ends -/
/-- The denominator and the numerator of an end. -/
def dE (a b c : Int) : Int := b - a - (c - b)
def nE (a b c : Int) : Int := c * dE a b c + (c - b) * (c - b)
/-- Temperatures, changed. -/
structure TP (a b c : Int) : Prop where
  a1 : -700 ≤ a
  a2 : a ≤ 3200
  b1 : -700 ≤ b
  b2 : b ≤ 3200
  c1 : -700 ≤ c
  c2 : c ≤ 3200
theorem mulA {x y A B : Int} (h1 : -A ≤ x) (h2 : x ≤ A) (h3 : -B ≤ y) (h4 : y ≤ B) : -(A * B) ≤ x * y ∧ x * y ≤ A * B := mulB h1 h2 h3 h4
theorem TP.n {a b c : Int} (h : TP a b c) : -70000000 ≤ nE a b c ∧ nE a b c ≤ 70000000 := by
  obtain ⟨a1, a2, b1, b2, c1, c2⟩ := h
  have x1 := mulA (x := c) (y := dE a b c) (A := 3200) (B := 7800) (by omega) (by omega) (by unfold dE; omega) (by unfold dE; omega)
  have x2 := mulA (x := c - b) (y := c - b) (A := 3900) (B := 3900) (by omega) (by omega) (by omega) (by omega)
  unfold nE
  omega
theorem endWrap {a b c : Int} (h : TP a b c) : IntKind.i64.wrap (IntKind.i64.wrap (c * IntKind.i64.wrap (IntKind.i64.wrap (b - a) - IntKind.i64.wrap (c - b))) + IntKind.i64.wrap (IntKind.i64.wrap (c - b) * IntKind.i64.wrap (c - b))) = nE a b c ∧ IntKind.i64.wrap (IntKind.i64.wrap (b - a) - IntKind.i64.wrap (c - b)) = dE a b c := by
  have hn := h.n
  obtain ⟨a1, a2, b1, b2, c1, c2⟩ := h
  have x1 := mulA (x := c) (y := dE a b c) (A := 3200) (B := 7800) (by omega) (by omega) (by unfold dE; omega) (by unfold dE; omega)
  have x2 := mulA (x := c - b) (y := c - b) (A := 3900) (B := 3900) (by omega) (by omega) (by omega) (by omega)
  have e1 : IntKind.i64.wrap (b - a) = b - a := wrapJ _ (by omega) (by omega)
  have e2 : IntKind.i64.wrap (c - b) = c - b := wrapJ _ (by omega) (by omega)
  have e3 : IntKind.i64.wrap (b - a - (c - b)) = dE a b c := wrapJ _ (by omega) (by omega)
  rw [e1, e2, e3, wrapJ (c * dE a b c) (by omega) (by omega), wrapJ ((c - b) * (c - b)) (by omega) (by omega)]
  exact ⟨wrapJ _ (by unfold nE at hn; omega) (by unfold nE at hn; omega), rfl⟩
abbrev eN (a b c : Int) : Int := rdN (nE a b c) (dE a b c)
abbrev eD (a b c : Int) : Int := rdD (nE a b c) (dE a b c)
theorem endV_eq {a b c : Int} (h : TP a b c) (hd : 0 < dE a b c) : m_41 [.agg [iD a, iD b, iD c]] = some (.agg [iD (eN a b c), iD (eD a b c)]) := by
  obtain ⟨e1, e2⟩ := endWrap h
  have hb : dE a b c ≤ 10000 := by obtain ⟨a1, a2, b1, b2, c1, c2⟩ := h; unfold dE; omega
  rw [m_41_eq]
  unfold endV_M
  rw [e1, e2, lowest_eq _ hd (by omega), pullD_some (eN a b c, eD a b c) (by rfl) (by rfl)]
theorem rises_eq {a b c : Int} (h : TP a b c) : m_100 [.agg [iD a, iD b, iD c]] = some (.agg [iD (b - a), iD (c - b)]) := by
  obtain ⟨a1, a2, b1, b2, c1, c2⟩ := h
  rw [m_100_eq]
  unfold rises_M
  rw [wrapJ (b - a) (by omega) (by omega), wrapJ (c - b) (by omega) (by omega)]
theorem endW_eq {a b c : Int} (h : TP a b c) (hd : 0 < dE a b c) : m_81 [.agg [iD a, iD b, iD c]] = some (.agg [iD (eN a b c), iD (eD a b c)]) := by
  have hn := h.n
  have h' := h
  obtain ⟨a1, a2, b1, b2, c1, c2⟩ := h
  have hb : dE a b c ≤ 7800 := by unfold dE; omega
  have x1 := mulA (x := c) (y := dE a b c) (A := 3200) (B := 7800) (by omega) (by omega) (by omega) (by omega)
  have x2 := mulA (x := c - b) (y := c - b) (A := 3900) (B := 3900) (by omega) (by omega) (by omega) (by omega)
  rw [m_81_eq]
  unfold endW_M
  have hr : m_100 [shNK4_0 a b c] = _ := rises_eq h'
  have e3 : IntKind.i64.wrap (b - a - (c - b)) = dE a b c := wrapJ _ (by unfold dE at hb hd; omega) (by unfold dE at hb hd; omega)
  have e4 : IntKind.i64.wrap (IntKind.i64.wrap (c * dE a b c) + IntKind.i64.wrap ((c - b) * (c - b))) = nE a b c := by
    rw [wrapJ (c * dE a b c) (by omega) (by omega), wrapJ ((c - b) * (c - b)) (by omega) (by omega)]
    exact wrapJ _ (by unfold nE at hn; omega) (by unfold nE at hn; omega)
  rw [hr, pullD_some (b - a, c - b) (by rfl) (by rfl)]
  dsimp only
  rw [e3, e4, reduced_eq _ hd (by omega), pullD_some (eN a b c, eD a b c) (by rfl) (by rfl)]
theorem isClosed_eq {a b c : Int} (h : TP a b c) : m_80 [.agg [iD a, iD b, iD c]] = some (.one (.bool (decide (0 ≤ c - b ∧ 0 < dE a b c)))) := by
  rw [m_80_eq]
  unfold isClosed_M
  have hr : m_100 [shNK4_0 a b c] = _ := rises_eq h
  rw [hr, pullD_some (b - a, c - b) (by rfl) (by rfl)]
  dsimp only
  unfold dE
  by_cases q : c - b ≥ 0
  · rw [if_pos q]
    congr 3
    rw [Bool.eq_iff_iff]; simp only [decide_eq_true_eq]; omega
  · rw [if_neg q]
    congr 3
    rw [Bool.eq_iff_iff]; simp only [decide_eq_true_eq]
    constructor
    · intro h; cases h
    · omega
theorem changed_eq {a b c e : Int} (h : TP (a + e) (b - e) (c + e)) (h1 : -100 ≤ e) (h2 : e ≤ 100) : m_79 [.agg [iD a, iD b, iD c], iD e] = some (.agg [iD (a + e), iD (b - e), iD (c + e)]) := by
  obtain ⟨a1, a2, b1, b2, c1, c2⟩ := h
  rw [m_79_eq]
  unfold changed_M
  rw [wrapJ (a + e) (by omega) (by omega), wrapJ (b - e) (by omega) (by omega), wrapJ (c + e) (by omega) (by omega)]
def endE (a b c e : Int) : Int := if -500 ≤ a ∧ a ≤ 3000 ∧ -500 ≤ b ∧ b ≤ 3000 ∧ -500 ≤ c ∧ c ≤ 3000 ∧ 0 ≤ e ∧ e ≤ 100 then (if 0 ≤ c - b - 2 * e ∧ 0 < dE a b c - 4 * e then 0 else 21) else 2
def endD (a b c e : Int) : D := if endE a b c e = 0 then .tup [.agg [iD (eN (a - e) (b + e) (c - e)), iD (eD (a - e) (b + e) (c - e)), iD (eN (a + e) (b - e) (c + e)), iD (eD (a + e) (b - e) (c + e))], iD 0] else .tup [.agg [iD 0, iD 0, iD 0, iD 0], iD (endE a b c e)]
theorem endD2 {a b c e : Int} (h : ¬ (-500 ≤ a ∧ a ≤ 3000 ∧ -500 ≤ b ∧ b ≤ 3000 ∧ -500 ≤ c ∧ c ≤ 3000 ∧ 0 ≤ e ∧ e ≤ 100)) : endD a b c e = .tup [.agg [iD 0, iD 0, iD 0, iD 0], iD 2] := by
  unfold endD endE
  rw [if_neg h, if_neg (show ¬ (2 : Int) = 0 by decide)]
theorem es0 (a b c e : Int) : endOf_M_s0 a b c e = some (.tup [.agg [iD 0, iD 0, iD 0, iD 0], iD 2]) := by
  unfold endOf_M_s0
  simp only [f2, pullI, gv2, n2, if_true, ite_self]
theorem es1 (a b c e : Int) : endOf_M_s1 a b c e = some (.tup [.agg [iD 0, iD 0, iD 0, iD 0], iD 2]) := by
  unfold endOf_M_s1
  simp only [f2, pullI, gv2, n2, if_true, ite_self]
theorem es2 (a b c e : Int) : endOf_M_s2 a b c e = some (.tup [.agg [iD 0, iD 0, iD 0, iD 0], iD 2]) := by
  unfold endOf_M_s2
  simp only [f2, pullI, gv2, n2, if_true, ite_self]
theorem es3 (a b c e : Int) : endOf_M_s3 a b c e = some (.tup [.agg [iD 0, iD 0, iD 0, iD 0], iD 2]) := by
  unfold endOf_M_s3
  simp only [f2, pullI, gv2, n2, if_true, ite_self]
theorem es4 (a b c e : Int) : endOf_M_s4 a b c e = some (.tup [.agg [iD 0, iD 0, iD 0, iD 0], iD 2]) := by
  unfold endOf_M_s4
  simp only [f2, pullI, gv2, n2, if_true, ite_self]
theorem endOf_eq (a b c e : Int) : m_38 [.agg [iD a, iD b, iD c], iD e] = some (endD a b c e) := by
  rw [m_38_eq]
  unfold endOf_M
  simp only [es0, es1, es2, es3, es4]
  by_cases h1 : a < -500
  · rw [if_pos h1, endD2 (by omega)]
  rw [if_neg h1]
  by_cases h2 : a > 3000
  · rw [if_pos h2, endD2 (by omega)]
  rw [if_neg h2]
  by_cases h3 : b < -500
  · rw [if_pos h3, endD2 (by omega)]
  rw [if_neg h3]
  by_cases h4 : b > 3000
  · rw [if_pos h4, endD2 (by omega)]
  rw [if_neg h4]
  by_cases h5 : c < -500
  · rw [if_pos h5, endD2 (by omega)]
  rw [if_neg h5]
  unfold endOf_M_s5
  simp only [f2, pullI, gv2, gv0, n2, n0, if_true, if_false, ite_self]
  by_cases h6 : c > 3000
  · rw [if_pos h6, endD2 (by omega)]
  rw [if_neg h6]
  by_cases h7 : e < 0
  · rw [if_pos h7, endD2 (by omega)]
  rw [if_neg h7]
  by_cases h8 : e > 100
  · rw [if_pos h8, endD2 (by omega)]
  rw [if_neg h8]
  have tl : TP (a - e) (b + e) (c - e) := ⟨by omega, by omega, by omega, by omega, by omega, by omega⟩
  have th : TP (a + e) (b - e) (c + e) := ⟨by omega, by omega, by omega, by omega, by omega, by omega⟩
  have k1 : m_79 [shNK4_0 a b c, iD (-e)] = some (.agg [iD (a - e), iD (b + e), iD (c - e)]) := by
    have := changed_eq (a := a) (b := b) (c := c) (e := -e) (by rw [show a + -e = a - e by omega, show b - -e = b + e by omega, show c + -e = c - e by omega]; exact tl) (by omega) (by omega)
    rw [show a + -e = a - e by omega, show b - -e = b + e by omega, show c + -e = c - e by omega] at this
    exact this
  have k2 : m_79 [shNK4_0 a b c, iD e] = _ := changed_eq th (by omega) (by omega)
  have k3 : m_80 [shNK4_0 (a - e) (b + e) (c - e)] = _ := isClosed_eq tl
  have k4 : m_80 [shNK4_0 (a + e) (b - e) (c + e)] = _ := isClosed_eq th
  rw [wrapJ (0 - e) (by omega) (by omega), show 0 - e = -e by omega, k1, pullD_some (a - e, b + e, c - e) (by rfl) (by rfl)]
  dsimp only
  rw [k2, pullD_some (a + e, b - e, c + e) (by rfl) (by rfl)]
  dsimp only
  rw [k3, pullB]
  have g : -500 ≤ a ∧ a ≤ 3000 ∧ -500 ≤ b ∧ b ≤ 3000 ∧ -500 ≤ c ∧ c ≤ 3000 ∧ 0 ≤ e ∧ e ≤ 100 := by omega
  unfold endD endE
  rw [if_pos g]
  by_cases o : 0 ≤ c - b - 2 * e ∧ 0 < dE a b c - 4 * e
  · have d1 : 0 < dE (a - e) (b + e) (c - e) := by unfold dE at o ⊢; omega
    have d2 : 0 < dE (a + e) (b - e) (c + e) := by unfold dE at o ⊢; omega
    have k5 : m_81 [shNK4_0 (a - e) (b + e) (c - e)] = _ := endW_eq tl d1
    have k6 : m_81 [shNK4_0 (a + e) (b - e) (c + e)] = _ := endW_eq th d2
    rw [if_pos o, if_pos rfl, if_neg (by simp only [decide_eq_false_iff_not]; omega), k4, pullB, if_neg (by simp only [decide_eq_false_iff_not]; omega), k5, pullD_some (eN (a - e) (b + e) (c - e), eD (a - e) (b + e) (c - e)) (by rfl) (by rfl)]
    dsimp only
    rw [k6, pullD_some (eN (a + e) (b - e) (c + e), eD (a + e) (b - e) (c + e)) (by rfl) (by rfl)]
  · rw [if_neg o, if_neg (show ¬ (21 : Int) = 0 by decide)]
    by_cases o1 : 0 ≤ c - e - (b + e) ∧ 0 < dE (a - e) (b + e) (c - e)
    · rw [if_neg (by simp only [decide_eq_false_iff_not]; omega), k4, pullB, if_pos (by simp only [decide_eq_false_iff_not]; unfold dE at o o1 ⊢; omega)]
    · rw [if_pos (by simp only [decide_eq_false_iff_not]; omega)]
theorem endR_eq (a b c e : Int) : m_39 [.agg [iD a, iD b, iD c], iD e] = some (endD a b c e) := by
  rw [m_39_eq]
  unfold endR_M
  simp only [isTemp_eq, within_eq, pullB, decide_eq_false_iff_not]
  by_cases h1 : ¬ (-500 ≤ a ∧ a ≤ 3000)
  · rw [if_pos h1, endD2 (by omega)]
  rw [if_neg h1]
  by_cases h2 : ¬ (-500 ≤ b ∧ b ≤ 3000)
  · rw [if_pos h2, endD2 (by omega)]
  rw [if_neg h2]
  by_cases h3 : ¬ (-500 ≤ c ∧ c ≤ 3000)
  · rw [if_pos h3, endD2 (by omega)]
  rw [if_neg h3]
  by_cases h4 : ¬ (0 ≤ e ∧ e ≤ 100)
  · rw [if_pos h4, endD2 (by omega)]
  rw [if_neg h4]
  have tl : TP (a - e) (b + e) (c - e) := ⟨by omega, by omega, by omega, by omega, by omega, by omega⟩
  have th : TP (a + e) (b - e) (c + e) := ⟨by omega, by omega, by omega, by omega, by omega, by omega⟩
  have g : -500 ≤ a ∧ a ≤ 3000 ∧ -500 ≤ b ∧ b ≤ 3000 ∧ -500 ≤ c ∧ c ≤ 3000 ∧ 0 ≤ e ∧ e ≤ 100 := by omega
  rw [wrapJ (c - b) (by omega) (by omega), wrapJ (2 * e) (by omega) (by omega), wrapJ (c - b - 2 * e) (by omega) (by omega), wrapJ (b - a) (by omega) (by omega), wrapJ (b - a - (c - b)) (by omega) (by omega), wrapJ (4 * e) (by omega) (by omega), wrapJ (b - a - (c - b) - 4 * e) (by omega) (by omega), wrapJ (a - e) (by omega) (by omega), wrapJ (b + e) (by omega) (by omega), wrapJ (c - e) (by omega) (by omega), wrapJ (a + e) (by omega) (by omega), wrapJ (b - e) (by omega) (by omega), wrapJ (c + e) (by omega) (by omega)]
  unfold endD endE
  rw [if_pos g]
  by_cases o : 0 ≤ c - b - 2 * e ∧ 0 < dE a b c - 4 * e
  · have d1 : 0 < dE (a - e) (b + e) (c - e) := by unfold dE at o ⊢; omega
    have d2 : 0 < dE (a + e) (b - e) (c + e) := by unfold dE at o ⊢; omega
    have k5 : m_41 [shNK4_0 (a - e) (b + e) (c - e)] = _ := endV_eq tl d1
    have k6 : m_41 [shNK4_0 (a + e) (b - e) (c + e)] = _ := endV_eq th d2
    rw [if_pos o, if_pos rfl, if_neg (by omega), if_neg (by unfold dE at o; omega), k5, pullD_some (eN (a - e) (b + e) (c - e), eD (a - e) (b + e) (c - e)) (by rfl) (by rfl)]
    dsimp only
    rw [k6, pullD_some (eN (a + e) (b - e) (c + e), eD (a + e) (b - e) (c + e)) (by rfl) (by rfl)]
  · rw [if_neg o, if_neg (show ¬ (21 : Int) = 0 by decide)]
    by_cases o1 : c - b - 2 * e < 0
    · rw [if_pos o1]
    · rw [if_neg o1, if_pos (by unfold dE at o; omega)]
/-- A fraction in lowest terms is what it was. -/
theorem rd_frac {n d : Int} (hd : 0 < d) (h1 : -1000000000000 ≤ n) (h2 : n ≤ 1000000000000) (h3 : d ≤ 1000000000000) : ∃ g : Int, 0 < g ∧ n = g * rdN n d ∧ d = g * rdD n d ∧ 0 < rdD n d ∧ rdD n d ≤ d ∧ (rdN n d).natAbs ≤ n.natAbs := by
  have hg0 : 0 < Int.gcd n d := Int.gcd_pos_of_ne_zero_right _ (by omega)
  refine ⟨((Int.gcd n d : Nat) : Int), by omega, ?_⟩
  unfold rdN rdD
  rw [absW_gcd hd (by omega)]
  have b1 : (n.tdiv ((Int.gcd n d : Nat) : Int)).natAbs ≤ n.natAbs := by rw [Int.natAbs_tdiv]; exact Nat.div_le_self _ _
  have b2 : (d.tdiv ((Int.gcd n d : Nat) : Int)).natAbs ≤ d.natAbs := by rw [Int.natAbs_tdiv]; exact Nat.div_le_self _ _
  rw [wrapJ _ (by omega) (by omega), wrapJ _ (by omega) (by omega)]
  have e1 := Int.mul_tdiv_cancel' (Int.gcd_dvd_left n d)
  have e2 := Int.mul_tdiv_cancel' (Int.gcd_dvd_right n d)
  refine ⟨e1.symm, e2.symm, ?_, by omega, b1⟩
  have : 0 < ((Int.gcd n d : Nat) : Int) * d.tdiv ((Int.gcd n d : Nat) : Int) := by rw [e2]; exact hd
  refine Classical.byContradiction fun hx => ?_
  have h9 := Int.mul_le_mul_of_nonneg_left (show d.tdiv ((Int.gcd n d : Nat) : Int) ≤ 0 by omega) (show (0 : Int) ≤ ((Int.gcd n d : Nat) : Int) by omega)
  rw [Int.mul_zero] at h9
  omega
theorem sg_scale {x g : Int} (hg : 0 < g) : sg (g * x) = sg x := by
  rcases Int.lt_trichotomy x 0 with h | h | h
  · rw [sg_neg h, sg_neg (Int.mul_neg_of_pos_of_neg hg h)]
  · subst h; rw [Int.mul_zero]
  · rw [sg_pos h, sg_pos (Int.mul_pos hg h)]
/-- Ends are compared as fractions. -/
theorem cmpF {n d m k : Int} (hd : 0 < d) (hk : 0 < k) (n1 : -1000000000000 ≤ n) (n2 : n ≤ 1000000000000) (m1 : -1000000000000 ≤ m) (m2 : m ≤ 1000000000000) (d2 : d ≤ 1000000000000) (k2 : k ≤ 1000000000000) : m_42 [iD (rdN n d), iD (rdD n d), iD (rdN m k), iD (rdD m k)] = some (iD (sg (n * k - m * d))) := by
  obtain ⟨g, g0, g1, g2, g3, g4, g5⟩ := rd_frac hd n1 n2 d2
  obtain ⟨f, f0, f1, f2, f3, f4, f5⟩ := rd_frac hk m1 m2 k2
  rw [compare_eq g3 f3 (by omega) (by omega) (by omega) (by omega) (by omega) (by omega)]
  generalize rdN n d = p at *
  generalize rdD n d = q at *
  generalize rdN m k = u at *
  generalize rdD m k = v at *
  have : n * k - m * d = (g * f) * (p * v - u * q) := by rw [g1, g2, f1, f2]; grind
  rw [this, sg_scale (Int.mul_pos g0 f0)]
theorem cmp1 {n d m : Int} (hd : 0 < d) (n1 : -1000000000000 ≤ n) (n2 : n ≤ 1000000000000) (m1 : -1000000000000 ≤ m) (m2 : m ≤ 1000000000000) (d2 : d ≤ 1000000000000) : m_42 [iD (rdN n d), iD (rdD n d), iD m, iD 1] = some (iD (sg (n - m * d))) := by
  obtain ⟨g, g0, g1, g2, g3, g4, g5⟩ := rd_frac hd n1 n2 d2
  rw [compare_eq g3 (by decide) (by omega) (by omega) (by omega) (by omega) (by omega) (by omega)]
  generalize rdN n d = p at *
  generalize rdD n d = q at *
  have : n - m * d = g * (p * 1 - m * q) := by rw [g1, g2]; grind
  rw [this, sg_scale g0]
/-- The end grows with the first and the last temperature, and falls with the middle one. -/
theorem end_mono {a b c a' b' c' : Int} (ha : a ≤ a') (hb : b' ≤ b) (hc : c ≤ c') (h0 : 0 ≤ c - b) (hd : 0 < dE a' b' c') : nE a b c * dE a' b' c' ≤ nE a' b' c' * dE a b c := by
  have hdd : dE a' b' c' ≤ dE a b c := by unfold dE; omega
  unfold nE
  generalize dE a' b' c' = D' at *
  generalize dE a b c = D at *
  have s1 : (c - b) * (c - b) ≤ (c' - b') * (c' - b') := Int.mul_le_mul (by omega) (by omega) h0 (by omega)
  have s0 : 0 ≤ (c - b) * (c - b) := Int.mul_nonneg h0 h0
  generalize (c - b) * (c - b) = S at *
  generalize (c' - b') * (c' - b') = S' at *
  have t1 : S * D' ≤ S' * D := Int.mul_le_mul s1 hdd (by omega) (by omega)
  have t2 : c * (D * D') ≤ c' * (D * D') := Int.mul_le_mul_of_nonneg_right hc (Int.mul_nonneg (by omega) (by omega))
  have e1 : (c * D + S) * D' = c * (D * D') + S * D' := by grind
  have e2 : (c' * D' + S') * D = c' * (D * D') + S' * D := by grind
  omega
theorem mod_eq {x m : Int} (hm : 0 < m) (h2 : m ≤ 1000) : ∃ y, m_40 [iD x, iD m] = some (iD y) ∧ 0 ≤ y ∧ y < m := by
  rw [m_40_eq]
  unfold mod_M
  have hb : (x.tmod m).natAbs < m.natAbs := by rw [Int.natAbs_tmod]; exact Nat.mod_lt _ (by omega)
  rw [guardP_pos (by omega)]
  by_cases h : x.tmod m < 0
  · rw [if_pos h, wrapJ _ (by omega) (by omega)]
    exact ⟨_, rfl, by omega, by omega⟩
  · rw [if_neg h]
    exact ⟨_, rfl, by omega, by omega⟩
theorem sg_le {x : Int} (h : x ≤ 0) : sg x ≤ 0 := by
  unfold sg
  split
  · decide
  · rw [if_neg (by omega)]; decide
theorem sg_ge {x : Int} (h : 0 ≤ x) : sg x ≥ 0 := by
  unfold sg
  rw [if_neg (by omega)]
  split <;> decide
theorem law8_eq (a b c e x y z : Int) : m_8 [.agg [iD a, iD b, iD c], iD e, .agg [iD x, iD y, iD z]] = some (.one (.bool true)) := by
  rw [m_8_eq]
  unfold law8_M
  have k1 : m_38 [shNK4_0 a b c, iD e] = _ := endOf_eq a b c e
  have k2 : m_39 [shNK4_0 a b c, iD e] = _ := endR_eq a b c e
  rw [m_9_eq, pullB, if_neg (by decide), k1, k2]
  by_cases h : endE a b c e = 0
  · have hs : endD a b c e = .tup [.agg [iD (eN (a - e) (b + e) (c - e)), iD (eD (a - e) (b + e) (c - e)), iD (eN (a + e) (b - e) (c + e)), iD (eD (a + e) (b - e) (c + e))], iD 0] := by
      unfold endD; rw [if_pos h]
    rw [pullD_some (eN (a - e) (b + e) (c - e), eD (a - e) (b + e) (c - e), eN (a + e) (b - e) (c + e), eD (a + e) (b - e) (c + e), (0 : Int)) (by rw [hs]) (by rfl)]
    dsimp only
    rw [pullD_some (eN (a - e) (b + e) (c - e), eD (a - e) (b + e) (c - e), eN (a + e) (b - e) (c + e), eD (a + e) (b - e) (c + e), (0 : Int)) (by rw [hs]) (by rfl)]
    dsimp only
    rw [if_neg (by simp), if_neg (by simp), if_neg (by simp)]
    have g : (-500 ≤ a ∧ a ≤ 3000 ∧ -500 ≤ b ∧ b ≤ 3000 ∧ -500 ≤ c ∧ c ≤ 3000 ∧ 0 ≤ e ∧ e ≤ 100) ∧ 0 ≤ c - b - 2 * e ∧ 0 < dE a b c - 4 * e := by
      unfold endE at h
      split at h
      · rename_i q
        split at h
        · rename_i q2; exact ⟨q, q2⟩
        · cases h
      · cases h
    obtain ⟨⟨a1, a2, b1, b2, c1, c2, e1, e2⟩, o1, o2⟩ := g
    rw [wrapJ (2 * e) (by omega) (by omega), wrapJ (2 * e + 1) (by omega) (by omega)]
    obtain ⟨x', hx, x1, x2⟩ := mod_eq (x := x) (show 0 < 2 * e + 1 by omega) (by omega)
    obtain ⟨y', hy, y1, y2⟩ := mod_eq (x := y) (show 0 < 2 * e + 1 by omega) (by omega)
    obtain ⟨z', hz, z1, z2⟩ := mod_eq (x := z) (show 0 < 2 * e + 1 by omega) (by omega)
    rw [hx, pullI, hy, pullI, hz, pullI, wrapJ (a - e) (by omega) (by omega), wrapJ (b - e) (by omega) (by omega), wrapJ (c - e) (by omega) (by omega), wrapJ (a - e + x') (by omega) (by omega), wrapJ (b - e + y') (by omega) (by omega), wrapJ (c - e + z') (by omega) (by omega)]
    have tl : TP (a - e) (b + e) (c - e) := ⟨by omega, by omega, by omega, by omega, by omega, by omega⟩
    have th : TP (a + e) (b - e) (c + e) := ⟨by omega, by omega, by omega, by omega, by omega, by omega⟩
    have ty : TP (a - e + x') (b - e + y') (c - e + z') := ⟨by omega, by omega, by omega, by omega, by omega, by omega⟩
    have dl : 0 < dE (a - e) (b + e) (c - e) := by unfold dE at o2 ⊢; omega
    have dh : 0 < dE (a + e) (b - e) (c + e) := by unfold dE at o2 ⊢; omega
    have dy : 0 < dE (a - e + x') (b - e + y') (c - e + z') := by unfold dE at o2 ⊢; omega
    have kv : m_41 [shNK4_0 (a - e + x') (b - e + y') (c - e + z')] = _ := endV_eq ty dy
    rw [kv, pullD_some (eN (a - e + x') (b - e + y') (c - e + z'), eD (a - e + x') (b - e + y') (c - e + z')) (by rfl) (by rfl)]
    dsimp only
    have m1 := end_mono (a := a - e) (b := b + e) (c := c - e) (a' := a - e + x') (b' := b - e + y') (c' := c - e + z') (by omega) (by omega) (by omega) (by omega) dy
    have m2 := end_mono (a := a - e + x') (b := b - e + y') (c := c - e + z') (a' := a + e) (b' := b - e) (c' := c + e) (by omega) (by omega) (by omega) (by omega) dh
    have nl := tl.n
    have nh := th.n
    have ny := ty.n
    have bl : dE (a - e) (b + e) (c - e) ≤ 10000 := by unfold dE; omega
    have bh : dE (a + e) (b - e) (c + e) ≤ 10000 := by unfold dE; omega
    have by' : dE (a - e + x') (b - e + y') (c - e + z') ≤ 10000 := by unfold dE; omega
    have m3 : 0 ≤ nE (a - e) (b + e) (c - e) - (c - e) * dE (a - e) (b + e) (c - e) := by
      unfold nE
      have : 0 ≤ (c - e - (b + e)) * (c - e - (b + e)) := Int.mul_nonneg (by omega) (by omega)
      omega
    rw [cmpF dl dy (by omega) (by omega) (by omega) (by omega) (by omega) (by omega), pullI, if_pos (sg_le (by omega)), cmpF dy dh (by omega) (by omega) (by omega) (by omega) (by omega) (by omega), pullI, if_pos (sg_le (by omega)), cmp1 dl (by omega) (by omega) (by omega) (by omega) (by omega), pullI, if_pos (sg_ge m3)]
    by_cases he : e > 0
    · rw [if_pos he]
    · have : e = 0 := by omega
      subst this
      rw [if_neg he]
      simp
  · have hs : endD a b c e = .tup [.agg [iD 0, iD 0, iD 0, iD 0], iD (endE a b c e)] := by
      unfold endD; rw [if_neg h]
    rw [pullD_some ((0 : Int), (0 : Int), (0 : Int), (0 : Int), endE a b c e) (by rw [hs]) (by rfl)]
    dsimp only
    rw [pullD_some ((0 : Int), (0 : Int), (0 : Int), (0 : Int), endE a b c e) (by rw [hs]) (by rfl)]
    dsimp only
    rw [if_neg (by simp), if_neg (by simp), if_pos h]
theorem law8_con (a b c e x y z : Int) : Con 8 [.agg [iD a, iD b, iD c], iD e, .agg [iD x, iD y, iD z]] (.one (.bool true)) := m_8_ok (law8_eq a b c e x y z)
end Go.Proofs.Ytjjbacbjdilhmaa
/- WaveEnds: what the runs give, for every argument. -/
namespace Go.Proofs.Ytjjbacbjdilhmaa.waveEnds
open Go.ChangeShapes Go.WideShapes Go.ChangeAt Go.RowKit Go.Joins Go.Ev
set_option maxRecDepth 100000 in
/-- WHAT THE RUNS GIVE, FOR EVERY ARGUMENT AND EVERY WORLD THAT HOLDS THE TABLES. -/
theorem contract (H : Type) (enc : TypeId × Value → H) (W : World) (base : Nat) (args : Array Value) (ds gs : List (DataW H)) (before : List MemPlace)
    (hval : ∀ (j : Nat) t v, Try.f8.params[j]? = some t → args[j]? = some v → Value.okWide Try.prog W .any base t v)
    (hW : DataW.Whole enc Try.prog Try.f8.params.toList Rows.waveEndsSpec.vars false W args.toList ds gs before) (hL : laidMetH Try.prog Rows.waveEndsRow.laid W) :
    Calls Try.prog 8 args W fun e W' => ∃ v, e = .returned v ∧ Rows.waveEndsSpec.post enc Try.prog Try.f8 false true false false W args v W' := by
  have hW' := hW
  have hlt := hW.lt
  obtain ⟨p, q, hA0, hV, rfl, hfz, hnd⟩ := hW
  have hA : DataW.TrodAll enc Try.prog W 0 (fun _ => true) true Try.f8.params.toList args.toList ds p := hA0
  rw [Try.params8] at hA hval
  obtain ⟨v0, vs0, d0, ds0, p0, q0, hargs, rfl, rfl, h0, r0⟩ := trodAll_cons hA
  obtain ⟨v1, vs1, d1, ds1, p1, q1, rfl, rfl, rfl, h1, r1⟩ := trodAll_cons r0
  obtain ⟨v2, vs2, d2, ds2, p2, q2, rfl, rfl, rfl, h2, r2⟩ := trodAll_cons r1
  obtain ⟨rfl, rfl, rfl⟩ := trodAll_nil r2
  obtain rfl : args = #[v0, v1, v2] := by cases args; simp_all
  obtain ⟨rfl, rfl⟩ := trodVars_none hV
  obtain ⟨e0, o0, k0⟩ := open_agg (ls := [.int .i64, .int .i64, .int .i64]) 8 (by kernel_rfl) (by kernel_rfl) (by kernel_rfl) (hval 0 67 v0 rfl rfl) h0
  obtain ⟨a, b, c, rfl⟩ := ints3_of o0
  obtain ⟨e1, o1, k1⟩ := open_cell (c := .int .i64) 8 (by kernel_rfl) (by kernel_rfl) (by kernel_rfl) (hval 1 3 v1 rfl rfl) h1
  obtain ⟨e, rfl, -⟩ := int_of o1
  obtain ⟨e2, o2, k2⟩ := open_agg (ls := [.int .i64, .int .i64, .int .i64]) 8 (by kernel_rfl) (by kernel_rfl) (by kernel_rfl) (hval 2 67 v2 rfl rfl) h2
  obtain ⟨x, y, z, rfl⟩ := ints3_of o2
  have hr : RpL (fun _ => True) W [.agg [.one (.int .i64 a), .one (.int .i64 b), .one (.int .i64 c)], .one (.int .i64 e), .agg [.one (.int .i64 x), .one (.int .i64 y), .one (.int .i64 z)]] [v0, v1, v2] := by
    simp only [RpL]
    exact ⟨v0, _, rfl, k0, ⟨v1, _, rfl, k1, ⟨v2, _, rfl, k2, rfl⟩⟩⟩
  refine (law8_con a b c e x y z W (fun _ => True) _ tabs0 hr).mono fun e W' ⟨v, he, hv, hg⟩ => ?_
  simp only [Rp] at hv
  subst he
  subst hv
  have hlaid : laidOutB Try.prog = true := by kernel_rfl
  exact ⟨_, rfl, post_below (pa := (p0 ++ (p1 ++ (p2 ++ [])))) (pv := []) hW' (fun _ _ _ => trodAll_cons_mk (shut_bool Try.underlying4 _) trodAll_mk0) (fun sp hsp => by
    rw [Try.params8]
    exact trodAll_cons_mk (stays hlaid (by kernel_rfl) (of_decide_eq_true (by kernel_rfl)) h0 hg (fun x hx => hlt x (by simp only [List.mem_append]; left; left; exact hx)) (fun x hx => hsp x (by simp only [List.mem_append]; left; left; exact hx))) (trodAll_cons_mk (stays hlaid (by kernel_rfl) (of_decide_eq_true (by kernel_rfl)) h1 hg (fun x hx => hlt x (by simp only [List.mem_append]; left; right; left; exact hx)) (fun x hx => hsp x (by simp only [List.mem_append]; left; right; left; exact hx))) (trodAll_cons_mk (stays hlaid (by kernel_rfl) (of_decide_eq_true (by kernel_rfl)) h2 hg (fun x hx => hlt x (by simp only [List.mem_append]; left; right; right; left; exact hx)) (fun x hx => hsp x (by simp only [List.mem_append]; left; right; right; left; exact hx))) (trodAll_mk0)))) (fun _ _ => rfl) rfl
    hg (ok_one (by kernel_rfl) rfl (okWide_bool_mk Try.underlying4 _))⟩
end Go.Proofs.Ytjjbacbjdilhmaa.waveEnds
/- WaveEnds: closed facts of the witness. -/
namespace Go.Proofs.Ytjjbacbjdilhmaa.waveEnds
open Go.ChangeShapes Go.WideShapes Go.ChangeAt Go.RowKit Go.Joins
/-- THE WITNESS's ARGUMENTS. -/
noncomputable def args0 : Array Value := #[.agg #[.int .i64 0, .int .i64 0, .int .i64 0], .int .i64 0, .agg #[.int .i64 0, .int .i64 0, .int .i64 0]]
/-- A WORLD FOR THE WITNESS: the heap that the program's own initialisers leave. -/
noncomputable def start (os : Os) : World := World.doorLaid Try.prog 400 os
theorem laid_met (os : Os) : laidMet Try.prog Rows.waveEndsRow.laid ((start os).forCall (fun _ _ => 0) ⟨#[], args0, []⟩).memory := ⟨[], rfl, List.nodup_nil, fun _ _ h => by cases h⟩
theorem reads (os : Os) {H : Type} (enc : TypeId × Value → H) : ∃ places, DataW.whole enc Try.prog ((start os).forCall (fun _ _ => 0) ⟨#[], args0, []⟩).memory Try.f8.params.toList Rows.waveEndsSpec.vars false args0.toList 8 = some ([.agg [.lit (.int .i64 0), .lit (.int .i64 0), .lit (.int .i64 0)], .lit (.int .i64 0), .agg [.lit (.int .i64 0), .lit (.int .i64 0), .lit (.int .i64 0)]], [], places) :=
  ⟨[], by kernel_rfl⟩
theorem vB (os : Os) : ((start os).forCall (fun _ _ => 0) ⟨#[], args0, []⟩).variablesB Try.prog = true := by kernel_rfl
theorem rB (os : Os) : (((start os).forCall (fun _ _ => 0) ⟨#[], args0, []⟩).heap.toList.drop Try.prog.globals.size).take ((begin Try.prog (fun _ _ => 0) default).world.heap.size - Try.prog.globals.size) = (begin Try.prog (fun _ _ => 0) default).world.heap.toList.drop Try.prog.globals.size := by kernel_rfl
theorem oB (os : Os) : Input.okWideB Try.prog ((start os).forCall (fun _ _ => 0) ⟨#[], args0, []⟩) 8 ⟨#[], args0, []⟩ = true := by kernel_rfl
theorem hB (os : Os) : (start os).os = os := by kernel_rfl
end Go.Proofs.Ytjjbacbjdilhmaa.waveEnds
