/- For any figures and step, valid or not, the law WaveTimes of the program answers true, and its arguments read as they did. CONDITIONS: none. -/
import Derived.Test.YtjjbacbjdilhmaaTD
import Derived.Test.YtjjbacbjdilhmaaTA
set_option linter.unusedVariables false
set_option linter.unusedSimpArgs false
set_option linter.unusedSectionVars false
set_option linter.unnecessarySimpa false
/- Whole numbers as lists of digits to the base 10^9, and as values in depth. -/
namespace Go.Ev
open Go.RowKit
abbrev lD (l : List Int) : D := .list l.length (l.map iD)
def Dig (l : List Int) : Prop := ∀ d ∈ l, 0 ≤ d ∧ d < (1000000000 : Int)
def Trim (l : List Int) : Prop := ∀ h : l ≠ [], l.getLast h ≠ 0
theorem Dig.cons {d : Int} {l : List Int} (h : Dig (d :: l)) : (0 ≤ d ∧ d < (1000000000 : Int)) ∧ Dig l := ⟨h d List.mem_cons_self, fun x hx => h x (List.mem_cons_of_mem _ hx)⟩
theorem Dig.nil : Dig [] := fun _ h => by cases h
theorem Dig.append {a b : List Int} (ha : Dig a) (hb : Dig b) : Dig (a ++ b) := fun x hx => by
  rcases List.mem_append.1 hx with h | h
  · exact ha x h
  · exact hb x h
theorem Dig.one {d : Int} (h0 : 0 ≤ d) (h1 : d < (1000000000 : Int)) : Dig [d] := fun x hx => by simp at hx; subst hx; exact ⟨h0, h1⟩
theorem Dig.take {l : List Int} (h : Dig l) (n : Nat) : Dig (l.take n) := fun x hx => h x (List.mem_of_mem_take hx)
theorem Dig.drop {l : List Int} (h : Dig l) (n : Nat) : Dig (l.drop n) := fun x hx => h x (List.mem_of_mem_drop hx)
theorem Trim.cons {d : Int} {l : List Int} (h : Trim (d :: l)) : Trim l := fun hl => by
  have := h (by simp)
  rwa [List.getLast_cons hl] at this
/-- How many digits are kept where zeros at the end are cut off. -/
def keep : List Int → Nat
  | [] => 0
  | d :: l => if keep l = 0 ∧ d = 0 then 0 else keep l + 1
theorem Dig.at {a : List Int} (h : Dig a) (i : Nat) : 0 ≤ a[i]?.getD 0 ∧ a[i]?.getD 0 < (1000000000 : Int) := by
  by_cases hi : i < a.length
  · rw [List.getElem?_eq_getElem hi]; exact h _ (List.getElem_mem hi)
  · rw [List.getElem?_eq_none (by omega)]; decide
theorem pullI {β : Type} (x : Int) (k : Int → Option β) : pullD (some (.one (.int .i64 x))) (fun d => D.vi d) (fun r => .one (.int .i64 r)) k = k x := pullD_some x rfl rfl
theorem pullB {β : Type} (x : Bool) (k : Bool → Option β) : pullD (some (.one (.bool x))) (fun d => D.vb d) (fun r => .one (.bool r)) k = k x := pullD_some x rfl rfl
theorem Dig.set {l : List Int} (h : Dig l) (p : Nat) {x : Int} (h0 : 0 ≤ x) (h1 : x < 1000000000) : Dig (l.set p x) := fun y hy => by
  rcases List.mem_or_eq_of_mem_set hy with hy | rfl
  · exact h y hy
  · exact ⟨h0, h1⟩
theorem readW {l : List Int} {i : Nat} {v : Int} (h : l[i]? = some v) : readD (l.map iD) ((i : Int).toNat * 1) 1 false = some (iD v) := by
  unfold readD
  simp [h]
end Go.Ev
/- Lists told by place: tables, sums of the first, and how a program builds them. -/
namespace Go.Ev
open Go.RowKit
/-- The numbers f 0, .., f (n - 1). -/
def tab (n : Nat) (f : Nat → Int) : List Int := (List.range n).map f
theorem wrapJ (x : Int) (h1 : -9223372036854775808 ≤ x) (h2 : x < 9223372036854775808) : IntKind.i64.wrap x = x := by
  unfold IntKind.wrap
  show (if (true && _) then _ else _) = _
  simp only [Bool.true_and, decide_eq_true_eq]
  show (if x % 18446744073709551616 ≥ 9223372036854775808 then x % 18446744073709551616 - 18446744073709551616 else x % 18446744073709551616) = x
  split <;> omega
theorem natI {i : Nat} (h : i < 1000000000000000) : IntKind.i64.wrap ((i : Int) + 1) = ((i + 1 : Nat) : Int) := by rw [wrapJ _ (by omega) (by omega)]; omega
end Go.Ev
/- Lists of pairs of numbers told by place; loops that look for the first error. -/
namespace Go.Ev
open Go.RowKit
def cP (l : List (Int × Int)) : List D := (l.map fun p => [iD p.1, iD p.2]).flatten
abbrev lP (l : List (Int × Int)) : D := .list l.length (cP l)
def ta (l : List (Int × Int)) (i : Nat) : Int := (l[i]?.getD (0, 0)).1
def va (l : List (Int × Int)) (i : Nat) : Int := (l[i]?.getD (0, 0)).2
theorem cP_nil : cP [] = [] := rfl
theorem cP_cons (p : Int × Int) (l : List (Int × Int)) : cP (p :: l) = iD p.1 :: iD p.2 :: cP l := rfl
theorem cP_drop : ∀ (i : Nat) (l : List (Int × Int)), (cP l).drop (i * 2) = cP (l.drop i)
  | 0, l => by simp
  | i + 1, [] => by simp [cP_nil]
  | i + 1, p :: l => by
    rw [cP_cons, show (i + 1) * 2 = i * 2 + 1 + 1 by omega, List.drop_succ_cons, List.drop_succ_cons, cP_drop i l, List.drop_succ_cons]
theorem pt_get {l : List (Int × Int)} {i : Nat} (h : i < l.length) : l[i]? = some (ta l i, va l i) := by
  unfold ta va
  rw [List.getElem?_eq_getElem h]
  rfl
theorem pt_drop {l : List (Int × Int)} {i : Nat} (h : i < l.length) : l.drop i = (ta l i, va l i) :: l.drop (i + 1) := by
  rw [List.drop_eq_getElem_cons h]
  congr 1
  have := pt_get h
  rw [List.getElem?_eq_getElem h] at this
  exact Option.some.inj this
theorem readP {l : List (Int × Int)} {i : Nat} (h : i < l.length) : readD (cP l) (i * 2) 2 true = some (.agg [iD (ta l i), iD (va l i)]) := by
  unfold readD
  simp only
  rw [cP_drop, pt_drop h, cP_cons]
  simp
end Go.Ev
/- Structs and arrays of numbers, as arguments. -/
namespace Go.Proofs.Ytjjbacbjdilhmaa
open Go.Ev Go.RowKit
theorem ints2_of {ds : List D} (h : okDs [.int .i64, .int .i64] ds) : ∃ x0 x1 : Int, ds = [iD x0, iD x1] := by
  simp only [okDs, okD] at h
  obtain ⟨_, _, rfl, ⟨x0, rfl, -⟩, _, _, rfl, ⟨x1, rfl, -⟩, rfl⟩ := h
  exact ⟨x0, x1, rfl⟩
theorem ints3_of {ds : List D} (h : okDs [.int .i64, .int .i64, .int .i64] ds) : ∃ x0 x1 x2 : Int, ds = [iD x0, iD x1, iD x2] := by
  simp only [okDs, okD] at h
  obtain ⟨_, _, rfl, ⟨x0, rfl, -⟩, _, _, rfl, ⟨x1, rfl, -⟩, _, _, rfl, ⟨x2, rfl, -⟩, rfl⟩ := h
  exact ⟨x0, x1, x2, rfl⟩
theorem ints4_of {ds : List D} (h : okDs [.int .i64, .int .i64, .int .i64, .int .i64] ds) : ∃ x0 x1 x2 x3 : Int, ds = [iD x0, iD x1, iD x2, iD x3] := by
  simp only [okDs, okD] at h
  obtain ⟨_, _, rfl, ⟨x0, rfl, -⟩, _, _, rfl, ⟨x1, rfl, -⟩, _, _, rfl, ⟨x2, rfl, -⟩, _, _, rfl, ⟨x3, rfl, -⟩, rfl⟩ := h
  exact ⟨x0, x1, x2, x3, rfl⟩
theorem ints9_of {ds : List D} (h : okDs [.int .i64, .int .i64, .int .i64, .int .i64, .int .i64, .int .i64, .int .i64, .int .i64, .int .i64] ds) : ∃ x0 x1 x2 x3 x4 x5 x6 x7 x8 : Int, ds = [iD x0, iD x1, iD x2, iD x3, iD x4, iD x5, iD x6, iD x7, iD x8] := by
  simp only [okDs, okD] at h
  obtain ⟨_, _, rfl, ⟨x0, rfl, -⟩, _, _, rfl, ⟨x1, rfl, -⟩, _, _, rfl, ⟨x2, rfl, -⟩, _, _, rfl, ⟨x3, rfl, -⟩, _, _, rfl, ⟨x4, rfl, -⟩, _, _, rfl, ⟨x5, rfl, -⟩, _, _, rfl, ⟨x6, rfl, -⟩, _, _, rfl, ⟨x7, rfl, -⟩, _, _, rfl, ⟨x8, rfl, -⟩, rfl⟩ := h
  exact ⟨x0, x1, x2, x3, x4, x5, x6, x7, x8, rfl⟩
theorem int_of {k : IntKind} {d : D} (h : okD (.int k) d) : ∃ x, d = .one (.int k x) ∧ (Lit.int k x).wf = true := by
  simp only [okD] at h
  exact h
end Go.Proofs.Ytjjbacbjdilhmaa
/- Runs inside models: what is asked, with its proofs. -/
namespace Go.Proofs.Ytjjbacbjdilhmaa
open Go.Ev Go.RowKit
set_option maxRecDepth 100000
noncomputable section
/-- A truth that is asked, and why it is so. -/
structure PC where
  c : Bool
  q : Bool
  h : c = q
abbrev PC.p (x : PC) : Bool × Bool := (x.c, x.q)
def pairsC : List PC → List (Bool × Bool)
  | [] => []
  | x :: xs => (x.c, x.q) :: pairsC xs
theorem pairsC_ok : ∀ xs : List PC, allC (pairsC xs)
  | [] => trivial
  | x :: xs => ⟨x.h, pairsC_ok xs⟩
abbrev c_T : PC := ⟨true, true, rfl⟩
abbrev c_F : PC := ⟨false, false, rfl⟩
abbrev c_d {p : Prop} [Decidable p] (h : p) : PC := ⟨decide p, true, decide_eq_true h⟩
abbrev c_n {p : Prop} [Decidable p] (h : ¬ p) : PC := ⟨decide p, false, decide_eq_false h⟩
abbrev c_f {p : Prop} (h : p) : PC := ⟨fact p, true, fact_mk h⟩
abbrev c_b {α : Type} [BEq α] [LawfulBEq α] {a b : α} (h : a ≠ b) : PC := ⟨a != b, true, bne_iff_ne.2 h⟩
abbrev c_bn {α : Type} [BEq α] [LawfulBEq α] {a b : α} (h : a = b) : PC := ⟨a != b, false, bne_eq_false_iff_eq.2 h⟩
abbrev c_e {α : Type} [BEq α] [LawfulBEq α] {a b : α} (h : a = b) : PC := ⟨a == b, true, beq_iff_eq.2 h⟩
abbrev c_en {α : Type} [BEq α] [LawfulBEq α] {a b : α} (h : a ≠ b) : PC := ⟨a == b, false, beq_eq_false_iff_ne.2 h⟩
abbrev c_q {c q : Bool} (h : c = q) : PC := ⟨c, q, h⟩
abbrev c_no {c : Bool} (h : c = false) : PC := ⟨!c, true, by rw [h]; rfl⟩
abbrev c_nn {c : Bool} (h : c = true) : PC := ⟨!c, false, by rw [h]; rfl⟩
abbrev c_le (n : Nat) : PC := ⟨fact (n + 1 ≤ n + 1), true, fact_mk (Nat.le_refl _)⟩
def bT : Nat → List Bool → List Bool
  | 0, l => l
  | n + 1, l => true :: bT n l
def bF : Nat → List Bool → List Bool
  | 0, l => l
  | n + 1, l => false :: bF n l
/-- What is asked of calls and loops, and why it is so. -/
structure PK where
  q : Go.Ev.Ask
  h : AskOK (ctx [] []) Tabs q
def asksK : List PK → List Go.Ev.Ask
  | [] => []
  | x :: xs => x.q :: asksK xs
theorem asksK_ok : ∀ xs : List PK, allK (asksK xs)
  | [] => trivial
  | x :: xs => ⟨x.h, asksK_ok xs⟩
abbrev k_c {g : FuncId} {ds : List D} {r : D} (h : Con g ds r) : PK := ⟨.call g ds r, h⟩
abbrev k_l {c : Code} {E : List AV × AHeap} {base : Nat} {x : LExit} {ds : List D} (h : LoopC c E base noFrame x ds) (ora : List Bool) (vals vals' : List D) : PK := ⟨loopAsk c E base noFrame x ds ora vals vals', h _ _ _ _⟩
theorem con_pc {op : Bool} {I : List Nat} {sp : List LSpec} (n : Nat) {g : FuncId} {ds : List D} {r : D} (ora : List Bool) (res : List D) (pcs : List PC) (pks : List PK)
    (h : okOut (run (ctxS op I sp) n (.enter g (avOfL 0 ds).1) ⟨[], (avOfL 0 ds).2.1, (avOfL 0 ds).2.2, ora, ⟨res, noFrame⟩⟩) = some (r, pairsC pcs, asksK pks)) : Con g ds r :=
  con_of h (pairsC_ok pcs) (asksK_ok pks)
theorem step_pc {I : List Nat} {sp : List LSpec} {l : LoopAt} {S1 : List AV × AHeap} {g : Option GS} {x : AX} (fuel : Nat) (ora : List Bool) (vals : List D) (pcs : List PC) (pks : List PK)
    (r : Option Out) (hr : r = run (ctx I sp) fuel (.code l.f l.c) ⟨S1.1, S1.2, l.nx, ora, ⟨vals, l.fr⟩⟩) (h1 : r = some (outOf r))
    (h2 : ((outOf r).x, (outOf r).st.res.fr, (outOf r).log, (outOf r).st.tmps) = (x, l.fr, ⟨pairsC pcs, asksK pks⟩, AV.renL (qOf l.base (nsOf g) ((outOf r).st.tmps, (outOf r).st.heap)) (aOf l.base (nsOf g) ((outOf r).st.tmps, (outOf r).st.heap)) (stateOf g).1))
    (h3 : (stateOf g).2.map (fun e => hget (outOf r).st.heap (qOf l.base (nsOf g) ((outOf r).st.tmps, (outOf r).st.heap) e.1)) = (stateOf g).2.map (fun e => some (⟨AV.renL (qOf l.base (nsOf g) ((outOf r).st.tmps, (outOf r).st.heap)) (aOf l.base (nsOf g) ((outOf r).st.tmps, (outOf r).st.heap)) e.2.cells, e.2.opn, e.2.kind⟩ : ABlock)))
    (h4 : (namesIn l.nx (stateOf g).2 && distinctBy (qOf l.base (nsOf g) ((outOf r).st.tmps, (outOf r).st.heap)) (stateOf g).2 && aboveBy l.low l.base (qOf l.base (nsOf g) ((outOf r).st.tmps, (outOf r).st.heap)) (stateOf g).2) = true)
    (h5 : (AV.okL l.nx S1.1 && Nat.ble l.low (outOf r).low) = true) (h6 : (List.range l.low).map (hget (stateOf g).2) = (List.range l.low).map (hget S1.2)) : Step (ctx I sp) Tabs l S1 (stateOf g) x :=
  step_of r hr h1 h2 h3 h4 h5 h6 rfl (pairsC_ok pcs) (asksK_ok pks)
end
end Go.Proofs.Ytjjbacbjdilhmaa
/- The stage's examples hold. -/
namespace Go.Proofs.Ytjjbacbjdilhmaa
open Go.Ev Go.RowKit
set_option maxRecDepth 100000
noncomputable section
theorem aw_all : Con 9 [] (.one (.bool true)) :=
  con_ofK (S := [(109, 3000009), (109, 3000036)]) (K := []) (sp := []) (n := 60000) (ora := []) (res := []) (conds := [(false, false), (false, false), (false, false), (false, false), (false, false), (false, false), (false, false), (false, false), (false, false), (false, false), (false, false), (false, false), (false, false), (false, false), (false, false), (false, false), (false, false), (false, false), (false, false), (false, false), (false, false), (false, false), (false, false), (false, false), (false, false), (false, false), (false, false), (false, false), (false, false), (false, false), (false, false), (false, false), (false, false), (false, false), (false, false), (false, false), (false, false), (false, false), (false, false), (false, false), (false, false), (false, false), (false, false), (false, false), (false, false), (false, false), (false, false), (false, false), (false, false), (false, false), (false, false), (false, false), (false, false), (false, false), (false, false), (false, false)]) (cls := [])
    (by kernel_rfl) ⟨rfl, rfl, rfl, rfl, rfl, rfl, rfl, rfl, rfl, rfl, rfl, rfl, rfl, rfl, rfl, rfl, rfl, rfl, rfl, rfl, rfl, rfl, rfl, rfl, rfl, rfl, rfl, rfl, rfl, rfl, rfl, rfl, rfl, rfl, rfl, rfl, rfl, rfl, rfl, rfl, rfl, rfl, rfl, rfl, rfl, rfl, rfl, rfl, rfl, rfl, rfl, rfl, rfl, rfl, rfl, rfl, trivial⟩ trivial
def m_9 (ds : List D) : Option D := pullD (some (.tup ds)) (fun _ => ()) (fun _ => .tup []) fun _ => some (.one (.bool true))
theorem m_9_ok {ds : List D} {r : D} (h : m_9 ds = some r) : Con 9 ds r := by
  unfold m_9 at h
  obtain ⟨⟨⟩, e0, h0⟩ := pullD_elim h
  obtain rfl := tup_inj e0
  obtain rfl := Option.some.inj h0
  exact aw_all
theorem m_9_eq : m_9 [] = some (.one (.bool true)) := pullD_some () rfl rfl
end
end Go.Proofs.Ytjjbacbjdilhmaa
namespace Go.Proofs.Ytjjbacbjdilhmaa
open Go.Ev Go.RowKit
set_option maxRecDepth 100000
set_option maxHeartbeats 8000000
set_option linter.all false
noncomputable section
abbrev shNK1_0 (a0 : Int) (a1 : Int) (a2 : Int) (a3 : Int) (a4 : Int) (a5 : Int) (a6 : Int) (a7 : Int) (a8 : Int) : D := .agg [.one (.int .i64 a0), .one (.int .i64 a1), .one (.int .i64 a2), .one (.int .i64 a3), .one (.int .i64 a4), .one (.int .i64 a5), .one (.int .i64 a6), .one (.int .i64 a7), .one (.int .i64 a8)]
def shNK1_0P (d : D) : Int × Int × Int × Int × Int × Int × Int × Int × Int := (D.vi (D.at d 0), D.vi (D.at d 1), D.vi (D.at d 2), D.vi (D.at d 3), D.vi (D.at d 4), D.vi (D.at d 5), D.vi (D.at d 6), D.vi (D.at d 7), D.vi (D.at d 8))
def firstOf_x2_0 : LExit := ⟨some 0, [], (2 :: (4 :: (List.range' 7 8)))⟩
def firstOf_x2_1 : LExit := ⟨none, [.val 2], (4 :: (List.range' 7 8))⟩
def firstOf_sp : List LSpec := [⟨50, 2, [firstOf_x2_0, firstOf_x2_1]⟩]
def firstOf_L2_E (k : Nat) (c : List D)  : List AV × AHeap := ([.dsl 0, .pure (.tuple #[]), .pure (.int .i64 (0 : Int)), .pure (.tuple #[]), .pure (.tuple #[]), .dsl 0, .pure (.int .i64 (k : Int)), .pure (.int .i64 (0 : Int)), .pure (.tuple #[]), .pure (.tuple #[]), .pure (.tuple #[]), .pure (.tuple #[]), .pure (.tuple #[]), .pure (.tuple #[]), .pure (.tuple #[])], [(0, { cells := [], opn := none, kind := .deep k c })])
def firstOf_L2_A : LoopAt := ⟨50, loopAt Try.prog 50 0, 1, 11, 1, noFrame⟩
theorem firstOf_L2_ok : (firstOf_L2_A).OK := ⟨by show 1 ≤ 11; decide, by show 1 ≤ 1; decide, by kernel_rfl, rfl⟩
def firstOf_L2_gs (k : Nat) (c : List D)  : Go.Ev.Rd → Option GS
  | .next 0 ds => ghost [.val 7] (2 :: (4 :: (List.range' 8 7))) (firstOf_L2_E k c).1 (firstOf_L2_E k c).2 1 ds
  | .out 0 ds => ghost firstOf_x2_0.live firstOf_x2_0.junk (firstOf_L2_E k c).1 (firstOf_L2_E k c).2 1 ds
  | .out 1 ds => ghost firstOf_x2_1.live firstOf_x2_1.junk (firstOf_L2_E k c).1 (firstOf_L2_E k c).2 1 ds
  | _ => none
def firstOf_L2_ex : Nat → Option Nat
  | 0 => firstOf_x2_0.ex
  | 1 => firstOf_x2_1.ex
  | _ => none
def firstOf_L2_ax : Go.Ev.Rd → AX
  | .next _ _ => .normal
  | .out j _ => axOf (firstOf_L2_ex j)
def firstOf_L2_S0 (k : Nat) (c : List D)  (ds : List D) : Option Go.Ev.Rd := pullD (α := Int) (some (.tup ds)) (fun d => ((D.vi (D.at d 0)))) (fun s7 => .tup [iD s7]) fun s7 => ((if s7 < (k : Int) then guardP ((0 : Int) ≤ s7 ∧ s7.toNat < k) (pullD (α := Int) (readD c (s7.toNat * 1) 1 false) (fun d => ((D.vi d))) (fun v0 => iD v0) fun v0 => ((if v0 ≠ (0 : Int) then some (.out 1 [iD v0]) else some (.next 0 [iD (IntKind.i64.wrap (s7 + (1 : Int)))])))) else some (.out 0 [])))
def firstOf_L2_S (k : Nat) (c : List D)  : Go.Ev.Rd → Option Go.Ev.Rd
  | .next 0 ds => firstOf_L2_S0 k c ds
  | _ => none
theorem firstOf_L2_S_0 (k : Nat) (c : List D)  (ds : List D) : firstOf_L2_S k c (.next 0 ds) = firstOf_L2_S0 k c ds := rfl
theorem firstOf_L2_S_ok (k : Nat) (c : List D)  : ∀ s_ t_, firstOf_L2_S k c s_ = some t_ → Step (ctx [50] firstOf_sp) Tabs firstOf_L2_A (stateOf (firstOf_L2_gs k c s_)) (stateOf (firstOf_L2_gs k c t_)) (firstOf_L2_ax t_) ∧ EndOK firstOf_L2_A.nx firstOf_L2_A.low (firstOf_L2_gs k c) t_
  | .next 0 ds, t_, h => by
    have h_ : firstOf_L2_S0 k c ds = some t_ := h
    clear h
    unfold firstOf_L2_S0 at h_
    obtain ⟨s7, e0, h0⟩ := pullD_elim h_
    clear h_
    obtain rfl := tup_inj e0
    by_cases b1_ : s7 < (k : Int)
    · have h2_ := (if_pos b1_).symm.trans h0
      obtain ⟨f3_, h4_⟩ := guardP_elim h2_
      obtain ⟨v0, f5_, h6_⟩ := pullD_elim h4_
      replace f5_ := readD_elim f5_
      by_cases b7_ : v0 ≠ (0 : Int)
      · have h8_ := (if_pos b7_).symm.trans h6_
        obtain rfl := Option.some.inj h8_
        exact ⟨step_pc 3000 (bT 2 []) [iD v0] [c_d b1_, c_f f3_, c_f f5_, c_b b7_] [] _ rfl (by kernel_rfl) (by kernel_rfl) (by kernel_rfl) (by kernel_rfl) (by kernel_rfl) (by kernel_rfl), by kernel_rfl, by kernel_rfl⟩
      have h8_ := (if_neg b7_).symm.trans h6_
      have b9_ : v0 = (0 : Int) := by first | exact b7_ | simpa using b7_
      obtain rfl := Option.some.inj h8_
      exact ⟨step_pc 3000 (bT 1 (bF 1 [])) [iD v0] [c_d b1_, c_f f3_, c_f f5_, c_bn b9_] [] _ rfl (by kernel_rfl) (by kernel_rfl) (by kernel_rfl) (by kernel_rfl) (by kernel_rfl) (by kernel_rfl), trivial⟩
    have h2_ := (if_neg b1_).symm.trans h0
    obtain rfl := Option.some.inj h2_
    exact ⟨step_pc 3000 (bF 1 []) [] [c_n b1_] [] _ rfl (by kernel_rfl) (by kernel_rfl) (by kernel_rfl) (by kernel_rfl) (by kernel_rfl) (by kernel_rfl), by kernel_rfl, by kernel_rfl⟩
  | .next (_ + 1) _, _, h => by cases h
  | .out _ _, _, h => by cases h
theorem firstOf_L2_go (k : Nat) (c : List D)  {q : Nat} {ds : List D} {j : Nat} {es : List D} (h : runR (firstOf_L2_S k c) (.next q ds) = some (.out j es)) : Runs (ctx [50] firstOf_sp) Tabs firstOf_L2_A (stateOf (firstOf_L2_gs k c (.next q ds))) (stateOf (firstOf_L2_gs k c (.out j es))) (firstOf_L2_ax (.out j es)) ∧ (nxtOf (firstOf_L2_gs k c (.out j es)), lowGS (firstOf_L2_gs k c (.out j es))) = (firstOf_L2_A.nx, firstOf_L2_A.low) :=
  runs_of' (good true _ _) firstOf_L2_ok (ax := firstOf_L2_ax) (fun _ _ => rfl) (fun _ _ => axOf_end _) (firstOf_L2_S_ok k c) h
theorem firstOf_L2_in0 (k : Nat) (c : List D)  {es : List D} (h : runR (firstOf_L2_S k c) (.next 0 [iD ((0 : Int))]) = some (.out 0 es)) : LoopC (loopAt Try.prog 50 0) (firstOf_L2_E k c) 1 noFrame firstOf_x2_0 es :=
  have r := firstOf_L2_go k c h
  loopin_as rfl (loop_in (l := firstOf_L2_A) (E := (firstOf_L2_E k c)) (S := stateOf (firstOf_L2_gs k c (.next 0 [iD ((0 : Int))]))) (ns := nsOf (firstOf_L2_gs k c (.next 0 [iD ((0 : Int))]))) firstOf_L2_ok r.1 r.2 (by kernel_rfl) (by kernel_rfl) (by kernel_rfl) (by kernel_rfl))
theorem firstOf_L2_in1 (k : Nat) (c : List D)  {es : List D} (h : runR (firstOf_L2_S k c) (.next 0 [iD ((0 : Int))]) = some (.out 1 es)) : LoopC (loopAt Try.prog 50 0) (firstOf_L2_E k c) 1 noFrame firstOf_x2_1 es :=
  have r := firstOf_L2_go k c h
  loopin_as rfl (loop_in (l := firstOf_L2_A) (E := (firstOf_L2_E k c)) (S := stateOf (firstOf_L2_gs k c (.next 0 [iD ((0 : Int))]))) (ns := nsOf (firstOf_L2_gs k c (.next 0 [iD ((0 : Int))]))) firstOf_L2_ok r.1 r.2 (by kernel_rfl) (by kernel_rfl) (by kernel_rfl) (by kernel_rfl))
def firstOf_M (k : Nat) (c : List D) : Option D := bindL (runR (firstOf_L2_S k c) (.next 0 [iD ((0 : Int))])) fun j ds => (if j = 0 then pullD (some (.tup ds)) (fun _ => ()) (fun _ => .tup []) fun _ => (some (iD (0 : Int))) else if j = 1 then pullD (α := Int) (some (.tup ds)) (fun d => ((D.vi (D.at d 0)))) (fun l0 => .tup [iD l0]) fun l0 => (some (iD l0)) else none)
theorem firstOf_M_ok (k : Nat) (c : List D) {r : D} (h : firstOf_M k c = some r) : Con 50 [.list k c] r := by
  unfold firstOf_M at h
  obtain ⟨j, ds, e1_, h2_⟩ := bindL_elim h
  by_cases j3_ : j = 0
  · have h6_ := (if_pos j3_).symm.trans h2_
    clear h2_
    subst j3_
    obtain ⟨⟨⟩, e4_, h7_⟩ := pullD_elim h6_
    clear h6_
    obtain rfl := tup_inj e4_
    have k5_ := firstOf_L2_in0 k c e1_
    obtain rfl := Option.some.inj h7_
    exact con_pc (op := true) (I := [50]) (sp := firstOf_sp) 3000 [] [.tup [iD (Int.ofNat 0)]] [] [k_l k5_ [] [.tup [iD (Int.ofNat 0)]] []] (by kernel_rfl)
  have h8_ := (if_neg j3_).symm.trans h2_
  clear h2_
  by_cases j9_ : j = 1
  · have h12_ := (if_pos j9_).symm.trans h8_
    clear h8_
    subst j9_
    obtain ⟨l0, e10_, h13_⟩ := pullD_elim h12_
    clear h12_
    obtain rfl := tup_inj e10_
    have k11_ := firstOf_L2_in1 k c e1_
    obtain rfl := Option.some.inj h13_
    exact con_pc (op := true) (I := [50]) (sp := firstOf_sp) 3000 [] [.tup [iD (Int.ofNat 1), iD l0]] [] [k_l k11_ [] [.tup [iD (Int.ofNat 1), iD l0]] []] (by kernel_rfl)
  have h14_ := (if_neg j9_).symm.trans h8_
  clear h8_
  cases h14_
def m_50 (ds : List D) : Option D := pullD (α := Nat × (List D)) (some (.tup ds)) (fun d => ((D.ln (D.at d 0)), (D.lc (D.at d 0)))) (fun (k, c) => .tup [.list k c]) fun (k, c) => firstOf_M k c
theorem m_50_ok {ds : List D} {r : D} (h : m_50 ds = some r) : Con 50 ds r := by
  unfold m_50 at h
  obtain ⟨⟨k, c⟩, e0, h0⟩ := pullD_elim h
  obtain rfl := tup_inj e0
  exact firstOf_M_ok k c h0
theorem m_50_eq (k : Nat) (c : List D) : m_50 [.list k c] = firstOf_M k c := pullD_some (k, c) rfl rfl
def inOrder_x2_0 : LExit := ⟨some 0, [], (2 :: (4 :: (List.range' 7 10)))⟩
def inOrder_x2_1 : LExit := ⟨none, [.val 2], (4 :: (List.range' 7 10))⟩
def inOrder_sp : List LSpec := [⟨64, 2, [inOrder_x2_0, inOrder_x2_1]⟩]
def inOrder_L2_E (k : Nat) (c : List D)  : List AV × AHeap := ([.dsl 0, .pure (.tuple #[]), .pure (.int .i64 (0 : Int)), .pure (.tuple #[]), .pure (.tuple #[]), .dsl 0, .pure (.int .i64 (k : Int)), .pure (.int .i64 (0 : Int)), .pure (.tuple #[]), .pure (.tuple #[]), .pure (.tuple #[]), .pure (.tuple #[]), .pure (.tuple #[]), .pure (.tuple #[]), .pure (.tuple #[]), .pure (.tuple #[]), .pure (.tuple #[])], [(0, { cells := [], opn := none, kind := .deep k c })])
def inOrder_L2_A : LoopAt := ⟨64, loopAt Try.prog 64 0, 1, 13, 1, noFrame⟩
theorem inOrder_L2_ok : (inOrder_L2_A).OK := ⟨by show 1 ≤ 13; decide, by show 1 ≤ 1; decide, by kernel_rfl, rfl⟩
def inOrder_L2_gs (k : Nat) (c : List D)  : Go.Ev.Rd → Option GS
  | .next 0 ds => ghost [.val 7] (2 :: (4 :: (List.range' 8 9))) (inOrder_L2_E k c).1 (inOrder_L2_E k c).2 1 ds
  | .out 0 ds => ghost inOrder_x2_0.live inOrder_x2_0.junk (inOrder_L2_E k c).1 (inOrder_L2_E k c).2 1 ds
  | .out 1 ds => ghost inOrder_x2_1.live inOrder_x2_1.junk (inOrder_L2_E k c).1 (inOrder_L2_E k c).2 1 ds
  | _ => none
def inOrder_L2_ex : Nat → Option Nat
  | 0 => inOrder_x2_0.ex
  | 1 => inOrder_x2_1.ex
  | _ => none
def inOrder_L2_ax : Go.Ev.Rd → AX
  | .next _ _ => .normal
  | .out j _ => axOf (inOrder_L2_ex j)
def inOrder_L2_S0 (k : Nat) (c : List D)  (ds : List D) : Option Go.Ev.Rd := pullD (α := Int) (some (.tup ds)) (fun d => ((D.vi (D.at d 0)))) (fun s7 => .tup [iD s7]) fun s7 => ((if s7 < (k : Int) then guardP ((0 : Int) ≤ s7 ∧ s7.toNat < k) (pullD (α := Int × Int) (readD c (s7.toNat * 2) 2 true) (fun d => ((D.vi (D.at d 0)), (D.vi (D.at d 1)))) (fun (v0, v1) => .agg [iD v0, iD v1]) fun (v0, v1) => ((if v0 > v1 then some (.out 1 [iD (9 : Int)]) else some (.next 0 [iD (IntKind.i64.wrap (s7 + (1 : Int)))])))) else some (.out 0 [])))
def inOrder_L2_S (k : Nat) (c : List D)  : Go.Ev.Rd → Option Go.Ev.Rd
  | .next 0 ds => inOrder_L2_S0 k c ds
  | _ => none
theorem inOrder_L2_S_0 (k : Nat) (c : List D)  (ds : List D) : inOrder_L2_S k c (.next 0 ds) = inOrder_L2_S0 k c ds := rfl
theorem inOrder_L2_S_ok (k : Nat) (c : List D)  : ∀ s_ t_, inOrder_L2_S k c s_ = some t_ → Step (ctx [64] inOrder_sp) Tabs inOrder_L2_A (stateOf (inOrder_L2_gs k c s_)) (stateOf (inOrder_L2_gs k c t_)) (inOrder_L2_ax t_) ∧ EndOK inOrder_L2_A.nx inOrder_L2_A.low (inOrder_L2_gs k c) t_
  | .next 0 ds, t_, h => by
    have h_ : inOrder_L2_S0 k c ds = some t_ := h
    clear h
    unfold inOrder_L2_S0 at h_
    obtain ⟨s7, e0, h0⟩ := pullD_elim h_
    clear h_
    obtain rfl := tup_inj e0
    by_cases b1_ : s7 < (k : Int)
    · have h2_ := (if_pos b1_).symm.trans h0
      obtain ⟨f3_, h4_⟩ := guardP_elim h2_
      obtain ⟨⟨v0, v1⟩, f5_, h6_⟩ := pullD_elim h4_
      replace f5_ := readD_elim f5_
      by_cases b7_ : v0 > v1
      · have h8_ := (if_pos b7_).symm.trans h6_
        obtain rfl := Option.some.inj h8_
        exact ⟨step_pc 3000 (bT 2 []) [.agg [iD v0, iD v1]] [c_d b1_, c_f f3_, c_f f5_, c_d b7_] [] _ rfl (by kernel_rfl) (by kernel_rfl) (by kernel_rfl) (by kernel_rfl) (by kernel_rfl) (by kernel_rfl), by kernel_rfl, by kernel_rfl⟩
      have h8_ := (if_neg b7_).symm.trans h6_
      obtain rfl := Option.some.inj h8_
      exact ⟨step_pc 3000 (bT 1 (bF 1 [])) [.agg [iD v0, iD v1]] [c_d b1_, c_f f3_, c_f f5_, c_n b7_] [] _ rfl (by kernel_rfl) (by kernel_rfl) (by kernel_rfl) (by kernel_rfl) (by kernel_rfl) (by kernel_rfl), trivial⟩
    have h2_ := (if_neg b1_).symm.trans h0
    obtain rfl := Option.some.inj h2_
    exact ⟨step_pc 3000 (bF 1 []) [] [c_n b1_] [] _ rfl (by kernel_rfl) (by kernel_rfl) (by kernel_rfl) (by kernel_rfl) (by kernel_rfl) (by kernel_rfl), by kernel_rfl, by kernel_rfl⟩
  | .next (_ + 1) _, _, h => by cases h
  | .out _ _, _, h => by cases h
theorem inOrder_L2_go (k : Nat) (c : List D)  {q : Nat} {ds : List D} {j : Nat} {es : List D} (h : runR (inOrder_L2_S k c) (.next q ds) = some (.out j es)) : Runs (ctx [64] inOrder_sp) Tabs inOrder_L2_A (stateOf (inOrder_L2_gs k c (.next q ds))) (stateOf (inOrder_L2_gs k c (.out j es))) (inOrder_L2_ax (.out j es)) ∧ (nxtOf (inOrder_L2_gs k c (.out j es)), lowGS (inOrder_L2_gs k c (.out j es))) = (inOrder_L2_A.nx, inOrder_L2_A.low) :=
  runs_of' (good true _ _) inOrder_L2_ok (ax := inOrder_L2_ax) (fun _ _ => rfl) (fun _ _ => axOf_end _) (inOrder_L2_S_ok k c) h
theorem inOrder_L2_in0 (k : Nat) (c : List D)  {es : List D} (h : runR (inOrder_L2_S k c) (.next 0 [iD ((0 : Int))]) = some (.out 0 es)) : LoopC (loopAt Try.prog 64 0) (inOrder_L2_E k c) 1 noFrame inOrder_x2_0 es :=
  have r := inOrder_L2_go k c h
  loopin_as rfl (loop_in (l := inOrder_L2_A) (E := (inOrder_L2_E k c)) (S := stateOf (inOrder_L2_gs k c (.next 0 [iD ((0 : Int))]))) (ns := nsOf (inOrder_L2_gs k c (.next 0 [iD ((0 : Int))]))) inOrder_L2_ok r.1 r.2 (by kernel_rfl) (by kernel_rfl) (by kernel_rfl) (by kernel_rfl))
theorem inOrder_L2_in1 (k : Nat) (c : List D)  {es : List D} (h : runR (inOrder_L2_S k c) (.next 0 [iD ((0 : Int))]) = some (.out 1 es)) : LoopC (loopAt Try.prog 64 0) (inOrder_L2_E k c) 1 noFrame inOrder_x2_1 es :=
  have r := inOrder_L2_go k c h
  loopin_as rfl (loop_in (l := inOrder_L2_A) (E := (inOrder_L2_E k c)) (S := stateOf (inOrder_L2_gs k c (.next 0 [iD ((0 : Int))]))) (ns := nsOf (inOrder_L2_gs k c (.next 0 [iD ((0 : Int))]))) inOrder_L2_ok r.1 r.2 (by kernel_rfl) (by kernel_rfl) (by kernel_rfl) (by kernel_rfl))
def inOrder_M (k : Nat) (c : List D) : Option D := bindL (runR (inOrder_L2_S k c) (.next 0 [iD ((0 : Int))])) fun j ds => (if j = 0 then pullD (some (.tup ds)) (fun _ => ()) (fun _ => .tup []) fun _ => (some (iD (0 : Int))) else if j = 1 then pullD (α := Int) (some (.tup ds)) (fun d => ((D.vi (D.at d 0)))) (fun l0 => .tup [iD l0]) fun l0 => (some (iD l0)) else none)
theorem inOrder_M_ok (k : Nat) (c : List D) {r : D} (h : inOrder_M k c = some r) : Con 64 [.list k c] r := by
  unfold inOrder_M at h
  obtain ⟨j, ds, e1_, h2_⟩ := bindL_elim h
  by_cases j3_ : j = 0
  · have h6_ := (if_pos j3_).symm.trans h2_
    clear h2_
    subst j3_
    obtain ⟨⟨⟩, e4_, h7_⟩ := pullD_elim h6_
    clear h6_
    obtain rfl := tup_inj e4_
    have k5_ := inOrder_L2_in0 k c e1_
    obtain rfl := Option.some.inj h7_
    exact con_pc (op := true) (I := [64]) (sp := inOrder_sp) 3000 [] [.tup [iD (Int.ofNat 0)]] [] [k_l k5_ [] [.tup [iD (Int.ofNat 0)]] []] (by kernel_rfl)
  have h8_ := (if_neg j3_).symm.trans h2_
  clear h2_
  by_cases j9_ : j = 1
  · have h12_ := (if_pos j9_).symm.trans h8_
    clear h8_
    subst j9_
    obtain ⟨l0, e10_, h13_⟩ := pullD_elim h12_
    clear h12_
    obtain rfl := tup_inj e10_
    have k11_ := inOrder_L2_in1 k c e1_
    obtain rfl := Option.some.inj h13_
    exact con_pc (op := true) (I := [64]) (sp := inOrder_sp) 3000 [] [.tup [iD (Int.ofNat 1), iD l0]] [] [k_l k11_ [] [.tup [iD (Int.ofNat 1), iD l0]] []] (by kernel_rfl)
  have h14_ := (if_neg j9_).symm.trans h8_
  clear h8_
  cases h14_
def m_64 (ds : List D) : Option D := pullD (α := Nat × (List D)) (some (.tup ds)) (fun d => ((D.ln (D.at d 0)), (D.lc (D.at d 0)))) (fun (k, c) => .tup [.list k c]) fun (k, c) => inOrder_M k c
theorem m_64_ok {ds : List D} {r : D} (h : m_64 ds = some r) : Con 64 ds r := by
  unfold m_64 at h
  obtain ⟨⟨k, c⟩, e0, h0⟩ := pullD_elim h
  obtain rfl := tup_inj e0
  exact inOrder_M_ok k c h0
theorem m_64_eq (k : Nat) (c : List D) : m_64 [.list k c] = inOrder_M k c := pullD_some (k, c) rfl rfl
def within_sp : List LSpec := []
def within_M (n lo hi : Int) : Option D := (if lo ≤ n then some (.one (.bool (decide (n ≤ hi)))) else some (.one (.bool false)))
theorem within_M_ok (n lo hi : Int) {r : D} (h : within_M n lo hi = some r) : Con 24 [iD n, iD lo, iD hi] r := by
  unfold within_M at h
  by_cases b1_ : lo ≤ n
  · have h2_ := (if_pos b1_).symm.trans h
    obtain rfl := Option.some.inj h2_
    exact con_pc (op := true) (I := [24]) (sp := within_sp) 3000 (bT 4 []) [] [c_d b1_, c_d b1_, c_d b1_, c_d b1_] [] (by kernel_rfl)
  have h2_ := (if_neg b1_).symm.trans h
  obtain rfl := Option.some.inj h2_
  exact con_pc (op := true) (I := [24]) (sp := within_sp) 3000 (bF 4 []) [] [c_n b1_, c_n b1_, c_n b1_, c_n b1_] [] (by kernel_rfl)
def m_24 (ds : List D) : Option D := pullD (α := Int × Int × Int) (some (.tup ds)) (fun d => ((D.vi (D.at d 0)), (D.vi (D.at d 1)), (D.vi (D.at d 2)))) (fun (n, lo, hi) => .tup [iD n, iD lo, iD hi]) fun (n, lo, hi) => within_M n lo hi
theorem m_24_ok {ds : List D} {r : D} (h : m_24 ds = some r) : Con 24 ds r := by
  unfold m_24 at h
  obtain ⟨⟨n, lo, hi⟩, e0, h0⟩ := pullD_elim h
  obtain rfl := tup_inj e0
  exact within_M_ok n lo hi h0
theorem m_24_eq (n lo hi : Int) : m_24 [iD n, iD lo, iD hi] = within_M n lo hi := pullD_some (n, lo, hi) rfl rfl
def rdown_sp : List LSpec := []
def rdown_M (n d : Int) : Option D := guardP (d ≠ (0 : Int)) ((if n.tmod d < (0 : Int) then some (iD (IntKind.i64.wrap (IntKind.i64.wrap (n.tdiv d) - (1 : Int)))) else some (iD (IntKind.i64.wrap (n.tdiv d)))))
theorem rdown_M_ok (n d : Int) {r : D} (h : rdown_M n d = some r) : Con 67 [iD n, iD d] r := by
  unfold rdown_M at h
  obtain ⟨f1_, h2_⟩ := guardP_elim h
  by_cases b3_ : n.tmod d < (0 : Int)
  · have h4_ := (if_pos b3_).symm.trans h2_
    obtain rfl := Option.some.inj h4_
    exact con_pc (op := true) (I := [67]) (sp := rdown_sp) 3000 (bT 1 []) [] [c_en f1_, c_en f1_, c_d b3_] [] (by kernel_rfl)
  have h4_ := (if_neg b3_).symm.trans h2_
  obtain rfl := Option.some.inj h4_
  exact con_pc (op := true) (I := [67]) (sp := rdown_sp) 3000 (bF 1 []) [] [c_en f1_, c_en f1_, c_n b3_] [] (by kernel_rfl)
def m_67 (ds : List D) : Option D := pullD (α := Int × Int) (some (.tup ds)) (fun d => ((D.vi (D.at d 0)), (D.vi (D.at d 1)))) (fun (n, d) => .tup [iD n, iD d]) fun (n, d) => rdown_M n d
theorem m_67_ok {ds : List D} {r : D} (h : m_67 ds = some r) : Con 67 ds r := by
  unfold m_67 at h
  obtain ⟨⟨n, d⟩, e0, h0⟩ := pullD_elim h
  obtain rfl := tup_inj e0
  exact rdown_M_ok n d h0
theorem m_67_eq (n d : Int) : m_67 [iD n, iD d] = rdown_M n d := pullD_some (n, d) rfl rfl
def rup_sp : List LSpec := []
def rup_M (n d : Int) : Option D := pullD (α := Int) (m_67 [iD (IntKind.i64.wrap ((0 : Int) - n)), iD d]) (fun d => ((D.vi d))) (fun r0 => iD r0) fun r0 => (some (iD (IntKind.i64.wrap ((0 : Int) - r0))))
theorem rup_M_ok (n d : Int) {r : D} (h : rup_M n d = some r) : Con 68 [iD n, iD d] r := by
  unfold rup_M at h
  obtain ⟨r0, f1_, h2_⟩ := pullD_elim h
  replace f1_ := m_67_ok f1_
  obtain rfl := Option.some.inj h2_
  exact con_pc (op := true) (I := [68]) (sp := rup_sp) 3000 [] [iD r0] [] [k_c f1_] (by kernel_rfl)
def m_68 (ds : List D) : Option D := pullD (α := Int × Int) (some (.tup ds)) (fun d => ((D.vi (D.at d 0)), (D.vi (D.at d 1)))) (fun (n, d) => .tup [iD n, iD d]) fun (n, d) => rup_M n d
theorem m_68_ok {ds : List D} {r : D} (h : m_68 ds = some r) : Con 68 ds r := by
  unfold m_68 at h
  obtain ⟨⟨n, d⟩, e0, h0⟩ := pullD_elim h
  obtain rfl := tup_inj e0
  exact rup_M_ok n d h0
theorem m_68_eq (n d : Int) : m_68 [iD n, iD d] = rup_M n d := pullD_some (n, d) rfl rfl
def rounded_sp : List LSpec := []
def rounded_M (lo hi d : Int) : Option D := pullD (α := Int) (m_67 [iD lo, iD d]) (fun d => ((D.vi d))) (fun r0 => iD r0) fun r0 => (pullD (α := Int) (m_68 [iD hi, iD d]) (fun d => ((D.vi d))) (fun r1 => iD r1) fun r1 => (some (.agg [iD r0, iD r1])))
theorem rounded_M_ok (lo hi d : Int) {r : D} (h : rounded_M lo hi d = some r) : Con 62 [iD lo, iD hi, iD d] r := by
  unfold rounded_M at h
  obtain ⟨r0, f1_, h2_⟩ := pullD_elim h
  replace f1_ := m_67_ok f1_
  obtain ⟨r1, f3_, h4_⟩ := pullD_elim h2_
  replace f3_ := m_68_ok f3_
  obtain rfl := Option.some.inj h4_
  exact con_pc (op := true) (I := [62]) (sp := rounded_sp) 3000 [] [iD r0, iD r1] [] [k_c f1_, k_c f3_] (by kernel_rfl)
def m_62 (ds : List D) : Option D := pullD (α := Int × Int × Int) (some (.tup ds)) (fun d => ((D.vi (D.at d 0)), (D.vi (D.at d 1)), (D.vi (D.at d 2)))) (fun (lo, hi, d) => .tup [iD lo, iD hi, iD d]) fun (lo, hi, d) => rounded_M lo hi d
theorem m_62_ok {ds : List D} {r : D} (h : m_62 ds = some r) : Con 62 ds r := by
  unfold m_62 at h
  obtain ⟨⟨lo, hi, d⟩, e0, h0⟩ := pullD_elim h
  obtain rfl := tup_inj e0
  exact rounded_M_ok lo hi d h0
theorem m_62_eq (lo hi d : Int) : m_62 [iD lo, iD hi, iD d] = rounded_M lo hi d := pullD_some (lo, hi, d) rfl rfl
def floor_sp : List LSpec := []
def floor_M (n d : Int) : Option D := guardP (d ≠ (0 : Int)) ((if n.tmod d < (0 : Int) then some (iD (IntKind.i64.wrap (IntKind.i64.wrap (n.tdiv d) - (1 : Int)))) else some (iD (IntKind.i64.wrap (n.tdiv d)))))
theorem floor_M_ok (n d : Int) {r : D} (h : floor_M n d = some r) : Con 65 [iD n, iD d] r := by
  unfold floor_M at h
  obtain ⟨f1_, h2_⟩ := guardP_elim h
  by_cases b3_ : n.tmod d < (0 : Int)
  · have h4_ := (if_pos b3_).symm.trans h2_
    obtain rfl := Option.some.inj h4_
    exact con_pc (op := true) (I := [65]) (sp := floor_sp) 3000 (bT 1 []) [] [c_en f1_, c_en f1_, c_d b3_] [] (by kernel_rfl)
  have h4_ := (if_neg b3_).symm.trans h2_
  obtain rfl := Option.some.inj h4_
  exact con_pc (op := true) (I := [65]) (sp := floor_sp) 3000 (bF 1 []) [] [c_en f1_, c_en f1_, c_n b3_] [] (by kernel_rfl)
def m_65 (ds : List D) : Option D := pullD (α := Int × Int) (some (.tup ds)) (fun d => ((D.vi (D.at d 0)), (D.vi (D.at d 1)))) (fun (n, d) => .tup [iD n, iD d]) fun (n, d) => floor_M n d
theorem m_65_ok {ds : List D} {r : D} (h : m_65 ds = some r) : Con 65 ds r := by
  unfold m_65 at h
  obtain ⟨⟨n, d⟩, e0, h0⟩ := pullD_elim h
  obtain rfl := tup_inj e0
  exact floor_M_ok n d h0
theorem m_65_eq (n d : Int) : m_65 [iD n, iD d] = floor_M n d := pullD_some (n, d) rfl rfl
def ceil_sp : List LSpec := []
def ceil_M (n d : Int) : Option D := pullD (α := Int) (m_65 [iD (IntKind.i64.wrap ((0 : Int) - n)), iD d]) (fun d => ((D.vi d))) (fun r0 => iD r0) fun r0 => (some (iD (IntKind.i64.wrap ((0 : Int) - r0))))
theorem ceil_M_ok (n d : Int) {r : D} (h : ceil_M n d = some r) : Con 66 [iD n, iD d] r := by
  unfold ceil_M at h
  obtain ⟨r0, f1_, h2_⟩ := pullD_elim h
  replace f1_ := m_65_ok f1_
  obtain rfl := Option.some.inj h2_
  exact con_pc (op := true) (I := [66]) (sp := ceil_sp) 3000 [] [iD r0] [] [k_c f1_] (by kernel_rfl)
def m_66 (ds : List D) : Option D := pullD (α := Int × Int) (some (.tup ds)) (fun d => ((D.vi (D.at d 0)), (D.vi (D.at d 1)))) (fun (n, d) => .tup [iD n, iD d]) fun (n, d) => ceil_M n d
theorem m_66_ok {ds : List D} {r : D} (h : m_66 ds = some r) : Con 66 ds r := by
  unfold m_66 at h
  obtain ⟨⟨n, d⟩, e0, h0⟩ := pullD_elim h
  obtain rfl := tup_inj e0
  exact ceil_M_ok n d h0
theorem m_66_eq (n d : Int) : m_66 [iD n, iD d] = ceil_M n d := pullD_some (n, d) rfl rfl
def chkStep_sp : List LSpec := []
def chkStep_M (n : Int) : Option D := (if n < (1 : Int) then some (iD (2 : Int)) else (if n > (1000000 : Int) then some (iD (2 : Int)) else some (iD (0 : Int))))
theorem chkStep_M_ok (n : Int) {r : D} (h : chkStep_M n = some r) : Con 53 [iD n] r := by
  unfold chkStep_M at h
  by_cases b1_ : n < (1 : Int)
  · have h2_ := (if_pos b1_).symm.trans h
    obtain rfl := Option.some.inj h2_
    exact con_pc (op := true) (I := [53, 63, 97]) (sp := chkStep_sp) 3000 (bT 6 []) [] [c_T, c_d b1_, c_d b1_, c_d b1_, c_d b1_, c_T] [] (by kernel_rfl)
  have h2_ := (if_neg b1_).symm.trans h
  by_cases b3_ : n > (1000000 : Int)
  · have h4_ := (if_pos b3_).symm.trans h2_
    obtain rfl := Option.some.inj h4_
    exact con_pc (op := true) (I := [53, 63, 97]) (sp := chkStep_sp) 3000 (bT 1 (bF 4 (bT 1 []))) [] [c_T, c_n b1_, c_n b1_, c_n b1_, c_n b1_, c_d b3_] [] (by kernel_rfl)
  have h4_ := (if_neg b3_).symm.trans h2_
  obtain rfl := Option.some.inj h4_
  exact con_pc (op := true) (I := [53, 63, 97]) (sp := chkStep_sp) 3000 (bT 1 (bF 6 [])) [] [c_T, c_n b1_, c_n b1_, c_n b1_, c_n b1_, c_n b3_, c_F] [] (by kernel_rfl)
def m_53 (ds : List D) : Option D := pullD (α := Int) (some (.tup ds)) (fun d => ((D.vi (D.at d 0)))) (fun n => .tup [iD n]) fun n => chkStep_M n
theorem m_53_ok {ds : List D} {r : D} (h : m_53 ds = some r) : Con 53 ds r := by
  unfold m_53 at h
  obtain ⟨n, e0, h0⟩ := pullD_elim h
  obtain rfl := tup_inj e0
  exact chkStep_M_ok n h0
theorem m_53_eq (n : Int) : m_53 [iD n] = chkStep_M n := pullD_some n rfl rfl
def chkFigures_sp : List LSpec := []
def chkFigures_M_s0 (ga pl ph tl th nl nh ul uh : Int)  : Option D := (if pl < (1 : Int) then pullD (α := Int) (m_64 [.list 4 [iD pl, iD ph, iD tl, iD th, iD nl, iD nh, iD ul, iD uh]]) (fun d => ((D.vi d))) (fun r0 => iD r0) fun r0 => (pullD (α := Int) (m_50 [.list 3 [iD (2 : Int), iD (2 : Int), iD r0]]) (fun d => ((D.vi d))) (fun r1 => iD r1) fun r1 => (some (iD r1))) else (if pl > (4196 : Int) then pullD (α := Int) (m_64 [.list 4 [iD pl, iD ph, iD tl, iD th, iD nl, iD nh, iD ul, iD uh]]) (fun d => ((D.vi d))) (fun r2 => iD r2) fun r2 => (pullD (α := Int) (m_50 [.list 3 [iD (2 : Int), iD (2 : Int), iD r2]]) (fun d => ((D.vi d))) (fun r3 => iD r3) fun r3 => (some (iD r3))) else (if ph < (1 : Int) then pullD (α := Int) (m_64 [.list 4 [iD pl, iD ph, iD tl, iD th, iD nl, iD nh, iD ul, iD uh]]) (fun d => ((D.vi d))) (fun r4 => iD r4) fun r4 => (pullD (α := Int) (m_50 [.list 3 [iD (2 : Int), iD (2 : Int), iD r4]]) (fun d => ((D.vi d))) (fun r5 => iD r5) fun r5 => (some (iD r5))) else (if ph > (4196 : Int) then pullD (α := Int) (m_64 [.list 4 [iD pl, iD ph, iD tl, iD th, iD nl, iD nh, iD ul, iD uh]]) (fun d => ((D.vi d))) (fun r6 => iD r6) fun r6 => (pullD (α := Int) (m_50 [.list 3 [iD (2 : Int), iD (2 : Int), iD r6]]) (fun d => ((D.vi d))) (fun r7 => iD r7) fun r7 => (some (iD r7))) else pullD (α := Int) (m_64 [.list 4 [iD pl, iD ph, iD tl, iD th, iD nl, iD nh, iD ul, iD uh]]) (fun d => ((D.vi d))) (fun r8 => iD r8) fun r8 => (pullD (α := Int) (m_50 [.list 3 [iD (2 : Int), iD (0 : Int), iD r8]]) (fun d => ((D.vi d))) (fun r9 => iD r9) fun r9 => (some (iD r9)))))))
def chkFigures_M_s1 (ga pl ph tl th nl nh ul uh : Int)  : Option D := (if pl < (1 : Int) then pullD (α := Int) (m_64 [.list 4 [iD pl, iD ph, iD tl, iD th, iD nl, iD nh, iD ul, iD uh]]) (fun d => ((D.vi d))) (fun r10 => iD r10) fun r10 => (pullD (α := Int) (m_50 [.list 3 [iD (2 : Int), iD (2 : Int), iD r10]]) (fun d => ((D.vi d))) (fun r11 => iD r11) fun r11 => (some (iD r11))) else (if pl > (4196 : Int) then pullD (α := Int) (m_64 [.list 4 [iD pl, iD ph, iD tl, iD th, iD nl, iD nh, iD ul, iD uh]]) (fun d => ((D.vi d))) (fun r12 => iD r12) fun r12 => (pullD (α := Int) (m_50 [.list 3 [iD (2 : Int), iD (2 : Int), iD r12]]) (fun d => ((D.vi d))) (fun r13 => iD r13) fun r13 => (some (iD r13))) else (if ph < (1 : Int) then pullD (α := Int) (m_64 [.list 4 [iD pl, iD ph, iD tl, iD th, iD nl, iD nh, iD ul, iD uh]]) (fun d => ((D.vi d))) (fun r14 => iD r14) fun r14 => (pullD (α := Int) (m_50 [.list 3 [iD (2 : Int), iD (2 : Int), iD r14]]) (fun d => ((D.vi d))) (fun r15 => iD r15) fun r15 => (some (iD r15))) else (if ph > (4196 : Int) then pullD (α := Int) (m_64 [.list 4 [iD pl, iD ph, iD tl, iD th, iD nl, iD nh, iD ul, iD uh]]) (fun d => ((D.vi d))) (fun r16 => iD r16) fun r16 => (pullD (α := Int) (m_50 [.list 3 [iD (2 : Int), iD (2 : Int), iD r16]]) (fun d => ((D.vi d))) (fun r17 => iD r17) fun r17 => (some (iD r17))) else pullD (α := Int) (m_64 [.list 4 [iD pl, iD ph, iD tl, iD th, iD nl, iD nh, iD ul, iD uh]]) (fun d => ((D.vi d))) (fun r18 => iD r18) fun r18 => (pullD (α := Int) (m_50 [.list 3 [iD (2 : Int), iD (0 : Int), iD r18]]) (fun d => ((D.vi d))) (fun r19 => iD r19) fun r19 => (some (iD r19)))))))
def chkFigures_M_s2 (ga pl ph tl th nl nh ul uh : Int)  : Option D := (if pl < (1 : Int) then pullD (α := Int) (m_64 [.list 4 [iD pl, iD ph, iD tl, iD th, iD nl, iD nh, iD ul, iD uh]]) (fun d => ((D.vi d))) (fun r20 => iD r20) fun r20 => (pullD (α := Int) (m_50 [.list 3 [iD (2 : Int), iD (2 : Int), iD r20]]) (fun d => ((D.vi d))) (fun r21 => iD r21) fun r21 => (some (iD r21))) else (if pl > (4196 : Int) then pullD (α := Int) (m_64 [.list 4 [iD pl, iD ph, iD tl, iD th, iD nl, iD nh, iD ul, iD uh]]) (fun d => ((D.vi d))) (fun r22 => iD r22) fun r22 => (pullD (α := Int) (m_50 [.list 3 [iD (2 : Int), iD (2 : Int), iD r22]]) (fun d => ((D.vi d))) (fun r23 => iD r23) fun r23 => (some (iD r23))) else (if ph < (1 : Int) then pullD (α := Int) (m_64 [.list 4 [iD pl, iD ph, iD tl, iD th, iD nl, iD nh, iD ul, iD uh]]) (fun d => ((D.vi d))) (fun r24 => iD r24) fun r24 => (pullD (α := Int) (m_50 [.list 3 [iD (2 : Int), iD (2 : Int), iD r24]]) (fun d => ((D.vi d))) (fun r25 => iD r25) fun r25 => (some (iD r25))) else (if ph > (4196 : Int) then pullD (α := Int) (m_64 [.list 4 [iD pl, iD ph, iD tl, iD th, iD nl, iD nh, iD ul, iD uh]]) (fun d => ((D.vi d))) (fun r26 => iD r26) fun r26 => (pullD (α := Int) (m_50 [.list 3 [iD (2 : Int), iD (2 : Int), iD r26]]) (fun d => ((D.vi d))) (fun r27 => iD r27) fun r27 => (some (iD r27))) else pullD (α := Int) (m_64 [.list 4 [iD pl, iD ph, iD tl, iD th, iD nl, iD nh, iD ul, iD uh]]) (fun d => ((D.vi d))) (fun r28 => iD r28) fun r28 => (pullD (α := Int) (m_50 [.list 3 [iD (2 : Int), iD (0 : Int), iD r28]]) (fun d => ((D.vi d))) (fun r29 => iD r29) fun r29 => (some (iD r29)))))))
def chkFigures_M_s3 (ga pl ph tl th nl nh ul uh : Int)  : Option D := (if pl < (1 : Int) then pullD (α := Int) (m_64 [.list 4 [iD pl, iD ph, iD tl, iD th, iD nl, iD nh, iD ul, iD uh]]) (fun d => ((D.vi d))) (fun r30 => iD r30) fun r30 => (pullD (α := Int) (m_50 [.list 3 [iD (2 : Int), iD (2 : Int), iD r30]]) (fun d => ((D.vi d))) (fun r31 => iD r31) fun r31 => (some (iD r31))) else (if pl > (4196 : Int) then pullD (α := Int) (m_64 [.list 4 [iD pl, iD ph, iD tl, iD th, iD nl, iD nh, iD ul, iD uh]]) (fun d => ((D.vi d))) (fun r32 => iD r32) fun r32 => (pullD (α := Int) (m_50 [.list 3 [iD (2 : Int), iD (2 : Int), iD r32]]) (fun d => ((D.vi d))) (fun r33 => iD r33) fun r33 => (some (iD r33))) else (if ph < (1 : Int) then pullD (α := Int) (m_64 [.list 4 [iD pl, iD ph, iD tl, iD th, iD nl, iD nh, iD ul, iD uh]]) (fun d => ((D.vi d))) (fun r34 => iD r34) fun r34 => (pullD (α := Int) (m_50 [.list 3 [iD (2 : Int), iD (2 : Int), iD r34]]) (fun d => ((D.vi d))) (fun r35 => iD r35) fun r35 => (some (iD r35))) else (if ph > (4196 : Int) then pullD (α := Int) (m_64 [.list 4 [iD pl, iD ph, iD tl, iD th, iD nl, iD nh, iD ul, iD uh]]) (fun d => ((D.vi d))) (fun r36 => iD r36) fun r36 => (pullD (α := Int) (m_50 [.list 3 [iD (2 : Int), iD (2 : Int), iD r36]]) (fun d => ((D.vi d))) (fun r37 => iD r37) fun r37 => (some (iD r37))) else pullD (α := Int) (m_64 [.list 4 [iD pl, iD ph, iD tl, iD th, iD nl, iD nh, iD ul, iD uh]]) (fun d => ((D.vi d))) (fun r38 => iD r38) fun r38 => (pullD (α := Int) (m_50 [.list 3 [iD (2 : Int), iD (0 : Int), iD r38]]) (fun d => ((D.vi d))) (fun r39 => iD r39) fun r39 => (some (iD r39)))))))
def chkFigures_M_s4 (ga pl ph tl th nl nh ul uh : Int)  : Option D := (if pl < (1 : Int) then pullD (α := Int) (m_64 [.list 4 [iD pl, iD ph, iD tl, iD th, iD nl, iD nh, iD ul, iD uh]]) (fun d => ((D.vi d))) (fun r40 => iD r40) fun r40 => (pullD (α := Int) (m_50 [.list 3 [iD (2 : Int), iD (2 : Int), iD r40]]) (fun d => ((D.vi d))) (fun r41 => iD r41) fun r41 => (some (iD r41))) else (if pl > (4196 : Int) then pullD (α := Int) (m_64 [.list 4 [iD pl, iD ph, iD tl, iD th, iD nl, iD nh, iD ul, iD uh]]) (fun d => ((D.vi d))) (fun r42 => iD r42) fun r42 => (pullD (α := Int) (m_50 [.list 3 [iD (2 : Int), iD (2 : Int), iD r42]]) (fun d => ((D.vi d))) (fun r43 => iD r43) fun r43 => (some (iD r43))) else (if ph < (1 : Int) then pullD (α := Int) (m_64 [.list 4 [iD pl, iD ph, iD tl, iD th, iD nl, iD nh, iD ul, iD uh]]) (fun d => ((D.vi d))) (fun r44 => iD r44) fun r44 => (pullD (α := Int) (m_50 [.list 3 [iD (2 : Int), iD (2 : Int), iD r44]]) (fun d => ((D.vi d))) (fun r45 => iD r45) fun r45 => (some (iD r45))) else (if ph > (4196 : Int) then pullD (α := Int) (m_64 [.list 4 [iD pl, iD ph, iD tl, iD th, iD nl, iD nh, iD ul, iD uh]]) (fun d => ((D.vi d))) (fun r46 => iD r46) fun r46 => (pullD (α := Int) (m_50 [.list 3 [iD (2 : Int), iD (2 : Int), iD r46]]) (fun d => ((D.vi d))) (fun r47 => iD r47) fun r47 => (some (iD r47))) else pullD (α := Int) (m_64 [.list 4 [iD pl, iD ph, iD tl, iD th, iD nl, iD nh, iD ul, iD uh]]) (fun d => ((D.vi d))) (fun r48 => iD r48) fun r48 => (pullD (α := Int) (m_50 [.list 3 [iD (2 : Int), iD (0 : Int), iD r48]]) (fun d => ((D.vi d))) (fun r49 => iD r49) fun r49 => (some (iD r49)))))))
def chkFigures_M_s5 (ga pl ph tl th nl nh ul uh : Int)  : Option D := (if pl < (1 : Int) then pullD (α := Int) (m_64 [.list 4 [iD pl, iD ph, iD tl, iD th, iD nl, iD nh, iD ul, iD uh]]) (fun d => ((D.vi d))) (fun r50 => iD r50) fun r50 => (pullD (α := Int) (m_50 [.list 3 [iD (2 : Int), iD (2 : Int), iD r50]]) (fun d => ((D.vi d))) (fun r51 => iD r51) fun r51 => (some (iD r51))) else (if pl > (4196 : Int) then pullD (α := Int) (m_64 [.list 4 [iD pl, iD ph, iD tl, iD th, iD nl, iD nh, iD ul, iD uh]]) (fun d => ((D.vi d))) (fun r52 => iD r52) fun r52 => (pullD (α := Int) (m_50 [.list 3 [iD (2 : Int), iD (2 : Int), iD r52]]) (fun d => ((D.vi d))) (fun r53 => iD r53) fun r53 => (some (iD r53))) else (if ph < (1 : Int) then pullD (α := Int) (m_64 [.list 4 [iD pl, iD ph, iD tl, iD th, iD nl, iD nh, iD ul, iD uh]]) (fun d => ((D.vi d))) (fun r54 => iD r54) fun r54 => (pullD (α := Int) (m_50 [.list 3 [iD (2 : Int), iD (2 : Int), iD r54]]) (fun d => ((D.vi d))) (fun r55 => iD r55) fun r55 => (some (iD r55))) else (if ph > (4196 : Int) then pullD (α := Int) (m_64 [.list 4 [iD pl, iD ph, iD tl, iD th, iD nl, iD nh, iD ul, iD uh]]) (fun d => ((D.vi d))) (fun r56 => iD r56) fun r56 => (pullD (α := Int) (m_50 [.list 3 [iD (2 : Int), iD (2 : Int), iD r56]]) (fun d => ((D.vi d))) (fun r57 => iD r57) fun r57 => (some (iD r57))) else pullD (α := Int) (m_64 [.list 4 [iD pl, iD ph, iD tl, iD th, iD nl, iD nh, iD ul, iD uh]]) (fun d => ((D.vi d))) (fun r58 => iD r58) fun r58 => (pullD (α := Int) (m_50 [.list 3 [iD (2 : Int), iD (0 : Int), iD r58]]) (fun d => ((D.vi d))) (fun r59 => iD r59) fun r59 => (some (iD r59)))))))
def chkFigures_M_s6 (ga pl ph tl th nl nh ul uh : Int)  : Option D := (if pl < (1 : Int) then pullD (α := Int) (m_64 [.list 4 [iD pl, iD ph, iD tl, iD th, iD nl, iD nh, iD ul, iD uh]]) (fun d => ((D.vi d))) (fun r60 => iD r60) fun r60 => (pullD (α := Int) (m_50 [.list 3 [iD (2 : Int), iD (2 : Int), iD r60]]) (fun d => ((D.vi d))) (fun r61 => iD r61) fun r61 => (some (iD r61))) else (if pl > (4196 : Int) then pullD (α := Int) (m_64 [.list 4 [iD pl, iD ph, iD tl, iD th, iD nl, iD nh, iD ul, iD uh]]) (fun d => ((D.vi d))) (fun r62 => iD r62) fun r62 => (pullD (α := Int) (m_50 [.list 3 [iD (2 : Int), iD (2 : Int), iD r62]]) (fun d => ((D.vi d))) (fun r63 => iD r63) fun r63 => (some (iD r63))) else (if ph < (1 : Int) then pullD (α := Int) (m_64 [.list 4 [iD pl, iD ph, iD tl, iD th, iD nl, iD nh, iD ul, iD uh]]) (fun d => ((D.vi d))) (fun r64 => iD r64) fun r64 => (pullD (α := Int) (m_50 [.list 3 [iD (2 : Int), iD (2 : Int), iD r64]]) (fun d => ((D.vi d))) (fun r65 => iD r65) fun r65 => (some (iD r65))) else (if ph > (4196 : Int) then pullD (α := Int) (m_64 [.list 4 [iD pl, iD ph, iD tl, iD th, iD nl, iD nh, iD ul, iD uh]]) (fun d => ((D.vi d))) (fun r66 => iD r66) fun r66 => (pullD (α := Int) (m_50 [.list 3 [iD (2 : Int), iD (2 : Int), iD r66]]) (fun d => ((D.vi d))) (fun r67 => iD r67) fun r67 => (some (iD r67))) else pullD (α := Int) (m_64 [.list 4 [iD pl, iD ph, iD tl, iD th, iD nl, iD nh, iD ul, iD uh]]) (fun d => ((D.vi d))) (fun r68 => iD r68) fun r68 => (pullD (α := Int) (m_50 [.list 3 [iD (2 : Int), iD (0 : Int), iD r68]]) (fun d => ((D.vi d))) (fun r69 => iD r69) fun r69 => (some (iD r69)))))))
def chkFigures_M_s7 (ga pl ph tl th nl nh ul uh : Int)  : Option D := (if pl < (1 : Int) then pullD (α := Int) (m_64 [.list 4 [iD pl, iD ph, iD tl, iD th, iD nl, iD nh, iD ul, iD uh]]) (fun d => ((D.vi d))) (fun r70 => iD r70) fun r70 => (pullD (α := Int) (m_50 [.list 3 [iD (2 : Int), iD (2 : Int), iD r70]]) (fun d => ((D.vi d))) (fun r71 => iD r71) fun r71 => (some (iD r71))) else (if pl > (4196 : Int) then pullD (α := Int) (m_64 [.list 4 [iD pl, iD ph, iD tl, iD th, iD nl, iD nh, iD ul, iD uh]]) (fun d => ((D.vi d))) (fun r72 => iD r72) fun r72 => (pullD (α := Int) (m_50 [.list 3 [iD (2 : Int), iD (2 : Int), iD r72]]) (fun d => ((D.vi d))) (fun r73 => iD r73) fun r73 => (some (iD r73))) else (if ph < (1 : Int) then pullD (α := Int) (m_64 [.list 4 [iD pl, iD ph, iD tl, iD th, iD nl, iD nh, iD ul, iD uh]]) (fun d => ((D.vi d))) (fun r74 => iD r74) fun r74 => (pullD (α := Int) (m_50 [.list 3 [iD (2 : Int), iD (2 : Int), iD r74]]) (fun d => ((D.vi d))) (fun r75 => iD r75) fun r75 => (some (iD r75))) else (if ph > (4196 : Int) then pullD (α := Int) (m_64 [.list 4 [iD pl, iD ph, iD tl, iD th, iD nl, iD nh, iD ul, iD uh]]) (fun d => ((D.vi d))) (fun r76 => iD r76) fun r76 => (pullD (α := Int) (m_50 [.list 3 [iD (2 : Int), iD (2 : Int), iD r76]]) (fun d => ((D.vi d))) (fun r77 => iD r77) fun r77 => (some (iD r77))) else pullD (α := Int) (m_64 [.list 4 [iD pl, iD ph, iD tl, iD th, iD nl, iD nh, iD ul, iD uh]]) (fun d => ((D.vi d))) (fun r78 => iD r78) fun r78 => (pullD (α := Int) (m_50 [.list 3 [iD (2 : Int), iD (0 : Int), iD r78]]) (fun d => ((D.vi d))) (fun r79 => iD r79) fun r79 => (some (iD r79)))))))
def chkFigures_M_s8 (ga pl ph tl th nl nh ul uh : Int)  : Option D := (if pl < (1 : Int) then pullD (α := Int) (m_64 [.list 4 [iD pl, iD ph, iD tl, iD th, iD nl, iD nh, iD ul, iD uh]]) (fun d => ((D.vi d))) (fun r80 => iD r80) fun r80 => (pullD (α := Int) (m_50 [.list 3 [iD (2 : Int), iD (2 : Int), iD r80]]) (fun d => ((D.vi d))) (fun r81 => iD r81) fun r81 => (some (iD r81))) else (if pl > (4196 : Int) then pullD (α := Int) (m_64 [.list 4 [iD pl, iD ph, iD tl, iD th, iD nl, iD nh, iD ul, iD uh]]) (fun d => ((D.vi d))) (fun r82 => iD r82) fun r82 => (pullD (α := Int) (m_50 [.list 3 [iD (2 : Int), iD (2 : Int), iD r82]]) (fun d => ((D.vi d))) (fun r83 => iD r83) fun r83 => (some (iD r83))) else (if ph < (1 : Int) then pullD (α := Int) (m_64 [.list 4 [iD pl, iD ph, iD tl, iD th, iD nl, iD nh, iD ul, iD uh]]) (fun d => ((D.vi d))) (fun r84 => iD r84) fun r84 => (pullD (α := Int) (m_50 [.list 3 [iD (2 : Int), iD (2 : Int), iD r84]]) (fun d => ((D.vi d))) (fun r85 => iD r85) fun r85 => (some (iD r85))) else (if ph > (4196 : Int) then pullD (α := Int) (m_64 [.list 4 [iD pl, iD ph, iD tl, iD th, iD nl, iD nh, iD ul, iD uh]]) (fun d => ((D.vi d))) (fun r86 => iD r86) fun r86 => (pullD (α := Int) (m_50 [.list 3 [iD (2 : Int), iD (2 : Int), iD r86]]) (fun d => ((D.vi d))) (fun r87 => iD r87) fun r87 => (some (iD r87))) else pullD (α := Int) (m_64 [.list 4 [iD pl, iD ph, iD tl, iD th, iD nl, iD nh, iD ul, iD uh]]) (fun d => ((D.vi d))) (fun r88 => iD r88) fun r88 => (pullD (α := Int) (m_50 [.list 3 [iD (2 : Int), iD (0 : Int), iD r88]]) (fun d => ((D.vi d))) (fun r89 => iD r89) fun r89 => (some (iD r89)))))))
def chkFigures_M_s9 (ga pl ph tl th nl nh ul uh : Int)  : Option D := (if pl < (1 : Int) then pullD (α := Int) (m_64 [.list 4 [iD pl, iD ph, iD tl, iD th, iD nl, iD nh, iD ul, iD uh]]) (fun d => ((D.vi d))) (fun r90 => iD r90) fun r90 => (pullD (α := Int) (m_50 [.list 3 [iD (2 : Int), iD (2 : Int), iD r90]]) (fun d => ((D.vi d))) (fun r91 => iD r91) fun r91 => (some (iD r91))) else (if pl > (4196 : Int) then pullD (α := Int) (m_64 [.list 4 [iD pl, iD ph, iD tl, iD th, iD nl, iD nh, iD ul, iD uh]]) (fun d => ((D.vi d))) (fun r92 => iD r92) fun r92 => (pullD (α := Int) (m_50 [.list 3 [iD (2 : Int), iD (2 : Int), iD r92]]) (fun d => ((D.vi d))) (fun r93 => iD r93) fun r93 => (some (iD r93))) else (if ph < (1 : Int) then pullD (α := Int) (m_64 [.list 4 [iD pl, iD ph, iD tl, iD th, iD nl, iD nh, iD ul, iD uh]]) (fun d => ((D.vi d))) (fun r94 => iD r94) fun r94 => (pullD (α := Int) (m_50 [.list 3 [iD (2 : Int), iD (2 : Int), iD r94]]) (fun d => ((D.vi d))) (fun r95 => iD r95) fun r95 => (some (iD r95))) else (if ph > (4196 : Int) then pullD (α := Int) (m_64 [.list 4 [iD pl, iD ph, iD tl, iD th, iD nl, iD nh, iD ul, iD uh]]) (fun d => ((D.vi d))) (fun r96 => iD r96) fun r96 => (pullD (α := Int) (m_50 [.list 3 [iD (2 : Int), iD (2 : Int), iD r96]]) (fun d => ((D.vi d))) (fun r97 => iD r97) fun r97 => (some (iD r97))) else pullD (α := Int) (m_64 [.list 4 [iD pl, iD ph, iD tl, iD th, iD nl, iD nh, iD ul, iD uh]]) (fun d => ((D.vi d))) (fun r98 => iD r98) fun r98 => (pullD (α := Int) (m_50 [.list 3 [iD (2 : Int), iD (0 : Int), iD r98]]) (fun d => ((D.vi d))) (fun r99 => iD r99) fun r99 => (some (iD r99)))))))
def chkFigures_M_s10 (ga pl ph tl th nl nh ul uh : Int)  : Option D := (if pl < (1 : Int) then pullD (α := Int) (m_64 [.list 4 [iD pl, iD ph, iD tl, iD th, iD nl, iD nh, iD ul, iD uh]]) (fun d => ((D.vi d))) (fun r100 => iD r100) fun r100 => (pullD (α := Int) (m_50 [.list 3 [iD (2 : Int), iD (2 : Int), iD r100]]) (fun d => ((D.vi d))) (fun r101 => iD r101) fun r101 => (some (iD r101))) else (if pl > (4196 : Int) then pullD (α := Int) (m_64 [.list 4 [iD pl, iD ph, iD tl, iD th, iD nl, iD nh, iD ul, iD uh]]) (fun d => ((D.vi d))) (fun r102 => iD r102) fun r102 => (pullD (α := Int) (m_50 [.list 3 [iD (2 : Int), iD (2 : Int), iD r102]]) (fun d => ((D.vi d))) (fun r103 => iD r103) fun r103 => (some (iD r103))) else (if ph < (1 : Int) then pullD (α := Int) (m_64 [.list 4 [iD pl, iD ph, iD tl, iD th, iD nl, iD nh, iD ul, iD uh]]) (fun d => ((D.vi d))) (fun r104 => iD r104) fun r104 => (pullD (α := Int) (m_50 [.list 3 [iD (2 : Int), iD (2 : Int), iD r104]]) (fun d => ((D.vi d))) (fun r105 => iD r105) fun r105 => (some (iD r105))) else (if ph > (4196 : Int) then pullD (α := Int) (m_64 [.list 4 [iD pl, iD ph, iD tl, iD th, iD nl, iD nh, iD ul, iD uh]]) (fun d => ((D.vi d))) (fun r106 => iD r106) fun r106 => (pullD (α := Int) (m_50 [.list 3 [iD (2 : Int), iD (2 : Int), iD r106]]) (fun d => ((D.vi d))) (fun r107 => iD r107) fun r107 => (some (iD r107))) else pullD (α := Int) (m_64 [.list 4 [iD pl, iD ph, iD tl, iD th, iD nl, iD nh, iD ul, iD uh]]) (fun d => ((D.vi d))) (fun r108 => iD r108) fun r108 => (pullD (α := Int) (m_50 [.list 3 [iD (2 : Int), iD (0 : Int), iD r108]]) (fun d => ((D.vi d))) (fun r109 => iD r109) fun r109 => (some (iD r109)))))))
def chkFigures_M_s11 (ga pl ph tl th nl nh ul uh : Int)  : Option D := (if ul > (63 : Int) then (if pl < (1 : Int) then pullD (α := Int) (m_64 [.list 4 [iD pl, iD ph, iD tl, iD th, iD nl, iD nh, iD ul, iD uh]]) (fun d => ((D.vi d))) (fun r110 => iD r110) fun r110 => (pullD (α := Int) (m_50 [.list 3 [iD (2 : Int), iD (2 : Int), iD r110]]) (fun d => ((D.vi d))) (fun r111 => iD r111) fun r111 => (some (iD r111))) else (if pl > (4196 : Int) then pullD (α := Int) (m_64 [.list 4 [iD pl, iD ph, iD tl, iD th, iD nl, iD nh, iD ul, iD uh]]) (fun d => ((D.vi d))) (fun r112 => iD r112) fun r112 => (pullD (α := Int) (m_50 [.list 3 [iD (2 : Int), iD (2 : Int), iD r112]]) (fun d => ((D.vi d))) (fun r113 => iD r113) fun r113 => (some (iD r113))) else (if ph < (1 : Int) then pullD (α := Int) (m_64 [.list 4 [iD pl, iD ph, iD tl, iD th, iD nl, iD nh, iD ul, iD uh]]) (fun d => ((D.vi d))) (fun r114 => iD r114) fun r114 => (pullD (α := Int) (m_50 [.list 3 [iD (2 : Int), iD (2 : Int), iD r114]]) (fun d => ((D.vi d))) (fun r115 => iD r115) fun r115 => (some (iD r115))) else (if ph > (4196 : Int) then pullD (α := Int) (m_64 [.list 4 [iD pl, iD ph, iD tl, iD th, iD nl, iD nh, iD ul, iD uh]]) (fun d => ((D.vi d))) (fun r116 => iD r116) fun r116 => (pullD (α := Int) (m_50 [.list 3 [iD (2 : Int), iD (2 : Int), iD r116]]) (fun d => ((D.vi d))) (fun r117 => iD r117) fun r117 => (some (iD r117))) else pullD (α := Int) (m_64 [.list 4 [iD pl, iD ph, iD tl, iD th, iD nl, iD nh, iD ul, iD uh]]) (fun d => ((D.vi d))) (fun r118 => iD r118) fun r118 => (pullD (α := Int) (m_50 [.list 3 [iD (2 : Int), iD (0 : Int), iD r118]]) (fun d => ((D.vi d))) (fun r119 => iD r119) fun r119 => (some (iD r119))))))) else (if uh < (0 : Int) then (if pl < (1 : Int) then pullD (α := Int) (m_64 [.list 4 [iD pl, iD ph, iD tl, iD th, iD nl, iD nh, iD ul, iD uh]]) (fun d => ((D.vi d))) (fun r120 => iD r120) fun r120 => (pullD (α := Int) (m_50 [.list 3 [iD (2 : Int), iD (2 : Int), iD r120]]) (fun d => ((D.vi d))) (fun r121 => iD r121) fun r121 => (some (iD r121))) else (if pl > (4196 : Int) then pullD (α := Int) (m_64 [.list 4 [iD pl, iD ph, iD tl, iD th, iD nl, iD nh, iD ul, iD uh]]) (fun d => ((D.vi d))) (fun r122 => iD r122) fun r122 => (pullD (α := Int) (m_50 [.list 3 [iD (2 : Int), iD (2 : Int), iD r122]]) (fun d => ((D.vi d))) (fun r123 => iD r123) fun r123 => (some (iD r123))) else (if ph < (1 : Int) then pullD (α := Int) (m_64 [.list 4 [iD pl, iD ph, iD tl, iD th, iD nl, iD nh, iD ul, iD uh]]) (fun d => ((D.vi d))) (fun r124 => iD r124) fun r124 => (pullD (α := Int) (m_50 [.list 3 [iD (2 : Int), iD (2 : Int), iD r124]]) (fun d => ((D.vi d))) (fun r125 => iD r125) fun r125 => (some (iD r125))) else (if ph > (4196 : Int) then pullD (α := Int) (m_64 [.list 4 [iD pl, iD ph, iD tl, iD th, iD nl, iD nh, iD ul, iD uh]]) (fun d => ((D.vi d))) (fun r126 => iD r126) fun r126 => (pullD (α := Int) (m_50 [.list 3 [iD (2 : Int), iD (2 : Int), iD r126]]) (fun d => ((D.vi d))) (fun r127 => iD r127) fun r127 => (some (iD r127))) else pullD (α := Int) (m_64 [.list 4 [iD pl, iD ph, iD tl, iD th, iD nl, iD nh, iD ul, iD uh]]) (fun d => ((D.vi d))) (fun r128 => iD r128) fun r128 => (pullD (α := Int) (m_50 [.list 3 [iD (2 : Int), iD (0 : Int), iD r128]]) (fun d => ((D.vi d))) (fun r129 => iD r129) fun r129 => (some (iD r129))))))) else (if uh > (63 : Int) then (if pl < (1 : Int) then pullD (α := Int) (m_64 [.list 4 [iD pl, iD ph, iD tl, iD th, iD nl, iD nh, iD ul, iD uh]]) (fun d => ((D.vi d))) (fun r130 => iD r130) fun r130 => (pullD (α := Int) (m_50 [.list 3 [iD (2 : Int), iD (2 : Int), iD r130]]) (fun d => ((D.vi d))) (fun r131 => iD r131) fun r131 => (some (iD r131))) else (if pl > (4196 : Int) then pullD (α := Int) (m_64 [.list 4 [iD pl, iD ph, iD tl, iD th, iD nl, iD nh, iD ul, iD uh]]) (fun d => ((D.vi d))) (fun r132 => iD r132) fun r132 => (pullD (α := Int) (m_50 [.list 3 [iD (2 : Int), iD (2 : Int), iD r132]]) (fun d => ((D.vi d))) (fun r133 => iD r133) fun r133 => (some (iD r133))) else (if ph < (1 : Int) then pullD (α := Int) (m_64 [.list 4 [iD pl, iD ph, iD tl, iD th, iD nl, iD nh, iD ul, iD uh]]) (fun d => ((D.vi d))) (fun r134 => iD r134) fun r134 => (pullD (α := Int) (m_50 [.list 3 [iD (2 : Int), iD (2 : Int), iD r134]]) (fun d => ((D.vi d))) (fun r135 => iD r135) fun r135 => (some (iD r135))) else (if ph > (4196 : Int) then pullD (α := Int) (m_64 [.list 4 [iD pl, iD ph, iD tl, iD th, iD nl, iD nh, iD ul, iD uh]]) (fun d => ((D.vi d))) (fun r136 => iD r136) fun r136 => (pullD (α := Int) (m_50 [.list 3 [iD (2 : Int), iD (2 : Int), iD r136]]) (fun d => ((D.vi d))) (fun r137 => iD r137) fun r137 => (some (iD r137))) else pullD (α := Int) (m_64 [.list 4 [iD pl, iD ph, iD tl, iD th, iD nl, iD nh, iD ul, iD uh]]) (fun d => ((D.vi d))) (fun r138 => iD r138) fun r138 => (pullD (α := Int) (m_50 [.list 3 [iD (2 : Int), iD (0 : Int), iD r138]]) (fun d => ((D.vi d))) (fun r139 => iD r139) fun r139 => (some (iD r139))))))) else (if pl < (1 : Int) then pullD (α := Int) (m_64 [.list 4 [iD pl, iD ph, iD tl, iD th, iD nl, iD nh, iD ul, iD uh]]) (fun d => ((D.vi d))) (fun r140 => iD r140) fun r140 => (pullD (α := Int) (m_50 [.list 3 [iD (0 : Int), iD (2 : Int), iD r140]]) (fun d => ((D.vi d))) (fun r141 => iD r141) fun r141 => (some (iD r141))) else (if pl > (4196 : Int) then pullD (α := Int) (m_64 [.list 4 [iD pl, iD ph, iD tl, iD th, iD nl, iD nh, iD ul, iD uh]]) (fun d => ((D.vi d))) (fun r142 => iD r142) fun r142 => (pullD (α := Int) (m_50 [.list 3 [iD (0 : Int), iD (2 : Int), iD r142]]) (fun d => ((D.vi d))) (fun r143 => iD r143) fun r143 => (some (iD r143))) else (if ph < (1 : Int) then pullD (α := Int) (m_64 [.list 4 [iD pl, iD ph, iD tl, iD th, iD nl, iD nh, iD ul, iD uh]]) (fun d => ((D.vi d))) (fun r144 => iD r144) fun r144 => (pullD (α := Int) (m_50 [.list 3 [iD (0 : Int), iD (2 : Int), iD r144]]) (fun d => ((D.vi d))) (fun r145 => iD r145) fun r145 => (some (iD r145))) else (if ph > (4196 : Int) then pullD (α := Int) (m_64 [.list 4 [iD pl, iD ph, iD tl, iD th, iD nl, iD nh, iD ul, iD uh]]) (fun d => ((D.vi d))) (fun r146 => iD r146) fun r146 => (pullD (α := Int) (m_50 [.list 3 [iD (0 : Int), iD (2 : Int), iD r146]]) (fun d => ((D.vi d))) (fun r147 => iD r147) fun r147 => (some (iD r147))) else pullD (α := Int) (m_64 [.list 4 [iD pl, iD ph, iD tl, iD th, iD nl, iD nh, iD ul, iD uh]]) (fun d => ((D.vi d))) (fun r148 => iD r148) fun r148 => (pullD (α := Int) (m_50 [.list 3 [iD (0 : Int), iD (0 : Int), iD r148]]) (fun d => ((D.vi d))) (fun r149 => iD r149) fun r149 => (some (iD r149))))))))))
def chkFigures_M (ga pl ph tl th nl nh ul uh : Int) : Option D := (if ga < (0 : Int) then chkFigures_M_s0 ga pl ph tl th nl nh ul uh else (if ga > (63 : Int) then chkFigures_M_s1 ga pl ph tl th nl nh ul uh else (if tl < (0 : Int) then chkFigures_M_s2 ga pl ph tl th nl nh ul uh else (if tl > (63 : Int) then chkFigures_M_s3 ga pl ph tl th nl nh ul uh else (if th < (0 : Int) then chkFigures_M_s4 ga pl ph tl th nl nh ul uh else (if th > (63 : Int) then chkFigures_M_s5 ga pl ph tl th nl nh ul uh else (if nl < (0 : Int) then chkFigures_M_s6 ga pl ph tl th nl nh ul uh else (if nl > (63 : Int) then chkFigures_M_s7 ga pl ph tl th nl nh ul uh else (if nh < (0 : Int) then chkFigures_M_s8 ga pl ph tl th nl nh ul uh else (if nh > (63 : Int) then chkFigures_M_s9 ga pl ph tl th nl nh ul uh else (if ul < (0 : Int) then chkFigures_M_s10 ga pl ph tl th nl nh ul uh else chkFigures_M_s11 ga pl ph tl th nl nh ul uh)))))))))))
theorem chkFigures_M_s0_ok (ga pl ph tl th nl nh ul uh : Int)  (b1_ : ga < (0 : Int)) {r : D} (h : chkFigures_M_s0 ga pl ph tl th nl nh ul uh = some r) : Con 23 [(shNK1_0 ga pl ph tl th nl nh ul uh)] r := by
  unfold chkFigures_M_s0 at h
  by_cases bq1_ : pl < (1 : Int)
  · have hq2_ := (if_pos bq1_).symm.trans h
    obtain ⟨r0, fq3_, hq4_⟩ := pullD_elim hq2_
    replace fq3_ := m_64_ok fq3_
    obtain ⟨r1, fq5_, hq6_⟩ := pullD_elim hq4_
    replace fq5_ := m_50_ok fq5_
    obtain rfl := Option.some.inj hq6_
    exact con_pc (op := true) (I := [23, 63, 97]) (sp := chkFigures_sp) 3000 (bT 12 []) [iD r0, iD r1] [c_T, c_d b1_, c_d b1_, c_d b1_, c_d b1_, c_T, c_T, c_d bq1_, c_d bq1_, c_d bq1_, c_d bq1_, c_T, c_le 3, c_le 2] [k_c fq3_, k_c fq5_] (by kernel_rfl)
  have hq2_ := (if_neg bq1_).symm.trans h
  by_cases bq7_ : pl > (4196 : Int)
  · have hq8_ := (if_pos bq7_).symm.trans hq2_
    obtain ⟨r2, fq9_, hq10_⟩ := pullD_elim hq8_
    replace fq9_ := m_64_ok fq9_
    obtain ⟨r3, fq11_, hq12_⟩ := pullD_elim hq10_
    replace fq11_ := m_50_ok fq11_
    obtain rfl := Option.some.inj hq12_
    exact con_pc (op := true) (I := [23, 63, 97]) (sp := chkFigures_sp) 3000 (bT 7 (bF 4 (bT 1 []))) [iD r2, iD r3] [c_T, c_d b1_, c_d b1_, c_d b1_, c_d b1_, c_T, c_T, c_n bq1_, c_n bq1_, c_n bq1_, c_n bq1_, c_d bq7_, c_le 3, c_le 2] [k_c fq9_, k_c fq11_] (by kernel_rfl)
  have hq8_ := (if_neg bq7_).symm.trans hq2_
  by_cases bq13_ : ph < (1 : Int)
  · have hq14_ := (if_pos bq13_).symm.trans hq8_
    obtain ⟨r4, fq15_, hq16_⟩ := pullD_elim hq14_
    replace fq15_ := m_64_ok fq15_
    obtain ⟨r5, fq17_, hq18_⟩ := pullD_elim hq16_
    replace fq17_ := m_50_ok fq17_
    obtain rfl := Option.some.inj hq18_
    exact con_pc (op := true) (I := [23, 63, 97]) (sp := chkFigures_sp) 3000 (bT 7 (bF 5 (bT 6 []))) [iD r4, iD r5] [c_T, c_d b1_, c_d b1_, c_d b1_, c_d b1_, c_T, c_T, c_n bq1_, c_n bq1_, c_n bq1_, c_n bq1_, c_n bq7_, c_T, c_d bq13_, c_d bq13_, c_d bq13_, c_d bq13_, c_T, c_le 3, c_le 2] [k_c fq15_, k_c fq17_] (by kernel_rfl)
  have hq14_ := (if_neg bq13_).symm.trans hq8_
  by_cases bq19_ : ph > (4196 : Int)
  · have hq20_ := (if_pos bq19_).symm.trans hq14_
    obtain ⟨r6, fq21_, hq22_⟩ := pullD_elim hq20_
    replace fq21_ := m_64_ok fq21_
    obtain ⟨r7, fq23_, hq24_⟩ := pullD_elim hq22_
    replace fq23_ := m_50_ok fq23_
    obtain rfl := Option.some.inj hq24_
    exact con_pc (op := true) (I := [23, 63, 97]) (sp := chkFigures_sp) 3000 (bT 7 (bF 5 (bT 1 (bF 4 (bT 1 []))))) [iD r6, iD r7] [c_T, c_d b1_, c_d b1_, c_d b1_, c_d b1_, c_T, c_T, c_n bq1_, c_n bq1_, c_n bq1_, c_n bq1_, c_n bq7_, c_T, c_n bq13_, c_n bq13_, c_n bq13_, c_n bq13_, c_d bq19_, c_le 3, c_le 2] [k_c fq21_, k_c fq23_] (by kernel_rfl)
  have hq20_ := (if_neg bq19_).symm.trans hq14_
  obtain ⟨r8, fq25_, hq26_⟩ := pullD_elim hq20_
  replace fq25_ := m_64_ok fq25_
  obtain ⟨r9, fq27_, hq28_⟩ := pullD_elim hq26_
  replace fq27_ := m_50_ok fq27_
  obtain rfl := Option.some.inj hq28_
  exact con_pc (op := true) (I := [23, 63, 97]) (sp := chkFigures_sp) 3000 (bT 7 (bF 5 (bT 1 (bF 6 [])))) [iD r8, iD r9] [c_T, c_d b1_, c_d b1_, c_d b1_, c_d b1_, c_T, c_T, c_n bq1_, c_n bq1_, c_n bq1_, c_n bq1_, c_n bq7_, c_T, c_n bq13_, c_n bq13_, c_n bq13_, c_n bq13_, c_n bq19_, c_F, c_le 3, c_le 2] [k_c fq25_, k_c fq27_] (by kernel_rfl)
theorem chkFigures_M_s1_ok (ga pl ph tl th nl nh ul uh : Int)  (b1_ : ¬ (ga < (0 : Int))) (b3_ : ga > (63 : Int)) {r : D} (h : chkFigures_M_s1 ga pl ph tl th nl nh ul uh = some r) : Con 23 [(shNK1_0 ga pl ph tl th nl nh ul uh)] r := by
  unfold chkFigures_M_s1 at h
  by_cases bq1_ : pl < (1 : Int)
  · have hq2_ := (if_pos bq1_).symm.trans h
    obtain ⟨r10, fq3_, hq4_⟩ := pullD_elim hq2_
    replace fq3_ := m_64_ok fq3_
    obtain ⟨r11, fq5_, hq6_⟩ := pullD_elim hq4_
    replace fq5_ := m_50_ok fq5_
    obtain rfl := Option.some.inj hq6_
    exact con_pc (op := true) (I := [23, 63, 97]) (sp := chkFigures_sp) 3000 (bT 1 (bF 4 (bT 7 []))) [iD r10, iD r11] [c_T, c_n b1_, c_n b1_, c_n b1_, c_n b1_, c_d b3_, c_T, c_d bq1_, c_d bq1_, c_d bq1_, c_d bq1_, c_T, c_le 3, c_le 2] [k_c fq3_, k_c fq5_] (by kernel_rfl)
  have hq2_ := (if_neg bq1_).symm.trans h
  by_cases bq7_ : pl > (4196 : Int)
  · have hq8_ := (if_pos bq7_).symm.trans hq2_
    obtain ⟨r12, fq9_, hq10_⟩ := pullD_elim hq8_
    replace fq9_ := m_64_ok fq9_
    obtain ⟨r13, fq11_, hq12_⟩ := pullD_elim hq10_
    replace fq11_ := m_50_ok fq11_
    obtain rfl := Option.some.inj hq12_
    exact con_pc (op := true) (I := [23, 63, 97]) (sp := chkFigures_sp) 3000 (bT 1 (bF 4 (bT 2 (bF 4 (bT 1 []))))) [iD r12, iD r13] [c_T, c_n b1_, c_n b1_, c_n b1_, c_n b1_, c_d b3_, c_T, c_n bq1_, c_n bq1_, c_n bq1_, c_n bq1_, c_d bq7_, c_le 3, c_le 2] [k_c fq9_, k_c fq11_] (by kernel_rfl)
  have hq8_ := (if_neg bq7_).symm.trans hq2_
  by_cases bq13_ : ph < (1 : Int)
  · have hq14_ := (if_pos bq13_).symm.trans hq8_
    obtain ⟨r14, fq15_, hq16_⟩ := pullD_elim hq14_
    replace fq15_ := m_64_ok fq15_
    obtain ⟨r15, fq17_, hq18_⟩ := pullD_elim hq16_
    replace fq17_ := m_50_ok fq17_
    obtain rfl := Option.some.inj hq18_
    exact con_pc (op := true) (I := [23, 63, 97]) (sp := chkFigures_sp) 3000 (bT 1 (bF 4 (bT 2 (bF 5 (bT 6 []))))) [iD r14, iD r15] [c_T, c_n b1_, c_n b1_, c_n b1_, c_n b1_, c_d b3_, c_T, c_n bq1_, c_n bq1_, c_n bq1_, c_n bq1_, c_n bq7_, c_T, c_d bq13_, c_d bq13_, c_d bq13_, c_d bq13_, c_T, c_le 3, c_le 2] [k_c fq15_, k_c fq17_] (by kernel_rfl)
  have hq14_ := (if_neg bq13_).symm.trans hq8_
  by_cases bq19_ : ph > (4196 : Int)
  · have hq20_ := (if_pos bq19_).symm.trans hq14_
    obtain ⟨r16, fq21_, hq22_⟩ := pullD_elim hq20_
    replace fq21_ := m_64_ok fq21_
    obtain ⟨r17, fq23_, hq24_⟩ := pullD_elim hq22_
    replace fq23_ := m_50_ok fq23_
    obtain rfl := Option.some.inj hq24_
    exact con_pc (op := true) (I := [23, 63, 97]) (sp := chkFigures_sp) 3000 (bT 1 (bF 4 (bT 2 (bF 5 (bT 1 (bF 4 (bT 1 []))))))) [iD r16, iD r17] [c_T, c_n b1_, c_n b1_, c_n b1_, c_n b1_, c_d b3_, c_T, c_n bq1_, c_n bq1_, c_n bq1_, c_n bq1_, c_n bq7_, c_T, c_n bq13_, c_n bq13_, c_n bq13_, c_n bq13_, c_d bq19_, c_le 3, c_le 2] [k_c fq21_, k_c fq23_] (by kernel_rfl)
  have hq20_ := (if_neg bq19_).symm.trans hq14_
  obtain ⟨r18, fq25_, hq26_⟩ := pullD_elim hq20_
  replace fq25_ := m_64_ok fq25_
  obtain ⟨r19, fq27_, hq28_⟩ := pullD_elim hq26_
  replace fq27_ := m_50_ok fq27_
  obtain rfl := Option.some.inj hq28_
  exact con_pc (op := true) (I := [23, 63, 97]) (sp := chkFigures_sp) 3000 (bT 1 (bF 4 (bT 2 (bF 5 (bT 1 (bF 6 [])))))) [iD r18, iD r19] [c_T, c_n b1_, c_n b1_, c_n b1_, c_n b1_, c_d b3_, c_T, c_n bq1_, c_n bq1_, c_n bq1_, c_n bq1_, c_n bq7_, c_T, c_n bq13_, c_n bq13_, c_n bq13_, c_n bq13_, c_n bq19_, c_F, c_le 3, c_le 2] [k_c fq25_, k_c fq27_] (by kernel_rfl)
theorem chkFigures_M_s2_ok (ga pl ph tl th nl nh ul uh : Int)  (b1_ : ¬ (ga < (0 : Int))) (b3_ : ¬ (ga > (63 : Int))) (b5_ : tl < (0 : Int)) {r : D} (h : chkFigures_M_s2 ga pl ph tl th nl nh ul uh = some r) : Con 23 [(shNK1_0 ga pl ph tl th nl nh ul uh)] r := by
  unfold chkFigures_M_s2 at h
  by_cases bq1_ : pl < (1 : Int)
  · have hq2_ := (if_pos bq1_).symm.trans h
    obtain ⟨r20, fq3_, hq4_⟩ := pullD_elim hq2_
    replace fq3_ := m_64_ok fq3_
    obtain ⟨r21, fq5_, hq6_⟩ := pullD_elim hq4_
    replace fq5_ := m_50_ok fq5_
    obtain rfl := Option.some.inj hq6_
    exact con_pc (op := true) (I := [23, 63, 97]) (sp := chkFigures_sp) 3000 (bT 1 (bF 5 (bT 12 []))) [iD r20, iD r21] [c_T, c_n b1_, c_n b1_, c_n b1_, c_n b1_, c_n b3_, c_T, c_d b5_, c_d b5_, c_d b5_, c_d b5_, c_T, c_T, c_d bq1_, c_d bq1_, c_d bq1_, c_d bq1_, c_T, c_le 3, c_le 2] [k_c fq3_, k_c fq5_] (by kernel_rfl)
  have hq2_ := (if_neg bq1_).symm.trans h
  by_cases bq7_ : pl > (4196 : Int)
  · have hq8_ := (if_pos bq7_).symm.trans hq2_
    obtain ⟨r22, fq9_, hq10_⟩ := pullD_elim hq8_
    replace fq9_ := m_64_ok fq9_
    obtain ⟨r23, fq11_, hq12_⟩ := pullD_elim hq10_
    replace fq11_ := m_50_ok fq11_
    obtain rfl := Option.some.inj hq12_
    exact con_pc (op := true) (I := [23, 63, 97]) (sp := chkFigures_sp) 3000 (bT 1 (bF 5 (bT 7 (bF 4 (bT 1 []))))) [iD r22, iD r23] [c_T, c_n b1_, c_n b1_, c_n b1_, c_n b1_, c_n b3_, c_T, c_d b5_, c_d b5_, c_d b5_, c_d b5_, c_T, c_T, c_n bq1_, c_n bq1_, c_n bq1_, c_n bq1_, c_d bq7_, c_le 3, c_le 2] [k_c fq9_, k_c fq11_] (by kernel_rfl)
  have hq8_ := (if_neg bq7_).symm.trans hq2_
  by_cases bq13_ : ph < (1 : Int)
  · have hq14_ := (if_pos bq13_).symm.trans hq8_
    obtain ⟨r24, fq15_, hq16_⟩ := pullD_elim hq14_
    replace fq15_ := m_64_ok fq15_
    obtain ⟨r25, fq17_, hq18_⟩ := pullD_elim hq16_
    replace fq17_ := m_50_ok fq17_
    obtain rfl := Option.some.inj hq18_
    exact con_pc (op := true) (I := [23, 63, 97]) (sp := chkFigures_sp) 3000 (bT 1 (bF 5 (bT 7 (bF 5 (bT 6 []))))) [iD r24, iD r25] [c_T, c_n b1_, c_n b1_, c_n b1_, c_n b1_, c_n b3_, c_T, c_d b5_, c_d b5_, c_d b5_, c_d b5_, c_T, c_T, c_n bq1_, c_n bq1_, c_n bq1_, c_n bq1_, c_n bq7_, c_T, c_d bq13_, c_d bq13_, c_d bq13_, c_d bq13_, c_T, c_le 3, c_le 2] [k_c fq15_, k_c fq17_] (by kernel_rfl)
  have hq14_ := (if_neg bq13_).symm.trans hq8_
  by_cases bq19_ : ph > (4196 : Int)
  · have hq20_ := (if_pos bq19_).symm.trans hq14_
    obtain ⟨r26, fq21_, hq22_⟩ := pullD_elim hq20_
    replace fq21_ := m_64_ok fq21_
    obtain ⟨r27, fq23_, hq24_⟩ := pullD_elim hq22_
    replace fq23_ := m_50_ok fq23_
    obtain rfl := Option.some.inj hq24_
    exact con_pc (op := true) (I := [23, 63, 97]) (sp := chkFigures_sp) 3000 (bT 1 (bF 5 (bT 7 (bF 5 (bT 1 (bF 4 (bT 1 []))))))) [iD r26, iD r27] [c_T, c_n b1_, c_n b1_, c_n b1_, c_n b1_, c_n b3_, c_T, c_d b5_, c_d b5_, c_d b5_, c_d b5_, c_T, c_T, c_n bq1_, c_n bq1_, c_n bq1_, c_n bq1_, c_n bq7_, c_T, c_n bq13_, c_n bq13_, c_n bq13_, c_n bq13_, c_d bq19_, c_le 3, c_le 2] [k_c fq21_, k_c fq23_] (by kernel_rfl)
  have hq20_ := (if_neg bq19_).symm.trans hq14_
  obtain ⟨r28, fq25_, hq26_⟩ := pullD_elim hq20_
  replace fq25_ := m_64_ok fq25_
  obtain ⟨r29, fq27_, hq28_⟩ := pullD_elim hq26_
  replace fq27_ := m_50_ok fq27_
  obtain rfl := Option.some.inj hq28_
  exact con_pc (op := true) (I := [23, 63, 97]) (sp := chkFigures_sp) 3000 (bT 1 (bF 5 (bT 7 (bF 5 (bT 1 (bF 6 [])))))) [iD r28, iD r29] [c_T, c_n b1_, c_n b1_, c_n b1_, c_n b1_, c_n b3_, c_T, c_d b5_, c_d b5_, c_d b5_, c_d b5_, c_T, c_T, c_n bq1_, c_n bq1_, c_n bq1_, c_n bq1_, c_n bq7_, c_T, c_n bq13_, c_n bq13_, c_n bq13_, c_n bq13_, c_n bq19_, c_F, c_le 3, c_le 2] [k_c fq25_, k_c fq27_] (by kernel_rfl)
theorem chkFigures_M_s3_ok (ga pl ph tl th nl nh ul uh : Int)  (b1_ : ¬ (ga < (0 : Int))) (b3_ : ¬ (ga > (63 : Int))) (b5_ : ¬ (tl < (0 : Int))) (b7_ : tl > (63 : Int)) {r : D} (h : chkFigures_M_s3 ga pl ph tl th nl nh ul uh = some r) : Con 23 [(shNK1_0 ga pl ph tl th nl nh ul uh)] r := by
  unfold chkFigures_M_s3 at h
  by_cases bq1_ : pl < (1 : Int)
  · have hq2_ := (if_pos bq1_).symm.trans h
    obtain ⟨r30, fq3_, hq4_⟩ := pullD_elim hq2_
    replace fq3_ := m_64_ok fq3_
    obtain ⟨r31, fq5_, hq6_⟩ := pullD_elim hq4_
    replace fq5_ := m_50_ok fq5_
    obtain rfl := Option.some.inj hq6_
    exact con_pc (op := true) (I := [23, 63, 97]) (sp := chkFigures_sp) 3000 (bT 1 (bF 5 (bT 1 (bF 4 (bT 7 []))))) [iD r30, iD r31] [c_T, c_n b1_, c_n b1_, c_n b1_, c_n b1_, c_n b3_, c_T, c_n b5_, c_n b5_, c_n b5_, c_n b5_, c_d b7_, c_T, c_d bq1_, c_d bq1_, c_d bq1_, c_d bq1_, c_T, c_le 3, c_le 2] [k_c fq3_, k_c fq5_] (by kernel_rfl)
  have hq2_ := (if_neg bq1_).symm.trans h
  by_cases bq7_ : pl > (4196 : Int)
  · have hq8_ := (if_pos bq7_).symm.trans hq2_
    obtain ⟨r32, fq9_, hq10_⟩ := pullD_elim hq8_
    replace fq9_ := m_64_ok fq9_
    obtain ⟨r33, fq11_, hq12_⟩ := pullD_elim hq10_
    replace fq11_ := m_50_ok fq11_
    obtain rfl := Option.some.inj hq12_
    exact con_pc (op := true) (I := [23, 63, 97]) (sp := chkFigures_sp) 3000 (bT 1 (bF 5 (bT 1 (bF 4 (bT 2 (bF 4 (bT 1 []))))))) [iD r32, iD r33] [c_T, c_n b1_, c_n b1_, c_n b1_, c_n b1_, c_n b3_, c_T, c_n b5_, c_n b5_, c_n b5_, c_n b5_, c_d b7_, c_T, c_n bq1_, c_n bq1_, c_n bq1_, c_n bq1_, c_d bq7_, c_le 3, c_le 2] [k_c fq9_, k_c fq11_] (by kernel_rfl)
  have hq8_ := (if_neg bq7_).symm.trans hq2_
  by_cases bq13_ : ph < (1 : Int)
  · have hq14_ := (if_pos bq13_).symm.trans hq8_
    obtain ⟨r34, fq15_, hq16_⟩ := pullD_elim hq14_
    replace fq15_ := m_64_ok fq15_
    obtain ⟨r35, fq17_, hq18_⟩ := pullD_elim hq16_
    replace fq17_ := m_50_ok fq17_
    obtain rfl := Option.some.inj hq18_
    exact con_pc (op := true) (I := [23, 63, 97]) (sp := chkFigures_sp) 3000 (bT 1 (bF 5 (bT 1 (bF 4 (bT 2 (bF 5 (bT 6 []))))))) [iD r34, iD r35] [c_T, c_n b1_, c_n b1_, c_n b1_, c_n b1_, c_n b3_, c_T, c_n b5_, c_n b5_, c_n b5_, c_n b5_, c_d b7_, c_T, c_n bq1_, c_n bq1_, c_n bq1_, c_n bq1_, c_n bq7_, c_T, c_d bq13_, c_d bq13_, c_d bq13_, c_d bq13_, c_T, c_le 3, c_le 2] [k_c fq15_, k_c fq17_] (by kernel_rfl)
  have hq14_ := (if_neg bq13_).symm.trans hq8_
  by_cases bq19_ : ph > (4196 : Int)
  · have hq20_ := (if_pos bq19_).symm.trans hq14_
    obtain ⟨r36, fq21_, hq22_⟩ := pullD_elim hq20_
    replace fq21_ := m_64_ok fq21_
    obtain ⟨r37, fq23_, hq24_⟩ := pullD_elim hq22_
    replace fq23_ := m_50_ok fq23_
    obtain rfl := Option.some.inj hq24_
    exact con_pc (op := true) (I := [23, 63, 97]) (sp := chkFigures_sp) 3000 (bT 1 (bF 5 (bT 1 (bF 4 (bT 2 (bF 5 (bT 1 (bF 4 (bT 1 []))))))))) [iD r36, iD r37] [c_T, c_n b1_, c_n b1_, c_n b1_, c_n b1_, c_n b3_, c_T, c_n b5_, c_n b5_, c_n b5_, c_n b5_, c_d b7_, c_T, c_n bq1_, c_n bq1_, c_n bq1_, c_n bq1_, c_n bq7_, c_T, c_n bq13_, c_n bq13_, c_n bq13_, c_n bq13_, c_d bq19_, c_le 3, c_le 2] [k_c fq21_, k_c fq23_] (by kernel_rfl)
  have hq20_ := (if_neg bq19_).symm.trans hq14_
  obtain ⟨r38, fq25_, hq26_⟩ := pullD_elim hq20_
  replace fq25_ := m_64_ok fq25_
  obtain ⟨r39, fq27_, hq28_⟩ := pullD_elim hq26_
  replace fq27_ := m_50_ok fq27_
  obtain rfl := Option.some.inj hq28_
  exact con_pc (op := true) (I := [23, 63, 97]) (sp := chkFigures_sp) 3000 (bT 1 (bF 5 (bT 1 (bF 4 (bT 2 (bF 5 (bT 1 (bF 6 [])))))))) [iD r38, iD r39] [c_T, c_n b1_, c_n b1_, c_n b1_, c_n b1_, c_n b3_, c_T, c_n b5_, c_n b5_, c_n b5_, c_n b5_, c_d b7_, c_T, c_n bq1_, c_n bq1_, c_n bq1_, c_n bq1_, c_n bq7_, c_T, c_n bq13_, c_n bq13_, c_n bq13_, c_n bq13_, c_n bq19_, c_F, c_le 3, c_le 2] [k_c fq25_, k_c fq27_] (by kernel_rfl)
theorem chkFigures_M_s4_ok (ga pl ph tl th nl nh ul uh : Int)  (b1_ : ¬ (ga < (0 : Int))) (b3_ : ¬ (ga > (63 : Int))) (b5_ : ¬ (tl < (0 : Int))) (b7_ : ¬ (tl > (63 : Int))) (b9_ : th < (0 : Int)) {r : D} (h : chkFigures_M_s4 ga pl ph tl th nl nh ul uh = some r) : Con 23 [(shNK1_0 ga pl ph tl th nl nh ul uh)] r := by
  unfold chkFigures_M_s4 at h
  by_cases bq1_ : pl < (1 : Int)
  · have hq2_ := (if_pos bq1_).symm.trans h
    obtain ⟨r40, fq3_, hq4_⟩ := pullD_elim hq2_
    replace fq3_ := m_64_ok fq3_
    obtain ⟨r41, fq5_, hq6_⟩ := pullD_elim hq4_
    replace fq5_ := m_50_ok fq5_
    obtain rfl := Option.some.inj hq6_
    exact con_pc (op := true) (I := [23, 63, 97]) (sp := chkFigures_sp) 3000 (bT 1 (bF 5 (bT 1 (bF 5 (bT 12 []))))) [iD r40, iD r41] [c_T, c_n b1_, c_n b1_, c_n b1_, c_n b1_, c_n b3_, c_T, c_n b5_, c_n b5_, c_n b5_, c_n b5_, c_n b7_, c_T, c_d b9_, c_d b9_, c_d b9_, c_d b9_, c_T, c_T, c_d bq1_, c_d bq1_, c_d bq1_, c_d bq1_, c_T, c_le 3, c_le 2] [k_c fq3_, k_c fq5_] (by kernel_rfl)
  have hq2_ := (if_neg bq1_).symm.trans h
  by_cases bq7_ : pl > (4196 : Int)
  · have hq8_ := (if_pos bq7_).symm.trans hq2_
    obtain ⟨r42, fq9_, hq10_⟩ := pullD_elim hq8_
    replace fq9_ := m_64_ok fq9_
    obtain ⟨r43, fq11_, hq12_⟩ := pullD_elim hq10_
    replace fq11_ := m_50_ok fq11_
    obtain rfl := Option.some.inj hq12_
    exact con_pc (op := true) (I := [23, 63, 97]) (sp := chkFigures_sp) 3000 (bT 1 (bF 5 (bT 1 (bF 5 (bT 7 (bF 4 (bT 1 []))))))) [iD r42, iD r43] [c_T, c_n b1_, c_n b1_, c_n b1_, c_n b1_, c_n b3_, c_T, c_n b5_, c_n b5_, c_n b5_, c_n b5_, c_n b7_, c_T, c_d b9_, c_d b9_, c_d b9_, c_d b9_, c_T, c_T, c_n bq1_, c_n bq1_, c_n bq1_, c_n bq1_, c_d bq7_, c_le 3, c_le 2] [k_c fq9_, k_c fq11_] (by kernel_rfl)
  have hq8_ := (if_neg bq7_).symm.trans hq2_
  by_cases bq13_ : ph < (1 : Int)
  · have hq14_ := (if_pos bq13_).symm.trans hq8_
    obtain ⟨r44, fq15_, hq16_⟩ := pullD_elim hq14_
    replace fq15_ := m_64_ok fq15_
    obtain ⟨r45, fq17_, hq18_⟩ := pullD_elim hq16_
    replace fq17_ := m_50_ok fq17_
    obtain rfl := Option.some.inj hq18_
    exact con_pc (op := true) (I := [23, 63, 97]) (sp := chkFigures_sp) 3000 (bT 1 (bF 5 (bT 1 (bF 5 (bT 7 (bF 5 (bT 6 []))))))) [iD r44, iD r45] [c_T, c_n b1_, c_n b1_, c_n b1_, c_n b1_, c_n b3_, c_T, c_n b5_, c_n b5_, c_n b5_, c_n b5_, c_n b7_, c_T, c_d b9_, c_d b9_, c_d b9_, c_d b9_, c_T, c_T, c_n bq1_, c_n bq1_, c_n bq1_, c_n bq1_, c_n bq7_, c_T, c_d bq13_, c_d bq13_, c_d bq13_, c_d bq13_, c_T, c_le 3, c_le 2] [k_c fq15_, k_c fq17_] (by kernel_rfl)
  have hq14_ := (if_neg bq13_).symm.trans hq8_
  by_cases bq19_ : ph > (4196 : Int)
  · have hq20_ := (if_pos bq19_).symm.trans hq14_
    obtain ⟨r46, fq21_, hq22_⟩ := pullD_elim hq20_
    replace fq21_ := m_64_ok fq21_
    obtain ⟨r47, fq23_, hq24_⟩ := pullD_elim hq22_
    replace fq23_ := m_50_ok fq23_
    obtain rfl := Option.some.inj hq24_
    exact con_pc (op := true) (I := [23, 63, 97]) (sp := chkFigures_sp) 3000 (bT 1 (bF 5 (bT 1 (bF 5 (bT 7 (bF 5 (bT 1 (bF 4 (bT 1 []))))))))) [iD r46, iD r47] [c_T, c_n b1_, c_n b1_, c_n b1_, c_n b1_, c_n b3_, c_T, c_n b5_, c_n b5_, c_n b5_, c_n b5_, c_n b7_, c_T, c_d b9_, c_d b9_, c_d b9_, c_d b9_, c_T, c_T, c_n bq1_, c_n bq1_, c_n bq1_, c_n bq1_, c_n bq7_, c_T, c_n bq13_, c_n bq13_, c_n bq13_, c_n bq13_, c_d bq19_, c_le 3, c_le 2] [k_c fq21_, k_c fq23_] (by kernel_rfl)
  have hq20_ := (if_neg bq19_).symm.trans hq14_
  obtain ⟨r48, fq25_, hq26_⟩ := pullD_elim hq20_
  replace fq25_ := m_64_ok fq25_
  obtain ⟨r49, fq27_, hq28_⟩ := pullD_elim hq26_
  replace fq27_ := m_50_ok fq27_
  obtain rfl := Option.some.inj hq28_
  exact con_pc (op := true) (I := [23, 63, 97]) (sp := chkFigures_sp) 3000 (bT 1 (bF 5 (bT 1 (bF 5 (bT 7 (bF 5 (bT 1 (bF 6 [])))))))) [iD r48, iD r49] [c_T, c_n b1_, c_n b1_, c_n b1_, c_n b1_, c_n b3_, c_T, c_n b5_, c_n b5_, c_n b5_, c_n b5_, c_n b7_, c_T, c_d b9_, c_d b9_, c_d b9_, c_d b9_, c_T, c_T, c_n bq1_, c_n bq1_, c_n bq1_, c_n bq1_, c_n bq7_, c_T, c_n bq13_, c_n bq13_, c_n bq13_, c_n bq13_, c_n bq19_, c_F, c_le 3, c_le 2] [k_c fq25_, k_c fq27_] (by kernel_rfl)
theorem chkFigures_M_s5_ok (ga pl ph tl th nl nh ul uh : Int)  (b1_ : ¬ (ga < (0 : Int))) (b3_ : ¬ (ga > (63 : Int))) (b5_ : ¬ (tl < (0 : Int))) (b7_ : ¬ (tl > (63 : Int))) (b9_ : ¬ (th < (0 : Int))) (b11_ : th > (63 : Int)) {r : D} (h : chkFigures_M_s5 ga pl ph tl th nl nh ul uh = some r) : Con 23 [(shNK1_0 ga pl ph tl th nl nh ul uh)] r := by
  unfold chkFigures_M_s5 at h
  by_cases bq1_ : pl < (1 : Int)
  · have hq2_ := (if_pos bq1_).symm.trans h
    obtain ⟨r50, fq3_, hq4_⟩ := pullD_elim hq2_
    replace fq3_ := m_64_ok fq3_
    obtain ⟨r51, fq5_, hq6_⟩ := pullD_elim hq4_
    replace fq5_ := m_50_ok fq5_
    obtain rfl := Option.some.inj hq6_
    exact con_pc (op := true) (I := [23, 63, 97]) (sp := chkFigures_sp) 3000 (bT 1 (bF 5 (bT 1 (bF 5 (bT 1 (bF 4 (bT 7 []))))))) [iD r50, iD r51] [c_T, c_n b1_, c_n b1_, c_n b1_, c_n b1_, c_n b3_, c_T, c_n b5_, c_n b5_, c_n b5_, c_n b5_, c_n b7_, c_T, c_n b9_, c_n b9_, c_n b9_, c_n b9_, c_d b11_, c_T, c_d bq1_, c_d bq1_, c_d bq1_, c_d bq1_, c_T, c_le 3, c_le 2] [k_c fq3_, k_c fq5_] (by kernel_rfl)
  have hq2_ := (if_neg bq1_).symm.trans h
  by_cases bq7_ : pl > (4196 : Int)
  · have hq8_ := (if_pos bq7_).symm.trans hq2_
    obtain ⟨r52, fq9_, hq10_⟩ := pullD_elim hq8_
    replace fq9_ := m_64_ok fq9_
    obtain ⟨r53, fq11_, hq12_⟩ := pullD_elim hq10_
    replace fq11_ := m_50_ok fq11_
    obtain rfl := Option.some.inj hq12_
    exact con_pc (op := true) (I := [23, 63, 97]) (sp := chkFigures_sp) 3000 (bT 1 (bF 5 (bT 1 (bF 5 (bT 1 (bF 4 (bT 2 (bF 4 (bT 1 []))))))))) [iD r52, iD r53] [c_T, c_n b1_, c_n b1_, c_n b1_, c_n b1_, c_n b3_, c_T, c_n b5_, c_n b5_, c_n b5_, c_n b5_, c_n b7_, c_T, c_n b9_, c_n b9_, c_n b9_, c_n b9_, c_d b11_, c_T, c_n bq1_, c_n bq1_, c_n bq1_, c_n bq1_, c_d bq7_, c_le 3, c_le 2] [k_c fq9_, k_c fq11_] (by kernel_rfl)
  have hq8_ := (if_neg bq7_).symm.trans hq2_
  by_cases bq13_ : ph < (1 : Int)
  · have hq14_ := (if_pos bq13_).symm.trans hq8_
    obtain ⟨r54, fq15_, hq16_⟩ := pullD_elim hq14_
    replace fq15_ := m_64_ok fq15_
    obtain ⟨r55, fq17_, hq18_⟩ := pullD_elim hq16_
    replace fq17_ := m_50_ok fq17_
    obtain rfl := Option.some.inj hq18_
    exact con_pc (op := true) (I := [23, 63, 97]) (sp := chkFigures_sp) 3000 (bT 1 (bF 5 (bT 1 (bF 5 (bT 1 (bF 4 (bT 2 (bF 5 (bT 6 []))))))))) [iD r54, iD r55] [c_T, c_n b1_, c_n b1_, c_n b1_, c_n b1_, c_n b3_, c_T, c_n b5_, c_n b5_, c_n b5_, c_n b5_, c_n b7_, c_T, c_n b9_, c_n b9_, c_n b9_, c_n b9_, c_d b11_, c_T, c_n bq1_, c_n bq1_, c_n bq1_, c_n bq1_, c_n bq7_, c_T, c_d bq13_, c_d bq13_, c_d bq13_, c_d bq13_, c_T, c_le 3, c_le 2] [k_c fq15_, k_c fq17_] (by kernel_rfl)
  have hq14_ := (if_neg bq13_).symm.trans hq8_
  by_cases bq19_ : ph > (4196 : Int)
  · have hq20_ := (if_pos bq19_).symm.trans hq14_
    obtain ⟨r56, fq21_, hq22_⟩ := pullD_elim hq20_
    replace fq21_ := m_64_ok fq21_
    obtain ⟨r57, fq23_, hq24_⟩ := pullD_elim hq22_
    replace fq23_ := m_50_ok fq23_
    obtain rfl := Option.some.inj hq24_
    exact con_pc (op := true) (I := [23, 63, 97]) (sp := chkFigures_sp) 3000 (bT 1 (bF 5 (bT 1 (bF 5 (bT 1 (bF 4 (bT 2 (bF 5 (bT 1 (bF 4 (bT 1 []))))))))))) [iD r56, iD r57] [c_T, c_n b1_, c_n b1_, c_n b1_, c_n b1_, c_n b3_, c_T, c_n b5_, c_n b5_, c_n b5_, c_n b5_, c_n b7_, c_T, c_n b9_, c_n b9_, c_n b9_, c_n b9_, c_d b11_, c_T, c_n bq1_, c_n bq1_, c_n bq1_, c_n bq1_, c_n bq7_, c_T, c_n bq13_, c_n bq13_, c_n bq13_, c_n bq13_, c_d bq19_, c_le 3, c_le 2] [k_c fq21_, k_c fq23_] (by kernel_rfl)
  have hq20_ := (if_neg bq19_).symm.trans hq14_
  obtain ⟨r58, fq25_, hq26_⟩ := pullD_elim hq20_
  replace fq25_ := m_64_ok fq25_
  obtain ⟨r59, fq27_, hq28_⟩ := pullD_elim hq26_
  replace fq27_ := m_50_ok fq27_
  obtain rfl := Option.some.inj hq28_
  exact con_pc (op := true) (I := [23, 63, 97]) (sp := chkFigures_sp) 3000 (bT 1 (bF 5 (bT 1 (bF 5 (bT 1 (bF 4 (bT 2 (bF 5 (bT 1 (bF 6 [])))))))))) [iD r58, iD r59] [c_T, c_n b1_, c_n b1_, c_n b1_, c_n b1_, c_n b3_, c_T, c_n b5_, c_n b5_, c_n b5_, c_n b5_, c_n b7_, c_T, c_n b9_, c_n b9_, c_n b9_, c_n b9_, c_d b11_, c_T, c_n bq1_, c_n bq1_, c_n bq1_, c_n bq1_, c_n bq7_, c_T, c_n bq13_, c_n bq13_, c_n bq13_, c_n bq13_, c_n bq19_, c_F, c_le 3, c_le 2] [k_c fq25_, k_c fq27_] (by kernel_rfl)
theorem chkFigures_M_s6_ok (ga pl ph tl th nl nh ul uh : Int)  (b1_ : ¬ (ga < (0 : Int))) (b3_ : ¬ (ga > (63 : Int))) (b5_ : ¬ (tl < (0 : Int))) (b7_ : ¬ (tl > (63 : Int))) (b9_ : ¬ (th < (0 : Int))) (b11_ : ¬ (th > (63 : Int))) (b13_ : nl < (0 : Int)) {r : D} (h : chkFigures_M_s6 ga pl ph tl th nl nh ul uh = some r) : Con 23 [(shNK1_0 ga pl ph tl th nl nh ul uh)] r := by
  unfold chkFigures_M_s6 at h
  by_cases bq1_ : pl < (1 : Int)
  · have hq2_ := (if_pos bq1_).symm.trans h
    obtain ⟨r60, fq3_, hq4_⟩ := pullD_elim hq2_
    replace fq3_ := m_64_ok fq3_
    obtain ⟨r61, fq5_, hq6_⟩ := pullD_elim hq4_
    replace fq5_ := m_50_ok fq5_
    obtain rfl := Option.some.inj hq6_
    exact con_pc (op := true) (I := [23, 63, 97]) (sp := chkFigures_sp) 3000 (bT 1 (bF 5 (bT 1 (bF 5 (bT 1 (bF 5 (bT 12 []))))))) [iD r60, iD r61] [c_T, c_n b1_, c_n b1_, c_n b1_, c_n b1_, c_n b3_, c_T, c_n b5_, c_n b5_, c_n b5_, c_n b5_, c_n b7_, c_T, c_n b9_, c_n b9_, c_n b9_, c_n b9_, c_n b11_, c_T, c_d b13_, c_d b13_, c_d b13_, c_d b13_, c_T, c_T, c_d bq1_, c_d bq1_, c_d bq1_, c_d bq1_, c_T, c_le 3, c_le 2] [k_c fq3_, k_c fq5_] (by kernel_rfl)
  have hq2_ := (if_neg bq1_).symm.trans h
  by_cases bq7_ : pl > (4196 : Int)
  · have hq8_ := (if_pos bq7_).symm.trans hq2_
    obtain ⟨r62, fq9_, hq10_⟩ := pullD_elim hq8_
    replace fq9_ := m_64_ok fq9_
    obtain ⟨r63, fq11_, hq12_⟩ := pullD_elim hq10_
    replace fq11_ := m_50_ok fq11_
    obtain rfl := Option.some.inj hq12_
    exact con_pc (op := true) (I := [23, 63, 97]) (sp := chkFigures_sp) 3000 (bT 1 (bF 5 (bT 1 (bF 5 (bT 1 (bF 5 (bT 7 (bF 4 (bT 1 []))))))))) [iD r62, iD r63] [c_T, c_n b1_, c_n b1_, c_n b1_, c_n b1_, c_n b3_, c_T, c_n b5_, c_n b5_, c_n b5_, c_n b5_, c_n b7_, c_T, c_n b9_, c_n b9_, c_n b9_, c_n b9_, c_n b11_, c_T, c_d b13_, c_d b13_, c_d b13_, c_d b13_, c_T, c_T, c_n bq1_, c_n bq1_, c_n bq1_, c_n bq1_, c_d bq7_, c_le 3, c_le 2] [k_c fq9_, k_c fq11_] (by kernel_rfl)
  have hq8_ := (if_neg bq7_).symm.trans hq2_
  by_cases bq13_ : ph < (1 : Int)
  · have hq14_ := (if_pos bq13_).symm.trans hq8_
    obtain ⟨r64, fq15_, hq16_⟩ := pullD_elim hq14_
    replace fq15_ := m_64_ok fq15_
    obtain ⟨r65, fq17_, hq18_⟩ := pullD_elim hq16_
    replace fq17_ := m_50_ok fq17_
    obtain rfl := Option.some.inj hq18_
    exact con_pc (op := true) (I := [23, 63, 97]) (sp := chkFigures_sp) 3000 (bT 1 (bF 5 (bT 1 (bF 5 (bT 1 (bF 5 (bT 7 (bF 5 (bT 6 []))))))))) [iD r64, iD r65] [c_T, c_n b1_, c_n b1_, c_n b1_, c_n b1_, c_n b3_, c_T, c_n b5_, c_n b5_, c_n b5_, c_n b5_, c_n b7_, c_T, c_n b9_, c_n b9_, c_n b9_, c_n b9_, c_n b11_, c_T, c_d b13_, c_d b13_, c_d b13_, c_d b13_, c_T, c_T, c_n bq1_, c_n bq1_, c_n bq1_, c_n bq1_, c_n bq7_, c_T, c_d bq13_, c_d bq13_, c_d bq13_, c_d bq13_, c_T, c_le 3, c_le 2] [k_c fq15_, k_c fq17_] (by kernel_rfl)
  have hq14_ := (if_neg bq13_).symm.trans hq8_
  by_cases bq19_ : ph > (4196 : Int)
  · have hq20_ := (if_pos bq19_).symm.trans hq14_
    obtain ⟨r66, fq21_, hq22_⟩ := pullD_elim hq20_
    replace fq21_ := m_64_ok fq21_
    obtain ⟨r67, fq23_, hq24_⟩ := pullD_elim hq22_
    replace fq23_ := m_50_ok fq23_
    obtain rfl := Option.some.inj hq24_
    exact con_pc (op := true) (I := [23, 63, 97]) (sp := chkFigures_sp) 3000 (bT 1 (bF 5 (bT 1 (bF 5 (bT 1 (bF 5 (bT 7 (bF 5 (bT 1 (bF 4 (bT 1 []))))))))))) [iD r66, iD r67] [c_T, c_n b1_, c_n b1_, c_n b1_, c_n b1_, c_n b3_, c_T, c_n b5_, c_n b5_, c_n b5_, c_n b5_, c_n b7_, c_T, c_n b9_, c_n b9_, c_n b9_, c_n b9_, c_n b11_, c_T, c_d b13_, c_d b13_, c_d b13_, c_d b13_, c_T, c_T, c_n bq1_, c_n bq1_, c_n bq1_, c_n bq1_, c_n bq7_, c_T, c_n bq13_, c_n bq13_, c_n bq13_, c_n bq13_, c_d bq19_, c_le 3, c_le 2] [k_c fq21_, k_c fq23_] (by kernel_rfl)
  have hq20_ := (if_neg bq19_).symm.trans hq14_
  obtain ⟨r68, fq25_, hq26_⟩ := pullD_elim hq20_
  replace fq25_ := m_64_ok fq25_
  obtain ⟨r69, fq27_, hq28_⟩ := pullD_elim hq26_
  replace fq27_ := m_50_ok fq27_
  obtain rfl := Option.some.inj hq28_
  exact con_pc (op := true) (I := [23, 63, 97]) (sp := chkFigures_sp) 3000 (bT 1 (bF 5 (bT 1 (bF 5 (bT 1 (bF 5 (bT 7 (bF 5 (bT 1 (bF 6 [])))))))))) [iD r68, iD r69] [c_T, c_n b1_, c_n b1_, c_n b1_, c_n b1_, c_n b3_, c_T, c_n b5_, c_n b5_, c_n b5_, c_n b5_, c_n b7_, c_T, c_n b9_, c_n b9_, c_n b9_, c_n b9_, c_n b11_, c_T, c_d b13_, c_d b13_, c_d b13_, c_d b13_, c_T, c_T, c_n bq1_, c_n bq1_, c_n bq1_, c_n bq1_, c_n bq7_, c_T, c_n bq13_, c_n bq13_, c_n bq13_, c_n bq13_, c_n bq19_, c_F, c_le 3, c_le 2] [k_c fq25_, k_c fq27_] (by kernel_rfl)
theorem chkFigures_M_s7_ok (ga pl ph tl th nl nh ul uh : Int)  (b1_ : ¬ (ga < (0 : Int))) (b3_ : ¬ (ga > (63 : Int))) (b5_ : ¬ (tl < (0 : Int))) (b7_ : ¬ (tl > (63 : Int))) (b9_ : ¬ (th < (0 : Int))) (b11_ : ¬ (th > (63 : Int))) (b13_ : ¬ (nl < (0 : Int))) (b15_ : nl > (63 : Int)) {r : D} (h : chkFigures_M_s7 ga pl ph tl th nl nh ul uh = some r) : Con 23 [(shNK1_0 ga pl ph tl th nl nh ul uh)] r := by
  unfold chkFigures_M_s7 at h
  by_cases bq1_ : pl < (1 : Int)
  · have hq2_ := (if_pos bq1_).symm.trans h
    obtain ⟨r70, fq3_, hq4_⟩ := pullD_elim hq2_
    replace fq3_ := m_64_ok fq3_
    obtain ⟨r71, fq5_, hq6_⟩ := pullD_elim hq4_
    replace fq5_ := m_50_ok fq5_
    obtain rfl := Option.some.inj hq6_
    exact con_pc (op := true) (I := [23, 63, 97]) (sp := chkFigures_sp) 3000 (bT 1 (bF 5 (bT 1 (bF 5 (bT 1 (bF 5 (bT 1 (bF 4 (bT 7 []))))))))) [iD r70, iD r71] [c_T, c_n b1_, c_n b1_, c_n b1_, c_n b1_, c_n b3_, c_T, c_n b5_, c_n b5_, c_n b5_, c_n b5_, c_n b7_, c_T, c_n b9_, c_n b9_, c_n b9_, c_n b9_, c_n b11_, c_T, c_n b13_, c_n b13_, c_n b13_, c_n b13_, c_d b15_, c_T, c_d bq1_, c_d bq1_, c_d bq1_, c_d bq1_, c_T, c_le 3, c_le 2] [k_c fq3_, k_c fq5_] (by kernel_rfl)
  have hq2_ := (if_neg bq1_).symm.trans h
  by_cases bq7_ : pl > (4196 : Int)
  · have hq8_ := (if_pos bq7_).symm.trans hq2_
    obtain ⟨r72, fq9_, hq10_⟩ := pullD_elim hq8_
    replace fq9_ := m_64_ok fq9_
    obtain ⟨r73, fq11_, hq12_⟩ := pullD_elim hq10_
    replace fq11_ := m_50_ok fq11_
    obtain rfl := Option.some.inj hq12_
    exact con_pc (op := true) (I := [23, 63, 97]) (sp := chkFigures_sp) 3000 (bT 1 (bF 5 (bT 1 (bF 5 (bT 1 (bF 5 (bT 1 (bF 4 (bT 2 (bF 4 (bT 1 []))))))))))) [iD r72, iD r73] [c_T, c_n b1_, c_n b1_, c_n b1_, c_n b1_, c_n b3_, c_T, c_n b5_, c_n b5_, c_n b5_, c_n b5_, c_n b7_, c_T, c_n b9_, c_n b9_, c_n b9_, c_n b9_, c_n b11_, c_T, c_n b13_, c_n b13_, c_n b13_, c_n b13_, c_d b15_, c_T, c_n bq1_, c_n bq1_, c_n bq1_, c_n bq1_, c_d bq7_, c_le 3, c_le 2] [k_c fq9_, k_c fq11_] (by kernel_rfl)
  have hq8_ := (if_neg bq7_).symm.trans hq2_
  by_cases bq13_ : ph < (1 : Int)
  · have hq14_ := (if_pos bq13_).symm.trans hq8_
    obtain ⟨r74, fq15_, hq16_⟩ := pullD_elim hq14_
    replace fq15_ := m_64_ok fq15_
    obtain ⟨r75, fq17_, hq18_⟩ := pullD_elim hq16_
    replace fq17_ := m_50_ok fq17_
    obtain rfl := Option.some.inj hq18_
    exact con_pc (op := true) (I := [23, 63, 97]) (sp := chkFigures_sp) 3000 (bT 1 (bF 5 (bT 1 (bF 5 (bT 1 (bF 5 (bT 1 (bF 4 (bT 2 (bF 5 (bT 6 []))))))))))) [iD r74, iD r75] [c_T, c_n b1_, c_n b1_, c_n b1_, c_n b1_, c_n b3_, c_T, c_n b5_, c_n b5_, c_n b5_, c_n b5_, c_n b7_, c_T, c_n b9_, c_n b9_, c_n b9_, c_n b9_, c_n b11_, c_T, c_n b13_, c_n b13_, c_n b13_, c_n b13_, c_d b15_, c_T, c_n bq1_, c_n bq1_, c_n bq1_, c_n bq1_, c_n bq7_, c_T, c_d bq13_, c_d bq13_, c_d bq13_, c_d bq13_, c_T, c_le 3, c_le 2] [k_c fq15_, k_c fq17_] (by kernel_rfl)
  have hq14_ := (if_neg bq13_).symm.trans hq8_
  by_cases bq19_ : ph > (4196 : Int)
  · have hq20_ := (if_pos bq19_).symm.trans hq14_
    obtain ⟨r76, fq21_, hq22_⟩ := pullD_elim hq20_
    replace fq21_ := m_64_ok fq21_
    obtain ⟨r77, fq23_, hq24_⟩ := pullD_elim hq22_
    replace fq23_ := m_50_ok fq23_
    obtain rfl := Option.some.inj hq24_
    exact con_pc (op := true) (I := [23, 63, 97]) (sp := chkFigures_sp) 3000 (bT 1 (bF 5 (bT 1 (bF 5 (bT 1 (bF 5 (bT 1 (bF 4 (bT 2 (bF 5 (bT 1 (bF 4 (bT 1 []))))))))))))) [iD r76, iD r77] [c_T, c_n b1_, c_n b1_, c_n b1_, c_n b1_, c_n b3_, c_T, c_n b5_, c_n b5_, c_n b5_, c_n b5_, c_n b7_, c_T, c_n b9_, c_n b9_, c_n b9_, c_n b9_, c_n b11_, c_T, c_n b13_, c_n b13_, c_n b13_, c_n b13_, c_d b15_, c_T, c_n bq1_, c_n bq1_, c_n bq1_, c_n bq1_, c_n bq7_, c_T, c_n bq13_, c_n bq13_, c_n bq13_, c_n bq13_, c_d bq19_, c_le 3, c_le 2] [k_c fq21_, k_c fq23_] (by kernel_rfl)
  have hq20_ := (if_neg bq19_).symm.trans hq14_
  obtain ⟨r78, fq25_, hq26_⟩ := pullD_elim hq20_
  replace fq25_ := m_64_ok fq25_
  obtain ⟨r79, fq27_, hq28_⟩ := pullD_elim hq26_
  replace fq27_ := m_50_ok fq27_
  obtain rfl := Option.some.inj hq28_
  exact con_pc (op := true) (I := [23, 63, 97]) (sp := chkFigures_sp) 3000 (bT 1 (bF 5 (bT 1 (bF 5 (bT 1 (bF 5 (bT 1 (bF 4 (bT 2 (bF 5 (bT 1 (bF 6 [])))))))))))) [iD r78, iD r79] [c_T, c_n b1_, c_n b1_, c_n b1_, c_n b1_, c_n b3_, c_T, c_n b5_, c_n b5_, c_n b5_, c_n b5_, c_n b7_, c_T, c_n b9_, c_n b9_, c_n b9_, c_n b9_, c_n b11_, c_T, c_n b13_, c_n b13_, c_n b13_, c_n b13_, c_d b15_, c_T, c_n bq1_, c_n bq1_, c_n bq1_, c_n bq1_, c_n bq7_, c_T, c_n bq13_, c_n bq13_, c_n bq13_, c_n bq13_, c_n bq19_, c_F, c_le 3, c_le 2] [k_c fq25_, k_c fq27_] (by kernel_rfl)
theorem chkFigures_M_s8_ok (ga pl ph tl th nl nh ul uh : Int)  (b1_ : ¬ (ga < (0 : Int))) (b3_ : ¬ (ga > (63 : Int))) (b5_ : ¬ (tl < (0 : Int))) (b7_ : ¬ (tl > (63 : Int))) (b9_ : ¬ (th < (0 : Int))) (b11_ : ¬ (th > (63 : Int))) (b13_ : ¬ (nl < (0 : Int))) (b15_ : ¬ (nl > (63 : Int))) (b17_ : nh < (0 : Int)) {r : D} (h : chkFigures_M_s8 ga pl ph tl th nl nh ul uh = some r) : Con 23 [(shNK1_0 ga pl ph tl th nl nh ul uh)] r := by
  unfold chkFigures_M_s8 at h
  by_cases bq1_ : pl < (1 : Int)
  · have hq2_ := (if_pos bq1_).symm.trans h
    obtain ⟨r80, fq3_, hq4_⟩ := pullD_elim hq2_
    replace fq3_ := m_64_ok fq3_
    obtain ⟨r81, fq5_, hq6_⟩ := pullD_elim hq4_
    replace fq5_ := m_50_ok fq5_
    obtain rfl := Option.some.inj hq6_
    exact con_pc (op := true) (I := [23, 63, 97]) (sp := chkFigures_sp) 3000 (bT 1 (bF 5 (bT 1 (bF 5 (bT 1 (bF 5 (bT 1 (bF 5 (bT 12 []))))))))) [iD r80, iD r81] [c_T, c_n b1_, c_n b1_, c_n b1_, c_n b1_, c_n b3_, c_T, c_n b5_, c_n b5_, c_n b5_, c_n b5_, c_n b7_, c_T, c_n b9_, c_n b9_, c_n b9_, c_n b9_, c_n b11_, c_T, c_n b13_, c_n b13_, c_n b13_, c_n b13_, c_n b15_, c_T, c_d b17_, c_d b17_, c_d b17_, c_d b17_, c_T, c_T, c_d bq1_, c_d bq1_, c_d bq1_, c_d bq1_, c_T, c_le 3, c_le 2] [k_c fq3_, k_c fq5_] (by kernel_rfl)
  have hq2_ := (if_neg bq1_).symm.trans h
  by_cases bq7_ : pl > (4196 : Int)
  · have hq8_ := (if_pos bq7_).symm.trans hq2_
    obtain ⟨r82, fq9_, hq10_⟩ := pullD_elim hq8_
    replace fq9_ := m_64_ok fq9_
    obtain ⟨r83, fq11_, hq12_⟩ := pullD_elim hq10_
    replace fq11_ := m_50_ok fq11_
    obtain rfl := Option.some.inj hq12_
    exact con_pc (op := true) (I := [23, 63, 97]) (sp := chkFigures_sp) 3000 (bT 1 (bF 5 (bT 1 (bF 5 (bT 1 (bF 5 (bT 1 (bF 5 (bT 7 (bF 4 (bT 1 []))))))))))) [iD r82, iD r83] [c_T, c_n b1_, c_n b1_, c_n b1_, c_n b1_, c_n b3_, c_T, c_n b5_, c_n b5_, c_n b5_, c_n b5_, c_n b7_, c_T, c_n b9_, c_n b9_, c_n b9_, c_n b9_, c_n b11_, c_T, c_n b13_, c_n b13_, c_n b13_, c_n b13_, c_n b15_, c_T, c_d b17_, c_d b17_, c_d b17_, c_d b17_, c_T, c_T, c_n bq1_, c_n bq1_, c_n bq1_, c_n bq1_, c_d bq7_, c_le 3, c_le 2] [k_c fq9_, k_c fq11_] (by kernel_rfl)
  have hq8_ := (if_neg bq7_).symm.trans hq2_
  by_cases bq13_ : ph < (1 : Int)
  · have hq14_ := (if_pos bq13_).symm.trans hq8_
    obtain ⟨r84, fq15_, hq16_⟩ := pullD_elim hq14_
    replace fq15_ := m_64_ok fq15_
    obtain ⟨r85, fq17_, hq18_⟩ := pullD_elim hq16_
    replace fq17_ := m_50_ok fq17_
    obtain rfl := Option.some.inj hq18_
    exact con_pc (op := true) (I := [23, 63, 97]) (sp := chkFigures_sp) 3000 (bT 1 (bF 5 (bT 1 (bF 5 (bT 1 (bF 5 (bT 1 (bF 5 (bT 7 (bF 5 (bT 6 []))))))))))) [iD r84, iD r85] [c_T, c_n b1_, c_n b1_, c_n b1_, c_n b1_, c_n b3_, c_T, c_n b5_, c_n b5_, c_n b5_, c_n b5_, c_n b7_, c_T, c_n b9_, c_n b9_, c_n b9_, c_n b9_, c_n b11_, c_T, c_n b13_, c_n b13_, c_n b13_, c_n b13_, c_n b15_, c_T, c_d b17_, c_d b17_, c_d b17_, c_d b17_, c_T, c_T, c_n bq1_, c_n bq1_, c_n bq1_, c_n bq1_, c_n bq7_, c_T, c_d bq13_, c_d bq13_, c_d bq13_, c_d bq13_, c_T, c_le 3, c_le 2] [k_c fq15_, k_c fq17_] (by kernel_rfl)
  have hq14_ := (if_neg bq13_).symm.trans hq8_
  by_cases bq19_ : ph > (4196 : Int)
  · have hq20_ := (if_pos bq19_).symm.trans hq14_
    obtain ⟨r86, fq21_, hq22_⟩ := pullD_elim hq20_
    replace fq21_ := m_64_ok fq21_
    obtain ⟨r87, fq23_, hq24_⟩ := pullD_elim hq22_
    replace fq23_ := m_50_ok fq23_
    obtain rfl := Option.some.inj hq24_
    exact con_pc (op := true) (I := [23, 63, 97]) (sp := chkFigures_sp) 3000 (bT 1 (bF 5 (bT 1 (bF 5 (bT 1 (bF 5 (bT 1 (bF 5 (bT 7 (bF 5 (bT 1 (bF 4 (bT 1 []))))))))))))) [iD r86, iD r87] [c_T, c_n b1_, c_n b1_, c_n b1_, c_n b1_, c_n b3_, c_T, c_n b5_, c_n b5_, c_n b5_, c_n b5_, c_n b7_, c_T, c_n b9_, c_n b9_, c_n b9_, c_n b9_, c_n b11_, c_T, c_n b13_, c_n b13_, c_n b13_, c_n b13_, c_n b15_, c_T, c_d b17_, c_d b17_, c_d b17_, c_d b17_, c_T, c_T, c_n bq1_, c_n bq1_, c_n bq1_, c_n bq1_, c_n bq7_, c_T, c_n bq13_, c_n bq13_, c_n bq13_, c_n bq13_, c_d bq19_, c_le 3, c_le 2] [k_c fq21_, k_c fq23_] (by kernel_rfl)
  have hq20_ := (if_neg bq19_).symm.trans hq14_
  obtain ⟨r88, fq25_, hq26_⟩ := pullD_elim hq20_
  replace fq25_ := m_64_ok fq25_
  obtain ⟨r89, fq27_, hq28_⟩ := pullD_elim hq26_
  replace fq27_ := m_50_ok fq27_
  obtain rfl := Option.some.inj hq28_
  exact con_pc (op := true) (I := [23, 63, 97]) (sp := chkFigures_sp) 3000 (bT 1 (bF 5 (bT 1 (bF 5 (bT 1 (bF 5 (bT 1 (bF 5 (bT 7 (bF 5 (bT 1 (bF 6 [])))))))))))) [iD r88, iD r89] [c_T, c_n b1_, c_n b1_, c_n b1_, c_n b1_, c_n b3_, c_T, c_n b5_, c_n b5_, c_n b5_, c_n b5_, c_n b7_, c_T, c_n b9_, c_n b9_, c_n b9_, c_n b9_, c_n b11_, c_T, c_n b13_, c_n b13_, c_n b13_, c_n b13_, c_n b15_, c_T, c_d b17_, c_d b17_, c_d b17_, c_d b17_, c_T, c_T, c_n bq1_, c_n bq1_, c_n bq1_, c_n bq1_, c_n bq7_, c_T, c_n bq13_, c_n bq13_, c_n bq13_, c_n bq13_, c_n bq19_, c_F, c_le 3, c_le 2] [k_c fq25_, k_c fq27_] (by kernel_rfl)
theorem chkFigures_M_s9_ok (ga pl ph tl th nl nh ul uh : Int)  (b1_ : ¬ (ga < (0 : Int))) (b3_ : ¬ (ga > (63 : Int))) (b5_ : ¬ (tl < (0 : Int))) (b7_ : ¬ (tl > (63 : Int))) (b9_ : ¬ (th < (0 : Int))) (b11_ : ¬ (th > (63 : Int))) (b13_ : ¬ (nl < (0 : Int))) (b15_ : ¬ (nl > (63 : Int))) (b17_ : ¬ (nh < (0 : Int))) (b19_ : nh > (63 : Int)) {r : D} (h : chkFigures_M_s9 ga pl ph tl th nl nh ul uh = some r) : Con 23 [(shNK1_0 ga pl ph tl th nl nh ul uh)] r := by
  unfold chkFigures_M_s9 at h
  by_cases bq1_ : pl < (1 : Int)
  · have hq2_ := (if_pos bq1_).symm.trans h
    obtain ⟨r90, fq3_, hq4_⟩ := pullD_elim hq2_
    replace fq3_ := m_64_ok fq3_
    obtain ⟨r91, fq5_, hq6_⟩ := pullD_elim hq4_
    replace fq5_ := m_50_ok fq5_
    obtain rfl := Option.some.inj hq6_
    exact con_pc (op := true) (I := [23, 63, 97]) (sp := chkFigures_sp) 3000 (bT 1 (bF 5 (bT 1 (bF 5 (bT 1 (bF 5 (bT 1 (bF 5 (bT 1 (bF 4 (bT 7 []))))))))))) [iD r90, iD r91] [c_T, c_n b1_, c_n b1_, c_n b1_, c_n b1_, c_n b3_, c_T, c_n b5_, c_n b5_, c_n b5_, c_n b5_, c_n b7_, c_T, c_n b9_, c_n b9_, c_n b9_, c_n b9_, c_n b11_, c_T, c_n b13_, c_n b13_, c_n b13_, c_n b13_, c_n b15_, c_T, c_n b17_, c_n b17_, c_n b17_, c_n b17_, c_d b19_, c_T, c_d bq1_, c_d bq1_, c_d bq1_, c_d bq1_, c_T, c_le 3, c_le 2] [k_c fq3_, k_c fq5_] (by kernel_rfl)
  have hq2_ := (if_neg bq1_).symm.trans h
  by_cases bq7_ : pl > (4196 : Int)
  · have hq8_ := (if_pos bq7_).symm.trans hq2_
    obtain ⟨r92, fq9_, hq10_⟩ := pullD_elim hq8_
    replace fq9_ := m_64_ok fq9_
    obtain ⟨r93, fq11_, hq12_⟩ := pullD_elim hq10_
    replace fq11_ := m_50_ok fq11_
    obtain rfl := Option.some.inj hq12_
    exact con_pc (op := true) (I := [23, 63, 97]) (sp := chkFigures_sp) 3000 (bT 1 (bF 5 (bT 1 (bF 5 (bT 1 (bF 5 (bT 1 (bF 5 (bT 1 (bF 4 (bT 2 (bF 4 (bT 1 []))))))))))))) [iD r92, iD r93] [c_T, c_n b1_, c_n b1_, c_n b1_, c_n b1_, c_n b3_, c_T, c_n b5_, c_n b5_, c_n b5_, c_n b5_, c_n b7_, c_T, c_n b9_, c_n b9_, c_n b9_, c_n b9_, c_n b11_, c_T, c_n b13_, c_n b13_, c_n b13_, c_n b13_, c_n b15_, c_T, c_n b17_, c_n b17_, c_n b17_, c_n b17_, c_d b19_, c_T, c_n bq1_, c_n bq1_, c_n bq1_, c_n bq1_, c_d bq7_, c_le 3, c_le 2] [k_c fq9_, k_c fq11_] (by kernel_rfl)
  have hq8_ := (if_neg bq7_).symm.trans hq2_
  by_cases bq13_ : ph < (1 : Int)
  · have hq14_ := (if_pos bq13_).symm.trans hq8_
    obtain ⟨r94, fq15_, hq16_⟩ := pullD_elim hq14_
    replace fq15_ := m_64_ok fq15_
    obtain ⟨r95, fq17_, hq18_⟩ := pullD_elim hq16_
    replace fq17_ := m_50_ok fq17_
    obtain rfl := Option.some.inj hq18_
    exact con_pc (op := true) (I := [23, 63, 97]) (sp := chkFigures_sp) 3000 (bT 1 (bF 5 (bT 1 (bF 5 (bT 1 (bF 5 (bT 1 (bF 5 (bT 1 (bF 4 (bT 2 (bF 5 (bT 6 []))))))))))))) [iD r94, iD r95] [c_T, c_n b1_, c_n b1_, c_n b1_, c_n b1_, c_n b3_, c_T, c_n b5_, c_n b5_, c_n b5_, c_n b5_, c_n b7_, c_T, c_n b9_, c_n b9_, c_n b9_, c_n b9_, c_n b11_, c_T, c_n b13_, c_n b13_, c_n b13_, c_n b13_, c_n b15_, c_T, c_n b17_, c_n b17_, c_n b17_, c_n b17_, c_d b19_, c_T, c_n bq1_, c_n bq1_, c_n bq1_, c_n bq1_, c_n bq7_, c_T, c_d bq13_, c_d bq13_, c_d bq13_, c_d bq13_, c_T, c_le 3, c_le 2] [k_c fq15_, k_c fq17_] (by kernel_rfl)
  have hq14_ := (if_neg bq13_).symm.trans hq8_
  by_cases bq19_ : ph > (4196 : Int)
  · have hq20_ := (if_pos bq19_).symm.trans hq14_
    obtain ⟨r96, fq21_, hq22_⟩ := pullD_elim hq20_
    replace fq21_ := m_64_ok fq21_
    obtain ⟨r97, fq23_, hq24_⟩ := pullD_elim hq22_
    replace fq23_ := m_50_ok fq23_
    obtain rfl := Option.some.inj hq24_
    exact con_pc (op := true) (I := [23, 63, 97]) (sp := chkFigures_sp) 3000 (bT 1 (bF 5 (bT 1 (bF 5 (bT 1 (bF 5 (bT 1 (bF 5 (bT 1 (bF 4 (bT 2 (bF 5 (bT 1 (bF 4 (bT 1 []))))))))))))))) [iD r96, iD r97] [c_T, c_n b1_, c_n b1_, c_n b1_, c_n b1_, c_n b3_, c_T, c_n b5_, c_n b5_, c_n b5_, c_n b5_, c_n b7_, c_T, c_n b9_, c_n b9_, c_n b9_, c_n b9_, c_n b11_, c_T, c_n b13_, c_n b13_, c_n b13_, c_n b13_, c_n b15_, c_T, c_n b17_, c_n b17_, c_n b17_, c_n b17_, c_d b19_, c_T, c_n bq1_, c_n bq1_, c_n bq1_, c_n bq1_, c_n bq7_, c_T, c_n bq13_, c_n bq13_, c_n bq13_, c_n bq13_, c_d bq19_, c_le 3, c_le 2] [k_c fq21_, k_c fq23_] (by kernel_rfl)
  have hq20_ := (if_neg bq19_).symm.trans hq14_
  obtain ⟨r98, fq25_, hq26_⟩ := pullD_elim hq20_
  replace fq25_ := m_64_ok fq25_
  obtain ⟨r99, fq27_, hq28_⟩ := pullD_elim hq26_
  replace fq27_ := m_50_ok fq27_
  obtain rfl := Option.some.inj hq28_
  exact con_pc (op := true) (I := [23, 63, 97]) (sp := chkFigures_sp) 3000 (bT 1 (bF 5 (bT 1 (bF 5 (bT 1 (bF 5 (bT 1 (bF 5 (bT 1 (bF 4 (bT 2 (bF 5 (bT 1 (bF 6 [])))))))))))))) [iD r98, iD r99] [c_T, c_n b1_, c_n b1_, c_n b1_, c_n b1_, c_n b3_, c_T, c_n b5_, c_n b5_, c_n b5_, c_n b5_, c_n b7_, c_T, c_n b9_, c_n b9_, c_n b9_, c_n b9_, c_n b11_, c_T, c_n b13_, c_n b13_, c_n b13_, c_n b13_, c_n b15_, c_T, c_n b17_, c_n b17_, c_n b17_, c_n b17_, c_d b19_, c_T, c_n bq1_, c_n bq1_, c_n bq1_, c_n bq1_, c_n bq7_, c_T, c_n bq13_, c_n bq13_, c_n bq13_, c_n bq13_, c_n bq19_, c_F, c_le 3, c_le 2] [k_c fq25_, k_c fq27_] (by kernel_rfl)
theorem chkFigures_M_s10_ok (ga pl ph tl th nl nh ul uh : Int)  (b1_ : ¬ (ga < (0 : Int))) (b3_ : ¬ (ga > (63 : Int))) (b5_ : ¬ (tl < (0 : Int))) (b7_ : ¬ (tl > (63 : Int))) (b9_ : ¬ (th < (0 : Int))) (b11_ : ¬ (th > (63 : Int))) (b13_ : ¬ (nl < (0 : Int))) (b15_ : ¬ (nl > (63 : Int))) (b17_ : ¬ (nh < (0 : Int))) (b19_ : ¬ (nh > (63 : Int))) (b21_ : ul < (0 : Int)) {r : D} (h : chkFigures_M_s10 ga pl ph tl th nl nh ul uh = some r) : Con 23 [(shNK1_0 ga pl ph tl th nl nh ul uh)] r := by
  unfold chkFigures_M_s10 at h
  by_cases bq1_ : pl < (1 : Int)
  · have hq2_ := (if_pos bq1_).symm.trans h
    obtain ⟨r100, fq3_, hq4_⟩ := pullD_elim hq2_
    replace fq3_ := m_64_ok fq3_
    obtain ⟨r101, fq5_, hq6_⟩ := pullD_elim hq4_
    replace fq5_ := m_50_ok fq5_
    obtain rfl := Option.some.inj hq6_
    exact con_pc (op := true) (I := [23, 63, 97]) (sp := chkFigures_sp) 3000 (bT 1 (bF 5 (bT 1 (bF 5 (bT 1 (bF 5 (bT 1 (bF 5 (bT 1 (bF 5 (bT 12 []))))))))))) [iD r100, iD r101] [c_T, c_n b1_, c_n b1_, c_n b1_, c_n b1_, c_n b3_, c_T, c_n b5_, c_n b5_, c_n b5_, c_n b5_, c_n b7_, c_T, c_n b9_, c_n b9_, c_n b9_, c_n b9_, c_n b11_, c_T, c_n b13_, c_n b13_, c_n b13_, c_n b13_, c_n b15_, c_T, c_n b17_, c_n b17_, c_n b17_, c_n b17_, c_n b19_, c_T, c_d b21_, c_d b21_, c_d b21_, c_d b21_, c_T, c_T, c_d bq1_, c_d bq1_, c_d bq1_, c_d bq1_, c_T, c_le 3, c_le 2] [k_c fq3_, k_c fq5_] (by kernel_rfl)
  have hq2_ := (if_neg bq1_).symm.trans h
  by_cases bq7_ : pl > (4196 : Int)
  · have hq8_ := (if_pos bq7_).symm.trans hq2_
    obtain ⟨r102, fq9_, hq10_⟩ := pullD_elim hq8_
    replace fq9_ := m_64_ok fq9_
    obtain ⟨r103, fq11_, hq12_⟩ := pullD_elim hq10_
    replace fq11_ := m_50_ok fq11_
    obtain rfl := Option.some.inj hq12_
    exact con_pc (op := true) (I := [23, 63, 97]) (sp := chkFigures_sp) 3000 (bT 1 (bF 5 (bT 1 (bF 5 (bT 1 (bF 5 (bT 1 (bF 5 (bT 1 (bF 5 (bT 7 (bF 4 (bT 1 []))))))))))))) [iD r102, iD r103] [c_T, c_n b1_, c_n b1_, c_n b1_, c_n b1_, c_n b3_, c_T, c_n b5_, c_n b5_, c_n b5_, c_n b5_, c_n b7_, c_T, c_n b9_, c_n b9_, c_n b9_, c_n b9_, c_n b11_, c_T, c_n b13_, c_n b13_, c_n b13_, c_n b13_, c_n b15_, c_T, c_n b17_, c_n b17_, c_n b17_, c_n b17_, c_n b19_, c_T, c_d b21_, c_d b21_, c_d b21_, c_d b21_, c_T, c_T, c_n bq1_, c_n bq1_, c_n bq1_, c_n bq1_, c_d bq7_, c_le 3, c_le 2] [k_c fq9_, k_c fq11_] (by kernel_rfl)
  have hq8_ := (if_neg bq7_).symm.trans hq2_
  by_cases bq13_ : ph < (1 : Int)
  · have hq14_ := (if_pos bq13_).symm.trans hq8_
    obtain ⟨r104, fq15_, hq16_⟩ := pullD_elim hq14_
    replace fq15_ := m_64_ok fq15_
    obtain ⟨r105, fq17_, hq18_⟩ := pullD_elim hq16_
    replace fq17_ := m_50_ok fq17_
    obtain rfl := Option.some.inj hq18_
    exact con_pc (op := true) (I := [23, 63, 97]) (sp := chkFigures_sp) 3000 (bT 1 (bF 5 (bT 1 (bF 5 (bT 1 (bF 5 (bT 1 (bF 5 (bT 1 (bF 5 (bT 7 (bF 5 (bT 6 []))))))))))))) [iD r104, iD r105] [c_T, c_n b1_, c_n b1_, c_n b1_, c_n b1_, c_n b3_, c_T, c_n b5_, c_n b5_, c_n b5_, c_n b5_, c_n b7_, c_T, c_n b9_, c_n b9_, c_n b9_, c_n b9_, c_n b11_, c_T, c_n b13_, c_n b13_, c_n b13_, c_n b13_, c_n b15_, c_T, c_n b17_, c_n b17_, c_n b17_, c_n b17_, c_n b19_, c_T, c_d b21_, c_d b21_, c_d b21_, c_d b21_, c_T, c_T, c_n bq1_, c_n bq1_, c_n bq1_, c_n bq1_, c_n bq7_, c_T, c_d bq13_, c_d bq13_, c_d bq13_, c_d bq13_, c_T, c_le 3, c_le 2] [k_c fq15_, k_c fq17_] (by kernel_rfl)
  have hq14_ := (if_neg bq13_).symm.trans hq8_
  by_cases bq19_ : ph > (4196 : Int)
  · have hq20_ := (if_pos bq19_).symm.trans hq14_
    obtain ⟨r106, fq21_, hq22_⟩ := pullD_elim hq20_
    replace fq21_ := m_64_ok fq21_
    obtain ⟨r107, fq23_, hq24_⟩ := pullD_elim hq22_
    replace fq23_ := m_50_ok fq23_
    obtain rfl := Option.some.inj hq24_
    exact con_pc (op := true) (I := [23, 63, 97]) (sp := chkFigures_sp) 3000 (bT 1 (bF 5 (bT 1 (bF 5 (bT 1 (bF 5 (bT 1 (bF 5 (bT 1 (bF 5 (bT 7 (bF 5 (bT 1 (bF 4 (bT 1 []))))))))))))))) [iD r106, iD r107] [c_T, c_n b1_, c_n b1_, c_n b1_, c_n b1_, c_n b3_, c_T, c_n b5_, c_n b5_, c_n b5_, c_n b5_, c_n b7_, c_T, c_n b9_, c_n b9_, c_n b9_, c_n b9_, c_n b11_, c_T, c_n b13_, c_n b13_, c_n b13_, c_n b13_, c_n b15_, c_T, c_n b17_, c_n b17_, c_n b17_, c_n b17_, c_n b19_, c_T, c_d b21_, c_d b21_, c_d b21_, c_d b21_, c_T, c_T, c_n bq1_, c_n bq1_, c_n bq1_, c_n bq1_, c_n bq7_, c_T, c_n bq13_, c_n bq13_, c_n bq13_, c_n bq13_, c_d bq19_, c_le 3, c_le 2] [k_c fq21_, k_c fq23_] (by kernel_rfl)
  have hq20_ := (if_neg bq19_).symm.trans hq14_
  obtain ⟨r108, fq25_, hq26_⟩ := pullD_elim hq20_
  replace fq25_ := m_64_ok fq25_
  obtain ⟨r109, fq27_, hq28_⟩ := pullD_elim hq26_
  replace fq27_ := m_50_ok fq27_
  obtain rfl := Option.some.inj hq28_
  exact con_pc (op := true) (I := [23, 63, 97]) (sp := chkFigures_sp) 3000 (bT 1 (bF 5 (bT 1 (bF 5 (bT 1 (bF 5 (bT 1 (bF 5 (bT 1 (bF 5 (bT 7 (bF 5 (bT 1 (bF 6 [])))))))))))))) [iD r108, iD r109] [c_T, c_n b1_, c_n b1_, c_n b1_, c_n b1_, c_n b3_, c_T, c_n b5_, c_n b5_, c_n b5_, c_n b5_, c_n b7_, c_T, c_n b9_, c_n b9_, c_n b9_, c_n b9_, c_n b11_, c_T, c_n b13_, c_n b13_, c_n b13_, c_n b13_, c_n b15_, c_T, c_n b17_, c_n b17_, c_n b17_, c_n b17_, c_n b19_, c_T, c_d b21_, c_d b21_, c_d b21_, c_d b21_, c_T, c_T, c_n bq1_, c_n bq1_, c_n bq1_, c_n bq1_, c_n bq7_, c_T, c_n bq13_, c_n bq13_, c_n bq13_, c_n bq13_, c_n bq19_, c_F, c_le 3, c_le 2] [k_c fq25_, k_c fq27_] (by kernel_rfl)
theorem chkFigures_M_s11_ok (ga pl ph tl th nl nh ul uh : Int)  (b1_ : ¬ (ga < (0 : Int))) (b3_ : ¬ (ga > (63 : Int))) (b5_ : ¬ (tl < (0 : Int))) (b7_ : ¬ (tl > (63 : Int))) (b9_ : ¬ (th < (0 : Int))) (b11_ : ¬ (th > (63 : Int))) (b13_ : ¬ (nl < (0 : Int))) (b15_ : ¬ (nl > (63 : Int))) (b17_ : ¬ (nh < (0 : Int))) (b19_ : ¬ (nh > (63 : Int))) (b21_ : ¬ (ul < (0 : Int))) {r : D} (h : chkFigures_M_s11 ga pl ph tl th nl nh ul uh = some r) : Con 23 [(shNK1_0 ga pl ph tl th nl nh ul uh)] r := by
  unfold chkFigures_M_s11 at h
  by_cases bq1_ : ul > (63 : Int)
  · have hq2_ := (if_pos bq1_).symm.trans h
    by_cases bq3_ : pl < (1 : Int)
    · have hq4_ := (if_pos bq3_).symm.trans hq2_
      obtain ⟨r110, fq5_, hq6_⟩ := pullD_elim hq4_
      replace fq5_ := m_64_ok fq5_
      obtain ⟨r111, fq7_, hq8_⟩ := pullD_elim hq6_
      replace fq7_ := m_50_ok fq7_
      obtain rfl := Option.some.inj hq8_
      exact con_pc (op := true) (I := [23, 63, 97]) (sp := chkFigures_sp) 3000 (bT 1 (bF 5 (bT 1 (bF 5 (bT 1 (bF 5 (bT 1 (bF 5 (bT 1 (bF 5 (bT 1 (bF 4 (bT 7 []))))))))))))) [iD r110, iD r111] [c_T, c_n b1_, c_n b1_, c_n b1_, c_n b1_, c_n b3_, c_T, c_n b5_, c_n b5_, c_n b5_, c_n b5_, c_n b7_, c_T, c_n b9_, c_n b9_, c_n b9_, c_n b9_, c_n b11_, c_T, c_n b13_, c_n b13_, c_n b13_, c_n b13_, c_n b15_, c_T, c_n b17_, c_n b17_, c_n b17_, c_n b17_, c_n b19_, c_T, c_n b21_, c_n b21_, c_n b21_, c_n b21_, c_d bq1_, c_T, c_d bq3_, c_d bq3_, c_d bq3_, c_d bq3_, c_T, c_le 3, c_le 2] [k_c fq5_, k_c fq7_] (by kernel_rfl)
    have hq4_ := (if_neg bq3_).symm.trans hq2_
    by_cases bq9_ : pl > (4196 : Int)
    · have hq10_ := (if_pos bq9_).symm.trans hq4_
      obtain ⟨r112, fq11_, hq12_⟩ := pullD_elim hq10_
      replace fq11_ := m_64_ok fq11_
      obtain ⟨r113, fq13_, hq14_⟩ := pullD_elim hq12_
      replace fq13_ := m_50_ok fq13_
      obtain rfl := Option.some.inj hq14_
      exact con_pc (op := true) (I := [23, 63, 97]) (sp := chkFigures_sp) 3000 (bT 1 (bF 5 (bT 1 (bF 5 (bT 1 (bF 5 (bT 1 (bF 5 (bT 1 (bF 5 (bT 1 (bF 4 (bT 2 (bF 4 (bT 1 []))))))))))))))) [iD r112, iD r113] [c_T, c_n b1_, c_n b1_, c_n b1_, c_n b1_, c_n b3_, c_T, c_n b5_, c_n b5_, c_n b5_, c_n b5_, c_n b7_, c_T, c_n b9_, c_n b9_, c_n b9_, c_n b9_, c_n b11_, c_T, c_n b13_, c_n b13_, c_n b13_, c_n b13_, c_n b15_, c_T, c_n b17_, c_n b17_, c_n b17_, c_n b17_, c_n b19_, c_T, c_n b21_, c_n b21_, c_n b21_, c_n b21_, c_d bq1_, c_T, c_n bq3_, c_n bq3_, c_n bq3_, c_n bq3_, c_d bq9_, c_le 3, c_le 2] [k_c fq11_, k_c fq13_] (by kernel_rfl)
    have hq10_ := (if_neg bq9_).symm.trans hq4_
    by_cases bq15_ : ph < (1 : Int)
    · have hq16_ := (if_pos bq15_).symm.trans hq10_
      obtain ⟨r114, fq17_, hq18_⟩ := pullD_elim hq16_
      replace fq17_ := m_64_ok fq17_
      obtain ⟨r115, fq19_, hq20_⟩ := pullD_elim hq18_
      replace fq19_ := m_50_ok fq19_
      obtain rfl := Option.some.inj hq20_
      exact con_pc (op := true) (I := [23, 63, 97]) (sp := chkFigures_sp) 3000 (bT 1 (bF 5 (bT 1 (bF 5 (bT 1 (bF 5 (bT 1 (bF 5 (bT 1 (bF 5 (bT 1 (bF 4 (bT 2 (bF 5 (bT 6 []))))))))))))))) [iD r114, iD r115] [c_T, c_n b1_, c_n b1_, c_n b1_, c_n b1_, c_n b3_, c_T, c_n b5_, c_n b5_, c_n b5_, c_n b5_, c_n b7_, c_T, c_n b9_, c_n b9_, c_n b9_, c_n b9_, c_n b11_, c_T, c_n b13_, c_n b13_, c_n b13_, c_n b13_, c_n b15_, c_T, c_n b17_, c_n b17_, c_n b17_, c_n b17_, c_n b19_, c_T, c_n b21_, c_n b21_, c_n b21_, c_n b21_, c_d bq1_, c_T, c_n bq3_, c_n bq3_, c_n bq3_, c_n bq3_, c_n bq9_, c_T, c_d bq15_, c_d bq15_, c_d bq15_, c_d bq15_, c_T, c_le 3, c_le 2] [k_c fq17_, k_c fq19_] (by kernel_rfl)
    have hq16_ := (if_neg bq15_).symm.trans hq10_
    by_cases bq21_ : ph > (4196 : Int)
    · have hq22_ := (if_pos bq21_).symm.trans hq16_
      obtain ⟨r116, fq23_, hq24_⟩ := pullD_elim hq22_
      replace fq23_ := m_64_ok fq23_
      obtain ⟨r117, fq25_, hq26_⟩ := pullD_elim hq24_
      replace fq25_ := m_50_ok fq25_
      obtain rfl := Option.some.inj hq26_
      exact con_pc (op := true) (I := [23, 63, 97]) (sp := chkFigures_sp) 3000 (bT 1 (bF 5 (bT 1 (bF 5 (bT 1 (bF 5 (bT 1 (bF 5 (bT 1 (bF 5 (bT 1 (bF 4 (bT 2 (bF 5 (bT 1 (bF 4 (bT 1 []))))))))))))))))) [iD r116, iD r117] [c_T, c_n b1_, c_n b1_, c_n b1_, c_n b1_, c_n b3_, c_T, c_n b5_, c_n b5_, c_n b5_, c_n b5_, c_n b7_, c_T, c_n b9_, c_n b9_, c_n b9_, c_n b9_, c_n b11_, c_T, c_n b13_, c_n b13_, c_n b13_, c_n b13_, c_n b15_, c_T, c_n b17_, c_n b17_, c_n b17_, c_n b17_, c_n b19_, c_T, c_n b21_, c_n b21_, c_n b21_, c_n b21_, c_d bq1_, c_T, c_n bq3_, c_n bq3_, c_n bq3_, c_n bq3_, c_n bq9_, c_T, c_n bq15_, c_n bq15_, c_n bq15_, c_n bq15_, c_d bq21_, c_le 3, c_le 2] [k_c fq23_, k_c fq25_] (by kernel_rfl)
    have hq22_ := (if_neg bq21_).symm.trans hq16_
    obtain ⟨r118, fq27_, hq28_⟩ := pullD_elim hq22_
    replace fq27_ := m_64_ok fq27_
    obtain ⟨r119, fq29_, hq30_⟩ := pullD_elim hq28_
    replace fq29_ := m_50_ok fq29_
    obtain rfl := Option.some.inj hq30_
    exact con_pc (op := true) (I := [23, 63, 97]) (sp := chkFigures_sp) 3000 (bT 1 (bF 5 (bT 1 (bF 5 (bT 1 (bF 5 (bT 1 (bF 5 (bT 1 (bF 5 (bT 1 (bF 4 (bT 2 (bF 5 (bT 1 (bF 6 [])))))))))))))))) [iD r118, iD r119] [c_T, c_n b1_, c_n b1_, c_n b1_, c_n b1_, c_n b3_, c_T, c_n b5_, c_n b5_, c_n b5_, c_n b5_, c_n b7_, c_T, c_n b9_, c_n b9_, c_n b9_, c_n b9_, c_n b11_, c_T, c_n b13_, c_n b13_, c_n b13_, c_n b13_, c_n b15_, c_T, c_n b17_, c_n b17_, c_n b17_, c_n b17_, c_n b19_, c_T, c_n b21_, c_n b21_, c_n b21_, c_n b21_, c_d bq1_, c_T, c_n bq3_, c_n bq3_, c_n bq3_, c_n bq3_, c_n bq9_, c_T, c_n bq15_, c_n bq15_, c_n bq15_, c_n bq15_, c_n bq21_, c_F, c_le 3, c_le 2] [k_c fq27_, k_c fq29_] (by kernel_rfl)
  have hq2_ := (if_neg bq1_).symm.trans h
  by_cases bq31_ : uh < (0 : Int)
  · have hq32_ := (if_pos bq31_).symm.trans hq2_
    by_cases bq33_ : pl < (1 : Int)
    · have hq34_ := (if_pos bq33_).symm.trans hq32_
      obtain ⟨r120, fq35_, hq36_⟩ := pullD_elim hq34_
      replace fq35_ := m_64_ok fq35_
      obtain ⟨r121, fq37_, hq38_⟩ := pullD_elim hq36_
      replace fq37_ := m_50_ok fq37_
      obtain rfl := Option.some.inj hq38_
      exact con_pc (op := true) (I := [23, 63, 97]) (sp := chkFigures_sp) 3000 (bT 1 (bF 5 (bT 1 (bF 5 (bT 1 (bF 5 (bT 1 (bF 5 (bT 1 (bF 5 (bT 1 (bF 5 (bT 12 []))))))))))))) [iD r120, iD r121] [c_T, c_n b1_, c_n b1_, c_n b1_, c_n b1_, c_n b3_, c_T, c_n b5_, c_n b5_, c_n b5_, c_n b5_, c_n b7_, c_T, c_n b9_, c_n b9_, c_n b9_, c_n b9_, c_n b11_, c_T, c_n b13_, c_n b13_, c_n b13_, c_n b13_, c_n b15_, c_T, c_n b17_, c_n b17_, c_n b17_, c_n b17_, c_n b19_, c_T, c_n b21_, c_n b21_, c_n b21_, c_n b21_, c_n bq1_, c_T, c_d bq31_, c_d bq31_, c_d bq31_, c_d bq31_, c_T, c_T, c_d bq33_, c_d bq33_, c_d bq33_, c_d bq33_, c_T, c_le 3, c_le 2] [k_c fq35_, k_c fq37_] (by kernel_rfl)
    have hq34_ := (if_neg bq33_).symm.trans hq32_
    by_cases bq39_ : pl > (4196 : Int)
    · have hq40_ := (if_pos bq39_).symm.trans hq34_
      obtain ⟨r122, fq41_, hq42_⟩ := pullD_elim hq40_
      replace fq41_ := m_64_ok fq41_
      obtain ⟨r123, fq43_, hq44_⟩ := pullD_elim hq42_
      replace fq43_ := m_50_ok fq43_
      obtain rfl := Option.some.inj hq44_
      exact con_pc (op := true) (I := [23, 63, 97]) (sp := chkFigures_sp) 3000 (bT 1 (bF 5 (bT 1 (bF 5 (bT 1 (bF 5 (bT 1 (bF 5 (bT 1 (bF 5 (bT 1 (bF 5 (bT 7 (bF 4 (bT 1 []))))))))))))))) [iD r122, iD r123] [c_T, c_n b1_, c_n b1_, c_n b1_, c_n b1_, c_n b3_, c_T, c_n b5_, c_n b5_, c_n b5_, c_n b5_, c_n b7_, c_T, c_n b9_, c_n b9_, c_n b9_, c_n b9_, c_n b11_, c_T, c_n b13_, c_n b13_, c_n b13_, c_n b13_, c_n b15_, c_T, c_n b17_, c_n b17_, c_n b17_, c_n b17_, c_n b19_, c_T, c_n b21_, c_n b21_, c_n b21_, c_n b21_, c_n bq1_, c_T, c_d bq31_, c_d bq31_, c_d bq31_, c_d bq31_, c_T, c_T, c_n bq33_, c_n bq33_, c_n bq33_, c_n bq33_, c_d bq39_, c_le 3, c_le 2] [k_c fq41_, k_c fq43_] (by kernel_rfl)
    have hq40_ := (if_neg bq39_).symm.trans hq34_
    by_cases bq45_ : ph < (1 : Int)
    · have hq46_ := (if_pos bq45_).symm.trans hq40_
      obtain ⟨r124, fq47_, hq48_⟩ := pullD_elim hq46_
      replace fq47_ := m_64_ok fq47_
      obtain ⟨r125, fq49_, hq50_⟩ := pullD_elim hq48_
      replace fq49_ := m_50_ok fq49_
      obtain rfl := Option.some.inj hq50_
      exact con_pc (op := true) (I := [23, 63, 97]) (sp := chkFigures_sp) 3000 (bT 1 (bF 5 (bT 1 (bF 5 (bT 1 (bF 5 (bT 1 (bF 5 (bT 1 (bF 5 (bT 1 (bF 5 (bT 7 (bF 5 (bT 6 []))))))))))))))) [iD r124, iD r125] [c_T, c_n b1_, c_n b1_, c_n b1_, c_n b1_, c_n b3_, c_T, c_n b5_, c_n b5_, c_n b5_, c_n b5_, c_n b7_, c_T, c_n b9_, c_n b9_, c_n b9_, c_n b9_, c_n b11_, c_T, c_n b13_, c_n b13_, c_n b13_, c_n b13_, c_n b15_, c_T, c_n b17_, c_n b17_, c_n b17_, c_n b17_, c_n b19_, c_T, c_n b21_, c_n b21_, c_n b21_, c_n b21_, c_n bq1_, c_T, c_d bq31_, c_d bq31_, c_d bq31_, c_d bq31_, c_T, c_T, c_n bq33_, c_n bq33_, c_n bq33_, c_n bq33_, c_n bq39_, c_T, c_d bq45_, c_d bq45_, c_d bq45_, c_d bq45_, c_T, c_le 3, c_le 2] [k_c fq47_, k_c fq49_] (by kernel_rfl)
    have hq46_ := (if_neg bq45_).symm.trans hq40_
    by_cases bq51_ : ph > (4196 : Int)
    · have hq52_ := (if_pos bq51_).symm.trans hq46_
      obtain ⟨r126, fq53_, hq54_⟩ := pullD_elim hq52_
      replace fq53_ := m_64_ok fq53_
      obtain ⟨r127, fq55_, hq56_⟩ := pullD_elim hq54_
      replace fq55_ := m_50_ok fq55_
      obtain rfl := Option.some.inj hq56_
      exact con_pc (op := true) (I := [23, 63, 97]) (sp := chkFigures_sp) 3000 (bT 1 (bF 5 (bT 1 (bF 5 (bT 1 (bF 5 (bT 1 (bF 5 (bT 1 (bF 5 (bT 1 (bF 5 (bT 7 (bF 5 (bT 1 (bF 4 (bT 1 []))))))))))))))))) [iD r126, iD r127] [c_T, c_n b1_, c_n b1_, c_n b1_, c_n b1_, c_n b3_, c_T, c_n b5_, c_n b5_, c_n b5_, c_n b5_, c_n b7_, c_T, c_n b9_, c_n b9_, c_n b9_, c_n b9_, c_n b11_, c_T, c_n b13_, c_n b13_, c_n b13_, c_n b13_, c_n b15_, c_T, c_n b17_, c_n b17_, c_n b17_, c_n b17_, c_n b19_, c_T, c_n b21_, c_n b21_, c_n b21_, c_n b21_, c_n bq1_, c_T, c_d bq31_, c_d bq31_, c_d bq31_, c_d bq31_, c_T, c_T, c_n bq33_, c_n bq33_, c_n bq33_, c_n bq33_, c_n bq39_, c_T, c_n bq45_, c_n bq45_, c_n bq45_, c_n bq45_, c_d bq51_, c_le 3, c_le 2] [k_c fq53_, k_c fq55_] (by kernel_rfl)
    have hq52_ := (if_neg bq51_).symm.trans hq46_
    obtain ⟨r128, fq57_, hq58_⟩ := pullD_elim hq52_
    replace fq57_ := m_64_ok fq57_
    obtain ⟨r129, fq59_, hq60_⟩ := pullD_elim hq58_
    replace fq59_ := m_50_ok fq59_
    obtain rfl := Option.some.inj hq60_
    exact con_pc (op := true) (I := [23, 63, 97]) (sp := chkFigures_sp) 3000 (bT 1 (bF 5 (bT 1 (bF 5 (bT 1 (bF 5 (bT 1 (bF 5 (bT 1 (bF 5 (bT 1 (bF 5 (bT 7 (bF 5 (bT 1 (bF 6 [])))))))))))))))) [iD r128, iD r129] [c_T, c_n b1_, c_n b1_, c_n b1_, c_n b1_, c_n b3_, c_T, c_n b5_, c_n b5_, c_n b5_, c_n b5_, c_n b7_, c_T, c_n b9_, c_n b9_, c_n b9_, c_n b9_, c_n b11_, c_T, c_n b13_, c_n b13_, c_n b13_, c_n b13_, c_n b15_, c_T, c_n b17_, c_n b17_, c_n b17_, c_n b17_, c_n b19_, c_T, c_n b21_, c_n b21_, c_n b21_, c_n b21_, c_n bq1_, c_T, c_d bq31_, c_d bq31_, c_d bq31_, c_d bq31_, c_T, c_T, c_n bq33_, c_n bq33_, c_n bq33_, c_n bq33_, c_n bq39_, c_T, c_n bq45_, c_n bq45_, c_n bq45_, c_n bq45_, c_n bq51_, c_F, c_le 3, c_le 2] [k_c fq57_, k_c fq59_] (by kernel_rfl)
  have hq32_ := (if_neg bq31_).symm.trans hq2_
  by_cases bq61_ : uh > (63 : Int)
  · have hq62_ := (if_pos bq61_).symm.trans hq32_
    by_cases bq63_ : pl < (1 : Int)
    · have hq64_ := (if_pos bq63_).symm.trans hq62_
      obtain ⟨r130, fq65_, hq66_⟩ := pullD_elim hq64_
      replace fq65_ := m_64_ok fq65_
      obtain ⟨r131, fq67_, hq68_⟩ := pullD_elim hq66_
      replace fq67_ := m_50_ok fq67_
      obtain rfl := Option.some.inj hq68_
      exact con_pc (op := true) (I := [23, 63, 97]) (sp := chkFigures_sp) 3000 (bT 1 (bF 5 (bT 1 (bF 5 (bT 1 (bF 5 (bT 1 (bF 5 (bT 1 (bF 5 (bT 1 (bF 5 (bT 1 (bF 4 (bT 7 []))))))))))))))) [iD r130, iD r131] [c_T, c_n b1_, c_n b1_, c_n b1_, c_n b1_, c_n b3_, c_T, c_n b5_, c_n b5_, c_n b5_, c_n b5_, c_n b7_, c_T, c_n b9_, c_n b9_, c_n b9_, c_n b9_, c_n b11_, c_T, c_n b13_, c_n b13_, c_n b13_, c_n b13_, c_n b15_, c_T, c_n b17_, c_n b17_, c_n b17_, c_n b17_, c_n b19_, c_T, c_n b21_, c_n b21_, c_n b21_, c_n b21_, c_n bq1_, c_T, c_n bq31_, c_n bq31_, c_n bq31_, c_n bq31_, c_d bq61_, c_T, c_d bq63_, c_d bq63_, c_d bq63_, c_d bq63_, c_T, c_le 3, c_le 2] [k_c fq65_, k_c fq67_] (by kernel_rfl)
    have hq64_ := (if_neg bq63_).symm.trans hq62_
    by_cases bq69_ : pl > (4196 : Int)
    · have hq70_ := (if_pos bq69_).symm.trans hq64_
      obtain ⟨r132, fq71_, hq72_⟩ := pullD_elim hq70_
      replace fq71_ := m_64_ok fq71_
      obtain ⟨r133, fq73_, hq74_⟩ := pullD_elim hq72_
      replace fq73_ := m_50_ok fq73_
      obtain rfl := Option.some.inj hq74_
      exact con_pc (op := true) (I := [23, 63, 97]) (sp := chkFigures_sp) 3000 (bT 1 (bF 5 (bT 1 (bF 5 (bT 1 (bF 5 (bT 1 (bF 5 (bT 1 (bF 5 (bT 1 (bF 5 (bT 1 (bF 4 (bT 2 (bF 4 (bT 1 []))))))))))))))))) [iD r132, iD r133] [c_T, c_n b1_, c_n b1_, c_n b1_, c_n b1_, c_n b3_, c_T, c_n b5_, c_n b5_, c_n b5_, c_n b5_, c_n b7_, c_T, c_n b9_, c_n b9_, c_n b9_, c_n b9_, c_n b11_, c_T, c_n b13_, c_n b13_, c_n b13_, c_n b13_, c_n b15_, c_T, c_n b17_, c_n b17_, c_n b17_, c_n b17_, c_n b19_, c_T, c_n b21_, c_n b21_, c_n b21_, c_n b21_, c_n bq1_, c_T, c_n bq31_, c_n bq31_, c_n bq31_, c_n bq31_, c_d bq61_, c_T, c_n bq63_, c_n bq63_, c_n bq63_, c_n bq63_, c_d bq69_, c_le 3, c_le 2] [k_c fq71_, k_c fq73_] (by kernel_rfl)
    have hq70_ := (if_neg bq69_).symm.trans hq64_
    by_cases bq75_ : ph < (1 : Int)
    · have hq76_ := (if_pos bq75_).symm.trans hq70_
      obtain ⟨r134, fq77_, hq78_⟩ := pullD_elim hq76_
      replace fq77_ := m_64_ok fq77_
      obtain ⟨r135, fq79_, hq80_⟩ := pullD_elim hq78_
      replace fq79_ := m_50_ok fq79_
      obtain rfl := Option.some.inj hq80_
      exact con_pc (op := true) (I := [23, 63, 97]) (sp := chkFigures_sp) 3000 (bT 1 (bF 5 (bT 1 (bF 5 (bT 1 (bF 5 (bT 1 (bF 5 (bT 1 (bF 5 (bT 1 (bF 5 (bT 1 (bF 4 (bT 2 (bF 5 (bT 6 []))))))))))))))))) [iD r134, iD r135] [c_T, c_n b1_, c_n b1_, c_n b1_, c_n b1_, c_n b3_, c_T, c_n b5_, c_n b5_, c_n b5_, c_n b5_, c_n b7_, c_T, c_n b9_, c_n b9_, c_n b9_, c_n b9_, c_n b11_, c_T, c_n b13_, c_n b13_, c_n b13_, c_n b13_, c_n b15_, c_T, c_n b17_, c_n b17_, c_n b17_, c_n b17_, c_n b19_, c_T, c_n b21_, c_n b21_, c_n b21_, c_n b21_, c_n bq1_, c_T, c_n bq31_, c_n bq31_, c_n bq31_, c_n bq31_, c_d bq61_, c_T, c_n bq63_, c_n bq63_, c_n bq63_, c_n bq63_, c_n bq69_, c_T, c_d bq75_, c_d bq75_, c_d bq75_, c_d bq75_, c_T, c_le 3, c_le 2] [k_c fq77_, k_c fq79_] (by kernel_rfl)
    have hq76_ := (if_neg bq75_).symm.trans hq70_
    by_cases bq81_ : ph > (4196 : Int)
    · have hq82_ := (if_pos bq81_).symm.trans hq76_
      obtain ⟨r136, fq83_, hq84_⟩ := pullD_elim hq82_
      replace fq83_ := m_64_ok fq83_
      obtain ⟨r137, fq85_, hq86_⟩ := pullD_elim hq84_
      replace fq85_ := m_50_ok fq85_
      obtain rfl := Option.some.inj hq86_
      exact con_pc (op := true) (I := [23, 63, 97]) (sp := chkFigures_sp) 3000 (bT 1 (bF 5 (bT 1 (bF 5 (bT 1 (bF 5 (bT 1 (bF 5 (bT 1 (bF 5 (bT 1 (bF 5 (bT 1 (bF 4 (bT 2 (bF 5 (bT 1 (bF 4 (bT 1 []))))))))))))))))))) [iD r136, iD r137] [c_T, c_n b1_, c_n b1_, c_n b1_, c_n b1_, c_n b3_, c_T, c_n b5_, c_n b5_, c_n b5_, c_n b5_, c_n b7_, c_T, c_n b9_, c_n b9_, c_n b9_, c_n b9_, c_n b11_, c_T, c_n b13_, c_n b13_, c_n b13_, c_n b13_, c_n b15_, c_T, c_n b17_, c_n b17_, c_n b17_, c_n b17_, c_n b19_, c_T, c_n b21_, c_n b21_, c_n b21_, c_n b21_, c_n bq1_, c_T, c_n bq31_, c_n bq31_, c_n bq31_, c_n bq31_, c_d bq61_, c_T, c_n bq63_, c_n bq63_, c_n bq63_, c_n bq63_, c_n bq69_, c_T, c_n bq75_, c_n bq75_, c_n bq75_, c_n bq75_, c_d bq81_, c_le 3, c_le 2] [k_c fq83_, k_c fq85_] (by kernel_rfl)
    have hq82_ := (if_neg bq81_).symm.trans hq76_
    obtain ⟨r138, fq87_, hq88_⟩ := pullD_elim hq82_
    replace fq87_ := m_64_ok fq87_
    obtain ⟨r139, fq89_, hq90_⟩ := pullD_elim hq88_
    replace fq89_ := m_50_ok fq89_
    obtain rfl := Option.some.inj hq90_
    exact con_pc (op := true) (I := [23, 63, 97]) (sp := chkFigures_sp) 3000 (bT 1 (bF 5 (bT 1 (bF 5 (bT 1 (bF 5 (bT 1 (bF 5 (bT 1 (bF 5 (bT 1 (bF 5 (bT 1 (bF 4 (bT 2 (bF 5 (bT 1 (bF 6 [])))))))))))))))))) [iD r138, iD r139] [c_T, c_n b1_, c_n b1_, c_n b1_, c_n b1_, c_n b3_, c_T, c_n b5_, c_n b5_, c_n b5_, c_n b5_, c_n b7_, c_T, c_n b9_, c_n b9_, c_n b9_, c_n b9_, c_n b11_, c_T, c_n b13_, c_n b13_, c_n b13_, c_n b13_, c_n b15_, c_T, c_n b17_, c_n b17_, c_n b17_, c_n b17_, c_n b19_, c_T, c_n b21_, c_n b21_, c_n b21_, c_n b21_, c_n bq1_, c_T, c_n bq31_, c_n bq31_, c_n bq31_, c_n bq31_, c_d bq61_, c_T, c_n bq63_, c_n bq63_, c_n bq63_, c_n bq63_, c_n bq69_, c_T, c_n bq75_, c_n bq75_, c_n bq75_, c_n bq75_, c_n bq81_, c_F, c_le 3, c_le 2] [k_c fq87_, k_c fq89_] (by kernel_rfl)
  have hq62_ := (if_neg bq61_).symm.trans hq32_
  by_cases bq91_ : pl < (1 : Int)
  · have hq92_ := (if_pos bq91_).symm.trans hq62_
    obtain ⟨r140, fq93_, hq94_⟩ := pullD_elim hq92_
    replace fq93_ := m_64_ok fq93_
    obtain ⟨r141, fq95_, hq96_⟩ := pullD_elim hq94_
    replace fq95_ := m_50_ok fq95_
    obtain rfl := Option.some.inj hq96_
    exact con_pc (op := true) (I := [23, 63, 97]) (sp := chkFigures_sp) 3000 (bT 1 (bF 5 (bT 1 (bF 5 (bT 1 (bF 5 (bT 1 (bF 5 (bT 1 (bF 5 (bT 1 (bF 5 (bT 1 (bF 6 (bT 6 []))))))))))))))) [iD r140, iD r141] [c_T, c_n b1_, c_n b1_, c_n b1_, c_n b1_, c_n b3_, c_T, c_n b5_, c_n b5_, c_n b5_, c_n b5_, c_n b7_, c_T, c_n b9_, c_n b9_, c_n b9_, c_n b9_, c_n b11_, c_T, c_n b13_, c_n b13_, c_n b13_, c_n b13_, c_n b15_, c_T, c_n b17_, c_n b17_, c_n b17_, c_n b17_, c_n b19_, c_T, c_n b21_, c_n b21_, c_n b21_, c_n b21_, c_n bq1_, c_T, c_n bq31_, c_n bq31_, c_n bq31_, c_n bq31_, c_n bq61_, c_F, c_T, c_d bq91_, c_d bq91_, c_d bq91_, c_d bq91_, c_T, c_le 3, c_le 2] [k_c fq93_, k_c fq95_] (by kernel_rfl)
  have hq92_ := (if_neg bq91_).symm.trans hq62_
  by_cases bq97_ : pl > (4196 : Int)
  · have hq98_ := (if_pos bq97_).symm.trans hq92_
    obtain ⟨r142, fq99_, hq100_⟩ := pullD_elim hq98_
    replace fq99_ := m_64_ok fq99_
    obtain ⟨r143, fq101_, hq102_⟩ := pullD_elim hq100_
    replace fq101_ := m_50_ok fq101_
    obtain rfl := Option.some.inj hq102_
    exact con_pc (op := true) (I := [23, 63, 97]) (sp := chkFigures_sp) 3000 (bT 1 (bF 5 (bT 1 (bF 5 (bT 1 (bF 5 (bT 1 (bF 5 (bT 1 (bF 5 (bT 1 (bF 5 (bT 1 (bF 6 (bT 1 (bF 4 (bT 1 []))))))))))))))))) [iD r142, iD r143] [c_T, c_n b1_, c_n b1_, c_n b1_, c_n b1_, c_n b3_, c_T, c_n b5_, c_n b5_, c_n b5_, c_n b5_, c_n b7_, c_T, c_n b9_, c_n b9_, c_n b9_, c_n b9_, c_n b11_, c_T, c_n b13_, c_n b13_, c_n b13_, c_n b13_, c_n b15_, c_T, c_n b17_, c_n b17_, c_n b17_, c_n b17_, c_n b19_, c_T, c_n b21_, c_n b21_, c_n b21_, c_n b21_, c_n bq1_, c_T, c_n bq31_, c_n bq31_, c_n bq31_, c_n bq31_, c_n bq61_, c_F, c_T, c_n bq91_, c_n bq91_, c_n bq91_, c_n bq91_, c_d bq97_, c_le 3, c_le 2] [k_c fq99_, k_c fq101_] (by kernel_rfl)
  have hq98_ := (if_neg bq97_).symm.trans hq92_
  by_cases bq103_ : ph < (1 : Int)
  · have hq104_ := (if_pos bq103_).symm.trans hq98_
    obtain ⟨r144, fq105_, hq106_⟩ := pullD_elim hq104_
    replace fq105_ := m_64_ok fq105_
    obtain ⟨r145, fq107_, hq108_⟩ := pullD_elim hq106_
    replace fq107_ := m_50_ok fq107_
    obtain rfl := Option.some.inj hq108_
    exact con_pc (op := true) (I := [23, 63, 97]) (sp := chkFigures_sp) 3000 (bT 1 (bF 5 (bT 1 (bF 5 (bT 1 (bF 5 (bT 1 (bF 5 (bT 1 (bF 5 (bT 1 (bF 5 (bT 1 (bF 6 (bT 1 (bF 5 (bT 6 []))))))))))))))))) [iD r144, iD r145] [c_T, c_n b1_, c_n b1_, c_n b1_, c_n b1_, c_n b3_, c_T, c_n b5_, c_n b5_, c_n b5_, c_n b5_, c_n b7_, c_T, c_n b9_, c_n b9_, c_n b9_, c_n b9_, c_n b11_, c_T, c_n b13_, c_n b13_, c_n b13_, c_n b13_, c_n b15_, c_T, c_n b17_, c_n b17_, c_n b17_, c_n b17_, c_n b19_, c_T, c_n b21_, c_n b21_, c_n b21_, c_n b21_, c_n bq1_, c_T, c_n bq31_, c_n bq31_, c_n bq31_, c_n bq31_, c_n bq61_, c_F, c_T, c_n bq91_, c_n bq91_, c_n bq91_, c_n bq91_, c_n bq97_, c_T, c_d bq103_, c_d bq103_, c_d bq103_, c_d bq103_, c_T, c_le 3, c_le 2] [k_c fq105_, k_c fq107_] (by kernel_rfl)
  have hq104_ := (if_neg bq103_).symm.trans hq98_
  by_cases bq109_ : ph > (4196 : Int)
  · have hq110_ := (if_pos bq109_).symm.trans hq104_
    obtain ⟨r146, fq111_, hq112_⟩ := pullD_elim hq110_
    replace fq111_ := m_64_ok fq111_
    obtain ⟨r147, fq113_, hq114_⟩ := pullD_elim hq112_
    replace fq113_ := m_50_ok fq113_
    obtain rfl := Option.some.inj hq114_
    exact con_pc (op := true) (I := [23, 63, 97]) (sp := chkFigures_sp) 3000 (bT 1 (bF 5 (bT 1 (bF 5 (bT 1 (bF 5 (bT 1 (bF 5 (bT 1 (bF 5 (bT 1 (bF 5 (bT 1 (bF 6 (bT 1 (bF 5 (bT 1 (bF 4 (bT 1 []))))))))))))))))))) [iD r146, iD r147] [c_T, c_n b1_, c_n b1_, c_n b1_, c_n b1_, c_n b3_, c_T, c_n b5_, c_n b5_, c_n b5_, c_n b5_, c_n b7_, c_T, c_n b9_, c_n b9_, c_n b9_, c_n b9_, c_n b11_, c_T, c_n b13_, c_n b13_, c_n b13_, c_n b13_, c_n b15_, c_T, c_n b17_, c_n b17_, c_n b17_, c_n b17_, c_n b19_, c_T, c_n b21_, c_n b21_, c_n b21_, c_n b21_, c_n bq1_, c_T, c_n bq31_, c_n bq31_, c_n bq31_, c_n bq31_, c_n bq61_, c_F, c_T, c_n bq91_, c_n bq91_, c_n bq91_, c_n bq91_, c_n bq97_, c_T, c_n bq103_, c_n bq103_, c_n bq103_, c_n bq103_, c_d bq109_, c_le 3, c_le 2] [k_c fq111_, k_c fq113_] (by kernel_rfl)
  have hq110_ := (if_neg bq109_).symm.trans hq104_
  obtain ⟨r148, fq115_, hq116_⟩ := pullD_elim hq110_
  replace fq115_ := m_64_ok fq115_
  obtain ⟨r149, fq117_, hq118_⟩ := pullD_elim hq116_
  replace fq117_ := m_50_ok fq117_
  obtain rfl := Option.some.inj hq118_
  exact con_pc (op := true) (I := [23, 63, 97]) (sp := chkFigures_sp) 3000 (bT 1 (bF 5 (bT 1 (bF 5 (bT 1 (bF 5 (bT 1 (bF 5 (bT 1 (bF 5 (bT 1 (bF 5 (bT 1 (bF 6 (bT 1 (bF 5 (bT 1 (bF 6 [])))))))))))))))))) [iD r148, iD r149] [c_T, c_n b1_, c_n b1_, c_n b1_, c_n b1_, c_n b3_, c_T, c_n b5_, c_n b5_, c_n b5_, c_n b5_, c_n b7_, c_T, c_n b9_, c_n b9_, c_n b9_, c_n b9_, c_n b11_, c_T, c_n b13_, c_n b13_, c_n b13_, c_n b13_, c_n b15_, c_T, c_n b17_, c_n b17_, c_n b17_, c_n b17_, c_n b19_, c_T, c_n b21_, c_n b21_, c_n b21_, c_n b21_, c_n bq1_, c_T, c_n bq31_, c_n bq31_, c_n bq31_, c_n bq31_, c_n bq61_, c_F, c_T, c_n bq91_, c_n bq91_, c_n bq91_, c_n bq91_, c_n bq97_, c_T, c_n bq103_, c_n bq103_, c_n bq103_, c_n bq103_, c_n bq109_, c_F, c_le 3, c_le 2] [k_c fq115_, k_c fq117_] (by kernel_rfl)
theorem chkFigures_M_ok (ga pl ph tl th nl nh ul uh : Int) {r : D} (h : chkFigures_M ga pl ph tl th nl nh ul uh = some r) : Con 23 [(shNK1_0 ga pl ph tl th nl nh ul uh)] r := by
  unfold chkFigures_M at h
  by_cases b1_ : ga < (0 : Int)
  · have h2_ := (if_pos b1_).symm.trans h
    exact chkFigures_M_s0_ok ga pl ph tl th nl nh ul uh b1_ h2_
  have h2_ := (if_neg b1_).symm.trans h
  by_cases b3_ : ga > (63 : Int)
  · have h4_ := (if_pos b3_).symm.trans h2_
    exact chkFigures_M_s1_ok ga pl ph tl th nl nh ul uh b1_ b3_ h4_
  have h4_ := (if_neg b3_).symm.trans h2_
  by_cases b5_ : tl < (0 : Int)
  · have h6_ := (if_pos b5_).symm.trans h4_
    exact chkFigures_M_s2_ok ga pl ph tl th nl nh ul uh b1_ b3_ b5_ h6_
  have h6_ := (if_neg b5_).symm.trans h4_
  by_cases b7_ : tl > (63 : Int)
  · have h8_ := (if_pos b7_).symm.trans h6_
    exact chkFigures_M_s3_ok ga pl ph tl th nl nh ul uh b1_ b3_ b5_ b7_ h8_
  have h8_ := (if_neg b7_).symm.trans h6_
  by_cases b9_ : th < (0 : Int)
  · have h10_ := (if_pos b9_).symm.trans h8_
    exact chkFigures_M_s4_ok ga pl ph tl th nl nh ul uh b1_ b3_ b5_ b7_ b9_ h10_
  have h10_ := (if_neg b9_).symm.trans h8_
  by_cases b11_ : th > (63 : Int)
  · have h12_ := (if_pos b11_).symm.trans h10_
    exact chkFigures_M_s5_ok ga pl ph tl th nl nh ul uh b1_ b3_ b5_ b7_ b9_ b11_ h12_
  have h12_ := (if_neg b11_).symm.trans h10_
  by_cases b13_ : nl < (0 : Int)
  · have h14_ := (if_pos b13_).symm.trans h12_
    exact chkFigures_M_s6_ok ga pl ph tl th nl nh ul uh b1_ b3_ b5_ b7_ b9_ b11_ b13_ h14_
  have h14_ := (if_neg b13_).symm.trans h12_
  by_cases b15_ : nl > (63 : Int)
  · have h16_ := (if_pos b15_).symm.trans h14_
    exact chkFigures_M_s7_ok ga pl ph tl th nl nh ul uh b1_ b3_ b5_ b7_ b9_ b11_ b13_ b15_ h16_
  have h16_ := (if_neg b15_).symm.trans h14_
  by_cases b17_ : nh < (0 : Int)
  · have h18_ := (if_pos b17_).symm.trans h16_
    exact chkFigures_M_s8_ok ga pl ph tl th nl nh ul uh b1_ b3_ b5_ b7_ b9_ b11_ b13_ b15_ b17_ h18_
  have h18_ := (if_neg b17_).symm.trans h16_
  by_cases b19_ : nh > (63 : Int)
  · have h20_ := (if_pos b19_).symm.trans h18_
    exact chkFigures_M_s9_ok ga pl ph tl th nl nh ul uh b1_ b3_ b5_ b7_ b9_ b11_ b13_ b15_ b17_ b19_ h20_
  have h20_ := (if_neg b19_).symm.trans h18_
  by_cases b21_ : ul < (0 : Int)
  · have h22_ := (if_pos b21_).symm.trans h20_
    exact chkFigures_M_s10_ok ga pl ph tl th nl nh ul uh b1_ b3_ b5_ b7_ b9_ b11_ b13_ b15_ b17_ b19_ b21_ h22_
  have h22_ := (if_neg b21_).symm.trans h20_
  exact chkFigures_M_s11_ok ga pl ph tl th nl nh ul uh b1_ b3_ b5_ b7_ b9_ b11_ b13_ b15_ b17_ b19_ b21_ h22_
def m_23 (ds : List D) : Option D := pullD (α := Int × Int × Int × Int × Int × Int × Int × Int × Int) (some (.tup ds)) (fun d => ((D.vi (D.at (D.at d 0) 0)), (D.vi (D.at (D.at d 0) 1)), (D.vi (D.at (D.at d 0) 2)), (D.vi (D.at (D.at d 0) 3)), (D.vi (D.at (D.at d 0) 4)), (D.vi (D.at (D.at d 0) 5)), (D.vi (D.at (D.at d 0) 6)), (D.vi (D.at (D.at d 0) 7)), (D.vi (D.at (D.at d 0) 8)))) (fun (ga, pl, ph, tl, th, nl, nh, ul, uh) => .tup [(shNK1_0 ga pl ph tl th nl nh ul uh)]) fun (ga, pl, ph, tl, th, nl, nh, ul, uh) => chkFigures_M ga pl ph tl th nl nh ul uh
theorem m_23_ok {ds : List D} {r : D} (h : m_23 ds = some r) : Con 23 ds r := by
  unfold m_23 at h
  obtain ⟨⟨ga, pl, ph, tl, th, nl, nh, ul, uh⟩, e0, h0⟩ := pullD_elim h
  obtain rfl := tup_inj e0
  exact chkFigures_M_ok ga pl ph tl th nl nh ul uh h0
theorem m_23_eq (ga pl ph tl th nl nh ul uh : Int) : m_23 [(shNK1_0 ga pl ph tl th nl nh ul uh)] = chkFigures_M ga pl ph tl th nl nh ul uh := pullD_some (ga, pl, ph, tl, th, nl, nh, ul, uh) rfl rfl
def chkTimed_sp : List LSpec := []
def chkTimed_M (ga pl ph tl th nl nh ul uh : Int) (n : Int) : Option D := pullD (α := Int) (m_23 [(shNK1_0 ga pl ph tl th nl nh ul uh)]) (fun d => ((D.vi d))) (fun r0 => iD r0) fun r0 => (pullD (α := Int) (m_53 [iD n]) (fun d => ((D.vi d))) (fun r1 => iD r1) fun r1 => (pullD (α := Int) (m_50 [.list 2 [iD r0, iD r1]]) (fun d => ((D.vi d))) (fun r2 => iD r2) fun r2 => (some (iD r2))))
theorem chkTimed_M_ok (ga pl ph tl th nl nh ul uh : Int) (n : Int) {r : D} (h : chkTimed_M ga pl ph tl th nl nh ul uh n = some r) : Con 61 [(shNK1_0 ga pl ph tl th nl nh ul uh), iD n] r := by
  unfold chkTimed_M at h
  obtain ⟨r0, f1_, h2_⟩ := pullD_elim h
  replace f1_ := m_23_ok f1_
  obtain ⟨r1, f3_, h4_⟩ := pullD_elim h2_
  replace f3_ := m_53_ok f3_
  obtain ⟨r2, f5_, h6_⟩ := pullD_elim h4_
  replace f5_ := m_50_ok f5_
  obtain rfl := Option.some.inj h6_
  exact con_pc (op := true) (I := [61]) (sp := chkTimed_sp) 3000 [] [iD r0, iD r1, iD r2] [c_le 1] [k_c f1_, k_c f3_, k_c f5_] (by kernel_rfl)
def m_61 (ds : List D) : Option D := pullD (α := Int × Int × Int × Int × Int × Int × Int × Int × Int × Int) (some (.tup ds)) (fun d => ((D.vi (D.at (D.at d 0) 0)), (D.vi (D.at (D.at d 0) 1)), (D.vi (D.at (D.at d 0) 2)), (D.vi (D.at (D.at d 0) 3)), (D.vi (D.at (D.at d 0) 4)), (D.vi (D.at (D.at d 0) 5)), (D.vi (D.at (D.at d 0) 6)), (D.vi (D.at (D.at d 0) 7)), (D.vi (D.at (D.at d 0) 8)), (D.vi (D.at d 1)))) (fun (ga, pl, ph, tl, th, nl, nh, ul, uh, n) => .tup [(shNK1_0 ga pl ph tl th nl nh ul uh), iD n]) fun (ga, pl, ph, tl, th, nl, nh, ul, uh, n) => chkTimed_M ga pl ph tl th nl nh ul uh n
theorem m_61_ok {ds : List D} {r : D} (h : m_61 ds = some r) : Con 61 ds r := by
  unfold m_61 at h
  obtain ⟨⟨ga, pl, ph, tl, th, nl, nh, ul, uh, n⟩, e0, h0⟩ := pullD_elim h
  obtain rfl := tup_inj e0
  exact chkTimed_M_ok ga pl ph tl th nl nh ul uh n h0
theorem m_61_eq (ga pl ph tl th nl nh ul uh : Int) (n : Int) : m_61 [(shNK1_0 ga pl ph tl th nl nh ul uh), iD n] = chkTimed_M ga pl ph tl th nl nh ul uh n := pullD_some (ga, pl, ph, tl, th, nl, nh, ul, uh, n) rfl rfl
def frontOf_sp : List LSpec := []
def frontOf_M (ga pl ph tl th nl nh ul uh : Int) (n : Int) : Option D := pullD (α := Int) (m_61 [(shNK1_0 ga pl ph tl th nl nh ul uh), iD n]) (fun d => ((D.vi d))) (fun r0 => iD r0) fun r0 => ((if r0 ≠ (0 : Int) then some (.tup [.agg [iD (0 : Int), iD (0 : Int)], iD r0]) else pullD (α := Int × Int) (m_62 [iD (IntKind.i64.wrap (IntKind.i64.wrap ((5 : Int) * IntKind.i64.wrap (nl - th)) * n)), iD (IntKind.i64.wrap (IntKind.i64.wrap ((5 : Int) * IntKind.i64.wrap (nh - tl)) * n)), iD (3 : Int)]) (fun d => ((D.vi (D.at d 0)), (D.vi (D.at d 1)))) (fun (r1, r2) => .agg [iD r1, iD r2]) fun (r1, r2) => (some (.tup [.agg [iD r1, iD r2], iD (0 : Int)]))))
theorem frontOf_M_ok (ga pl ph tl th nl nh ul uh : Int) (n : Int) {r : D} (h : frontOf_M ga pl ph tl th nl nh ul uh n = some r) : Con 20 [(shNK1_0 ga pl ph tl th nl nh ul uh), iD n] r := by
  unfold frontOf_M at h
  obtain ⟨r0, f1_, h2_⟩ := pullD_elim h
  replace f1_ := m_61_ok f1_
  by_cases b3_ : r0 ≠ (0 : Int)
  · have h4_ := (if_pos b3_).symm.trans h2_
    obtain rfl := Option.some.inj h4_
    exact con_pc (op := true) (I := [20]) (sp := frontOf_sp) 3000 (bT 1 []) [iD r0] [c_b b3_] [k_c f1_] (by kernel_rfl)
  have h4_ := (if_neg b3_).symm.trans h2_
  have b5_ : r0 = (0 : Int) := by first | exact b3_ | simpa using b3_
  obtain ⟨⟨r1, r2⟩, f6_, h7_⟩ := pullD_elim h4_
  replace f6_ := m_62_ok f6_
  obtain rfl := Option.some.inj h7_
  exact con_pc (op := true) (I := [20]) (sp := frontOf_sp) 3000 (bF 1 []) [iD r0, .agg [iD r1, iD r2]] [c_bn b5_] [k_c f1_, k_c f6_] (by kernel_rfl)
def m_20 (ds : List D) : Option D := pullD (α := Int × Int × Int × Int × Int × Int × Int × Int × Int × Int) (some (.tup ds)) (fun d => ((D.vi (D.at (D.at d 0) 0)), (D.vi (D.at (D.at d 0) 1)), (D.vi (D.at (D.at d 0) 2)), (D.vi (D.at (D.at d 0) 3)), (D.vi (D.at (D.at d 0) 4)), (D.vi (D.at (D.at d 0) 5)), (D.vi (D.at (D.at d 0) 6)), (D.vi (D.at (D.at d 0) 7)), (D.vi (D.at (D.at d 0) 8)), (D.vi (D.at d 1)))) (fun (ga, pl, ph, tl, th, nl, nh, ul, uh, n) => .tup [(shNK1_0 ga pl ph tl th nl nh ul uh), iD n]) fun (ga, pl, ph, tl, th, nl, nh, ul, uh, n) => frontOf_M ga pl ph tl th nl nh ul uh n
theorem m_20_ok {ds : List D} {r : D} (h : m_20 ds = some r) : Con 20 ds r := by
  unfold m_20 at h
  obtain ⟨⟨ga, pl, ph, tl, th, nl, nh, ul, uh, n⟩, e0, h0⟩ := pullD_elim h
  obtain rfl := tup_inj e0
  exact frontOf_M_ok ga pl ph tl th nl nh ul uh n h0
theorem m_20_eq (ga pl ph tl th nl nh ul uh : Int) (n : Int) : m_20 [(shNK1_0 ga pl ph tl th nl nh ul uh), iD n] = frontOf_M ga pl ph tl th nl nh ul uh n := pullD_some (ga, pl, ph, tl, th, nl, nh, ul, uh, n) rfl rfl
def tailOf_sp : List LSpec := []
def tailOf_M (ga pl ph tl th nl nh ul uh : Int) (n : Int) : Option D := pullD (α := Int) (m_61 [(shNK1_0 ga pl ph tl th nl nh ul uh), iD n]) (fun d => ((D.vi d))) (fun r0 => iD r0) fun r0 => ((if r0 ≠ (0 : Int) then some (.tup [.agg [iD (0 : Int), iD (0 : Int)], iD r0]) else pullD (α := Int × Int) (m_62 [iD (IntKind.i64.wrap (IntKind.i64.wrap (IntKind.i64.wrap (IntKind.i64.wrap ((2 : Int) * ul) - IntKind.i64.wrap ((3 : Int) * th)) + nl) * n)), iD (IntKind.i64.wrap (IntKind.i64.wrap (IntKind.i64.wrap (IntKind.i64.wrap ((2 : Int) * uh) - IntKind.i64.wrap ((3 : Int) * tl)) + nh) * n)), iD (2 : Int)]) (fun d => ((D.vi (D.at d 0)), (D.vi (D.at d 1)))) (fun (r1, r2) => .agg [iD r1, iD r2]) fun (r1, r2) => (some (.tup [.agg [iD r1, iD r2], iD (0 : Int)]))))
theorem tailOf_M_ok (ga pl ph tl th nl nh ul uh : Int) (n : Int) {r : D} (h : tailOf_M ga pl ph tl th nl nh ul uh n = some r) : Con 21 [(shNK1_0 ga pl ph tl th nl nh ul uh), iD n] r := by
  unfold tailOf_M at h
  obtain ⟨r0, f1_, h2_⟩ := pullD_elim h
  replace f1_ := m_61_ok f1_
  by_cases b3_ : r0 ≠ (0 : Int)
  · have h4_ := (if_pos b3_).symm.trans h2_
    obtain rfl := Option.some.inj h4_
    exact con_pc (op := true) (I := [21]) (sp := tailOf_sp) 3000 (bT 1 []) [iD r0] [c_b b3_] [k_c f1_] (by kernel_rfl)
  have h4_ := (if_neg b3_).symm.trans h2_
  have b5_ : r0 = (0 : Int) := by first | exact b3_ | simpa using b3_
  obtain ⟨⟨r1, r2⟩, f6_, h7_⟩ := pullD_elim h4_
  replace f6_ := m_62_ok f6_
  obtain rfl := Option.some.inj h7_
  exact con_pc (op := true) (I := [21]) (sp := tailOf_sp) 3000 (bF 1 []) [iD r0, .agg [iD r1, iD r2]] [c_bn b5_] [k_c f1_, k_c f6_] (by kernel_rfl)
def m_21 (ds : List D) : Option D := pullD (α := Int × Int × Int × Int × Int × Int × Int × Int × Int × Int) (some (.tup ds)) (fun d => ((D.vi (D.at (D.at d 0) 0)), (D.vi (D.at (D.at d 0) 1)), (D.vi (D.at (D.at d 0) 2)), (D.vi (D.at (D.at d 0) 3)), (D.vi (D.at (D.at d 0) 4)), (D.vi (D.at (D.at d 0) 5)), (D.vi (D.at (D.at d 0) 6)), (D.vi (D.at (D.at d 0) 7)), (D.vi (D.at (D.at d 0) 8)), (D.vi (D.at d 1)))) (fun (ga, pl, ph, tl, th, nl, nh, ul, uh, n) => .tup [(shNK1_0 ga pl ph tl th nl nh ul uh), iD n]) fun (ga, pl, ph, tl, th, nl, nh, ul, uh, n) => tailOf_M ga pl ph tl th nl nh ul uh n
theorem m_21_ok {ds : List D} {r : D} (h : m_21 ds = some r) : Con 21 ds r := by
  unfold m_21 at h
  obtain ⟨⟨ga, pl, ph, tl, th, nl, nh, ul, uh, n⟩, e0, h0⟩ := pullD_elim h
  obtain rfl := tup_inj e0
  exact tailOf_M_ok ga pl ph tl th nl nh ul uh n h0
theorem m_21_eq (ga pl ph tl th nl nh ul uh : Int) (n : Int) : m_21 [(shNK1_0 ga pl ph tl th nl nh ul uh), iD n] = tailOf_M ga pl ph tl th nl nh ul uh n := pullD_some (ga, pl, ph, tl, th, nl, nh, ul, uh, n) rfl rfl
def figErr_sp : List LSpec := []
def figErr_M (ga pl ph tl th nl nh ul uh : Int) : Option D := pullD (α := Bool) (m_24 [iD ga, iD (0 : Int), iD (63 : Int)]) (fun d => ((D.vb d))) (fun r0 => .one (.bool r0)) fun r0 => ((if r0 = false then some (iD (2 : Int)) else pullD (α := Bool) (m_24 [iD pl, iD (1 : Int), iD (4196 : Int)]) (fun d => ((D.vb d))) (fun r1 => .one (.bool r1)) fun r1 => ((if r1 = false then some (iD (2 : Int)) else pullD (α := Bool) (m_24 [iD ph, iD (1 : Int), iD (4196 : Int)]) (fun d => ((D.vb d))) (fun r2 => .one (.bool r2)) fun r2 => ((if r2 = false then some (iD (2 : Int)) else pullD (α := Bool) (m_24 [iD tl, iD (0 : Int), iD (63 : Int)]) (fun d => ((D.vb d))) (fun r3 => .one (.bool r3)) fun r3 => ((if r3 = false then some (iD (2 : Int)) else pullD (α := Bool) (m_24 [iD th, iD (0 : Int), iD (63 : Int)]) (fun d => ((D.vb d))) (fun r4 => .one (.bool r4)) fun r4 => ((if r4 = false then some (iD (2 : Int)) else pullD (α := Bool) (m_24 [iD nl, iD (0 : Int), iD (63 : Int)]) (fun d => ((D.vb d))) (fun r5 => .one (.bool r5)) fun r5 => ((if r5 = false then some (iD (2 : Int)) else pullD (α := Bool) (m_24 [iD nh, iD (0 : Int), iD (63 : Int)]) (fun d => ((D.vb d))) (fun r6 => .one (.bool r6)) fun r6 => ((if r6 = false then some (iD (2 : Int)) else pullD (α := Bool) (m_24 [iD ul, iD (0 : Int), iD (63 : Int)]) (fun d => ((D.vb d))) (fun r7 => .one (.bool r7)) fun r7 => ((if r7 = false then some (iD (2 : Int)) else pullD (α := Bool) (m_24 [iD uh, iD (0 : Int), iD (63 : Int)]) (fun d => ((D.vb d))) (fun r8 => .one (.bool r8)) fun r8 => ((if r8 = false then some (iD (2 : Int)) else (if pl > ph then some (iD (9 : Int)) else (if tl > th then some (iD (9 : Int)) else (if nl > nh then some (iD (9 : Int)) else (if ul > uh then some (iD (9 : Int)) else some (iD (0 : Int))))))))))))))))))))))))
theorem figErr_M_ok (ga pl ph tl th nl nh ul uh : Int) {r : D} (h : figErr_M ga pl ph tl th nl nh ul uh = some r) : Con 22 [(shNK1_0 ga pl ph tl th nl nh ul uh)] r := by
  unfold figErr_M at h
  obtain ⟨r0, f1_, h2_⟩ := pullD_elim h
  replace f1_ := m_24_ok f1_
  by_cases b3_ : r0 = false
  · have h4_ := (if_pos b3_).symm.trans h2_
    obtain rfl := Option.some.inj h4_
    exact con_pc (op := true) (I := [22]) (sp := figErr_sp) 3000 (bT 15 []) [.one (.bool r0)] [c_no b3_, c_no b3_, c_no b3_, c_no b3_, c_no b3_, c_no b3_, c_no b3_, c_T, c_T, c_T, c_T, c_T, c_T, c_T, c_T] [k_c f1_] (by kernel_rfl)
  have h4_ := (if_neg b3_).symm.trans h2_
  have b5_ : r0 = true := by first | exact b3_ | simpa using b3_
  obtain ⟨r1, f6_, h7_⟩ := pullD_elim h4_
  replace f6_ := m_24_ok f6_
  by_cases b8_ : r1 = false
  · have h9_ := (if_pos b8_).symm.trans h7_
    obtain rfl := Option.some.inj h9_
    exact con_pc (op := true) (I := [22]) (sp := figErr_sp) 3000 (bF 7 (bT 8 [])) [.one (.bool r0), .one (.bool r1)] [c_nn b5_, c_nn b5_, c_nn b5_, c_nn b5_, c_nn b5_, c_nn b5_, c_nn b5_, c_no b8_, c_no b8_, c_no b8_, c_no b8_, c_no b8_, c_no b8_, c_no b8_, c_T] [k_c f1_, k_c f6_] (by kernel_rfl)
  have h9_ := (if_neg b8_).symm.trans h7_
  have b10_ : r1 = true := by first | exact b8_ | simpa using b8_
  obtain ⟨r2, f11_, h12_⟩ := pullD_elim h9_
  replace f11_ := m_24_ok f11_
  by_cases b13_ : r2 = false
  · have h14_ := (if_pos b13_).symm.trans h12_
    obtain rfl := Option.some.inj h14_
    exact con_pc (op := true) (I := [22]) (sp := figErr_sp) 3000 (bF 14 (bT 1 [])) [.one (.bool r0), .one (.bool r1), .one (.bool r2)] [c_nn b5_, c_nn b5_, c_nn b5_, c_nn b5_, c_nn b5_, c_nn b5_, c_nn b5_, c_nn b10_, c_nn b10_, c_nn b10_, c_nn b10_, c_nn b10_, c_nn b10_, c_nn b10_, c_no b13_] [k_c f1_, k_c f6_, k_c f11_] (by kernel_rfl)
  have h14_ := (if_neg b13_).symm.trans h12_
  have b15_ : r2 = true := by first | exact b13_ | simpa using b13_
  obtain ⟨r3, f16_, h17_⟩ := pullD_elim h14_
  replace f16_ := m_24_ok f16_
  by_cases b18_ : r3 = false
  · have h19_ := (if_pos b18_).symm.trans h17_
    obtain rfl := Option.some.inj h19_
    exact con_pc (op := true) (I := [22]) (sp := figErr_sp) 3000 (bF 15 (bT 10 [])) [.one (.bool r0), .one (.bool r1), .one (.bool r2), .one (.bool r3)] [c_nn b5_, c_nn b5_, c_nn b5_, c_nn b5_, c_nn b5_, c_nn b5_, c_nn b5_, c_nn b10_, c_nn b10_, c_nn b10_, c_nn b10_, c_nn b10_, c_nn b10_, c_nn b10_, c_nn b15_, c_T, c_no b18_, c_no b18_, c_no b18_, c_no b18_, c_no b18_, c_no b18_, c_no b18_, c_no b18_, c_T] [k_c f1_, k_c f6_, k_c f11_, k_c f16_] (by kernel_rfl)
  have h19_ := (if_neg b18_).symm.trans h17_
  have b20_ : r3 = true := by first | exact b18_ | simpa using b18_
  obtain ⟨r4, f21_, h22_⟩ := pullD_elim h19_
  replace f21_ := m_24_ok f21_
  by_cases b23_ : r4 = false
  · have h24_ := (if_pos b23_).symm.trans h22_
    obtain rfl := Option.some.inj h24_
    exact con_pc (op := true) (I := [22]) (sp := figErr_sp) 3000 (bF 15 (bT 1 (bF 8 (bT 1 [])))) [.one (.bool r0), .one (.bool r1), .one (.bool r2), .one (.bool r3), .one (.bool r4)] [c_nn b5_, c_nn b5_, c_nn b5_, c_nn b5_, c_nn b5_, c_nn b5_, c_nn b5_, c_nn b10_, c_nn b10_, c_nn b10_, c_nn b10_, c_nn b10_, c_nn b10_, c_nn b10_, c_nn b15_, c_T, c_nn b20_, c_nn b20_, c_nn b20_, c_nn b20_, c_nn b20_, c_nn b20_, c_nn b20_, c_nn b20_, c_no b23_] [k_c f1_, k_c f6_, k_c f11_, k_c f16_, k_c f21_] (by kernel_rfl)
  have h24_ := (if_neg b23_).symm.trans h22_
  have b25_ : r4 = true := by first | exact b23_ | simpa using b23_
  obtain ⟨r5, f26_, h27_⟩ := pullD_elim h24_
  replace f26_ := m_24_ok f26_
  by_cases b28_ : r5 = false
  · have h29_ := (if_pos b28_).symm.trans h27_
    obtain rfl := Option.some.inj h29_
    exact con_pc (op := true) (I := [22]) (sp := figErr_sp) 3000 (bF 15 (bT 1 (bF 9 (bT 10 [])))) [.one (.bool r0), .one (.bool r1), .one (.bool r2), .one (.bool r3), .one (.bool r4), .one (.bool r5)] [c_nn b5_, c_nn b5_, c_nn b5_, c_nn b5_, c_nn b5_, c_nn b5_, c_nn b5_, c_nn b10_, c_nn b10_, c_nn b10_, c_nn b10_, c_nn b10_, c_nn b10_, c_nn b10_, c_nn b15_, c_T, c_nn b20_, c_nn b20_, c_nn b20_, c_nn b20_, c_nn b20_, c_nn b20_, c_nn b20_, c_nn b20_, c_nn b25_, c_T, c_no b28_, c_no b28_, c_no b28_, c_no b28_, c_no b28_, c_no b28_, c_no b28_, c_no b28_, c_T] [k_c f1_, k_c f6_, k_c f11_, k_c f16_, k_c f21_, k_c f26_] (by kernel_rfl)
  have h29_ := (if_neg b28_).symm.trans h27_
  have b30_ : r5 = true := by first | exact b28_ | simpa using b28_
  obtain ⟨r6, f31_, h32_⟩ := pullD_elim h29_
  replace f31_ := m_24_ok f31_
  by_cases b33_ : r6 = false
  · have h34_ := (if_pos b33_).symm.trans h32_
    obtain rfl := Option.some.inj h34_
    exact con_pc (op := true) (I := [22]) (sp := figErr_sp) 3000 (bF 15 (bT 1 (bF 9 (bT 1 (bF 8 (bT 1 [])))))) [.one (.bool r0), .one (.bool r1), .one (.bool r2), .one (.bool r3), .one (.bool r4), .one (.bool r5), .one (.bool r6)] [c_nn b5_, c_nn b5_, c_nn b5_, c_nn b5_, c_nn b5_, c_nn b5_, c_nn b5_, c_nn b10_, c_nn b10_, c_nn b10_, c_nn b10_, c_nn b10_, c_nn b10_, c_nn b10_, c_nn b15_, c_T, c_nn b20_, c_nn b20_, c_nn b20_, c_nn b20_, c_nn b20_, c_nn b20_, c_nn b20_, c_nn b20_, c_nn b25_, c_T, c_nn b30_, c_nn b30_, c_nn b30_, c_nn b30_, c_nn b30_, c_nn b30_, c_nn b30_, c_nn b30_, c_no b33_] [k_c f1_, k_c f6_, k_c f11_, k_c f16_, k_c f21_, k_c f26_, k_c f31_] (by kernel_rfl)
  have h34_ := (if_neg b33_).symm.trans h32_
  have b35_ : r6 = true := by first | exact b33_ | simpa using b33_
  obtain ⟨r7, f36_, h37_⟩ := pullD_elim h34_
  replace f36_ := m_24_ok f36_
  by_cases b38_ : r7 = false
  · have h39_ := (if_pos b38_).symm.trans h37_
    obtain rfl := Option.some.inj h39_
    exact con_pc (op := true) (I := [22]) (sp := figErr_sp) 3000 (bF 15 (bT 1 (bF 9 (bT 1 (bF 9 (bT 10 [])))))) [.one (.bool r0), .one (.bool r1), .one (.bool r2), .one (.bool r3), .one (.bool r4), .one (.bool r5), .one (.bool r6), .one (.bool r7)] [c_nn b5_, c_nn b5_, c_nn b5_, c_nn b5_, c_nn b5_, c_nn b5_, c_nn b5_, c_nn b10_, c_nn b10_, c_nn b10_, c_nn b10_, c_nn b10_, c_nn b10_, c_nn b10_, c_nn b15_, c_T, c_nn b20_, c_nn b20_, c_nn b20_, c_nn b20_, c_nn b20_, c_nn b20_, c_nn b20_, c_nn b20_, c_nn b25_, c_T, c_nn b30_, c_nn b30_, c_nn b30_, c_nn b30_, c_nn b30_, c_nn b30_, c_nn b30_, c_nn b30_, c_nn b35_, c_T, c_no b38_, c_no b38_, c_no b38_, c_no b38_, c_no b38_, c_no b38_, c_no b38_, c_no b38_, c_T] [k_c f1_, k_c f6_, k_c f11_, k_c f16_, k_c f21_, k_c f26_, k_c f31_, k_c f36_] (by kernel_rfl)
  have h39_ := (if_neg b38_).symm.trans h37_
  have b40_ : r7 = true := by first | exact b38_ | simpa using b38_
  obtain ⟨r8, f41_, h42_⟩ := pullD_elim h39_
  replace f41_ := m_24_ok f41_
  by_cases b43_ : r8 = false
  · have h44_ := (if_pos b43_).symm.trans h42_
    obtain rfl := Option.some.inj h44_
    exact con_pc (op := true) (I := [22]) (sp := figErr_sp) 3000 (bF 15 (bT 1 (bF 9 (bT 1 (bF 9 (bT 1 (bF 8 (bT 1 [])))))))) [.one (.bool r0), .one (.bool r1), .one (.bool r2), .one (.bool r3), .one (.bool r4), .one (.bool r5), .one (.bool r6), .one (.bool r7), .one (.bool r8)] [c_nn b5_, c_nn b5_, c_nn b5_, c_nn b5_, c_nn b5_, c_nn b5_, c_nn b5_, c_nn b10_, c_nn b10_, c_nn b10_, c_nn b10_, c_nn b10_, c_nn b10_, c_nn b10_, c_nn b15_, c_T, c_nn b20_, c_nn b20_, c_nn b20_, c_nn b20_, c_nn b20_, c_nn b20_, c_nn b20_, c_nn b20_, c_nn b25_, c_T, c_nn b30_, c_nn b30_, c_nn b30_, c_nn b30_, c_nn b30_, c_nn b30_, c_nn b30_, c_nn b30_, c_nn b35_, c_T, c_nn b40_, c_nn b40_, c_nn b40_, c_nn b40_, c_nn b40_, c_nn b40_, c_nn b40_, c_nn b40_, c_no b43_] [k_c f1_, k_c f6_, k_c f11_, k_c f16_, k_c f21_, k_c f26_, k_c f31_, k_c f36_, k_c f41_] (by kernel_rfl)
  have h44_ := (if_neg b43_).symm.trans h42_
  have b45_ : r8 = true := by first | exact b43_ | simpa using b43_
  by_cases b46_ : pl > ph
  · have h47_ := (if_pos b46_).symm.trans h44_
    obtain rfl := Option.some.inj h47_
    exact con_pc (op := true) (I := [22]) (sp := figErr_sp) 3000 (bF 15 (bT 1 (bF 9 (bT 1 (bF 9 (bT 1 (bF 10 (bT 1 [])))))))) [.one (.bool r0), .one (.bool r1), .one (.bool r2), .one (.bool r3), .one (.bool r4), .one (.bool r5), .one (.bool r6), .one (.bool r7), .one (.bool r8)] [c_nn b5_, c_nn b5_, c_nn b5_, c_nn b5_, c_nn b5_, c_nn b5_, c_nn b5_, c_nn b10_, c_nn b10_, c_nn b10_, c_nn b10_, c_nn b10_, c_nn b10_, c_nn b10_, c_nn b15_, c_T, c_nn b20_, c_nn b20_, c_nn b20_, c_nn b20_, c_nn b20_, c_nn b20_, c_nn b20_, c_nn b20_, c_nn b25_, c_T, c_nn b30_, c_nn b30_, c_nn b30_, c_nn b30_, c_nn b30_, c_nn b30_, c_nn b30_, c_nn b30_, c_nn b35_, c_T, c_nn b40_, c_nn b40_, c_nn b40_, c_nn b40_, c_nn b40_, c_nn b40_, c_nn b40_, c_nn b40_, c_nn b45_, c_F, c_d b46_] [k_c f1_, k_c f6_, k_c f11_, k_c f16_, k_c f21_, k_c f26_, k_c f31_, k_c f36_, k_c f41_] (by kernel_rfl)
  have h47_ := (if_neg b46_).symm.trans h44_
  by_cases b48_ : tl > th
  · have h49_ := (if_pos b48_).symm.trans h47_
    obtain rfl := Option.some.inj h49_
    exact con_pc (op := true) (I := [22]) (sp := figErr_sp) 3000 (bF 15 (bT 1 (bF 9 (bT 1 (bF 9 (bT 1 (bF 11 (bT 2 [])))))))) [.one (.bool r0), .one (.bool r1), .one (.bool r2), .one (.bool r3), .one (.bool r4), .one (.bool r5), .one (.bool r6), .one (.bool r7), .one (.bool r8)] [c_nn b5_, c_nn b5_, c_nn b5_, c_nn b5_, c_nn b5_, c_nn b5_, c_nn b5_, c_nn b10_, c_nn b10_, c_nn b10_, c_nn b10_, c_nn b10_, c_nn b10_, c_nn b10_, c_nn b15_, c_T, c_nn b20_, c_nn b20_, c_nn b20_, c_nn b20_, c_nn b20_, c_nn b20_, c_nn b20_, c_nn b20_, c_nn b25_, c_T, c_nn b30_, c_nn b30_, c_nn b30_, c_nn b30_, c_nn b30_, c_nn b30_, c_nn b30_, c_nn b30_, c_nn b35_, c_T, c_nn b40_, c_nn b40_, c_nn b40_, c_nn b40_, c_nn b40_, c_nn b40_, c_nn b40_, c_nn b40_, c_nn b45_, c_F, c_n b46_, c_T, c_d b48_] [k_c f1_, k_c f6_, k_c f11_, k_c f16_, k_c f21_, k_c f26_, k_c f31_, k_c f36_, k_c f41_] (by kernel_rfl)
  have h49_ := (if_neg b48_).symm.trans h47_
  by_cases b50_ : nl > nh
  · have h51_ := (if_pos b50_).symm.trans h49_
    obtain rfl := Option.some.inj h51_
    exact con_pc (op := true) (I := [22]) (sp := figErr_sp) 3000 (bF 15 (bT 1 (bF 9 (bT 1 (bF 9 (bT 1 (bF 11 (bT 1 (bF 1 (bT 2 [])))))))))) [.one (.bool r0), .one (.bool r1), .one (.bool r2), .one (.bool r3), .one (.bool r4), .one (.bool r5), .one (.bool r6), .one (.bool r7), .one (.bool r8)] [c_nn b5_, c_nn b5_, c_nn b5_, c_nn b5_, c_nn b5_, c_nn b5_, c_nn b5_, c_nn b10_, c_nn b10_, c_nn b10_, c_nn b10_, c_nn b10_, c_nn b10_, c_nn b10_, c_nn b15_, c_T, c_nn b20_, c_nn b20_, c_nn b20_, c_nn b20_, c_nn b20_, c_nn b20_, c_nn b20_, c_nn b20_, c_nn b25_, c_T, c_nn b30_, c_nn b30_, c_nn b30_, c_nn b30_, c_nn b30_, c_nn b30_, c_nn b30_, c_nn b30_, c_nn b35_, c_T, c_nn b40_, c_nn b40_, c_nn b40_, c_nn b40_, c_nn b40_, c_nn b40_, c_nn b40_, c_nn b40_, c_nn b45_, c_F, c_n b46_, c_T, c_n b48_, c_T, c_d b50_] [k_c f1_, k_c f6_, k_c f11_, k_c f16_, k_c f21_, k_c f26_, k_c f31_, k_c f36_, k_c f41_] (by kernel_rfl)
  have h51_ := (if_neg b50_).symm.trans h49_
  by_cases b52_ : ul > uh
  · have h53_ := (if_pos b52_).symm.trans h51_
    obtain rfl := Option.some.inj h53_
    exact con_pc (op := true) (I := [22]) (sp := figErr_sp) 3000 (bF 15 (bT 1 (bF 9 (bT 1 (bF 9 (bT 1 (bF 11 (bT 1 (bF 1 (bT 1 (bF 1 (bT 2 [])))))))))))) [.one (.bool r0), .one (.bool r1), .one (.bool r2), .one (.bool r3), .one (.bool r4), .one (.bool r5), .one (.bool r6), .one (.bool r7), .one (.bool r8)] [c_nn b5_, c_nn b5_, c_nn b5_, c_nn b5_, c_nn b5_, c_nn b5_, c_nn b5_, c_nn b10_, c_nn b10_, c_nn b10_, c_nn b10_, c_nn b10_, c_nn b10_, c_nn b10_, c_nn b15_, c_T, c_nn b20_, c_nn b20_, c_nn b20_, c_nn b20_, c_nn b20_, c_nn b20_, c_nn b20_, c_nn b20_, c_nn b25_, c_T, c_nn b30_, c_nn b30_, c_nn b30_, c_nn b30_, c_nn b30_, c_nn b30_, c_nn b30_, c_nn b30_, c_nn b35_, c_T, c_nn b40_, c_nn b40_, c_nn b40_, c_nn b40_, c_nn b40_, c_nn b40_, c_nn b40_, c_nn b40_, c_nn b45_, c_F, c_n b46_, c_T, c_n b48_, c_T, c_n b50_, c_T, c_d b52_] [k_c f1_, k_c f6_, k_c f11_, k_c f16_, k_c f21_, k_c f26_, k_c f31_, k_c f36_, k_c f41_] (by kernel_rfl)
  have h53_ := (if_neg b52_).symm.trans h51_
  obtain rfl := Option.some.inj h53_
  exact con_pc (op := true) (I := [22]) (sp := figErr_sp) 3000 (bF 15 (bT 1 (bF 9 (bT 1 (bF 9 (bT 1 (bF 11 (bT 1 (bF 1 (bT 1 (bF 1 (bT 1 (bF 2 []))))))))))))) [.one (.bool r0), .one (.bool r1), .one (.bool r2), .one (.bool r3), .one (.bool r4), .one (.bool r5), .one (.bool r6), .one (.bool r7), .one (.bool r8)] [c_nn b5_, c_nn b5_, c_nn b5_, c_nn b5_, c_nn b5_, c_nn b5_, c_nn b5_, c_nn b10_, c_nn b10_, c_nn b10_, c_nn b10_, c_nn b10_, c_nn b10_, c_nn b10_, c_nn b15_, c_T, c_nn b20_, c_nn b20_, c_nn b20_, c_nn b20_, c_nn b20_, c_nn b20_, c_nn b20_, c_nn b20_, c_nn b25_, c_T, c_nn b30_, c_nn b30_, c_nn b30_, c_nn b30_, c_nn b30_, c_nn b30_, c_nn b30_, c_nn b30_, c_nn b35_, c_T, c_nn b40_, c_nn b40_, c_nn b40_, c_nn b40_, c_nn b40_, c_nn b40_, c_nn b40_, c_nn b40_, c_nn b45_, c_F, c_n b46_, c_T, c_n b48_, c_T, c_n b50_, c_T, c_n b52_, c_F] [k_c f1_, k_c f6_, k_c f11_, k_c f16_, k_c f21_, k_c f26_, k_c f31_, k_c f36_, k_c f41_] (by kernel_rfl)
def m_22 (ds : List D) : Option D := pullD (α := Int × Int × Int × Int × Int × Int × Int × Int × Int) (some (.tup ds)) (fun d => ((D.vi (D.at (D.at d 0) 0)), (D.vi (D.at (D.at d 0) 1)), (D.vi (D.at (D.at d 0) 2)), (D.vi (D.at (D.at d 0) 3)), (D.vi (D.at (D.at d 0) 4)), (D.vi (D.at (D.at d 0) 5)), (D.vi (D.at (D.at d 0) 6)), (D.vi (D.at (D.at d 0) 7)), (D.vi (D.at (D.at d 0) 8)))) (fun (ga, pl, ph, tl, th, nl, nh, ul, uh) => .tup [(shNK1_0 ga pl ph tl th nl nh ul uh)]) fun (ga, pl, ph, tl, th, nl, nh, ul, uh) => figErr_M ga pl ph tl th nl nh ul uh
theorem m_22_ok {ds : List D} {r : D} (h : m_22 ds = some r) : Con 22 ds r := by
  unfold m_22 at h
  obtain ⟨⟨ga, pl, ph, tl, th, nl, nh, ul, uh⟩, e0, h0⟩ := pullD_elim h
  obtain rfl := tup_inj e0
  exact figErr_M_ok ga pl ph tl th nl nh ul uh h0
theorem m_22_eq (ga pl ph tl th nl nh ul uh : Int) : m_22 [(shNK1_0 ga pl ph tl th nl nh ul uh)] = figErr_M ga pl ph tl th nl nh ul uh := pullD_some (ga, pl, ph, tl, th, nl, nh, ul, uh) rfl rfl
def frontR_sp : List LSpec := []
def frontR_M (ga pl ph tl th nl nh ul uh : Int) (n : Int) : Option D := pullD (α := Int) (m_65 [iD (IntKind.i64.wrap (IntKind.i64.wrap ((5 : Int) * IntKind.i64.wrap (nl - th)) * n)), iD (3 : Int)]) (fun d => ((D.vi d))) (fun r0 => iD r0) fun r0 => (pullD (α := Int) (m_66 [iD (IntKind.i64.wrap (IntKind.i64.wrap ((5 : Int) * IntKind.i64.wrap (nh - tl)) * n)), iD (3 : Int)]) (fun d => ((D.vi d))) (fun r1 => iD r1) fun r1 => (some (.agg [iD r0, iD r1])))
theorem frontR_M_ok (ga pl ph tl th nl nh ul uh : Int) (n : Int) {r : D} (h : frontR_M ga pl ph tl th nl nh ul uh n = some r) : Con 25 [(shNK1_0 ga pl ph tl th nl nh ul uh), iD n] r := by
  unfold frontR_M at h
  obtain ⟨r0, f1_, h2_⟩ := pullD_elim h
  replace f1_ := m_65_ok f1_
  obtain ⟨r1, f3_, h4_⟩ := pullD_elim h2_
  replace f3_ := m_66_ok f3_
  obtain rfl := Option.some.inj h4_
  exact con_pc (op := true) (I := [25]) (sp := frontR_sp) 3000 [] [iD r0, iD r1] [] [k_c f1_, k_c f3_] (by kernel_rfl)
def m_25 (ds : List D) : Option D := pullD (α := Int × Int × Int × Int × Int × Int × Int × Int × Int × Int) (some (.tup ds)) (fun d => ((D.vi (D.at (D.at d 0) 0)), (D.vi (D.at (D.at d 0) 1)), (D.vi (D.at (D.at d 0) 2)), (D.vi (D.at (D.at d 0) 3)), (D.vi (D.at (D.at d 0) 4)), (D.vi (D.at (D.at d 0) 5)), (D.vi (D.at (D.at d 0) 6)), (D.vi (D.at (D.at d 0) 7)), (D.vi (D.at (D.at d 0) 8)), (D.vi (D.at d 1)))) (fun (ga, pl, ph, tl, th, nl, nh, ul, uh, n) => .tup [(shNK1_0 ga pl ph tl th nl nh ul uh), iD n]) fun (ga, pl, ph, tl, th, nl, nh, ul, uh, n) => frontR_M ga pl ph tl th nl nh ul uh n
theorem m_25_ok {ds : List D} {r : D} (h : m_25 ds = some r) : Con 25 ds r := by
  unfold m_25 at h
  obtain ⟨⟨ga, pl, ph, tl, th, nl, nh, ul, uh, n⟩, e0, h0⟩ := pullD_elim h
  obtain rfl := tup_inj e0
  exact frontR_M_ok ga pl ph tl th nl nh ul uh n h0
theorem m_25_eq (ga pl ph tl th nl nh ul uh : Int) (n : Int) : m_25 [(shNK1_0 ga pl ph tl th nl nh ul uh), iD n] = frontR_M ga pl ph tl th nl nh ul uh n := pullD_some (ga, pl, ph, tl, th, nl, nh, ul, uh, n) rfl rfl
def tailR_sp : List LSpec := []
def tailR_M (ga pl ph tl th nl nh ul uh : Int) (n : Int) : Option D := pullD (α := Int) (m_65 [iD (IntKind.i64.wrap (IntKind.i64.wrap (IntKind.i64.wrap (IntKind.i64.wrap ((2 : Int) * ul) - IntKind.i64.wrap ((3 : Int) * th)) + nl) * n)), iD (2 : Int)]) (fun d => ((D.vi d))) (fun r0 => iD r0) fun r0 => (pullD (α := Int) (m_66 [iD (IntKind.i64.wrap (IntKind.i64.wrap (IntKind.i64.wrap (IntKind.i64.wrap ((2 : Int) * uh) - IntKind.i64.wrap ((3 : Int) * tl)) + nh) * n)), iD (2 : Int)]) (fun d => ((D.vi d))) (fun r1 => iD r1) fun r1 => (some (.agg [iD r0, iD r1])))
theorem tailR_M_ok (ga pl ph tl th nl nh ul uh : Int) (n : Int) {r : D} (h : tailR_M ga pl ph tl th nl nh ul uh n = some r) : Con 26 [(shNK1_0 ga pl ph tl th nl nh ul uh), iD n] r := by
  unfold tailR_M at h
  obtain ⟨r0, f1_, h2_⟩ := pullD_elim h
  replace f1_ := m_65_ok f1_
  obtain ⟨r1, f3_, h4_⟩ := pullD_elim h2_
  replace f3_ := m_66_ok f3_
  obtain rfl := Option.some.inj h4_
  exact con_pc (op := true) (I := [26]) (sp := tailR_sp) 3000 [] [iD r0, iD r1] [] [k_c f1_, k_c f3_] (by kernel_rfl)
def m_26 (ds : List D) : Option D := pullD (α := Int × Int × Int × Int × Int × Int × Int × Int × Int × Int) (some (.tup ds)) (fun d => ((D.vi (D.at (D.at d 0) 0)), (D.vi (D.at (D.at d 0) 1)), (D.vi (D.at (D.at d 0) 2)), (D.vi (D.at (D.at d 0) 3)), (D.vi (D.at (D.at d 0) 4)), (D.vi (D.at (D.at d 0) 5)), (D.vi (D.at (D.at d 0) 6)), (D.vi (D.at (D.at d 0) 7)), (D.vi (D.at (D.at d 0) 8)), (D.vi (D.at d 1)))) (fun (ga, pl, ph, tl, th, nl, nh, ul, uh, n) => .tup [(shNK1_0 ga pl ph tl th nl nh ul uh), iD n]) fun (ga, pl, ph, tl, th, nl, nh, ul, uh, n) => tailR_M ga pl ph tl th nl nh ul uh n
theorem m_26_ok {ds : List D} {r : D} (h : m_26 ds = some r) : Con 26 ds r := by
  unfold m_26 at h
  obtain ⟨⟨ga, pl, ph, tl, th, nl, nh, ul, uh, n⟩, e0, h0⟩ := pullD_elim h
  obtain rfl := tup_inj e0
  exact tailR_M_ok ga pl ph tl th nl nh ul uh n h0
theorem m_26_eq (ga pl ph tl th nl nh ul uh : Int) (n : Int) : m_26 [(shNK1_0 ga pl ph tl th nl nh ul uh), iD n] = tailR_M ga pl ph tl th nl nh ul uh n := pullD_some (ga, pl, ph, tl, th, nl, nh, ul, uh, n) rfl rfl
def law4_sp : List LSpec := []
def law4_M (ga pl ph tl th nl nh ul uh : Int) (n : Int) : Option D := pullD (α := Bool) (m_9 []) (fun d => ((D.vb d))) (fun r0 => .one (.bool r0)) fun r0 => ((if r0 = false then some (.one (.bool false)) else pullD (α := Int × Int × Int) (m_20 [(shNK1_0 ga pl ph tl th nl nh ul uh), iD n]) (fun d => ((D.vi (D.at (D.at d 0) 0)), (D.vi (D.at (D.at d 0) 1)), (D.vi (D.at d 1)))) (fun (r1, r2, r3) => .tup [.agg [iD r1, iD r2], iD r3]) fun (r1, r2, r3) => (pullD (α := Int × Int × Int) (m_21 [(shNK1_0 ga pl ph tl th nl nh ul uh), iD n]) (fun d => ((D.vi (D.at (D.at d 0) 0)), (D.vi (D.at (D.at d 0) 1)), (D.vi (D.at d 1)))) (fun (r4, r5, r6) => .tup [.agg [iD r4, iD r5], iD r6]) fun (r4, r5, r6) => (pullD (α := Int) (m_22 [(shNK1_0 ga pl ph tl th nl nh ul uh)]) (fun d => ((D.vi d))) (fun r7 => iD r7) fun r7 => (pullD (α := Int) (m_23 [(shNK1_0 ga pl ph tl th nl nh ul uh)]) (fun d => ((D.vi d))) (fun r8 => iD r8) fun r8 => ((if r8 ≠ r7 then some (.one (.bool false)) else (if r7 = (0 : Int) then pullD (α := Bool) (m_24 [iD n, iD (1 : Int), iD (1000000 : Int)]) (fun d => ((D.vb d))) (fun r9 => .one (.bool r9)) fun r9 => ((if r9 = false then (if r3 = (2 : Int) then (if r6 = (2 : Int) then (if (r1 == (0 : Int) && (r2 == (0 : Int) && true)) = true then some (.one (.bool (r4 == (0 : Int) && (r5 == (0 : Int) && true)))) else some (.one (.bool false))) else some (.one (.bool false))) else some (.one (.bool false))) else (if r3 = (0 : Int) then pullD (α := Int × Int) (m_25 [(shNK1_0 ga pl ph tl th nl nh ul uh), iD n]) (fun d => ((D.vi (D.at d 0)), (D.vi (D.at d 1)))) (fun (r10, r11) => .agg [iD r10, iD r11]) fun (r10, r11) => ((if (r1 == r10 && (r2 == r11 && true)) = true then (if r6 = (0 : Int) then pullD (α := Int × Int) (m_26 [(shNK1_0 ga pl ph tl th nl nh ul uh), iD n]) (fun d => ((D.vi (D.at d 0)), (D.vi (D.at d 1)))) (fun (r12, r13) => .agg [iD r12, iD r13]) fun (r12, r13) => (some (.one (.bool (r4 == r12 && (r5 == r13 && true))))) else some (.one (.bool false))) else some (.one (.bool false)))) else some (.one (.bool false))))) else (if r3 = r7 then (if r6 = r7 then (if (r1 == (0 : Int) && (r2 == (0 : Int) && true)) = true then some (.one (.bool (r4 == (0 : Int) && (r5 == (0 : Int) && true)))) else some (.one (.bool false))) else some (.one (.bool false))) else some (.one (.bool false)))))))))))
theorem law4_M_ok (ga pl ph tl th nl nh ul uh : Int) (n : Int) {r : D} (h : law4_M ga pl ph tl th nl nh ul uh n = some r) : Con 4 [(shNK1_0 ga pl ph tl th nl nh ul uh), iD n] r := by
  unfold law4_M at h
  obtain ⟨r0, f1_, h2_⟩ := pullD_elim h
  replace f1_ := m_9_ok f1_
  by_cases b3_ : r0 = false
  · have h4_ := (if_pos b3_).symm.trans h2_
    obtain rfl := Option.some.inj h4_
    exact con_pc (op := true) (I := [4]) (sp := law4_sp) 3000 (bT 1 []) [.one (.bool r0)] [c_no b3_] [k_c f1_] (by kernel_rfl)
  have h4_ := (if_neg b3_).symm.trans h2_
  have b5_ : r0 = true := by first | exact b3_ | simpa using b3_
  obtain ⟨⟨r1, r2, r3⟩, f6_, h7_⟩ := pullD_elim h4_
  replace f6_ := m_20_ok f6_
  obtain ⟨⟨r4, r5, r6⟩, f8_, h9_⟩ := pullD_elim h7_
  replace f8_ := m_21_ok f8_
  obtain ⟨r7, f10_, h11_⟩ := pullD_elim h9_
  replace f10_ := m_22_ok f10_
  obtain ⟨r8, f12_, h13_⟩ := pullD_elim h11_
  replace f12_ := m_23_ok f12_
  by_cases b14_ : r8 ≠ r7
  · have h15_ := (if_pos b14_).symm.trans h13_
    obtain rfl := Option.some.inj h15_
    exact con_pc (op := true) (I := [4]) (sp := law4_sp) 3000 (bF 1 (bT 1 [])) [.one (.bool r0), .tup [.agg [iD r1, iD r2], iD r3], .tup [.agg [iD r4, iD r5], iD r6], iD r7, iD r8] [c_nn b5_, c_b b14_] [k_c f1_, k_c f6_, k_c f8_, k_c f10_, k_c f12_] (by kernel_rfl)
  have h15_ := (if_neg b14_).symm.trans h13_
  have b16_ : r8 = r7 := by first | exact b14_ | simpa using b14_
  by_cases b17_ : r7 = (0 : Int)
  · have h18_ := (if_pos b17_).symm.trans h15_
    obtain ⟨r9, f19_, h20_⟩ := pullD_elim h18_
    replace f19_ := m_24_ok f19_
    by_cases b21_ : r9 = false
    · have h22_ := (if_pos b21_).symm.trans h20_
      by_cases b23_ : r3 = (2 : Int)
      · have h24_ := (if_pos b23_).symm.trans h22_
        by_cases b25_ : r6 = (2 : Int)
        · have h26_ := (if_pos b25_).symm.trans h24_
          by_cases b27_ : (r1 == (0 : Int) && (r2 == (0 : Int) && true)) = true
          · have h28_ := (if_pos b27_).symm.trans h26_
            obtain rfl := Option.some.inj h28_
            exact con_pc (op := true) (I := [4]) (sp := law4_sp) 3000 (bF 2 (bT 18 [])) [.one (.bool r0), .tup [.agg [iD r1, iD r2], iD r3], .tup [.agg [iD r4, iD r5], iD r6], iD r7, iD r8, .one (.bool r9)] [c_nn b5_, c_bn b16_, c_e b17_, c_e b17_, c_e b17_, c_e b17_, c_no b21_, c_T, c_e b23_, c_e b23_, c_e b23_, c_e b23_, c_e b25_, c_e b25_, c_e b25_, c_e b25_, c_q b27_, c_q b27_, c_q b27_, c_q b27_] [k_c f1_, k_c f6_, k_c f8_, k_c f10_, k_c f12_, k_c f19_] (by kernel_rfl)
          have h28_ := (if_neg b27_).symm.trans h26_
          have b29_ : (r1 == (0 : Int) && (r2 == (0 : Int) && true)) = false := by first | exact b27_ | simpa using b27_
          obtain rfl := Option.some.inj h28_
          exact con_pc (op := true) (I := [4]) (sp := law4_sp) 3000 (bF 2 (bT 14 (bF 4 []))) [.one (.bool r0), .tup [.agg [iD r1, iD r2], iD r3], .tup [.agg [iD r4, iD r5], iD r6], iD r7, iD r8, .one (.bool r9)] [c_nn b5_, c_bn b16_, c_e b17_, c_e b17_, c_e b17_, c_e b17_, c_no b21_, c_T, c_e b23_, c_e b23_, c_e b23_, c_e b23_, c_e b25_, c_e b25_, c_e b25_, c_e b25_, c_q b29_, c_q b29_, c_q b29_, c_q b29_] [k_c f1_, k_c f6_, k_c f8_, k_c f10_, k_c f12_, k_c f19_] (by kernel_rfl)
        have h26_ := (if_neg b25_).symm.trans h24_
        have b30_ : r6 ≠ (2 : Int) := by first | exact b25_ | simpa using b25_
        obtain rfl := Option.some.inj h26_
        exact con_pc (op := true) (I := [4]) (sp := law4_sp) 3000 (bF 2 (bT 10 (bF 8 []))) [.one (.bool r0), .tup [.agg [iD r1, iD r2], iD r3], .tup [.agg [iD r4, iD r5], iD r6], iD r7, iD r8, .one (.bool r9)] [c_nn b5_, c_bn b16_, c_e b17_, c_e b17_, c_e b17_, c_e b17_, c_no b21_, c_T, c_e b23_, c_e b23_, c_e b23_, c_e b23_, c_en b30_, c_en b30_, c_en b30_, c_en b30_, c_F, c_F, c_F, c_F] [k_c f1_, k_c f6_, k_c f8_, k_c f10_, k_c f12_, k_c f19_] (by kernel_rfl)
      have h24_ := (if_neg b23_).symm.trans h22_
      have b31_ : r3 ≠ (2 : Int) := by first | exact b23_ | simpa using b23_
      obtain rfl := Option.some.inj h24_
      exact con_pc (op := true) (I := [4]) (sp := law4_sp) 3000 (bF 2 (bT 6 (bF 12 []))) [.one (.bool r0), .tup [.agg [iD r1, iD r2], iD r3], .tup [.agg [iD r4, iD r5], iD r6], iD r7, iD r8, .one (.bool r9)] [c_nn b5_, c_bn b16_, c_e b17_, c_e b17_, c_e b17_, c_e b17_, c_no b21_, c_T, c_en b31_, c_en b31_, c_en b31_, c_en b31_, c_F, c_F, c_F, c_F, c_F, c_F, c_F, c_F] [k_c f1_, k_c f6_, k_c f8_, k_c f10_, k_c f12_, k_c f19_] (by kernel_rfl)
    have h22_ := (if_neg b21_).symm.trans h20_
    have b32_ : r9 = true := by first | exact b21_ | simpa using b21_
    by_cases b33_ : r3 = (0 : Int)
    · have h34_ := (if_pos b33_).symm.trans h22_
      obtain ⟨⟨r10, r11⟩, f35_, h36_⟩ := pullD_elim h34_
      replace f35_ := m_25_ok f35_
      by_cases b37_ : (r1 == r10 && (r2 == r11 && true)) = true
      · have h38_ := (if_pos b37_).symm.trans h36_
        by_cases b39_ : r6 = (0 : Int)
        · have h40_ := (if_pos b39_).symm.trans h38_
          obtain ⟨⟨r12, r13⟩, f41_, h42_⟩ := pullD_elim h40_
          replace f41_ := m_26_ok f41_
          obtain rfl := Option.some.inj h42_
          exact con_pc (op := true) (I := [4]) (sp := law4_sp) 3000 (bF 2 (bT 4 (bF 2 (bT 15 [])))) [.one (.bool r0), .tup [.agg [iD r1, iD r2], iD r3], .tup [.agg [iD r4, iD r5], iD r6], iD r7, iD r8, .one (.bool r9), .agg [iD r10, iD r11], .agg [iD r12, iD r13]] [c_nn b5_, c_bn b16_, c_e b17_, c_e b17_, c_e b17_, c_e b17_, c_nn b32_, c_bn b17_, c_e b33_, c_e b33_, c_e b33_, c_e b33_, c_e b33_, c_e b33_, c_q b37_, c_q b37_, c_q b37_, c_e b39_, c_e b39_, c_e b39_, c_e b39_, c_e b39_, c_e b39_] [k_c f1_, k_c f6_, k_c f8_, k_c f10_, k_c f12_, k_c f19_, k_c f35_, k_c f41_] (by kernel_rfl)
        have h40_ := (if_neg b39_).symm.trans h38_
        have b43_ : r6 ≠ (0 : Int) := by first | exact b39_ | simpa using b39_
        obtain rfl := Option.some.inj h40_
        exact con_pc (op := true) (I := [4]) (sp := law4_sp) 3000 (bF 2 (bT 4 (bF 2 (bT 9 (bF 6 []))))) [.one (.bool r0), .tup [.agg [iD r1, iD r2], iD r3], .tup [.agg [iD r4, iD r5], iD r6], iD r7, iD r8, .one (.bool r9), .agg [iD r10, iD r11]] [c_nn b5_, c_bn b16_, c_e b17_, c_e b17_, c_e b17_, c_e b17_, c_nn b32_, c_bn b17_, c_e b33_, c_e b33_, c_e b33_, c_e b33_, c_e b33_, c_e b33_, c_q b37_, c_q b37_, c_q b37_, c_en b43_, c_en b43_, c_en b43_, c_en b43_, c_en b43_, c_en b43_] [k_c f1_, k_c f6_, k_c f8_, k_c f10_, k_c f12_, k_c f19_, k_c f35_] (by kernel_rfl)
      have h38_ := (if_neg b37_).symm.trans h36_
      have b44_ : (r1 == r10 && (r2 == r11 && true)) = false := by first | exact b37_ | simpa using b37_
      obtain rfl := Option.some.inj h38_
      exact con_pc (op := true) (I := [4]) (sp := law4_sp) 3000 (bF 2 (bT 4 (bF 2 (bT 6 (bF 9 []))))) [.one (.bool r0), .tup [.agg [iD r1, iD r2], iD r3], .tup [.agg [iD r4, iD r5], iD r6], iD r7, iD r8, .one (.bool r9), .agg [iD r10, iD r11]] [c_nn b5_, c_bn b16_, c_e b17_, c_e b17_, c_e b17_, c_e b17_, c_nn b32_, c_bn b17_, c_e b33_, c_e b33_, c_e b33_, c_e b33_, c_e b33_, c_e b33_, c_q b44_, c_q b44_, c_q b44_, c_F, c_F, c_F, c_F, c_F, c_F] [k_c f1_, k_c f6_, k_c f8_, k_c f10_, k_c f12_, k_c f19_, k_c f35_] (by kernel_rfl)
    have h34_ := (if_neg b33_).symm.trans h22_
    have b45_ : r3 ≠ (0 : Int) := by first | exact b33_ | simpa using b33_
    obtain rfl := Option.some.inj h34_
    exact con_pc (op := true) (I := [4]) (sp := law4_sp) 3000 (bF 2 (bT 4 (bF 17 []))) [.one (.bool r0), .tup [.agg [iD r1, iD r2], iD r3], .tup [.agg [iD r4, iD r5], iD r6], iD r7, iD r8, .one (.bool r9)] [c_nn b5_, c_bn b16_, c_e b17_, c_e b17_, c_e b17_, c_e b17_, c_nn b32_, c_bn b17_, c_en b45_, c_en b45_, c_en b45_, c_en b45_, c_en b45_, c_en b45_, c_F, c_F, c_F, c_F, c_F, c_F, c_F, c_F, c_F] [k_c f1_, k_c f6_, k_c f8_, k_c f10_, k_c f12_, k_c f19_] (by kernel_rfl)
  have h18_ := (if_neg b17_).symm.trans h15_
  have b46_ : r7 ≠ (0 : Int) := by first | exact b17_ | simpa using b17_
  by_cases b47_ : r3 = r7
  · have h48_ := (if_pos b47_).symm.trans h18_
    by_cases b49_ : r6 = r7
    · have h50_ := (if_pos b49_).symm.trans h48_
      by_cases b51_ : (r1 == (0 : Int) && (r2 == (0 : Int) && true)) = true
      · have h52_ := (if_pos b51_).symm.trans h50_
        obtain rfl := Option.some.inj h52_
        exact con_pc (op := true) (I := [4]) (sp := law4_sp) 3000 (bF 7 (bT 13 [])) [.one (.bool r0), .tup [.agg [iD r1, iD r2], iD r3], .tup [.agg [iD r4, iD r5], iD r6], iD r7, iD r8] [c_nn b5_, c_bn b16_, c_en b46_, c_en b46_, c_en b46_, c_en b46_, c_F, c_b b46_, c_e b47_, c_e b47_, c_e b47_, c_e b47_, c_e b49_, c_e b49_, c_e b49_, c_e b49_, c_q b51_, c_q b51_, c_q b51_, c_q b51_] [k_c f1_, k_c f6_, k_c f8_, k_c f10_, k_c f12_] (by kernel_rfl)
      have h52_ := (if_neg b51_).symm.trans h50_
      have b53_ : (r1 == (0 : Int) && (r2 == (0 : Int) && true)) = false := by first | exact b51_ | simpa using b51_
      obtain rfl := Option.some.inj h52_
      exact con_pc (op := true) (I := [4]) (sp := law4_sp) 3000 (bF 7 (bT 9 (bF 4 []))) [.one (.bool r0), .tup [.agg [iD r1, iD r2], iD r3], .tup [.agg [iD r4, iD r5], iD r6], iD r7, iD r8] [c_nn b5_, c_bn b16_, c_en b46_, c_en b46_, c_en b46_, c_en b46_, c_F, c_b b46_, c_e b47_, c_e b47_, c_e b47_, c_e b47_, c_e b49_, c_e b49_, c_e b49_, c_e b49_, c_q b53_, c_q b53_, c_q b53_, c_q b53_] [k_c f1_, k_c f6_, k_c f8_, k_c f10_, k_c f12_] (by kernel_rfl)
    have h50_ := (if_neg b49_).symm.trans h48_
    have b54_ : r6 ≠ r7 := by first | exact b49_ | simpa using b49_
    obtain rfl := Option.some.inj h50_
    exact con_pc (op := true) (I := [4]) (sp := law4_sp) 3000 (bF 7 (bT 5 (bF 8 []))) [.one (.bool r0), .tup [.agg [iD r1, iD r2], iD r3], .tup [.agg [iD r4, iD r5], iD r6], iD r7, iD r8] [c_nn b5_, c_bn b16_, c_en b46_, c_en b46_, c_en b46_, c_en b46_, c_F, c_b b46_, c_e b47_, c_e b47_, c_e b47_, c_e b47_, c_en b54_, c_en b54_, c_en b54_, c_en b54_, c_F, c_F, c_F, c_F] [k_c f1_, k_c f6_, k_c f8_, k_c f10_, k_c f12_] (by kernel_rfl)
  have h48_ := (if_neg b47_).symm.trans h18_
  have b55_ : r3 ≠ r7 := by first | exact b47_ | simpa using b47_
  obtain rfl := Option.some.inj h48_
  exact con_pc (op := true) (I := [4]) (sp := law4_sp) 3000 (bF 7 (bT 1 (bF 12 []))) [.one (.bool r0), .tup [.agg [iD r1, iD r2], iD r3], .tup [.agg [iD r4, iD r5], iD r6], iD r7, iD r8] [c_nn b5_, c_bn b16_, c_en b46_, c_en b46_, c_en b46_, c_en b46_, c_F, c_b b46_, c_en b55_, c_en b55_, c_en b55_, c_en b55_, c_F, c_F, c_F, c_F, c_F, c_F, c_F, c_F] [k_c f1_, k_c f6_, k_c f8_, k_c f10_, k_c f12_] (by kernel_rfl)
def m_4 (ds : List D) : Option D := pullD (α := Int × Int × Int × Int × Int × Int × Int × Int × Int × Int) (some (.tup ds)) (fun d => ((D.vi (D.at (D.at d 0) 0)), (D.vi (D.at (D.at d 0) 1)), (D.vi (D.at (D.at d 0) 2)), (D.vi (D.at (D.at d 0) 3)), (D.vi (D.at (D.at d 0) 4)), (D.vi (D.at (D.at d 0) 5)), (D.vi (D.at (D.at d 0) 6)), (D.vi (D.at (D.at d 0) 7)), (D.vi (D.at (D.at d 0) 8)), (D.vi (D.at d 1)))) (fun (ga, pl, ph, tl, th, nl, nh, ul, uh, n) => .tup [(shNK1_0 ga pl ph tl th nl nh ul uh), iD n]) fun (ga, pl, ph, tl, th, nl, nh, ul, uh, n) => law4_M ga pl ph tl th nl nh ul uh n
theorem m_4_ok {ds : List D} {r : D} (h : m_4 ds = some r) : Con 4 ds r := by
  unfold m_4 at h
  obtain ⟨⟨ga, pl, ph, tl, th, nl, nh, ul, uh, n⟩, e0, h0⟩ := pullD_elim h
  obtain rfl := tup_inj e0
  exact law4_M_ok ga pl ph tl th nl nh ul uh n h0
theorem m_4_eq (ga pl ph tl th nl nh ul uh : Int) (n : Int) : m_4 [(shNK1_0 ga pl ph tl th nl nh ul uh), iD n] = law4_M ga pl ph tl th nl nh ul uh n := pullD_some (ga, pl, ph, tl, th, nl, nh, ul, uh, n) rfl rfl
end
end Go.Proofs.Ytjjbacbjdilhmaa
/- Figures and their times. -/
namespace Go.Proofs.Ytjjbacbjdilhmaa
open Go.Ev Go.RowKit
set_option maxRecDepth 100000
/-! ### Errors -/
def firstV : List Int → Int
  | [] => 0
  | x :: l => if x = 0 then firstV l else x
theorem first_go (k : Nat) : ∀ (pre l : List Int), k = (pre ++ l).length → k ≤ 1000000 → (∀ x ∈ pre, x = 0) →
    runR (firstOf_L2_S k ((pre ++ l).map iD)) (.next 0 [iD (pre.length : Int)]) = some (if firstV l = 0 then .out 0 [] else .out 1 [iD (firstV l)]) := by
  intro pre l
  induction l generalizing pre with
  | nil =>
    intro hk _ _
    rw [List.append_nil] at hk ⊢
    refine runR_exit ?_
    show firstOf_L2_S0 _ _ _ = _
    unfold firstOf_L2_S0
    rw [pullD_some (pre.length : Int) (by rfl) (by rfl), if_neg (by omega)]
  | cons x l ih =>
    intro hk hs hp
    have hg : (pre ++ x :: l)[pre.length]? = some x := by simp
    have hlt : pre.length < k := by rw [hk, List.length_append, List.length_cons]; omega
    by_cases hx : x = 0
    · have st : firstOf_L2_S k ((pre ++ x :: l).map iD) (.next 0 [iD (pre.length : Int)]) = some (.next 0 [iD (((pre ++ [x]).length : Nat) : Int)]) := by
        show firstOf_L2_S0 _ _ _ = _
        unfold firstOf_L2_S0
        rw [pullD_some (pre.length : Int) (by rfl) (by rfl), if_pos (by omega), guardP_pos (by omega), readW hg, pullI, if_neg (by simp [hx]), wrapJ _ (by omega) (by omega), List.length_append, List.length_singleton]
        rfl
      have h2 := ih (pre ++ [x]) (by rw [hk]; simp) hs (fun y hy => by
        rcases List.mem_append.1 hy with h | h
        · exact hp y h
        · simp at h; rw [h]; exact hx)
      rw [List.append_assoc, List.singleton_append] at h2
      rw [runR_next st, h2]
      simp [firstV, hx]
    · refine (runR_exit (j := 1) (es := [iD x]) ?_).trans ?_
      · show firstOf_L2_S0 _ _ _ = _
        unfold firstOf_L2_S0
        rw [pullD_some (pre.length : Int) (by rfl) (by rfl), if_pos (by omega), guardP_pos (by omega), readW hg, pullI, if_pos hx]
      · simp [firstV, hx]
theorem firstOf_eq (l : List Int) (hl : l.length ≤ 1000000) : m_50 [lD l] = some (iD (firstV l)) := by
  have h := first_go l.length [] l rfl hl (fun _ h => by cases h)
  simp only [List.nil_append, List.length_nil] at h
  have h : runR (firstOf_L2_S l.length (l.map iD)) (.next 0 [.one (.int .i64 0)]) = some (if firstV l = 0 then .out 0 [] else .out 1 [iD (firstV l)]) := h
  rw [m_50_eq]
  unfold firstOf_M
  by_cases h0 : firstV l = 0
  · rw [if_pos h0] at h
    rw [bindL_some h, if_pos rfl, pullD_some () (by rfl) (by rfl), h0]
  · rw [if_neg h0] at h
    rw [bindL_some h, if_neg (by decide), if_pos rfl, pullD_some (firstV l) (by rfl) (by rfl)]
theorem f2 (x y : Int) : m_50 [.list 2 [iD x, iD y]] = some (iD (firstV [x, y])) := firstOf_eq [x, y] (by simp)
theorem f3 (x y z : Int) : m_50 [.list 3 [iD x, iD y, iD z]] = some (iD (firstV [x, y, z])) := firstOf_eq [x, y, z] (by simp)
/-- A loop that looks for what is not so. -/
theorem scanB {n : Nat} {ok : Nat → Bool} {bad : List D} {S : Rd → Option Rd} (hs : ∀ i, i < n → S (.next 0 [iD (i : Int)]) = if ok i = true then some (.next 0 [iD ((i + 1 : Nat) : Int)]) else some (.out 1 bad)) (he : S (.next 0 [iD (n : Int)]) = some (.out 0 [])) :
    ∀ m i, i + m = n → runR S (.next 0 [iD (i : Int)]) = if (List.range' i m).all ok = true then some (.out 0 []) else some (.out 1 bad) := by
  intro m
  induction m with
  | zero =>
    intro i hi
    have : i = n := by omega
    subst this
    rw [runR_exit he]; rfl
  | succ m ih =>
    intro i hi
    have h1 := hs i (by omega)
    rw [List.range'_succ, List.all_cons]
    cases h0 : ok i with
    | true =>
      rw [h0, if_pos rfl] at h1
      rw [runR_next h1, ih (i + 1) (by omega), Bool.true_and]
    | false =>
      rw [h0, if_neg (by decide)] at h1
      rw [runR_exit h1, Bool.false_and, if_neg (by decide)]
/-- Are all pairs in order? -/
def ordE (l : List (Int × Int)) : Int := if (List.range' 0 l.length).all (fun i => decide (ta l i ≤ va l i)) = true then 0 else 9
theorem inOrder_eq (l : List (Int × Int)) (hl : l.length ≤ 1000000) : m_64 [lP l] = some (iD (ordE l)) := by
  rw [m_64_eq]
  unfold inOrder_M
  have h := scanB (n := l.length) (ok := fun i => decide (ta l i ≤ va l i)) (bad := [iD 9]) (S := inOrder_L2_S l.length (cP l)) (fun i hi => by
    show inOrder_L2_S0 _ _ _ = _
    unfold inOrder_L2_S0
    rw [pullD_some (i : Int) (by rfl) (by rfl), if_pos (by omega), guardP_pos (by omega), show ((i : Int).toNat) = i from rfl, readP hi, pullD_some (ta l i, va l i) (by rfl) (by rfl), natI (by omega)]
    dsimp only
    by_cases h : ta l i ≤ va l i
    · rw [if_neg (by omega), if_pos (by simpa using h)]
    · rw [if_pos (by omega), if_neg (by simpa using h)]) (by
    show inOrder_L2_S0 _ _ _ = _
    unfold inOrder_L2_S0
    rw [pullD_some (l.length : Int) (by rfl) (by rfl), if_neg (by omega)]) l.length 0 (by omega)
  rw [Int.natCast_zero] at h
  unfold ordE
  by_cases q : (List.range' 0 l.length).all (fun i => decide (ta l i ≤ va l i)) = true
  · rw [if_pos q] at h ⊢
    rw [bindL_some h, if_pos rfl, pullD_some () (by rfl) (by rfl)]
  · rw [if_neg q] at h ⊢
    rw [bindL_some h, if_neg (by decide), if_pos rfl, pullD_some (9 : Int) (by rfl) (by rfl)]
theorem ord4 (a b c d e f g i : Int) : m_64 [.list 4 [iD a, iD b, iD c, iD d, iD e, iD f, iD g, iD i]] = some (iD (if a ≤ b ∧ c ≤ d ∧ e ≤ f ∧ g ≤ i then 0 else 9)) := by
  have := inOrder_eq [(a, b), (c, d), (e, f), (g, i)] (by simp)
  refine this.trans ?_
  congr 3
  unfold ordE
  simp [List.range', ta, va]
theorem ord1 (a b : Int) : m_64 [.list 1 [iD a, iD b]] = some (iD (if a ≤ b then 0 else 9)) := by
  have := inOrder_eq [(a, b)] (by simp)
  refine this.trans ?_
  congr 3
  unfold ordE
  simp [List.range', ta, va]
theorem within_eq (n lo hi : Int) : m_24 [iD n, iD lo, iD hi] = some (.one (.bool (decide (lo ≤ n ∧ n ≤ hi)))) := by
  rw [m_24_eq]
  unfold within_M
  by_cases h : lo ≤ n
  · rw [if_pos h]; simp [h]
  · rw [if_neg h]; simp [h]
/-! ### Rounded -/
def flW (n d : Int) : Int := if n.tmod d < 0 then IntKind.i64.wrap (IntKind.i64.wrap (n.tdiv d) - 1) else IntKind.i64.wrap (n.tdiv d)
def ceW (n d : Int) : Int := IntKind.i64.wrap (0 - flW (IntKind.i64.wrap (0 - n)) d)
theorem rdown_eq (n : Int) {d : Int} (hd : d ≠ 0) : m_67 [iD n, iD d] = some (iD (flW n d)) := by
  rw [m_67_eq]
  unfold rdown_M flW
  rw [guardP_pos hd]
  split <;> rfl
theorem floor_eq (n : Int) {d : Int} (hd : d ≠ 0) : m_65 [iD n, iD d] = some (iD (flW n d)) := by
  rw [m_65_eq]
  unfold floor_M flW
  rw [guardP_pos hd]
  split <;> rfl
theorem rup_eq (n : Int) {d : Int} (hd : d ≠ 0) : m_68 [iD n, iD d] = some (iD (ceW n d)) := by
  rw [m_68_eq]
  unfold rup_M ceW
  rw [rdown_eq _ hd, pullI]
theorem ceil_eq (n : Int) {d : Int} (hd : d ≠ 0) : m_66 [iD n, iD d] = some (iD (ceW n d)) := by
  rw [m_66_eq]
  unfold ceil_M ceW
  rw [floor_eq _ hd, pullI]
theorem rounded_eq (lo hi : Int) {d : Int} (hd : d ≠ 0) : m_62 [iD lo, iD hi, iD d] = some (.agg [iD (flW lo d), iD (ceW hi d)]) := by
  rw [m_62_eq]
  unfold rounded_M
  rw [rdown_eq _ hd, pullI, rup_eq _ hd, pullI]
/-! ### Figures -/
/-- Why figures are refused. -/
def figE (ga pl ph tl th nl nh ul uh : Int) : Int := if (0 ≤ ga ∧ ga ≤ 63 ∧ 1 ≤ pl ∧ pl ≤ 4196 ∧ 1 ≤ ph ∧ ph ≤ 4196 ∧ 0 ≤ tl ∧ tl ≤ 63 ∧ 0 ≤ th ∧ th ≤ 63 ∧ 0 ≤ nl ∧ nl ≤ 63 ∧ 0 ≤ nh ∧ nh ≤ 63 ∧ 0 ≤ ul ∧ ul ≤ 63 ∧ 0 ≤ uh ∧ uh ≤ 63) then (if pl ≤ ph ∧ tl ≤ th ∧ nl ≤ nh ∧ ul ≤ uh then 0 else 9) else 2
theorem fv2 (x y : Int) : firstV [2, x, y] = 2 := rfl
theorem fv02 (y : Int) : firstV [0, 2, y] = 2 := rfl
theorem fv00 (y : Int) : firstV [0, 0, y] = y := by
  unfold firstV firstV firstV
  simp only [if_true]
  split
  · rename_i h; rw [h]; rfl
  · rfl
theorem cf_s0 (ga pl ph tl th nl nh ul uh : Int) : chkFigures_M_s0 ga pl ph tl th nl nh ul uh = some (iD 2) := by
  unfold chkFigures_M_s0
  simp only [ord4, pullI, f3, fv2, ite_self]
theorem cf_s1 (ga pl ph tl th nl nh ul uh : Int) : chkFigures_M_s1 ga pl ph tl th nl nh ul uh = some (iD 2) := by
  unfold chkFigures_M_s1
  simp only [ord4, pullI, f3, fv2, ite_self]
theorem cf_s2 (ga pl ph tl th nl nh ul uh : Int) : chkFigures_M_s2 ga pl ph tl th nl nh ul uh = some (iD 2) := by
  unfold chkFigures_M_s2
  simp only [ord4, pullI, f3, fv2, ite_self]
theorem cf_s3 (ga pl ph tl th nl nh ul uh : Int) : chkFigures_M_s3 ga pl ph tl th nl nh ul uh = some (iD 2) := by
  unfold chkFigures_M_s3
  simp only [ord4, pullI, f3, fv2, ite_self]
theorem cf_s4 (ga pl ph tl th nl nh ul uh : Int) : chkFigures_M_s4 ga pl ph tl th nl nh ul uh = some (iD 2) := by
  unfold chkFigures_M_s4
  simp only [ord4, pullI, f3, fv2, ite_self]
theorem cf_s5 (ga pl ph tl th nl nh ul uh : Int) : chkFigures_M_s5 ga pl ph tl th nl nh ul uh = some (iD 2) := by
  unfold chkFigures_M_s5
  simp only [ord4, pullI, f3, fv2, ite_self]
theorem cf_s6 (ga pl ph tl th nl nh ul uh : Int) : chkFigures_M_s6 ga pl ph tl th nl nh ul uh = some (iD 2) := by
  unfold chkFigures_M_s6
  simp only [ord4, pullI, f3, fv2, ite_self]
theorem cf_s7 (ga pl ph tl th nl nh ul uh : Int) : chkFigures_M_s7 ga pl ph tl th nl nh ul uh = some (iD 2) := by
  unfold chkFigures_M_s7
  simp only [ord4, pullI, f3, fv2, ite_self]
theorem cf_s8 (ga pl ph tl th nl nh ul uh : Int) : chkFigures_M_s8 ga pl ph tl th nl nh ul uh = some (iD 2) := by
  unfold chkFigures_M_s8
  simp only [ord4, pullI, f3, fv2, ite_self]
theorem cf_s9 (ga pl ph tl th nl nh ul uh : Int) : chkFigures_M_s9 ga pl ph tl th nl nh ul uh = some (iD 2) := by
  unfold chkFigures_M_s9
  simp only [ord4, pullI, f3, fv2, ite_self]
theorem cf_s10 (ga pl ph tl th nl nh ul uh : Int) : chkFigures_M_s10 ga pl ph tl th nl nh ul uh = some (iD 2) := by
  unfold chkFigures_M_s10
  simp only [ord4, pullI, f3, fv2, ite_self]
theorem cf_s11 (ga pl ph tl th nl nh ul uh : Int) : chkFigures_M_s11 ga pl ph tl th nl nh ul uh = some (iD (if ul ≤ 63 ∧ 0 ≤ uh ∧ uh ≤ 63 then (if 1 ≤ pl ∧ pl ≤ 4196 ∧ 1 ≤ ph ∧ ph ≤ 4196 then (if pl ≤ ph ∧ tl ≤ th ∧ nl ≤ nh ∧ ul ≤ uh then 0 else 9) else 2) else 2)) := by
  unfold chkFigures_M_s11
  simp only [ord4, pullI, f3, fv2, fv02, fv00, ite_self]
  generalize (if pl ≤ ph ∧ tl ≤ th ∧ nl ≤ nh ∧ ul ≤ uh then (0 : Int) else 9) = z
  by_cases a : ul ≤ 63 ∧ 0 ≤ uh ∧ uh ≤ 63
  · rw [if_pos a, if_neg (by omega), if_neg (by omega), if_neg (by omega)]
    by_cases b : 1 ≤ pl ∧ pl ≤ 4196 ∧ 1 ≤ ph ∧ ph ≤ 4196
    · rw [if_pos b, if_neg (by omega), if_neg (by omega), if_neg (by omega), if_neg (by omega)]
    · rw [if_neg b]
      repeat' split
      all_goals first | rfl | (exfalso; omega)
  · rw [if_neg a]
    split
    · rfl
    split
    · rfl
    split
    · rfl
    exfalso; omega
theorem chkFigures_eq (ga pl ph tl th nl nh ul uh : Int) : m_23 [.agg [iD ga, iD pl, iD ph, iD tl, iD th, iD nl, iD nh, iD ul, iD uh]] = some (iD (figE ga pl ph tl th nl nh ul uh)) := by
  rw [m_23_eq]
  unfold chkFigures_M figE
  simp only [cf_s0, cf_s1, cf_s2, cf_s3, cf_s4, cf_s5, cf_s6, cf_s7, cf_s8, cf_s9, cf_s10, cf_s11]
  generalize (if pl ≤ ph ∧ tl ≤ th ∧ nl ≤ nh ∧ ul ≤ uh then (0 : Int) else 9) = z
  by_cases a : 0 ≤ ga ∧ ga ≤ 63 ∧ 0 ≤ tl ∧ tl ≤ 63 ∧ 0 ≤ th ∧ th ≤ 63 ∧ 0 ≤ nl ∧ nl ≤ 63 ∧ 0 ≤ nh ∧ nh ≤ 63 ∧ 0 ≤ ul
  · rw [if_neg (by omega), if_neg (by omega), if_neg (by omega), if_neg (by omega), if_neg (by omega), if_neg (by omega), if_neg (by omega), if_neg (by omega), if_neg (by omega), if_neg (by omega), if_neg (by omega)]
    repeat' split
    all_goals first | rfl | (exfalso; omega)
  · rw [if_neg (c := 0 ≤ ga ∧ ga ≤ 63 ∧ 1 ≤ pl ∧ pl ≤ 4196 ∧ 1 ≤ ph ∧ ph ≤ 4196 ∧ 0 ≤ tl ∧ tl ≤ 63 ∧ 0 ≤ th ∧ th ≤ 63 ∧ 0 ≤ nl ∧ nl ≤ 63 ∧ 0 ≤ nh ∧ nh ≤ 63 ∧ 0 ≤ ul ∧ ul ≤ 63 ∧ 0 ≤ uh ∧ uh ≤ 63) (by omega)]
    by_cases q0 : ga < 0
    · rw [if_pos q0]
    rw [if_neg q0]
    by_cases q1 : ga > 63
    · rw [if_pos q1]
    rw [if_neg q1]
    by_cases q2 : tl < 0
    · rw [if_pos q2]
    rw [if_neg q2]
    by_cases q3 : tl > 63
    · rw [if_pos q3]
    rw [if_neg q3]
    by_cases q4 : th < 0
    · rw [if_pos q4]
    rw [if_neg q4]
    by_cases q5 : th > 63
    · rw [if_pos q5]
    rw [if_neg q5]
    by_cases q6 : nl < 0
    · rw [if_pos q6]
    rw [if_neg q6]
    by_cases q7 : nl > 63
    · rw [if_pos q7]
    rw [if_neg q7]
    by_cases q8 : nh < 0
    · rw [if_pos q8]
    rw [if_neg q8]
    by_cases q9 : nh > 63
    · rw [if_pos q9]
    rw [if_neg q9]
    by_cases q10 : ul < 0
    · rw [if_pos q10]
    rw [if_neg q10]
    exfalso; omega
theorem figErr_eq (ga pl ph tl th nl nh ul uh : Int) : m_22 [.agg [iD ga, iD pl, iD ph, iD tl, iD th, iD nl, iD nh, iD ul, iD uh]] = some (iD (figE ga pl ph tl th nl nh ul uh)) := by
  rw [m_22_eq]
  unfold figErr_M figE
  simp only [within_eq, pullB, decide_eq_false_iff_not]
  by_cases a : 0 ≤ ga ∧ ga ≤ 63 ∧ 1 ≤ pl ∧ pl ≤ 4196 ∧ 1 ≤ ph ∧ ph ≤ 4196 ∧ 0 ≤ tl ∧ tl ≤ 63 ∧ 0 ≤ th ∧ th ≤ 63 ∧ 0 ≤ nl ∧ nl ≤ 63 ∧ 0 ≤ nh ∧ nh ≤ 63 ∧ 0 ≤ ul ∧ ul ≤ 63 ∧ 0 ≤ uh ∧ uh ≤ 63
  · rw [if_pos a, if_neg (by omega), if_neg (by omega), if_neg (by omega), if_neg (by omega), if_neg (by omega), if_neg (by omega), if_neg (by omega), if_neg (by omega), if_neg (by omega)]
    repeat' split
    all_goals first | rfl | (exfalso; omega)
  · rw [if_neg a]
    by_cases q0 : ¬ (0 ≤ ga ∧ ga ≤ 63)
    · rw [if_pos q0]
    rw [if_neg q0]
    by_cases q1 : ¬ (1 ≤ pl ∧ pl ≤ 4196)
    · rw [if_pos q1]
    rw [if_neg q1]
    by_cases q2 : ¬ (1 ≤ ph ∧ ph ≤ 4196)
    · rw [if_pos q2]
    rw [if_neg q2]
    by_cases q3 : ¬ (0 ≤ tl ∧ tl ≤ 63)
    · rw [if_pos q3]
    rw [if_neg q3]
    by_cases q4 : ¬ (0 ≤ th ∧ th ≤ 63)
    · rw [if_pos q4]
    rw [if_neg q4]
    by_cases q5 : ¬ (0 ≤ nl ∧ nl ≤ 63)
    · rw [if_pos q5]
    rw [if_neg q5]
    by_cases q6 : ¬ (0 ≤ nh ∧ nh ≤ 63)
    · rw [if_pos q6]
    rw [if_neg q6]
    by_cases q7 : ¬ (0 ≤ ul ∧ ul ≤ 63)
    · rw [if_pos q7]
    rw [if_neg q7]
    by_cases q8 : ¬ (0 ≤ uh ∧ uh ≤ 63)
    · rw [if_pos q8]
    rw [if_neg q8]
    exfalso; omega
/-! ### Times -/
def stepE (n : Int) : Int := if 1 ≤ n ∧ n ≤ 1000000 then 0 else 2
theorem chkStep_eq (n : Int) : m_53 [iD n] = some (iD (stepE n)) := by
  rw [m_53_eq]
  unfold chkStep_M stepE
  repeat' split
  all_goals first | rfl | (exfalso; omega)
theorem chkTimed_eq (ga pl ph tl th nl nh ul uh n : Int) : m_61 [.agg [iD ga, iD pl, iD ph, iD tl, iD th, iD nl, iD nh, iD ul, iD uh], iD n] = some (iD (firstV [figE ga pl ph tl th nl nh ul uh, stepE n])) := by
  rw [m_61_eq]
  unfold chkTimed_M
  have h : m_23 [shNK1_0 ga pl ph tl th nl nh ul uh] = _ := chkFigures_eq ga pl ph tl th nl nh ul uh
  rw [h, pullI, chkStep_eq, pullI, f2, pullI]
abbrev lo1 (nl th n : Int) : Int := IntKind.i64.wrap (IntKind.i64.wrap (5 * IntKind.i64.wrap (nl - th)) * n)
abbrev lo2 (ul th nl n : Int) : Int := IntKind.i64.wrap (IntKind.i64.wrap (IntKind.i64.wrap (IntKind.i64.wrap (2 * ul) - IntKind.i64.wrap (3 * th)) + nl) * n)
theorem frontOf_eq (ga pl ph tl th nl nh ul uh n : Int) : m_20 [.agg [iD ga, iD pl, iD ph, iD tl, iD th, iD nl, iD nh, iD ul, iD uh], iD n] = some (if firstV [figE ga pl ph tl th nl nh ul uh, stepE n] = 0 then .tup [.agg [iD (flW (lo1 nl th n) 3), iD (ceW (lo1 nh tl n) 3)], iD 0] else .tup [.agg [iD 0, iD 0], iD (firstV [figE ga pl ph tl th nl nh ul uh, stepE n])]) := by
  rw [m_20_eq]
  unfold frontOf_M
  have h : m_61 [shNK1_0 ga pl ph tl th nl nh ul uh, iD n] = _ := chkTimed_eq ga pl ph tl th nl nh ul uh n
  rw [h, pullI]
  by_cases g : firstV [figE ga pl ph tl th nl nh ul uh, stepE n] = 0
  · rw [if_pos g, if_neg (by omega), rounded_eq _ _ (by decide), pullD_some (flW (lo1 nl th n) 3, ceW (lo1 nh tl n) 3) (by rfl) (by rfl)]
  · rw [if_neg g, if_pos g]
theorem tailOf_eq (ga pl ph tl th nl nh ul uh n : Int) : m_21 [.agg [iD ga, iD pl, iD ph, iD tl, iD th, iD nl, iD nh, iD ul, iD uh], iD n] = some (if firstV [figE ga pl ph tl th nl nh ul uh, stepE n] = 0 then .tup [.agg [iD (flW (lo2 ul th nl n) 2), iD (ceW (lo2 uh tl nh n) 2)], iD 0] else .tup [.agg [iD 0, iD 0], iD (firstV [figE ga pl ph tl th nl nh ul uh, stepE n])]) := by
  rw [m_21_eq]
  unfold tailOf_M
  have h : m_61 [shNK1_0 ga pl ph tl th nl nh ul uh, iD n] = _ := chkTimed_eq ga pl ph tl th nl nh ul uh n
  rw [h, pullI]
  by_cases g : firstV [figE ga pl ph tl th nl nh ul uh, stepE n] = 0
  · rw [if_pos g, if_neg (by omega), rounded_eq _ _ (by decide), pullD_some (flW (lo2 ul th nl n) 2, ceW (lo2 uh tl nh n) 2) (by rfl) (by rfl)]
  · rw [if_neg g, if_pos g]
theorem frontR_eq (ga pl ph tl th nl nh ul uh n : Int) : m_25 [.agg [iD ga, iD pl, iD ph, iD tl, iD th, iD nl, iD nh, iD ul, iD uh], iD n] = some (.agg [iD (flW (lo1 nl th n) 3), iD (ceW (lo1 nh tl n) 3)]) := by
  rw [m_25_eq]
  unfold frontR_M
  rw [floor_eq _ (by decide), pullI, ceil_eq _ (by decide), pullI]
theorem tailR_eq (ga pl ph tl th nl nh ul uh n : Int) : m_26 [.agg [iD ga, iD pl, iD ph, iD tl, iD th, iD nl, iD nh, iD ul, iD uh], iD n] = some (.agg [iD (flW (lo2 ul th nl n) 2), iD (ceW (lo2 uh tl nh n) 2)]) := by
  rw [m_26_eq]
  unfold tailR_M
  rw [floor_eq _ (by decide), pullI, ceil_eq _ (by decide), pullI]
theorem figE_in (ga pl ph tl th nl nh ul uh : Int) : figE ga pl ph tl th nl nh ul uh = 0 ∨ figE ga pl ph tl th nl nh ul uh = 2 ∨ figE ga pl ph tl th nl nh ul uh = 9 := by
  unfold figE
  repeat' split
  all_goals simp
theorem law4_eq (ga pl ph tl th nl nh ul uh n : Int) : m_4 [.agg [iD ga, iD pl, iD ph, iD tl, iD th, iD nl, iD nh, iD ul, iD uh], iD n] = some (.one (.bool true)) := by
  rw [m_4_eq]
  unfold law4_M
  have h1 : m_20 [shNK1_0 ga pl ph tl th nl nh ul uh, iD n] = _ := frontOf_eq ga pl ph tl th nl nh ul uh n
  have h2 : m_21 [shNK1_0 ga pl ph tl th nl nh ul uh, iD n] = _ := tailOf_eq ga pl ph tl th nl nh ul uh n
  have h3 : m_22 [shNK1_0 ga pl ph tl th nl nh ul uh] = _ := figErr_eq ga pl ph tl th nl nh ul uh
  have h4 : m_23 [shNK1_0 ga pl ph tl th nl nh ul uh] = _ := chkFigures_eq ga pl ph tl th nl nh ul uh
  have h5 : m_25 [shNK1_0 ga pl ph tl th nl nh ul uh, iD n] = _ := frontR_eq ga pl ph tl th nl nh ul uh n
  have h6 : m_26 [shNK1_0 ga pl ph tl th nl nh ul uh, iD n] = _ := tailR_eq ga pl ph tl th nl nh ul uh n
  rw [m_9_eq, pullB, if_neg (by decide)]
  by_cases g : firstV [figE ga pl ph tl th nl nh ul uh, stepE n] = 0
  · have ge : figE ga pl ph tl th nl nh ul uh = 0 := by
      by_cases q : figE ga pl ph tl th nl nh ul uh = 0
      · exact q
      · simp [firstV, q] at g
    have gs : stepE n = 0 := by
      have g' : ¬ stepE n = 0 → stepE n = 0 := by simpa [firstV, ge] using g
      by_cases q : stepE n = 0
      · exact q
      · exact g' q
    have gn : 1 ≤ n ∧ n ≤ 1000000 := by
      unfold stepE at gs
      split at gs
      · assumption
      · cases gs
    rw [if_pos g] at h1 h2
    rw [h1, pullD_some (flW (lo1 nl th n) 3, ceW (lo1 nh tl n) 3, (0 : Int)) (by rfl) (by rfl)]
    dsimp only
    rw [h2, pullD_some (flW (lo2 ul th nl n) 2, ceW (lo2 uh tl nh n) 2, (0 : Int)) (by rfl) (by rfl)]
    dsimp only
    rw [h3, pullI, h4, pullI, ge, if_neg (by decide), if_pos rfl, within_eq, pullB, if_neg (by simp [gn]), if_pos rfl, h5, pullD_some (flW (lo1 nl th n) 3, ceW (lo1 nh tl n) 3) (by rfl) (by rfl)]
    dsimp only
    rw [if_pos (by simp), if_pos rfl, h6, pullD_some (flW (lo2 ul th nl n) 2, ceW (lo2 uh tl nh n) 2) (by rfl) (by rfl)]
    simp
  · rw [if_neg g] at h1 h2
    rw [h1, pullD_some ((0 : Int), (0 : Int), firstV [figE ga pl ph tl th nl nh ul uh, stepE n]) (by rfl) (by rfl)]
    dsimp only
    rw [h2, pullD_some ((0 : Int), (0 : Int), firstV [figE ga pl ph tl th nl nh ul uh, stepE n]) (by rfl) (by rfl)]
    dsimp only
    rw [h3, pullI, h4, pullI, if_neg (by simp)]
    by_cases ge : figE ga pl ph tl th nl nh ul uh = 0
    · have gs : stepE n = 2 := by
        unfold stepE at g ⊢
        split
        · rename_i q; exact absurd (by simp [firstV, ge, q]) g
        · rfl
      have gn : ¬ (1 ≤ n ∧ n ≤ 1000000) := fun q => by
        unfold stepE at gs
        rw [if_pos q] at gs; cases gs
      have e2 : firstV [figE ga pl ph tl th nl nh ul uh, stepE n] = 2 := by simp [firstV, ge, gs]
      rw [if_pos ge, within_eq, pullB, if_pos (by simpa using gn), e2, if_pos rfl, if_pos rfl, if_pos (by simp)]
      simp
    · have e2 : firstV [figE ga pl ph tl th nl nh ul uh, stepE n] = figE ga pl ph tl th nl nh ul uh := by simp [firstV, ge]
      rw [if_neg ge, e2, if_pos rfl, if_pos rfl, if_pos (by simp)]
      simp
theorem law4_con (ga pl ph tl th nl nh ul uh n : Int) : Con 4 [.agg [iD ga, iD pl, iD ph, iD tl, iD th, iD nl, iD nh, iD ul, iD uh], iD n] (.one (.bool true)) := m_4_ok (law4_eq ga pl ph tl th nl nh ul uh n)
end Go.Proofs.Ytjjbacbjdilhmaa
/- WaveTimes: what the runs give, for every argument. -/
namespace Go.Proofs.Ytjjbacbjdilhmaa.waveTimes
open Go.ChangeShapes Go.WideShapes Go.ChangeAt Go.RowKit Go.Joins Go.Ev
set_option maxRecDepth 100000 in
/-- WHAT THE RUNS GIVE, FOR EVERY ARGUMENT AND EVERY WORLD THAT HOLDS THE TABLES. -/
theorem contract (H : Type) (enc : TypeId × Value → H) (W : World) (base : Nat) (args : Array Value) (ds gs : List (DataW H)) (before : List MemPlace)
    (hval : ∀ (j : Nat) t v, Try.f4.params[j]? = some t → args[j]? = some v → Value.okWide Try.prog W .any base t v)
    (hW : DataW.Whole enc Try.prog Try.f4.params.toList Rows.waveTimesSpec.vars false W args.toList ds gs before) (hL : laidMetH Try.prog Rows.waveTimesRow.laid W) :
    Calls Try.prog 4 args W fun e W' => ∃ v, e = .returned v ∧ Rows.waveTimesSpec.post enc Try.prog Try.f4 false true false false W args v W' := by
  have hW' := hW
  have hlt := hW.lt
  obtain ⟨p, q, hA0, hV, rfl, hfz, hnd⟩ := hW
  have hA : DataW.TrodAll enc Try.prog W 0 (fun _ => true) true Try.f4.params.toList args.toList ds p := hA0
  rw [Try.params4] at hA hval
  obtain ⟨v0, vs0, d0, ds0, p0, q0, hargs, rfl, rfl, h0, r0⟩ := trodAll_cons hA
  obtain ⟨v1, vs1, d1, ds1, p1, q1, rfl, rfl, rfl, h1, r1⟩ := trodAll_cons r0
  obtain ⟨rfl, rfl, rfl⟩ := trodAll_nil r1
  obtain rfl : args = #[v0, v1] := by cases args; simp_all
  obtain ⟨rfl, rfl⟩ := trodVars_none hV
  obtain ⟨e0, o0, k0⟩ := open_agg (ls := [.int .i64, .int .i64, .int .i64, .int .i64, .int .i64, .int .i64, .int .i64, .int .i64, .int .i64]) 8 (by kernel_rfl) (by kernel_rfl) (by kernel_rfl) (hval 0 50 v0 rfl rfl) h0
  obtain ⟨ga, pl, ph, tl, th, nl, nh, ul, uh, rfl⟩ := ints9_of o0
  obtain ⟨e1, o1, k1⟩ := open_cell (c := .int .i64) 8 (by kernel_rfl) (by kernel_rfl) (by kernel_rfl) (hval 1 3 v1 rfl rfl) h1
  obtain ⟨n, rfl, -⟩ := int_of o1
  have hr : RpL (fun _ => True) W [.agg [.one (.int .i64 ga), .one (.int .i64 pl), .one (.int .i64 ph), .one (.int .i64 tl), .one (.int .i64 th), .one (.int .i64 nl), .one (.int .i64 nh), .one (.int .i64 ul), .one (.int .i64 uh)], .one (.int .i64 n)] [v0, v1] := by
    simp only [RpL]
    exact ⟨v0, _, rfl, k0, ⟨v1, _, rfl, k1, rfl⟩⟩
  refine (law4_con ga pl ph tl th nl nh ul uh n W (fun _ => True) _ tabs0 hr).mono fun e W' ⟨v, he, hv, hg⟩ => ?_
  simp only [Rp] at hv
  subst he
  subst hv
  have hlaid : laidOutB Try.prog = true := by kernel_rfl
  exact ⟨_, rfl, post_below (pa := (p0 ++ (p1 ++ []))) (pv := []) hW' (fun _ _ _ => trodAll_cons_mk (shut_bool Try.underlying4 _) trodAll_mk0) (fun sp hsp => by
    rw [Try.params4]
    exact trodAll_cons_mk (stays hlaid (by kernel_rfl) (of_decide_eq_true (by kernel_rfl)) h0 hg (fun x hx => hlt x (by simp only [List.mem_append]; left; left; exact hx)) (fun x hx => hsp x (by simp only [List.mem_append]; left; left; exact hx))) (trodAll_cons_mk (stays hlaid (by kernel_rfl) (of_decide_eq_true (by kernel_rfl)) h1 hg (fun x hx => hlt x (by simp only [List.mem_append]; left; right; left; exact hx)) (fun x hx => hsp x (by simp only [List.mem_append]; left; right; left; exact hx))) (trodAll_mk0))) (fun _ _ => rfl) rfl
    hg (ok_one (by kernel_rfl) rfl (okWide_bool_mk Try.underlying4 _))⟩
end Go.Proofs.Ytjjbacbjdilhmaa.waveTimes
/- WaveTimes: closed facts of the witness. -/
namespace Go.Proofs.Ytjjbacbjdilhmaa.waveTimes
open Go.ChangeShapes Go.WideShapes Go.ChangeAt Go.RowKit Go.Joins
/-- THE WITNESS's ARGUMENTS. -/
noncomputable def args0 : Array Value := #[.agg #[.int .i64 0, .int .i64 0, .int .i64 0, .int .i64 0, .int .i64 0, .int .i64 0, .int .i64 0, .int .i64 0, .int .i64 0], .int .i64 0]
/-- A WORLD FOR THE WITNESS: the heap that the program's own initialisers leave. -/
noncomputable def start (os : Os) : World := World.doorLaid Try.prog 400 os
theorem laid_met (os : Os) : laidMet Try.prog Rows.waveTimesRow.laid ((start os).forCall (fun _ _ => 0) ⟨#[], args0, []⟩).memory := ⟨[], rfl, List.nodup_nil, fun _ _ h => by cases h⟩
theorem reads (os : Os) {H : Type} (enc : TypeId × Value → H) : ∃ places, DataW.whole enc Try.prog ((start os).forCall (fun _ _ => 0) ⟨#[], args0, []⟩).memory Try.f4.params.toList Rows.waveTimesSpec.vars false args0.toList 8 = some ([.agg [.lit (.int .i64 0), .agg [.lit (.int .i64 0), .lit (.int .i64 0)], .agg [.lit (.int .i64 0), .lit (.int .i64 0)], .agg [.lit (.int .i64 0), .lit (.int .i64 0)], .agg [.lit (.int .i64 0), .lit (.int .i64 0)]], .lit (.int .i64 0)], [], places) :=
  ⟨[], by kernel_rfl⟩
theorem vB (os : Os) : ((start os).forCall (fun _ _ => 0) ⟨#[], args0, []⟩).variablesB Try.prog = true := by kernel_rfl
theorem rB (os : Os) : (((start os).forCall (fun _ _ => 0) ⟨#[], args0, []⟩).heap.toList.drop Try.prog.globals.size).take ((begin Try.prog (fun _ _ => 0) default).world.heap.size - Try.prog.globals.size) = (begin Try.prog (fun _ _ => 0) default).world.heap.toList.drop Try.prog.globals.size := by kernel_rfl
theorem oB (os : Os) : Input.okWideB Try.prog ((start os).forCall (fun _ _ => 0) ⟨#[], args0, []⟩) 4 ⟨#[], args0, []⟩ = true := by kernel_rfl
theorem hB (os : Os) : (start os).os = os := by kernel_rfl
end Go.Proofs.Ytjjbacbjdilhmaa.waveTimes
/- For any figures and step, valid or not, the law WaveTimes of the program answers true, and its arguments read as they did. CONDITIONS: none. -/
namespace Go.Proofs.Ytjjbacbjdilhmaa.waveTimes
open Go.ChangeShapes Go.WideShapes Go.ChangeAt Go.RowKit Go.Joins
set_option maxRecDepth 100000 in
theorem lifted (os : Os) (started : os.Started) (H : Type) (enc : TypeId × Value → H) (F : Stop.Interp) :
    ReturnsInHanded {} Try.checked os 4 .any ((OpenSpec.ofChange Rows.waveTimesSpec).preRow enc Try.prog Try.f4 Rows.waveTimesRow.domain false Rows.waveTimesRow.laid) (((OpenSpec.ofChange Rows.waveTimesSpec).at F).post enc Try.prog Try.f4 false true false false) := by
  obtain ⟨places, hx⟩ := reads os enc
  refine returnsInHanded_of_row (C := Try.checked) (s := OpenSpec.ofChange Rows.waveTimesSpec) own started (by kernel_rfl) Try.func4
    (witness_row_at (enc := enc) (C := Try.checked) false (start os) args0 (hB os) (vB os) (rB os) (oB os)
      (OpenSpec.preRow_of_cond 8 hx (by kernel_rfl) (fun k hk => by cases hk) (by kernel_rfl) (laid_met os))) ?_
  intro W base args ds gs before hval hW _ _ _ hL _ _
  exact contract H enc W base args ds gs before hval hW hL
theorem said : Rows.WaveTimesSaid :=
  OpenClaim.holds_of_cond 4 Try.f4 rfl rfl rfl rfl rfl rfl rfl ⟨rfl, rfl, rfl, rfl, rfl⟩ rfl rfl rfl rfl rfl (by kernel_rfl) Try.func4 (by kernel_rfl)
    (of_decide_eq_true (by kernel_rfl)) (by unfold Func.isWrapper; first | (rw [if_pos (by decide +kernel)]; kernel_rfl) | (rw [if_neg (by decide +kernel)]; exact ⟨rfl, rfl⟩))
    (fun os started H enc _ F => by rw [OpenClaim.pre_eq_preRow]; exact lifted os started H enc F)
end Go.Proofs.Ytjjbacbjdilhmaa.waveTimes
