/- For any ranges and numbers, valid or not, the law WaveRatios of the program answers true, and its arguments read as they did. CONDITIONS: none. -/
import Derived.Test.YtjjbacbjdilhmaaTD
import Derived.Test.YtjjbacbjdilhmaaTA
set_option linter.unusedVariables false
set_option linter.unusedSimpArgs false
set_option linter.unusedSectionVars false
set_option linter.unnecessarySimpa false
/- Whole numbers as lists of digits to the base 10^9, and as values in depth. -/
namespace Go.Ev
open Go.RowKit
abbrev lD (l : List Int) : D := .list l.length (l.map iD)
def Dig (l : List Int) : Prop := ∀ d ∈ l, 0 ≤ d ∧ d < (1000000000 : Int)
def Trim (l : List Int) : Prop := ∀ h : l ≠ [], l.getLast h ≠ 0
theorem Dig.cons {d : Int} {l : List Int} (h : Dig (d :: l)) : (0 ≤ d ∧ d < (1000000000 : Int)) ∧ Dig l := ⟨h d List.mem_cons_self, fun x hx => h x (List.mem_cons_of_mem _ hx)⟩
theorem Dig.nil : Dig [] := fun _ h => by cases h
theorem Dig.append {a b : List Int} (ha : Dig a) (hb : Dig b) : Dig (a ++ b) := fun x hx => by
  rcases List.mem_append.1 hx with h | h
  · exact ha x h
  · exact hb x h
theorem Dig.one {d : Int} (h0 : 0 ≤ d) (h1 : d < (1000000000 : Int)) : Dig [d] := fun x hx => by simp at hx; subst hx; exact ⟨h0, h1⟩
theorem Dig.take {l : List Int} (h : Dig l) (n : Nat) : Dig (l.take n) := fun x hx => h x (List.mem_of_mem_take hx)
theorem Dig.drop {l : List Int} (h : Dig l) (n : Nat) : Dig (l.drop n) := fun x hx => h x (List.mem_of_mem_drop hx)
theorem Trim.cons {d : Int} {l : List Int} (h : Trim (d :: l)) : Trim l := fun hl => by
  have := h (by simp)
  rwa [List.getLast_cons hl] at this
/-- How many digits are kept where zeros at the end are cut off. -/
def keep : List Int → Nat
  | [] => 0
  | d :: l => if keep l = 0 ∧ d = 0 then 0 else keep l + 1
theorem Dig.at {a : List Int} (h : Dig a) (i : Nat) : 0 ≤ a[i]?.getD 0 ∧ a[i]?.getD 0 < (1000000000 : Int) := by
  by_cases hi : i < a.length
  · rw [List.getElem?_eq_getElem hi]; exact h _ (List.getElem_mem hi)
  · rw [List.getElem?_eq_none (by omega)]; decide
theorem pullI {β : Type} (x : Int) (k : Int → Option β) : pullD (some (.one (.int .i64 x))) (fun d => D.vi d) (fun r => .one (.int .i64 r)) k = k x := pullD_some x rfl rfl
theorem pullB {β : Type} (x : Bool) (k : Bool → Option β) : pullD (some (.one (.bool x))) (fun d => D.vb d) (fun r => .one (.bool r)) k = k x := pullD_some x rfl rfl
theorem Dig.set {l : List Int} (h : Dig l) (p : Nat) {x : Int} (h0 : 0 ≤ x) (h1 : x < 1000000000) : Dig (l.set p x) := fun y hy => by
  rcases List.mem_or_eq_of_mem_set hy with hy | rfl
  · exact h y hy
  · exact ⟨h0, h1⟩
theorem readW {l : List Int} {i : Nat} {v : Int} (h : l[i]? = some v) : readD (l.map iD) ((i : Int).toNat * 1) 1 false = some (iD v) := by
  unfold readD
  simp [h]
end Go.Ev
/- Lists told by place: tables, sums of the first, and how a program builds them. -/
namespace Go.Ev
open Go.RowKit
/-- The numbers f 0, .., f (n - 1). -/
def tab (n : Nat) (f : Nat → Int) : List Int := (List.range n).map f
theorem wrapJ (x : Int) (h1 : -9223372036854775808 ≤ x) (h2 : x < 9223372036854775808) : IntKind.i64.wrap x = x := by
  unfold IntKind.wrap
  show (if (true && _) then _ else _) = _
  simp only [Bool.true_and, decide_eq_true_eq]
  show (if x % 18446744073709551616 ≥ 9223372036854775808 then x % 18446744073709551616 - 18446744073709551616 else x % 18446744073709551616) = x
  split <;> omega
theorem natI {i : Nat} (h : i < 1000000000000000) : IntKind.i64.wrap ((i : Int) + 1) = ((i + 1 : Nat) : Int) := by rw [wrapJ _ (by omega) (by omega)]; omega
end Go.Ev
/- Lists of pairs of numbers told by place; loops that look for the first error. -/
namespace Go.Ev
open Go.RowKit
def cP (l : List (Int × Int)) : List D := (l.map fun p => [iD p.1, iD p.2]).flatten
abbrev lP (l : List (Int × Int)) : D := .list l.length (cP l)
def ta (l : List (Int × Int)) (i : Nat) : Int := (l[i]?.getD (0, 0)).1
def va (l : List (Int × Int)) (i : Nat) : Int := (l[i]?.getD (0, 0)).2
theorem cP_nil : cP [] = [] := rfl
theorem cP_cons (p : Int × Int) (l : List (Int × Int)) : cP (p :: l) = iD p.1 :: iD p.2 :: cP l := rfl
theorem cP_drop : ∀ (i : Nat) (l : List (Int × Int)), (cP l).drop (i * 2) = cP (l.drop i)
  | 0, l => by simp
  | i + 1, [] => by simp [cP_nil]
  | i + 1, p :: l => by
    rw [cP_cons, show (i + 1) * 2 = i * 2 + 1 + 1 by omega, List.drop_succ_cons, List.drop_succ_cons, cP_drop i l, List.drop_succ_cons]
theorem pt_get {l : List (Int × Int)} {i : Nat} (h : i < l.length) : l[i]? = some (ta l i, va l i) := by
  unfold ta va
  rw [List.getElem?_eq_getElem h]
  rfl
theorem pt_drop {l : List (Int × Int)} {i : Nat} (h : i < l.length) : l.drop i = (ta l i, va l i) :: l.drop (i + 1) := by
  rw [List.drop_eq_getElem_cons h]
  congr 1
  have := pt_get h
  rw [List.getElem?_eq_getElem h] at this
  exact Option.some.inj this
theorem readP {l : List (Int × Int)} {i : Nat} (h : i < l.length) : readD (cP l) (i * 2) 2 true = some (.agg [iD (ta l i), iD (va l i)]) := by
  unfold readD
  simp only
  rw [cP_drop, pt_drop h, cP_cons]
  simp
end Go.Ev
/- Structs and arrays of numbers, as arguments. -/
namespace Go.Proofs.Ytjjbacbjdilhmaa
open Go.Ev Go.RowKit
theorem ints3_of {ds : List D} (h : okDs [.int .i64, .int .i64, .int .i64] ds) : ∃ x0 x1 x2 : Int, ds = [iD x0, iD x1, iD x2] := by
  simp only [okDs, okD] at h
  obtain ⟨_, _, rfl, ⟨x0, rfl, -⟩, _, _, rfl, ⟨x1, rfl, -⟩, _, _, rfl, ⟨x2, rfl, -⟩, rfl⟩ := h
  exact ⟨x0, x1, x2, rfl⟩
theorem ints4_of {ds : List D} (h : okDs [.int .i64, .int .i64, .int .i64, .int .i64] ds) : ∃ x0 x1 x2 x3 : Int, ds = [iD x0, iD x1, iD x2, iD x3] := by
  simp only [okDs, okD] at h
  obtain ⟨_, _, rfl, ⟨x0, rfl, -⟩, _, _, rfl, ⟨x1, rfl, -⟩, _, _, rfl, ⟨x2, rfl, -⟩, _, _, rfl, ⟨x3, rfl, -⟩, rfl⟩ := h
  exact ⟨x0, x1, x2, x3, rfl⟩
end Go.Proofs.Ytjjbacbjdilhmaa
/- Runs inside models: what is asked, with its proofs. -/
namespace Go.Proofs.Ytjjbacbjdilhmaa
open Go.Ev Go.RowKit
set_option maxRecDepth 100000
noncomputable section
/-- A truth that is asked, and why it is so. -/
structure PC where
  c : Bool
  q : Bool
  h : c = q
abbrev PC.p (x : PC) : Bool × Bool := (x.c, x.q)
def pairsC : List PC → List (Bool × Bool)
  | [] => []
  | x :: xs => (x.c, x.q) :: pairsC xs
theorem pairsC_ok : ∀ xs : List PC, allC (pairsC xs)
  | [] => trivial
  | x :: xs => ⟨x.h, pairsC_ok xs⟩
abbrev c_T : PC := ⟨true, true, rfl⟩
abbrev c_F : PC := ⟨false, false, rfl⟩
abbrev c_d {p : Prop} [Decidable p] (h : p) : PC := ⟨decide p, true, decide_eq_true h⟩
abbrev c_n {p : Prop} [Decidable p] (h : ¬ p) : PC := ⟨decide p, false, decide_eq_false h⟩
abbrev c_f {p : Prop} (h : p) : PC := ⟨fact p, true, fact_mk h⟩
abbrev c_b {α : Type} [BEq α] [LawfulBEq α] {a b : α} (h : a ≠ b) : PC := ⟨a != b, true, bne_iff_ne.2 h⟩
abbrev c_bn {α : Type} [BEq α] [LawfulBEq α] {a b : α} (h : a = b) : PC := ⟨a != b, false, bne_eq_false_iff_eq.2 h⟩
abbrev c_e {α : Type} [BEq α] [LawfulBEq α] {a b : α} (h : a = b) : PC := ⟨a == b, true, beq_iff_eq.2 h⟩
abbrev c_en {α : Type} [BEq α] [LawfulBEq α] {a b : α} (h : a ≠ b) : PC := ⟨a == b, false, beq_eq_false_iff_ne.2 h⟩
abbrev c_q {c q : Bool} (h : c = q) : PC := ⟨c, q, h⟩
abbrev c_no {c : Bool} (h : c = false) : PC := ⟨!c, true, by rw [h]; rfl⟩
abbrev c_nn {c : Bool} (h : c = true) : PC := ⟨!c, false, by rw [h]; rfl⟩
abbrev c_le (n : Nat) : PC := ⟨fact (n + 1 ≤ n + 1), true, fact_mk (Nat.le_refl _)⟩
def bT : Nat → List Bool → List Bool
  | 0, l => l
  | n + 1, l => true :: bT n l
def bF : Nat → List Bool → List Bool
  | 0, l => l
  | n + 1, l => false :: bF n l
/-- What is asked of calls and loops, and why it is so. -/
structure PK where
  q : Go.Ev.Ask
  h : AskOK (ctx [] []) Tabs q
def asksK : List PK → List Go.Ev.Ask
  | [] => []
  | x :: xs => x.q :: asksK xs
theorem asksK_ok : ∀ xs : List PK, allK (asksK xs)
  | [] => trivial
  | x :: xs => ⟨x.h, asksK_ok xs⟩
abbrev k_c {g : FuncId} {ds : List D} {r : D} (h : Con g ds r) : PK := ⟨.call g ds r, h⟩
abbrev k_l {c : Code} {E : List AV × AHeap} {base : Nat} {x : LExit} {ds : List D} (h : LoopC c E base noFrame x ds) (ora : List Bool) (vals vals' : List D) : PK := ⟨loopAsk c E base noFrame x ds ora vals vals', h _ _ _ _⟩
theorem con_pc {op : Bool} {I : List Nat} {sp : List LSpec} (n : Nat) {g : FuncId} {ds : List D} {r : D} (ora : List Bool) (res : List D) (pcs : List PC) (pks : List PK)
    (h : okOut (run (ctxS op I sp) n (.enter g (avOfL 0 ds).1) ⟨[], (avOfL 0 ds).2.1, (avOfL 0 ds).2.2, ora, ⟨res, noFrame⟩⟩) = some (r, pairsC pcs, asksK pks)) : Con g ds r :=
  con_of h (pairsC_ok pcs) (asksK_ok pks)
theorem step_pc {I : List Nat} {sp : List LSpec} {l : LoopAt} {S1 : List AV × AHeap} {g : Option GS} {x : AX} (fuel : Nat) (ora : List Bool) (vals : List D) (pcs : List PC) (pks : List PK)
    (r : Option Out) (hr : r = run (ctx I sp) fuel (.code l.f l.c) ⟨S1.1, S1.2, l.nx, ora, ⟨vals, l.fr⟩⟩) (h1 : r = some (outOf r))
    (h2 : ((outOf r).x, (outOf r).st.res.fr, (outOf r).log, (outOf r).st.tmps) = (x, l.fr, ⟨pairsC pcs, asksK pks⟩, AV.renL (qOf l.base (nsOf g) ((outOf r).st.tmps, (outOf r).st.heap)) (aOf l.base (nsOf g) ((outOf r).st.tmps, (outOf r).st.heap)) (stateOf g).1))
    (h3 : (stateOf g).2.map (fun e => hget (outOf r).st.heap (qOf l.base (nsOf g) ((outOf r).st.tmps, (outOf r).st.heap) e.1)) = (stateOf g).2.map (fun e => some (⟨AV.renL (qOf l.base (nsOf g) ((outOf r).st.tmps, (outOf r).st.heap)) (aOf l.base (nsOf g) ((outOf r).st.tmps, (outOf r).st.heap)) e.2.cells, e.2.opn, e.2.kind⟩ : ABlock)))
    (h4 : (namesIn l.nx (stateOf g).2 && distinctBy (qOf l.base (nsOf g) ((outOf r).st.tmps, (outOf r).st.heap)) (stateOf g).2 && aboveBy l.low l.base (qOf l.base (nsOf g) ((outOf r).st.tmps, (outOf r).st.heap)) (stateOf g).2) = true)
    (h5 : (AV.okL l.nx S1.1 && Nat.ble l.low (outOf r).low) = true) (h6 : (List.range l.low).map (hget (stateOf g).2) = (List.range l.low).map (hget S1.2)) : Step (ctx I sp) Tabs l S1 (stateOf g) x :=
  step_of r hr h1 h2 h3 h4 h5 h6 rfl (pairsC_ok pcs) (asksK_ok pks)
end
end Go.Proofs.Ytjjbacbjdilhmaa
/- The stage's examples hold. -/
namespace Go.Proofs.Ytjjbacbjdilhmaa
open Go.Ev Go.RowKit
set_option maxRecDepth 100000
noncomputable section
theorem aw_all : Con 9 [] (.one (.bool true)) :=
  con_ofK (S := [(109, 3000009), (109, 3000036)]) (K := []) (sp := []) (n := 60000) (ora := []) (res := []) (conds := [(false, false), (false, false), (false, false), (false, false), (false, false), (false, false), (false, false), (false, false), (false, false), (false, false), (false, false), (false, false), (false, false), (false, false), (false, false), (false, false), (false, false), (false, false), (false, false), (false, false), (false, false), (false, false), (false, false), (false, false), (false, false), (false, false), (false, false), (false, false), (false, false), (false, false), (false, false), (false, false), (false, false), (false, false), (false, false), (false, false), (false, false), (false, false), (false, false), (false, false), (false, false), (false, false), (false, false), (false, false), (false, false), (false, false), (false, false), (false, false), (false, false), (false, false), (false, false), (false, false), (false, false), (false, false), (false, false), (false, false)]) (cls := [])
    (by kernel_rfl) ⟨rfl, rfl, rfl, rfl, rfl, rfl, rfl, rfl, rfl, rfl, rfl, rfl, rfl, rfl, rfl, rfl, rfl, rfl, rfl, rfl, rfl, rfl, rfl, rfl, rfl, rfl, rfl, rfl, rfl, rfl, rfl, rfl, rfl, rfl, rfl, rfl, rfl, rfl, rfl, rfl, rfl, rfl, rfl, rfl, rfl, rfl, rfl, rfl, rfl, rfl, rfl, rfl, rfl, rfl, rfl, rfl, trivial⟩ trivial
def m_9 (ds : List D) : Option D := pullD (some (.tup ds)) (fun _ => ()) (fun _ => .tup []) fun _ => some (.one (.bool true))
theorem m_9_ok {ds : List D} {r : D} (h : m_9 ds = some r) : Con 9 ds r := by
  unfold m_9 at h
  obtain ⟨⟨⟩, e0, h0⟩ := pullD_elim h
  obtain rfl := tup_inj e0
  obtain rfl := Option.some.inj h0
  exact aw_all
theorem m_9_eq : m_9 [] = some (.one (.bool true)) := pullD_some () rfl rfl
end
end Go.Proofs.Ytjjbacbjdilhmaa
namespace Go.Proofs.Ytjjbacbjdilhmaa
open Go.Ev Go.RowKit
set_option maxRecDepth 100000
set_option maxHeartbeats 8000000
set_option linter.all false
noncomputable section
def firstOf_x2_0 : LExit := ⟨some 0, [], (2 :: (4 :: (List.range' 7 8)))⟩
def firstOf_x2_1 : LExit := ⟨none, [.val 2], (4 :: (List.range' 7 8))⟩
def firstOf_sp : List LSpec := [⟨50, 2, [firstOf_x2_0, firstOf_x2_1]⟩]
def firstOf_L2_E (k : Nat) (c : List D)  : List AV × AHeap := ([.dsl 0, .pure (.tuple #[]), .pure (.int .i64 (0 : Int)), .pure (.tuple #[]), .pure (.tuple #[]), .dsl 0, .pure (.int .i64 (k : Int)), .pure (.int .i64 (0 : Int)), .pure (.tuple #[]), .pure (.tuple #[]), .pure (.tuple #[]), .pure (.tuple #[]), .pure (.tuple #[]), .pure (.tuple #[]), .pure (.tuple #[])], [(0, { cells := [], opn := none, kind := .deep k c })])
def firstOf_L2_A : LoopAt := ⟨50, loopAt Try.prog 50 0, 1, 11, 1, noFrame⟩
theorem firstOf_L2_ok : (firstOf_L2_A).OK := ⟨by show 1 ≤ 11; decide, by show 1 ≤ 1; decide, by kernel_rfl, rfl⟩
def firstOf_L2_gs (k : Nat) (c : List D)  : Go.Ev.Rd → Option GS
  | .next 0 ds => ghost [.val 7] (2 :: (4 :: (List.range' 8 7))) (firstOf_L2_E k c).1 (firstOf_L2_E k c).2 1 ds
  | .out 0 ds => ghost firstOf_x2_0.live firstOf_x2_0.junk (firstOf_L2_E k c).1 (firstOf_L2_E k c).2 1 ds
  | .out 1 ds => ghost firstOf_x2_1.live firstOf_x2_1.junk (firstOf_L2_E k c).1 (firstOf_L2_E k c).2 1 ds
  | _ => none
def firstOf_L2_ex : Nat → Option Nat
  | 0 => firstOf_x2_0.ex
  | 1 => firstOf_x2_1.ex
  | _ => none
def firstOf_L2_ax : Go.Ev.Rd → AX
  | .next _ _ => .normal
  | .out j _ => axOf (firstOf_L2_ex j)
def firstOf_L2_S0 (k : Nat) (c : List D)  (ds : List D) : Option Go.Ev.Rd := pullD (α := Int) (some (.tup ds)) (fun d => ((D.vi (D.at d 0)))) (fun s7 => .tup [iD s7]) fun s7 => ((if s7 < (k : Int) then guardP ((0 : Int) ≤ s7 ∧ s7.toNat < k) (pullD (α := Int) (readD c (s7.toNat * 1) 1 false) (fun d => ((D.vi d))) (fun v0 => iD v0) fun v0 => ((if v0 ≠ (0 : Int) then some (.out 1 [iD v0]) else some (.next 0 [iD (IntKind.i64.wrap (s7 + (1 : Int)))])))) else some (.out 0 [])))
def firstOf_L2_S (k : Nat) (c : List D)  : Go.Ev.Rd → Option Go.Ev.Rd
  | .next 0 ds => firstOf_L2_S0 k c ds
  | _ => none
theorem firstOf_L2_S_ok (k : Nat) (c : List D)  : ∀ s_ t_, firstOf_L2_S k c s_ = some t_ → Step (ctx [50] firstOf_sp) Tabs firstOf_L2_A (stateOf (firstOf_L2_gs k c s_)) (stateOf (firstOf_L2_gs k c t_)) (firstOf_L2_ax t_) ∧ EndOK firstOf_L2_A.nx firstOf_L2_A.low (firstOf_L2_gs k c) t_
  | .next 0 ds, t_, h => by
    have h_ : firstOf_L2_S0 k c ds = some t_ := h
    clear h
    unfold firstOf_L2_S0 at h_
    obtain ⟨s7, e0, h0⟩ := pullD_elim h_
    clear h_
    obtain rfl := tup_inj e0
    by_cases b1_ : s7 < (k : Int)
    · have h2_ := (if_pos b1_).symm.trans h0
      obtain ⟨f3_, h4_⟩ := guardP_elim h2_
      obtain ⟨v0, f5_, h6_⟩ := pullD_elim h4_
      replace f5_ := readD_elim f5_
      by_cases b7_ : v0 ≠ (0 : Int)
      · have h8_ := (if_pos b7_).symm.trans h6_
        obtain rfl := Option.some.inj h8_
        exact ⟨step_pc 3000 (bT 2 []) [iD v0] [c_d b1_, c_f f3_, c_f f5_, c_b b7_] [] _ rfl (by kernel_rfl) (by kernel_rfl) (by kernel_rfl) (by kernel_rfl) (by kernel_rfl) (by kernel_rfl), by kernel_rfl, by kernel_rfl⟩
      have h8_ := (if_neg b7_).symm.trans h6_
      have b9_ : v0 = (0 : Int) := by first | exact b7_ | simpa using b7_
      obtain rfl := Option.some.inj h8_
      exact ⟨step_pc 3000 (bT 1 (bF 1 [])) [iD v0] [c_d b1_, c_f f3_, c_f f5_, c_bn b9_] [] _ rfl (by kernel_rfl) (by kernel_rfl) (by kernel_rfl) (by kernel_rfl) (by kernel_rfl) (by kernel_rfl), trivial⟩
    have h2_ := (if_neg b1_).symm.trans h0
    obtain rfl := Option.some.inj h2_
    exact ⟨step_pc 3000 (bF 1 []) [] [c_n b1_] [] _ rfl (by kernel_rfl) (by kernel_rfl) (by kernel_rfl) (by kernel_rfl) (by kernel_rfl) (by kernel_rfl), by kernel_rfl, by kernel_rfl⟩
  | .next (_ + 1) _, _, h => by cases h
  | .out _ _, _, h => by cases h
theorem firstOf_L2_go (k : Nat) (c : List D)  {q : Nat} {ds : List D} {j : Nat} {es : List D} (h : runR (firstOf_L2_S k c) (.next q ds) = some (.out j es)) : Runs (ctx [50] firstOf_sp) Tabs firstOf_L2_A (stateOf (firstOf_L2_gs k c (.next q ds))) (stateOf (firstOf_L2_gs k c (.out j es))) (firstOf_L2_ax (.out j es)) ∧ (nxtOf (firstOf_L2_gs k c (.out j es)), lowGS (firstOf_L2_gs k c (.out j es))) = (firstOf_L2_A.nx, firstOf_L2_A.low) :=
  runs_of' (good true _ _) firstOf_L2_ok (ax := firstOf_L2_ax) (fun _ _ => rfl) (fun _ _ => axOf_end _) (firstOf_L2_S_ok k c) h
theorem firstOf_L2_in0 (k : Nat) (c : List D)  {es : List D} (h : runR (firstOf_L2_S k c) (.next 0 [iD ((0 : Int))]) = some (.out 0 es)) : LoopC (loopAt Try.prog 50 0) (firstOf_L2_E k c) 1 noFrame firstOf_x2_0 es :=
  have r := firstOf_L2_go k c h
  loopin_as rfl (loop_in (l := firstOf_L2_A) (E := (firstOf_L2_E k c)) (S := stateOf (firstOf_L2_gs k c (.next 0 [iD ((0 : Int))]))) (ns := nsOf (firstOf_L2_gs k c (.next 0 [iD ((0 : Int))]))) firstOf_L2_ok r.1 r.2 (by kernel_rfl) (by kernel_rfl) (by kernel_rfl) (by kernel_rfl))
theorem firstOf_L2_in1 (k : Nat) (c : List D)  {es : List D} (h : runR (firstOf_L2_S k c) (.next 0 [iD ((0 : Int))]) = some (.out 1 es)) : LoopC (loopAt Try.prog 50 0) (firstOf_L2_E k c) 1 noFrame firstOf_x2_1 es :=
  have r := firstOf_L2_go k c h
  loopin_as rfl (loop_in (l := firstOf_L2_A) (E := (firstOf_L2_E k c)) (S := stateOf (firstOf_L2_gs k c (.next 0 [iD ((0 : Int))]))) (ns := nsOf (firstOf_L2_gs k c (.next 0 [iD ((0 : Int))]))) firstOf_L2_ok r.1 r.2 (by kernel_rfl) (by kernel_rfl) (by kernel_rfl) (by kernel_rfl))
def firstOf_M (k : Nat) (c : List D) : Option D := bindL (runR (firstOf_L2_S k c) (.next 0 [iD ((0 : Int))])) fun j ds => (if j = 0 then pullD (some (.tup ds)) (fun _ => ()) (fun _ => .tup []) fun _ => (some (iD (0 : Int))) else if j = 1 then pullD (α := Int) (some (.tup ds)) (fun d => ((D.vi (D.at d 0)))) (fun l0 => .tup [iD l0]) fun l0 => (some (iD l0)) else none)
theorem firstOf_M_ok (k : Nat) (c : List D) {r : D} (h : firstOf_M k c = some r) : Con 50 [.list k c] r := by
  unfold firstOf_M at h
  obtain ⟨j, ds, e1_, h2_⟩ := bindL_elim h
  by_cases j3_ : j = 0
  · have h6_ := (if_pos j3_).symm.trans h2_
    clear h2_
    subst j3_
    obtain ⟨⟨⟩, e4_, h7_⟩ := pullD_elim h6_
    clear h6_
    obtain rfl := tup_inj e4_
    have k5_ := firstOf_L2_in0 k c e1_
    obtain rfl := Option.some.inj h7_
    exact con_pc (op := true) (I := [50]) (sp := firstOf_sp) 3000 [] [.tup [iD (Int.ofNat 0)]] [] [k_l k5_ [] [.tup [iD (Int.ofNat 0)]] []] (by kernel_rfl)
  have h8_ := (if_neg j3_).symm.trans h2_
  clear h2_
  by_cases j9_ : j = 1
  · have h12_ := (if_pos j9_).symm.trans h8_
    clear h8_
    subst j9_
    obtain ⟨l0, e10_, h13_⟩ := pullD_elim h12_
    clear h12_
    obtain rfl := tup_inj e10_
    have k11_ := firstOf_L2_in1 k c e1_
    obtain rfl := Option.some.inj h13_
    exact con_pc (op := true) (I := [50]) (sp := firstOf_sp) 3000 [] [.tup [iD (Int.ofNat 1), iD l0]] [] [k_l k11_ [] [.tup [iD (Int.ofNat 1), iD l0]] []] (by kernel_rfl)
  have h14_ := (if_neg j9_).symm.trans h8_
  clear h8_
  cases h14_
def m_50 (ds : List D) : Option D := pullD (α := Nat × (List D)) (some (.tup ds)) (fun d => ((D.ln (D.at d 0)), (D.lc (D.at d 0)))) (fun (k, c) => .tup [.list k c]) fun (k, c) => firstOf_M k c
theorem m_50_ok {ds : List D} {r : D} (h : m_50 ds = some r) : Con 50 ds r := by
  unfold m_50 at h
  obtain ⟨⟨k, c⟩, e0, h0⟩ := pullD_elim h
  obtain rfl := tup_inj e0
  exact firstOf_M_ok k c h0
theorem m_50_eq (k : Nat) (c : List D) : m_50 [.list k c] = firstOf_M k c := pullD_some (k, c) rfl rfl
def inOrder_x2_0 : LExit := ⟨some 0, [], (2 :: (4 :: (List.range' 7 10)))⟩
def inOrder_x2_1 : LExit := ⟨none, [.val 2], (4 :: (List.range' 7 10))⟩
def inOrder_sp : List LSpec := [⟨64, 2, [inOrder_x2_0, inOrder_x2_1]⟩]
def inOrder_L2_E (k : Nat) (c : List D)  : List AV × AHeap := ([.dsl 0, .pure (.tuple #[]), .pure (.int .i64 (0 : Int)), .pure (.tuple #[]), .pure (.tuple #[]), .dsl 0, .pure (.int .i64 (k : Int)), .pure (.int .i64 (0 : Int)), .pure (.tuple #[]), .pure (.tuple #[]), .pure (.tuple #[]), .pure (.tuple #[]), .pure (.tuple #[]), .pure (.tuple #[]), .pure (.tuple #[]), .pure (.tuple #[]), .pure (.tuple #[])], [(0, { cells := [], opn := none, kind := .deep k c })])
def inOrder_L2_A : LoopAt := ⟨64, loopAt Try.prog 64 0, 1, 13, 1, noFrame⟩
theorem inOrder_L2_ok : (inOrder_L2_A).OK := ⟨by show 1 ≤ 13; decide, by show 1 ≤ 1; decide, by kernel_rfl, rfl⟩
def inOrder_L2_gs (k : Nat) (c : List D)  : Go.Ev.Rd → Option GS
  | .next 0 ds => ghost [.val 7] (2 :: (4 :: (List.range' 8 9))) (inOrder_L2_E k c).1 (inOrder_L2_E k c).2 1 ds
  | .out 0 ds => ghost inOrder_x2_0.live inOrder_x2_0.junk (inOrder_L2_E k c).1 (inOrder_L2_E k c).2 1 ds
  | .out 1 ds => ghost inOrder_x2_1.live inOrder_x2_1.junk (inOrder_L2_E k c).1 (inOrder_L2_E k c).2 1 ds
  | _ => none
def inOrder_L2_ex : Nat → Option Nat
  | 0 => inOrder_x2_0.ex
  | 1 => inOrder_x2_1.ex
  | _ => none
def inOrder_L2_ax : Go.Ev.Rd → AX
  | .next _ _ => .normal
  | .out j _ => axOf (inOrder_L2_ex j)
def inOrder_L2_S0 (k : Nat) (c : List D)  (ds : List D) : Option Go.Ev.Rd := pullD (α := Int) (some (.tup ds)) (fun d => ((D.vi (D.at d 0)))) (fun s7 => .tup [iD s7]) fun s7 => ((if s7 < (k : Int) then guardP ((0 : Int) ≤ s7 ∧ s7.toNat < k) (pullD (α := Int × Int) (readD c (s7.toNat * 2) 2 true) (fun d => ((D.vi (D.at d 0)), (D.vi (D.at d 1)))) (fun (v0, v1) => .agg [iD v0, iD v1]) fun (v0, v1) => ((if v0 > v1 then some (.out 1 [iD (9 : Int)]) else some (.next 0 [iD (IntKind.i64.wrap (s7 + (1 : Int)))])))) else some (.out 0 [])))
def inOrder_L2_S (k : Nat) (c : List D)  : Go.Ev.Rd → Option Go.Ev.Rd
  | .next 0 ds => inOrder_L2_S0 k c ds
  | _ => none
theorem inOrder_L2_S_ok (k : Nat) (c : List D)  : ∀ s_ t_, inOrder_L2_S k c s_ = some t_ → Step (ctx [64] inOrder_sp) Tabs inOrder_L2_A (stateOf (inOrder_L2_gs k c s_)) (stateOf (inOrder_L2_gs k c t_)) (inOrder_L2_ax t_) ∧ EndOK inOrder_L2_A.nx inOrder_L2_A.low (inOrder_L2_gs k c) t_
  | .next 0 ds, t_, h => by
    have h_ : inOrder_L2_S0 k c ds = some t_ := h
    clear h
    unfold inOrder_L2_S0 at h_
    obtain ⟨s7, e0, h0⟩ := pullD_elim h_
    clear h_
    obtain rfl := tup_inj e0
    by_cases b1_ : s7 < (k : Int)
    · have h2_ := (if_pos b1_).symm.trans h0
      obtain ⟨f3_, h4_⟩ := guardP_elim h2_
      obtain ⟨⟨v0, v1⟩, f5_, h6_⟩ := pullD_elim h4_
      replace f5_ := readD_elim f5_
      by_cases b7_ : v0 > v1
      · have h8_ := (if_pos b7_).symm.trans h6_
        obtain rfl := Option.some.inj h8_
        exact ⟨step_pc 3000 (bT 2 []) [.agg [iD v0, iD v1]] [c_d b1_, c_f f3_, c_f f5_, c_d b7_] [] _ rfl (by kernel_rfl) (by kernel_rfl) (by kernel_rfl) (by kernel_rfl) (by kernel_rfl) (by kernel_rfl), by kernel_rfl, by kernel_rfl⟩
      have h8_ := (if_neg b7_).symm.trans h6_
      obtain rfl := Option.some.inj h8_
      exact ⟨step_pc 3000 (bT 1 (bF 1 [])) [.agg [iD v0, iD v1]] [c_d b1_, c_f f3_, c_f f5_, c_n b7_] [] _ rfl (by kernel_rfl) (by kernel_rfl) (by kernel_rfl) (by kernel_rfl) (by kernel_rfl) (by kernel_rfl), trivial⟩
    have h2_ := (if_neg b1_).symm.trans h0
    obtain rfl := Option.some.inj h2_
    exact ⟨step_pc 3000 (bF 1 []) [] [c_n b1_] [] _ rfl (by kernel_rfl) (by kernel_rfl) (by kernel_rfl) (by kernel_rfl) (by kernel_rfl) (by kernel_rfl), by kernel_rfl, by kernel_rfl⟩
  | .next (_ + 1) _, _, h => by cases h
  | .out _ _, _, h => by cases h
theorem inOrder_L2_go (k : Nat) (c : List D)  {q : Nat} {ds : List D} {j : Nat} {es : List D} (h : runR (inOrder_L2_S k c) (.next q ds) = some (.out j es)) : Runs (ctx [64] inOrder_sp) Tabs inOrder_L2_A (stateOf (inOrder_L2_gs k c (.next q ds))) (stateOf (inOrder_L2_gs k c (.out j es))) (inOrder_L2_ax (.out j es)) ∧ (nxtOf (inOrder_L2_gs k c (.out j es)), lowGS (inOrder_L2_gs k c (.out j es))) = (inOrder_L2_A.nx, inOrder_L2_A.low) :=
  runs_of' (good true _ _) inOrder_L2_ok (ax := inOrder_L2_ax) (fun _ _ => rfl) (fun _ _ => axOf_end _) (inOrder_L2_S_ok k c) h
theorem inOrder_L2_in0 (k : Nat) (c : List D)  {es : List D} (h : runR (inOrder_L2_S k c) (.next 0 [iD ((0 : Int))]) = some (.out 0 es)) : LoopC (loopAt Try.prog 64 0) (inOrder_L2_E k c) 1 noFrame inOrder_x2_0 es :=
  have r := inOrder_L2_go k c h
  loopin_as rfl (loop_in (l := inOrder_L2_A) (E := (inOrder_L2_E k c)) (S := stateOf (inOrder_L2_gs k c (.next 0 [iD ((0 : Int))]))) (ns := nsOf (inOrder_L2_gs k c (.next 0 [iD ((0 : Int))]))) inOrder_L2_ok r.1 r.2 (by kernel_rfl) (by kernel_rfl) (by kernel_rfl) (by kernel_rfl))
theorem inOrder_L2_in1 (k : Nat) (c : List D)  {es : List D} (h : runR (inOrder_L2_S k c) (.next 0 [iD ((0 : Int))]) = some (.out 1 es)) : LoopC (loopAt Try.prog 64 0) (inOrder_L2_E k c) 1 noFrame inOrder_x2_1 es :=
  have r := inOrder_L2_go k c h
  loopin_as rfl (loop_in (l := inOrder_L2_A) (E := (inOrder_L2_E k c)) (S := stateOf (inOrder_L2_gs k c (.next 0 [iD ((0 : Int))]))) (ns := nsOf (inOrder_L2_gs k c (.next 0 [iD ((0 : Int))]))) inOrder_L2_ok r.1 r.2 (by kernel_rfl) (by kernel_rfl) (by kernel_rfl) (by kernel_rfl))
def inOrder_M (k : Nat) (c : List D) : Option D := bindL (runR (inOrder_L2_S k c) (.next 0 [iD ((0 : Int))])) fun j ds => (if j = 0 then pullD (some (.tup ds)) (fun _ => ()) (fun _ => .tup []) fun _ => (some (iD (0 : Int))) else if j = 1 then pullD (α := Int) (some (.tup ds)) (fun d => ((D.vi (D.at d 0)))) (fun l0 => .tup [iD l0]) fun l0 => (some (iD l0)) else none)
theorem inOrder_M_ok (k : Nat) (c : List D) {r : D} (h : inOrder_M k c = some r) : Con 64 [.list k c] r := by
  unfold inOrder_M at h
  obtain ⟨j, ds, e1_, h2_⟩ := bindL_elim h
  by_cases j3_ : j = 0
  · have h6_ := (if_pos j3_).symm.trans h2_
    clear h2_
    subst j3_
    obtain ⟨⟨⟩, e4_, h7_⟩ := pullD_elim h6_
    clear h6_
    obtain rfl := tup_inj e4_
    have k5_ := inOrder_L2_in0 k c e1_
    obtain rfl := Option.some.inj h7_
    exact con_pc (op := true) (I := [64]) (sp := inOrder_sp) 3000 [] [.tup [iD (Int.ofNat 0)]] [] [k_l k5_ [] [.tup [iD (Int.ofNat 0)]] []] (by kernel_rfl)
  have h8_ := (if_neg j3_).symm.trans h2_
  clear h2_
  by_cases j9_ : j = 1
  · have h12_ := (if_pos j9_).symm.trans h8_
    clear h8_
    subst j9_
    obtain ⟨l0, e10_, h13_⟩ := pullD_elim h12_
    clear h12_
    obtain rfl := tup_inj e10_
    have k11_ := inOrder_L2_in1 k c e1_
    obtain rfl := Option.some.inj h13_
    exact con_pc (op := true) (I := [64]) (sp := inOrder_sp) 3000 [] [.tup [iD (Int.ofNat 1), iD l0]] [] [k_l k11_ [] [.tup [iD (Int.ofNat 1), iD l0]] []] (by kernel_rfl)
  have h14_ := (if_neg j9_).symm.trans h8_
  clear h8_
  cases h14_
def m_64 (ds : List D) : Option D := pullD (α := Nat × (List D)) (some (.tup ds)) (fun d => ((D.ln (D.at d 0)), (D.lc (D.at d 0)))) (fun (k, c) => .tup [.list k c]) fun (k, c) => inOrder_M k c
theorem m_64_ok {ds : List D} {r : D} (h : m_64 ds = some r) : Con 64 ds r := by
  unfold m_64 at h
  obtain ⟨⟨k, c⟩, e0, h0⟩ := pullD_elim h
  obtain rfl := tup_inj e0
  exact inOrder_M_ok k c h0
theorem m_64_eq (k : Nat) (c : List D) : m_64 [.list k c] = inOrder_M k c := pullD_some (k, c) rfl rfl
def within_sp : List LSpec := []
def within_M (n lo hi : Int) : Option D := (if lo ≤ n then some (.one (.bool (decide (n ≤ hi)))) else some (.one (.bool false)))
theorem within_M_ok (n lo hi : Int) {r : D} (h : within_M n lo hi = some r) : Con 24 [iD n, iD lo, iD hi] r := by
  unfold within_M at h
  by_cases b1_ : lo ≤ n
  · have h2_ := (if_pos b1_).symm.trans h
    obtain rfl := Option.some.inj h2_
    exact con_pc (op := true) (I := [24]) (sp := within_sp) 3000 (bT 4 []) [] [c_d b1_, c_d b1_, c_d b1_, c_d b1_] [] (by kernel_rfl)
  have h2_ := (if_neg b1_).symm.trans h
  obtain rfl := Option.some.inj h2_
  exact con_pc (op := true) (I := [24]) (sp := within_sp) 3000 (bF 4 []) [] [c_n b1_, c_n b1_, c_n b1_, c_n b1_] [] (by kernel_rfl)
def m_24 (ds : List D) : Option D := pullD (α := Int × Int × Int) (some (.tup ds)) (fun d => ((D.vi (D.at d 0)), (D.vi (D.at d 1)), (D.vi (D.at d 2)))) (fun (n, lo, hi) => .tup [iD n, iD lo, iD hi]) fun (n, lo, hi) => within_M n lo hi
theorem m_24_ok {ds : List D} {r : D} (h : m_24 ds = some r) : Con 24 ds r := by
  unfold m_24 at h
  obtain ⟨⟨n, lo, hi⟩, e0, h0⟩ := pullD_elim h
  obtain rfl := tup_inj e0
  exact within_M_ok n lo hi h0
theorem m_24_eq (n lo hi : Int) : m_24 [iD n, iD lo, iD hi] = within_M n lo hi := pullD_some (n, lo, hi) rfl rfl
end
end Go.Proofs.Ytjjbacbjdilhmaa
namespace Go.Proofs.Ytjjbacbjdilhmaa
open Go.Ev Go.RowKit
set_option maxRecDepth 100000
set_option maxHeartbeats 8000000
set_option linter.all false
noncomputable section
abbrev shNK2_0 (a0 : Int) (a1 : Int) (a2 : Int) (a3 : Int) : D := .agg [.one (.int .i64 a0), .one (.int .i64 a1), .one (.int .i64 a2), .one (.int .i64 a3)]
abbrev shNK2_1 (a0 : Int) (a1 : Int) (a2 : Int) : D := .agg [.one (.int .i64 a0), .one (.int .i64 a1), .one (.int .i64 a2)]
def divisor_x1_0 : LExit := ⟨some 0, [.val 0], (1 :: (List.range' 5 6))⟩
def divisor_sp : List LSpec := [⟨98, 1, [divisor_x1_0]⟩]
def divisor_L1_E (a b : Int)  : List AV × AHeap := ([.pure (.int .i64 a), .pure (.int .i64 b), .pure (.tuple #[]), .pure (.tuple #[]), .pure (.int .i64 (0 : Int)), .pure (.tuple #[]), .pure (.tuple #[]), .pure (.tuple #[]), .pure (.tuple #[]), .pure (.tuple #[]), .pure (.tuple #[]), .pure (.tuple #[]), .pure (.tuple #[]), .pure (.tuple #[]), .pure (.tuple #[])], [])
def divisor_L1_A : LoopAt := ⟨98, loopAt Try.prog 98 0, 0, 8, 0, noFrame⟩
theorem divisor_L1_ok : (divisor_L1_A).OK := ⟨by show 0 ≤ 8; decide, by show 0 ≤ 0; decide, by kernel_rfl, rfl⟩
def divisor_L1_gs (a b : Int)  : Go.Ev.Rd → Option GS
  | .next 0 ds => ghost [.val 0, .val 1] (List.range' 5 6) (divisor_L1_E a b).1 (divisor_L1_E a b).2 0 ds
  | .out 0 ds => ghost divisor_x1_0.live divisor_x1_0.junk (divisor_L1_E a b).1 (divisor_L1_E a b).2 0 ds
  | _ => none
def divisor_L1_ex : Nat → Option Nat
  | 0 => divisor_x1_0.ex
  | _ => none
def divisor_L1_ax : Go.Ev.Rd → AX
  | .next _ _ => .normal
  | .out j _ => axOf (divisor_L1_ex j)
def divisor_L1_S0 (a b : Int)  (ds : List D) : Option Go.Ev.Rd := pullD (α := Int × Int) (some (.tup ds)) (fun d => ((D.vi (D.at d 0)), (D.vi (D.at d 1)))) (fun (s0, s1) => .tup [iD s0, iD s1]) fun (s0, s1) => ((if s1 ≠ (0 : Int) then some (.next 0 [iD s1, iD (s0.tmod s1)]) else some (.out 0 [iD s0])))
def divisor_L1_S (a b : Int)  : Go.Ev.Rd → Option Go.Ev.Rd
  | .next 0 ds => divisor_L1_S0 a b ds
  | _ => none
theorem divisor_L1_S_ok (a b : Int)  : ∀ s_ t_, divisor_L1_S a b s_ = some t_ → Step (ctx [98] divisor_sp) Tabs divisor_L1_A (stateOf (divisor_L1_gs a b s_)) (stateOf (divisor_L1_gs a b t_)) (divisor_L1_ax t_) ∧ EndOK divisor_L1_A.nx divisor_L1_A.low (divisor_L1_gs a b) t_
  | .next 0 ds, t_, h => by
    have h_ : divisor_L1_S0 a b ds = some t_ := h
    clear h
    unfold divisor_L1_S0 at h_
    obtain ⟨⟨s0, s1⟩, e0, h0⟩ := pullD_elim h_
    clear h_
    obtain rfl := tup_inj e0
    by_cases b1_ : s1 ≠ (0 : Int)
    · have h2_ := (if_pos b1_).symm.trans h0
      obtain rfl := Option.some.inj h2_
      exact ⟨step_pc 3000 (bT 1 []) [] [c_b b1_, c_en b1_] [] _ rfl (by kernel_rfl) (by kernel_rfl) (by kernel_rfl) (by kernel_rfl) (by kernel_rfl) (by kernel_rfl), trivial⟩
    have h2_ := (if_neg b1_).symm.trans h0
    have b3_ : s1 = (0 : Int) := by first | exact b1_ | simpa using b1_
    obtain rfl := Option.some.inj h2_
    exact ⟨step_pc 3000 (bF 1 []) [] [c_bn b3_] [] _ rfl (by kernel_rfl) (by kernel_rfl) (by kernel_rfl) (by kernel_rfl) (by kernel_rfl) (by kernel_rfl), by kernel_rfl, by kernel_rfl⟩
  | .next (_ + 1) _, _, h => by cases h
  | .out _ _, _, h => by cases h
theorem divisor_L1_go (a b : Int)  {q : Nat} {ds : List D} {j : Nat} {es : List D} (h : runR (divisor_L1_S a b) (.next q ds) = some (.out j es)) : Runs (ctx [98] divisor_sp) Tabs divisor_L1_A (stateOf (divisor_L1_gs a b (.next q ds))) (stateOf (divisor_L1_gs a b (.out j es))) (divisor_L1_ax (.out j es)) ∧ (nxtOf (divisor_L1_gs a b (.out j es)), lowGS (divisor_L1_gs a b (.out j es))) = (divisor_L1_A.nx, divisor_L1_A.low) :=
  runs_of' (good true _ _) divisor_L1_ok (ax := divisor_L1_ax) (fun _ _ => rfl) (fun _ _ => axOf_end _) (divisor_L1_S_ok a b) h
theorem divisor_L1_in0 (a b : Int)  {es : List D} (h : runR (divisor_L1_S a b) (.next 0 [iD a, iD b]) = some (.out 0 es)) : LoopC (loopAt Try.prog 98 0) (divisor_L1_E a b) 0 noFrame divisor_x1_0 es :=
  have r := divisor_L1_go a b h
  loopin_as rfl (loop_in (l := divisor_L1_A) (E := (divisor_L1_E a b)) (S := stateOf (divisor_L1_gs a b (.next 0 [iD a, iD b]))) (ns := nsOf (divisor_L1_gs a b (.next 0 [iD a, iD b]))) divisor_L1_ok r.1 r.2 (by kernel_rfl) (by kernel_rfl) (by kernel_rfl) (by kernel_rfl))
def divisor_M (a b : Int) : Option D := bindL (runR (divisor_L1_S a b) (.next 0 [iD a, iD b])) fun j ds => (if j = 0 then pullD (α := Int) (some (.tup ds)) (fun d => ((D.vi (D.at d 0)))) (fun l0 => .tup [iD l0]) fun l0 => (some (iD (if IntKind.i64.wrap ((0 : Int) - l0) > l0 then IntKind.i64.wrap ((0 : Int) - l0) else l0))) else none)
theorem divisor_M_ok (a b : Int) {r : D} (h : divisor_M a b = some r) : Con 98 [iD a, iD b] r := by
  unfold divisor_M at h
  obtain ⟨j, ds, e1_, h2_⟩ := bindL_elim h
  by_cases j3_ : j = 0
  · have h6_ := (if_pos j3_).symm.trans h2_
    clear h2_
    subst j3_
    obtain ⟨l0, e4_, h7_⟩ := pullD_elim h6_
    clear h6_
    obtain rfl := tup_inj e4_
    have k5_ := divisor_L1_in0 a b e1_
    obtain rfl := Option.some.inj h7_
    exact con_pc (op := true) (I := [98]) (sp := divisor_sp) 3000 [] [.tup [iD (Int.ofNat 0), iD l0]] [] [k_l k5_ [] [.tup [iD (Int.ofNat 0), iD l0]] []] (by kernel_rfl)
  have h8_ := (if_neg j3_).symm.trans h2_
  clear h2_
  cases h8_
def m_98 (ds : List D) : Option D := pullD (α := Int × Int) (some (.tup ds)) (fun d => ((D.vi (D.at d 0)), (D.vi (D.at d 1)))) (fun (a, b) => .tup [iD a, iD b]) fun (a, b) => divisor_M a b
theorem m_98_ok {ds : List D} {r : D} (h : m_98 ds = some r) : Con 98 ds r := by
  unfold m_98 at h
  obtain ⟨⟨a, b⟩, e0, h0⟩ := pullD_elim h
  obtain rfl := tup_inj e0
  exact divisor_M_ok a b h0
theorem m_98_eq (a b : Int) : m_98 [iD a, iD b] = divisor_M a b := pullD_some (a, b) rfl rfl
def size_sp : List LSpec := []
def size_M (n : Int) : Option D := some (iD (if IntKind.i64.wrap ((0 : Int) - n) > n then IntKind.i64.wrap ((0 : Int) - n) else n))
theorem size_M_ok (n : Int) {r : D} (h : size_M n = some r) : Con 116 [iD n] r := by
  unfold size_M at h
  obtain rfl := Option.some.inj h
  exact con_pc (op := true) (I := [116]) (sp := size_sp) 3000 [] [] [] [] (by kernel_rfl)
def m_116 (ds : List D) : Option D := pullD (α := Int) (some (.tup ds)) (fun d => ((D.vi (D.at d 0)))) (fun n => .tup [iD n]) fun n => size_M n
theorem m_116_ok {ds : List D} {r : D} (h : m_116 ds = some r) : Con 116 ds r := by
  unfold m_116 at h
  obtain ⟨n, e0, h0⟩ := pullD_elim h
  obtain rfl := tup_inj e0
  exact size_M_ok n h0
theorem m_116_eq (n : Int) : m_116 [iD n] = size_M n := pullD_some n rfl rfl
def gcd_x1_0 : LExit := ⟨some 0, [.val 0], (1 :: (List.range' 5 6))⟩
def gcd_sp : List LSpec := [⟨99, 1, [gcd_x1_0]⟩]
def gcd_L1_E (a b : Int)  : List AV × AHeap := ([.pure (.int .i64 a), .pure (.int .i64 b), .pure (.tuple #[]), .pure (.tuple #[]), .pure (.int .i64 (0 : Int)), .pure (.tuple #[]), .pure (.tuple #[]), .pure (.tuple #[]), .pure (.tuple #[]), .pure (.tuple #[]), .pure (.tuple #[]), .pure (.tuple #[]), .pure (.tuple #[])], [])
def gcd_L1_A : LoopAt := ⟨99, loopAt Try.prog 99 0, 0, 8, 0, noFrame⟩
theorem gcd_L1_ok : (gcd_L1_A).OK := ⟨by show 0 ≤ 8; decide, by show 0 ≤ 0; decide, by kernel_rfl, rfl⟩
def gcd_L1_gs (a b : Int)  : Go.Ev.Rd → Option GS
  | .next 0 ds => ghost [.val 0, .val 1] (List.range' 5 6) (gcd_L1_E a b).1 (gcd_L1_E a b).2 0 ds
  | .out 0 ds => ghost gcd_x1_0.live gcd_x1_0.junk (gcd_L1_E a b).1 (gcd_L1_E a b).2 0 ds
  | _ => none
def gcd_L1_ex : Nat → Option Nat
  | 0 => gcd_x1_0.ex
  | _ => none
def gcd_L1_ax : Go.Ev.Rd → AX
  | .next _ _ => .normal
  | .out j _ => axOf (gcd_L1_ex j)
def gcd_L1_S0 (a b : Int)  (ds : List D) : Option Go.Ev.Rd := pullD (α := Int × Int) (some (.tup ds)) (fun d => ((D.vi (D.at d 0)), (D.vi (D.at d 1)))) (fun (s0, s1) => .tup [iD s0, iD s1]) fun (s0, s1) => ((if s1 ≠ (0 : Int) then some (.next 0 [iD s1, iD (s0.tmod s1)]) else some (.out 0 [iD s0])))
def gcd_L1_S (a b : Int)  : Go.Ev.Rd → Option Go.Ev.Rd
  | .next 0 ds => gcd_L1_S0 a b ds
  | _ => none
theorem gcd_L1_S_ok (a b : Int)  : ∀ s_ t_, gcd_L1_S a b s_ = some t_ → Step (ctx [99] gcd_sp) Tabs gcd_L1_A (stateOf (gcd_L1_gs a b s_)) (stateOf (gcd_L1_gs a b t_)) (gcd_L1_ax t_) ∧ EndOK gcd_L1_A.nx gcd_L1_A.low (gcd_L1_gs a b) t_
  | .next 0 ds, t_, h => by
    have h_ : gcd_L1_S0 a b ds = some t_ := h
    clear h
    unfold gcd_L1_S0 at h_
    obtain ⟨⟨s0, s1⟩, e0, h0⟩ := pullD_elim h_
    clear h_
    obtain rfl := tup_inj e0
    by_cases b1_ : s1 ≠ (0 : Int)
    · have h2_ := (if_pos b1_).symm.trans h0
      obtain rfl := Option.some.inj h2_
      exact ⟨step_pc 3000 (bT 1 []) [] [c_b b1_, c_en b1_] [] _ rfl (by kernel_rfl) (by kernel_rfl) (by kernel_rfl) (by kernel_rfl) (by kernel_rfl) (by kernel_rfl), trivial⟩
    have h2_ := (if_neg b1_).symm.trans h0
    have b3_ : s1 = (0 : Int) := by first | exact b1_ | simpa using b1_
    obtain rfl := Option.some.inj h2_
    exact ⟨step_pc 3000 (bF 1 []) [] [c_bn b3_] [] _ rfl (by kernel_rfl) (by kernel_rfl) (by kernel_rfl) (by kernel_rfl) (by kernel_rfl) (by kernel_rfl), by kernel_rfl, by kernel_rfl⟩
  | .next (_ + 1) _, _, h => by cases h
  | .out _ _, _, h => by cases h
theorem gcd_L1_go (a b : Int)  {q : Nat} {ds : List D} {j : Nat} {es : List D} (h : runR (gcd_L1_S a b) (.next q ds) = some (.out j es)) : Runs (ctx [99] gcd_sp) Tabs gcd_L1_A (stateOf (gcd_L1_gs a b (.next q ds))) (stateOf (gcd_L1_gs a b (.out j es))) (gcd_L1_ax (.out j es)) ∧ (nxtOf (gcd_L1_gs a b (.out j es)), lowGS (gcd_L1_gs a b (.out j es))) = (gcd_L1_A.nx, gcd_L1_A.low) :=
  runs_of' (good true _ _) gcd_L1_ok (ax := gcd_L1_ax) (fun _ _ => rfl) (fun _ _ => axOf_end _) (gcd_L1_S_ok a b) h
theorem gcd_L1_in0 (a b : Int)  {es : List D} (h : runR (gcd_L1_S a b) (.next 0 [iD a, iD b]) = some (.out 0 es)) : LoopC (loopAt Try.prog 99 0) (gcd_L1_E a b) 0 noFrame gcd_x1_0 es :=
  have r := gcd_L1_go a b h
  loopin_as rfl (loop_in (l := gcd_L1_A) (E := (gcd_L1_E a b)) (S := stateOf (gcd_L1_gs a b (.next 0 [iD a, iD b]))) (ns := nsOf (gcd_L1_gs a b (.next 0 [iD a, iD b]))) gcd_L1_ok r.1 r.2 (by kernel_rfl) (by kernel_rfl) (by kernel_rfl) (by kernel_rfl))
def gcd_M (a b : Int) : Option D := bindL (runR (gcd_L1_S a b) (.next 0 [iD a, iD b])) fun j ds => (if j = 0 then pullD (α := Int) (some (.tup ds)) (fun d => ((D.vi (D.at d 0)))) (fun l0 => .tup [iD l0]) fun l0 => (pullD (α := Int) (m_116 [iD l0]) (fun d => ((D.vi d))) (fun r1 => iD r1) fun r1 => (some (iD r1))) else none)
theorem gcd_M_ok (a b : Int) {r : D} (h : gcd_M a b = some r) : Con 99 [iD a, iD b] r := by
  unfold gcd_M at h
  obtain ⟨j, ds, e1_, h2_⟩ := bindL_elim h
  by_cases j3_ : j = 0
  · have h6_ := (if_pos j3_).symm.trans h2_
    clear h2_
    subst j3_
    obtain ⟨l0, e4_, h7_⟩ := pullD_elim h6_
    clear h6_
    obtain rfl := tup_inj e4_
    have k5_ := gcd_L1_in0 a b e1_
    obtain ⟨r1, f8_, h9_⟩ := pullD_elim h7_
    replace f8_ := m_116_ok f8_
    obtain rfl := Option.some.inj h9_
    exact con_pc (op := true) (I := [99]) (sp := gcd_sp) 3000 [] [.tup [iD (Int.ofNat 0), iD l0], iD r1] [] [k_l k5_ [] [.tup [iD (Int.ofNat 0), iD l0], iD r1] [iD r1], k_c f8_] (by kernel_rfl)
  have h10_ := (if_neg j3_).symm.trans h2_
  clear h2_
  cases h10_
def m_99 (ds : List D) : Option D := pullD (α := Int × Int) (some (.tup ds)) (fun d => ((D.vi (D.at d 0)), (D.vi (D.at d 1)))) (fun (a, b) => .tup [iD a, iD b]) fun (a, b) => gcd_M a b
theorem m_99_ok {ds : List D} {r : D} (h : m_99 ds = some r) : Con 99 ds r := by
  unfold m_99 at h
  obtain ⟨⟨a, b⟩, e0, h0⟩ := pullD_elim h
  obtain rfl := tup_inj e0
  exact gcd_M_ok a b h0
theorem m_99_eq (a b : Int) : m_99 [iD a, iD b] = gcd_M a b := pullD_some (a, b) rfl rfl
def lowest_sp : List LSpec := []
def lowest_M (n d : Int) : Option D := pullD (α := Int) (m_99 [iD n, iD d]) (fun d => ((D.vi d))) (fun r0 => iD r0) fun r0 => ((if d < (0 : Int) then guardP (IntKind.i64.wrap ((0 : Int) - r0) ≠ (0 : Int)) (some (.agg [iD (IntKind.i64.wrap (n.tdiv (IntKind.i64.wrap ((0 : Int) - r0)))), iD (IntKind.i64.wrap (d.tdiv (IntKind.i64.wrap ((0 : Int) - r0))))])) else guardP (r0 ≠ (0 : Int)) (some (.agg [iD (IntKind.i64.wrap (n.tdiv r0)), iD (IntKind.i64.wrap (d.tdiv r0))]))))
theorem lowest_M_ok (n d : Int) {r : D} (h : lowest_M n d = some r) : Con 75 [iD n, iD d] r := by
  unfold lowest_M at h
  obtain ⟨r0, f1_, h2_⟩ := pullD_elim h
  replace f1_ := m_99_ok f1_
  by_cases b3_ : d < (0 : Int)
  · have h4_ := (if_pos b3_).symm.trans h2_
    obtain ⟨f5_, h6_⟩ := guardP_elim h4_
    obtain rfl := Option.some.inj h6_
    exact con_pc (op := true) (I := [75]) (sp := lowest_sp) 3000 (bT 1 []) [iD r0] [c_d b3_, c_en f5_, c_en f5_] [k_c f1_] (by kernel_rfl)
  have h4_ := (if_neg b3_).symm.trans h2_
  obtain ⟨f7_, h8_⟩ := guardP_elim h4_
  obtain rfl := Option.some.inj h8_
  exact con_pc (op := true) (I := [75]) (sp := lowest_sp) 3000 (bF 1 []) [iD r0] [c_n b3_, c_en f7_, c_en f7_] [k_c f1_] (by kernel_rfl)
def m_75 (ds : List D) : Option D := pullD (α := Int × Int) (some (.tup ds)) (fun d => ((D.vi (D.at d 0)), (D.vi (D.at d 1)))) (fun (n, d) => .tup [iD n, iD d]) fun (n, d) => lowest_M n d
theorem m_75_ok {ds : List D} {r : D} (h : m_75 ds = some r) : Con 75 ds r := by
  unfold m_75 at h
  obtain ⟨⟨n, d⟩, e0, h0⟩ := pullD_elim h
  obtain rfl := tup_inj e0
  exact lowest_M_ok n d h0
theorem m_75_eq (n d : Int) : m_75 [iD n, iD d] = lowest_M n d := pullD_some (n, d) rfl rfl
def reduced_sp : List LSpec := []
def reduced_M (n d : Int) : Option D := pullD (α := Int) (m_98 [iD n, iD d]) (fun d => ((D.vi d))) (fun r0 => iD r0) fun r0 => (guardP (r0 ≠ (0 : Int)) (some (.agg [iD (IntKind.i64.wrap (n.tdiv r0)), iD (IntKind.i64.wrap (d.tdiv r0))])))
theorem reduced_M_ok (n d : Int) {r : D} (h : reduced_M n d = some r) : Con 72 [iD n, iD d] r := by
  unfold reduced_M at h
  obtain ⟨r0, f1_, h2_⟩ := pullD_elim h
  replace f1_ := m_98_ok f1_
  obtain ⟨f3_, h4_⟩ := guardP_elim h2_
  obtain rfl := Option.some.inj h4_
  exact con_pc (op := true) (I := [72]) (sp := reduced_sp) 3000 [] [iD r0] [c_en f3_, c_en f3_] [k_c f1_] (by kernel_rfl)
def m_72 (ds : List D) : Option D := pullD (α := Int × Int) (some (.tup ds)) (fun d => ((D.vi (D.at d 0)), (D.vi (D.at d 1)))) (fun (n, d) => .tup [iD n, iD d]) fun (n, d) => reduced_M n d
theorem m_72_ok {ds : List D} {r : D} (h : m_72 ds = some r) : Con 72 ds r := by
  unfold m_72 at h
  obtain ⟨⟨n, d⟩, e0, h0⟩ := pullD_elim h
  obtain rfl := tup_inj e0
  exact reduced_M_ok n d h0
theorem m_72_eq (n d : Int) : m_72 [iD n, iD d] = reduced_M n d := pullD_some (n, d) rfl rfl
def whole_sp : List LSpec := []
def whole_M (n : Int) : Option D := some (.agg [iD n, iD (1 : Int)])
theorem whole_M_ok (n : Int) {r : D} (h : whole_M n = some r) : Con 35 [iD n] r := by
  unfold whole_M at h
  obtain rfl := Option.some.inj h
  exact con_pc (op := true) (I := [35]) (sp := whole_sp) 3000 [] [] [] [] (by kernel_rfl)
def m_35 (ds : List D) : Option D := pullD (α := Int) (some (.tup ds)) (fun d => ((D.vi (D.at d 0)))) (fun n => .tup [iD n]) fun n => whole_M n
theorem m_35_ok {ds : List D} {r : D} (h : m_35 ds = some r) : Con 35 ds r := by
  unfold m_35 at h
  obtain ⟨n, e0, h0⟩ := pullD_elim h
  obtain rfl := tup_inj e0
  exact whole_M_ok n h0
theorem m_35_eq (n : Int) : m_35 [iD n] = whole_M n := pullD_some n rfl rfl
def isSmall_sp : List LSpec := []
def isSmall_M (n d : Int) : Option D := pullD (α := Bool) (m_24 [iD n, iD (-1000000000 : Int), iD (1000000000 : Int)]) (fun d => ((D.vb d))) (fun r0 => .one (.bool r0)) fun r0 => ((if (r0) = true then pullD (α := Bool) (m_24 [iD d, iD (1 : Int), iD (1000000000 : Int)]) (fun d => ((D.vb d))) (fun r1 => .one (.bool r1)) fun r1 => (some (.one (.bool r1))) else some (.one (.bool false))))
theorem isSmall_M_ok (n d : Int) {r : D} (h : isSmall_M n d = some r) : Con 77 [.agg [iD n, iD d]] r := by
  unfold isSmall_M at h
  obtain ⟨r0, f1_, h2_⟩ := pullD_elim h
  replace f1_ := m_24_ok f1_
  by_cases b3_ : (r0) = true
  · have h4_ := (if_pos b3_).symm.trans h2_
    obtain ⟨r1, f5_, h6_⟩ := pullD_elim h4_
    replace f5_ := m_24_ok f5_
    obtain rfl := Option.some.inj h6_
    exact con_pc (op := true) (I := [77]) (sp := isSmall_sp) 3000 (bT 4 []) [.one (.bool r0), .one (.bool r1)] [c_q b3_, c_q b3_, c_q b3_, c_q b3_] [k_c f1_, k_c f5_] (by kernel_rfl)
  have h4_ := (if_neg b3_).symm.trans h2_
  have b7_ : (r0) = false := by first | exact b3_ | simpa using b3_
  obtain rfl := Option.some.inj h4_
  exact con_pc (op := true) (I := [77]) (sp := isSmall_sp) 3000 (bF 4 []) [.one (.bool r0)] [c_q b7_, c_q b7_, c_q b7_, c_q b7_] [k_c f1_] (by kernel_rfl)
def m_77 (ds : List D) : Option D := pullD (α := Int × Int) (some (.tup ds)) (fun d => ((D.vi (D.at (D.at d 0) 0)), (D.vi (D.at (D.at d 0) 1)))) (fun (n, d) => .tup [.agg [iD n, iD d]]) fun (n, d) => isSmall_M n d
theorem m_77_ok {ds : List D} {r : D} (h : m_77 ds = some r) : Con 77 ds r := by
  unfold m_77 at h
  obtain ⟨⟨n, d⟩, e0, h0⟩ := pullD_elim h
  obtain rfl := tup_inj e0
  exact isSmall_M_ok n d h0
theorem m_77_eq (n d : Int) : m_77 [.agg [iD n, iD d]] = isSmall_M n d := pullD_some (n, d) rfl rfl
def tooLarge_sp : List LSpec := []
def tooLarge_M (n d : Int) : Option D := some (.one (.bool (decide ((if d > n then d else n) > (1000000000 : Int)))))
theorem tooLarge_M_ok (n d : Int) {r : D} (h : tooLarge_M n d = some r) : Con 48 [.agg [iD n, iD d]] r := by
  unfold tooLarge_M at h
  obtain rfl := Option.some.inj h
  exact con_pc (op := true) (I := [48]) (sp := tooLarge_sp) 3000 [] [] [] [] (by kernel_rfl)
def m_48 (ds : List D) : Option D := pullD (α := Int × Int) (some (.tup ds)) (fun d => ((D.vi (D.at (D.at d 0) 0)), (D.vi (D.at (D.at d 0) 1)))) (fun (n, d) => .tup [.agg [iD n, iD d]]) fun (n, d) => tooLarge_M n d
theorem m_48_ok {ds : List D} {r : D} (h : m_48 ds = some r) : Con 48 ds r := by
  unfold m_48 at h
  obtain ⟨⟨n, d⟩, e0, h0⟩ := pullD_elim h
  obtain rfl := tup_inj e0
  exact tooLarge_M_ok n d h0
theorem m_48_eq (n d : Int) : m_48 [.agg [iD n, iD d]] = tooLarge_M n d := pullD_some (n, d) rfl rfl
def isTemp_sp : List LSpec := []
def isTemp_M (n : Int) : Option D := pullD (α := Bool) (m_24 [iD n, iD (-500 : Int), iD (3000 : Int)]) (fun d => ((D.vb d))) (fun r0 => .one (.bool r0)) fun r0 => (some (.one (.bool r0)))
theorem isTemp_M_ok (n : Int) {r : D} (h : isTemp_M n = some r) : Con 76 [iD n] r := by
  unfold isTemp_M at h
  obtain ⟨r0, f1_, h2_⟩ := pullD_elim h
  replace f1_ := m_24_ok f1_
  obtain rfl := Option.some.inj h2_
  exact con_pc (op := true) (I := [76]) (sp := isTemp_sp) 3000 [] [.one (.bool r0)] [] [k_c f1_] (by kernel_rfl)
def m_76 (ds : List D) : Option D := pullD (α := Int) (some (.tup ds)) (fun d => ((D.vi (D.at d 0)))) (fun n => .tup [iD n]) fun n => isTemp_M n
theorem m_76_ok {ds : List D} {r : D} (h : m_76 ds = some r) : Con 76 ds r := by
  unfold m_76 at h
  obtain ⟨n, e0, h0⟩ := pullD_elim h
  obtain rfl := tup_inj e0
  exact isTemp_M_ok n h0
theorem m_76_eq (n : Int) : m_76 [iD n] = isTemp_M n := pullD_some n rfl rfl
def partsErr_sp : List LSpec := []
def partsErr_M (a b : Int) : Option D := pullD (α := Bool) (m_24 [iD a, iD (1 : Int), iD (1000000000 : Int)]) (fun d => ((D.vb d))) (fun r0 => .one (.bool r0)) fun r0 => ((if r0 = false then some (iD (2 : Int)) else pullD (α := Bool) (m_24 [iD b, iD (1 : Int), iD (1000000000 : Int)]) (fun d => ((D.vb d))) (fun r1 => .one (.bool r1)) fun r1 => ((if r1 = false then some (iD (2 : Int)) else (if a > b then some (iD (9 : Int)) else some (iD (0 : Int)))))))
theorem partsErr_M_ok (a b : Int) {r : D} (h : partsErr_M a b = some r) : Con 74 [.agg [iD a, iD b]] r := by
  unfold partsErr_M at h
  obtain ⟨r0, f1_, h2_⟩ := pullD_elim h
  replace f1_ := m_24_ok f1_
  by_cases b3_ : r0 = false
  · have h4_ := (if_pos b3_).symm.trans h2_
    obtain rfl := Option.some.inj h4_
    exact con_pc (op := true) (I := [74]) (sp := partsErr_sp) 3000 (bT 6 []) [.one (.bool r0)] [c_no b3_, c_no b3_, c_no b3_, c_no b3_, c_no b3_, c_T] [k_c f1_] (by kernel_rfl)
  have h4_ := (if_neg b3_).symm.trans h2_
  have b5_ : r0 = true := by first | exact b3_ | simpa using b3_
  obtain ⟨r1, f6_, h7_⟩ := pullD_elim h4_
  replace f6_ := m_24_ok f6_
  by_cases b8_ : r1 = false
  · have h9_ := (if_pos b8_).symm.trans h7_
    obtain rfl := Option.some.inj h9_
    exact con_pc (op := true) (I := [74]) (sp := partsErr_sp) 3000 (bF 5 (bT 1 [])) [.one (.bool r0), .one (.bool r1)] [c_nn b5_, c_nn b5_, c_nn b5_, c_nn b5_, c_nn b5_, c_no b8_] [k_c f1_, k_c f6_] (by kernel_rfl)
  have h9_ := (if_neg b8_).symm.trans h7_
  have b10_ : r1 = true := by first | exact b8_ | simpa using b8_
  by_cases b11_ : a > b
  · have h12_ := (if_pos b11_).symm.trans h9_
    obtain rfl := Option.some.inj h12_
    exact con_pc (op := true) (I := [74]) (sp := partsErr_sp) 3000 (bF 6 (bT 1 [])) [.one (.bool r0), .one (.bool r1)] [c_nn b5_, c_nn b5_, c_nn b5_, c_nn b5_, c_nn b5_, c_nn b10_, c_d b11_] [k_c f1_, k_c f6_] (by kernel_rfl)
  have h12_ := (if_neg b11_).symm.trans h9_
  obtain rfl := Option.some.inj h12_
  exact con_pc (op := true) (I := [74]) (sp := partsErr_sp) 3000 (bF 7 []) [.one (.bool r0), .one (.bool r1)] [c_nn b5_, c_nn b5_, c_nn b5_, c_nn b5_, c_nn b5_, c_nn b10_, c_n b11_] [k_c f1_, k_c f6_] (by kernel_rfl)
def m_74 (ds : List D) : Option D := pullD (α := Int × Int) (some (.tup ds)) (fun d => ((D.vi (D.at (D.at d 0) 0)), (D.vi (D.at (D.at d 0) 1)))) (fun (a, b) => .tup [.agg [iD a, iD b]]) fun (a, b) => partsErr_M a b
theorem m_74_ok {ds : List D} {r : D} (h : m_74 ds = some r) : Con 74 ds r := by
  unfold m_74 at h
  obtain ⟨⟨a, b⟩, e0, h0⟩ := pullD_elim h
  obtain rfl := tup_inj e0
  exact partsErr_M_ok a b h0
theorem m_74_eq (a b : Int) : m_74 [.agg [iD a, iD b]] = partsErr_M a b := pullD_some (a, b) rfl rfl
def ratioOf_sp : List LSpec := []
def ratioOf_M_s0 (a b c d : Int)  : Option D := pullD (α := Int) (m_64 [.list 1 [iD a, iD b]]) (fun d => ((D.vi d))) (fun r0 => iD r0) fun r0 => (pullD (α := Int) (m_50 [.list 2 [iD (2 : Int), iD r0]]) (fun d => ((D.vi d))) (fun r1 => iD r1) fun r1 => ((if c < (1 : Int) then pullD (α := Int) (m_64 [.list 1 [iD c, iD d]]) (fun d => ((D.vi d))) (fun r2 => iD r2) fun r2 => (pullD (α := Int) (m_50 [.list 2 [iD (2 : Int), iD r2]]) (fun d => ((D.vi d))) (fun r3 => iD r3) fun r3 => (pullD (α := Int) (m_50 [.list 2 [iD r1, iD r3]]) (fun d => ((D.vi d))) (fun r4 => iD r4) fun r4 => ((if r4 ≠ (0 : Int) then some (.tup [(shNK2_0 (0 : Int) (0 : Int) (0 : Int) (0 : Int)), iD r4]) else pullD (α := Int × Int) (m_72 [iD a, iD d]) (fun d => ((D.vi (D.at d 0)), (D.vi (D.at d 1)))) (fun (r5, r6) => .agg [iD r5, iD r6]) fun (r5, r6) => (pullD (α := Int × Int) (m_72 [iD b, iD c]) (fun d => ((D.vi (D.at d 0)), (D.vi (D.at d 1)))) (fun (r7, r8) => .agg [iD r7, iD r8]) fun (r7, r8) => (some (.tup [(shNK2_0 r5 r6 r7 r8), iD (0 : Int)]))))))) else (if c > (1000000000 : Int) then pullD (α := Int) (m_64 [.list 1 [iD c, iD d]]) (fun d => ((D.vi d))) (fun r9 => iD r9) fun r9 => (pullD (α := Int) (m_50 [.list 2 [iD (2 : Int), iD r9]]) (fun d => ((D.vi d))) (fun r10 => iD r10) fun r10 => (pullD (α := Int) (m_50 [.list 2 [iD r1, iD r10]]) (fun d => ((D.vi d))) (fun r11 => iD r11) fun r11 => ((if r11 ≠ (0 : Int) then some (.tup [(shNK2_0 (0 : Int) (0 : Int) (0 : Int) (0 : Int)), iD r11]) else pullD (α := Int × Int) (m_72 [iD a, iD d]) (fun d => ((D.vi (D.at d 0)), (D.vi (D.at d 1)))) (fun (r12, r13) => .agg [iD r12, iD r13]) fun (r12, r13) => (pullD (α := Int × Int) (m_72 [iD b, iD c]) (fun d => ((D.vi (D.at d 0)), (D.vi (D.at d 1)))) (fun (r14, r15) => .agg [iD r14, iD r15]) fun (r14, r15) => (some (.tup [(shNK2_0 r12 r13 r14 r15), iD (0 : Int)]))))))) else (if d < (1 : Int) then pullD (α := Int) (m_64 [.list 1 [iD c, iD d]]) (fun d => ((D.vi d))) (fun r16 => iD r16) fun r16 => (pullD (α := Int) (m_50 [.list 2 [iD (2 : Int), iD r16]]) (fun d => ((D.vi d))) (fun r17 => iD r17) fun r17 => (pullD (α := Int) (m_50 [.list 2 [iD r1, iD r17]]) (fun d => ((D.vi d))) (fun r18 => iD r18) fun r18 => ((if r18 ≠ (0 : Int) then some (.tup [(shNK2_0 (0 : Int) (0 : Int) (0 : Int) (0 : Int)), iD r18]) else pullD (α := Int × Int) (m_72 [iD a, iD d]) (fun d => ((D.vi (D.at d 0)), (D.vi (D.at d 1)))) (fun (r19, r20) => .agg [iD r19, iD r20]) fun (r19, r20) => (pullD (α := Int × Int) (m_72 [iD b, iD c]) (fun d => ((D.vi (D.at d 0)), (D.vi (D.at d 1)))) (fun (r21, r22) => .agg [iD r21, iD r22]) fun (r21, r22) => (some (.tup [(shNK2_0 r19 r20 r21 r22), iD (0 : Int)]))))))) else (if d > (1000000000 : Int) then pullD (α := Int) (m_64 [.list 1 [iD c, iD d]]) (fun d => ((D.vi d))) (fun r23 => iD r23) fun r23 => (pullD (α := Int) (m_50 [.list 2 [iD (2 : Int), iD r23]]) (fun d => ((D.vi d))) (fun r24 => iD r24) fun r24 => (pullD (α := Int) (m_50 [.list 2 [iD r1, iD r24]]) (fun d => ((D.vi d))) (fun r25 => iD r25) fun r25 => ((if r25 ≠ (0 : Int) then some (.tup [(shNK2_0 (0 : Int) (0 : Int) (0 : Int) (0 : Int)), iD r25]) else pullD (α := Int × Int) (m_72 [iD a, iD d]) (fun d => ((D.vi (D.at d 0)), (D.vi (D.at d 1)))) (fun (r26, r27) => .agg [iD r26, iD r27]) fun (r26, r27) => (pullD (α := Int × Int) (m_72 [iD b, iD c]) (fun d => ((D.vi (D.at d 0)), (D.vi (D.at d 1)))) (fun (r28, r29) => .agg [iD r28, iD r29]) fun (r28, r29) => (some (.tup [(shNK2_0 r26 r27 r28 r29), iD (0 : Int)]))))))) else pullD (α := Int) (m_64 [.list 1 [iD c, iD d]]) (fun d => ((D.vi d))) (fun r30 => iD r30) fun r30 => (pullD (α := Int) (m_50 [.list 2 [iD (0 : Int), iD r30]]) (fun d => ((D.vi d))) (fun r31 => iD r31) fun r31 => (pullD (α := Int) (m_50 [.list 2 [iD r1, iD r31]]) (fun d => ((D.vi d))) (fun r32 => iD r32) fun r32 => ((if r32 ≠ (0 : Int) then some (.tup [(shNK2_0 (0 : Int) (0 : Int) (0 : Int) (0 : Int)), iD r32]) else pullD (α := Int × Int) (m_72 [iD a, iD d]) (fun d => ((D.vi (D.at d 0)), (D.vi (D.at d 1)))) (fun (r33, r34) => .agg [iD r33, iD r34]) fun (r33, r34) => (pullD (α := Int × Int) (m_72 [iD b, iD c]) (fun d => ((D.vi (D.at d 0)), (D.vi (D.at d 1)))) (fun (r35, r36) => .agg [iD r35, iD r36]) fun (r35, r36) => (some (.tup [(shNK2_0 r33 r34 r35 r36), iD (0 : Int)])))))))))))))
def ratioOf_M_s1 (a b c d : Int)  : Option D := pullD (α := Int) (m_64 [.list 1 [iD a, iD b]]) (fun d => ((D.vi d))) (fun r37 => iD r37) fun r37 => (pullD (α := Int) (m_50 [.list 2 [iD (2 : Int), iD r37]]) (fun d => ((D.vi d))) (fun r38 => iD r38) fun r38 => ((if c < (1 : Int) then pullD (α := Int) (m_64 [.list 1 [iD c, iD d]]) (fun d => ((D.vi d))) (fun r39 => iD r39) fun r39 => (pullD (α := Int) (m_50 [.list 2 [iD (2 : Int), iD r39]]) (fun d => ((D.vi d))) (fun r40 => iD r40) fun r40 => (pullD (α := Int) (m_50 [.list 2 [iD r38, iD r40]]) (fun d => ((D.vi d))) (fun r41 => iD r41) fun r41 => ((if r41 ≠ (0 : Int) then some (.tup [(shNK2_0 (0 : Int) (0 : Int) (0 : Int) (0 : Int)), iD r41]) else pullD (α := Int × Int) (m_72 [iD a, iD d]) (fun d => ((D.vi (D.at d 0)), (D.vi (D.at d 1)))) (fun (r42, r43) => .agg [iD r42, iD r43]) fun (r42, r43) => (pullD (α := Int × Int) (m_72 [iD b, iD c]) (fun d => ((D.vi (D.at d 0)), (D.vi (D.at d 1)))) (fun (r44, r45) => .agg [iD r44, iD r45]) fun (r44, r45) => (some (.tup [(shNK2_0 r42 r43 r44 r45), iD (0 : Int)]))))))) else (if c > (1000000000 : Int) then pullD (α := Int) (m_64 [.list 1 [iD c, iD d]]) (fun d => ((D.vi d))) (fun r46 => iD r46) fun r46 => (pullD (α := Int) (m_50 [.list 2 [iD (2 : Int), iD r46]]) (fun d => ((D.vi d))) (fun r47 => iD r47) fun r47 => (pullD (α := Int) (m_50 [.list 2 [iD r38, iD r47]]) (fun d => ((D.vi d))) (fun r48 => iD r48) fun r48 => ((if r48 ≠ (0 : Int) then some (.tup [(shNK2_0 (0 : Int) (0 : Int) (0 : Int) (0 : Int)), iD r48]) else pullD (α := Int × Int) (m_72 [iD a, iD d]) (fun d => ((D.vi (D.at d 0)), (D.vi (D.at d 1)))) (fun (r49, r50) => .agg [iD r49, iD r50]) fun (r49, r50) => (pullD (α := Int × Int) (m_72 [iD b, iD c]) (fun d => ((D.vi (D.at d 0)), (D.vi (D.at d 1)))) (fun (r51, r52) => .agg [iD r51, iD r52]) fun (r51, r52) => (some (.tup [(shNK2_0 r49 r50 r51 r52), iD (0 : Int)]))))))) else (if d < (1 : Int) then pullD (α := Int) (m_64 [.list 1 [iD c, iD d]]) (fun d => ((D.vi d))) (fun r53 => iD r53) fun r53 => (pullD (α := Int) (m_50 [.list 2 [iD (2 : Int), iD r53]]) (fun d => ((D.vi d))) (fun r54 => iD r54) fun r54 => (pullD (α := Int) (m_50 [.list 2 [iD r38, iD r54]]) (fun d => ((D.vi d))) (fun r55 => iD r55) fun r55 => ((if r55 ≠ (0 : Int) then some (.tup [(shNK2_0 (0 : Int) (0 : Int) (0 : Int) (0 : Int)), iD r55]) else pullD (α := Int × Int) (m_72 [iD a, iD d]) (fun d => ((D.vi (D.at d 0)), (D.vi (D.at d 1)))) (fun (r56, r57) => .agg [iD r56, iD r57]) fun (r56, r57) => (pullD (α := Int × Int) (m_72 [iD b, iD c]) (fun d => ((D.vi (D.at d 0)), (D.vi (D.at d 1)))) (fun (r58, r59) => .agg [iD r58, iD r59]) fun (r58, r59) => (some (.tup [(shNK2_0 r56 r57 r58 r59), iD (0 : Int)]))))))) else (if d > (1000000000 : Int) then pullD (α := Int) (m_64 [.list 1 [iD c, iD d]]) (fun d => ((D.vi d))) (fun r60 => iD r60) fun r60 => (pullD (α := Int) (m_50 [.list 2 [iD (2 : Int), iD r60]]) (fun d => ((D.vi d))) (fun r61 => iD r61) fun r61 => (pullD (α := Int) (m_50 [.list 2 [iD r38, iD r61]]) (fun d => ((D.vi d))) (fun r62 => iD r62) fun r62 => ((if r62 ≠ (0 : Int) then some (.tup [(shNK2_0 (0 : Int) (0 : Int) (0 : Int) (0 : Int)), iD r62]) else pullD (α := Int × Int) (m_72 [iD a, iD d]) (fun d => ((D.vi (D.at d 0)), (D.vi (D.at d 1)))) (fun (r63, r64) => .agg [iD r63, iD r64]) fun (r63, r64) => (pullD (α := Int × Int) (m_72 [iD b, iD c]) (fun d => ((D.vi (D.at d 0)), (D.vi (D.at d 1)))) (fun (r65, r66) => .agg [iD r65, iD r66]) fun (r65, r66) => (some (.tup [(shNK2_0 r63 r64 r65 r66), iD (0 : Int)]))))))) else pullD (α := Int) (m_64 [.list 1 [iD c, iD d]]) (fun d => ((D.vi d))) (fun r67 => iD r67) fun r67 => (pullD (α := Int) (m_50 [.list 2 [iD (0 : Int), iD r67]]) (fun d => ((D.vi d))) (fun r68 => iD r68) fun r68 => (pullD (α := Int) (m_50 [.list 2 [iD r38, iD r68]]) (fun d => ((D.vi d))) (fun r69 => iD r69) fun r69 => ((if r69 ≠ (0 : Int) then some (.tup [(shNK2_0 (0 : Int) (0 : Int) (0 : Int) (0 : Int)), iD r69]) else pullD (α := Int × Int) (m_72 [iD a, iD d]) (fun d => ((D.vi (D.at d 0)), (D.vi (D.at d 1)))) (fun (r70, r71) => .agg [iD r70, iD r71]) fun (r70, r71) => (pullD (α := Int × Int) (m_72 [iD b, iD c]) (fun d => ((D.vi (D.at d 0)), (D.vi (D.at d 1)))) (fun (r72, r73) => .agg [iD r72, iD r73]) fun (r72, r73) => (some (.tup [(shNK2_0 r70 r71 r72 r73), iD (0 : Int)])))))))))))))
def ratioOf_M_s2 (a b c d : Int)  : Option D := pullD (α := Int) (m_64 [.list 1 [iD a, iD b]]) (fun d => ((D.vi d))) (fun r74 => iD r74) fun r74 => (pullD (α := Int) (m_50 [.list 2 [iD (2 : Int), iD r74]]) (fun d => ((D.vi d))) (fun r75 => iD r75) fun r75 => ((if c < (1 : Int) then pullD (α := Int) (m_64 [.list 1 [iD c, iD d]]) (fun d => ((D.vi d))) (fun r76 => iD r76) fun r76 => (pullD (α := Int) (m_50 [.list 2 [iD (2 : Int), iD r76]]) (fun d => ((D.vi d))) (fun r77 => iD r77) fun r77 => (pullD (α := Int) (m_50 [.list 2 [iD r75, iD r77]]) (fun d => ((D.vi d))) (fun r78 => iD r78) fun r78 => ((if r78 ≠ (0 : Int) then some (.tup [(shNK2_0 (0 : Int) (0 : Int) (0 : Int) (0 : Int)), iD r78]) else pullD (α := Int × Int) (m_72 [iD a, iD d]) (fun d => ((D.vi (D.at d 0)), (D.vi (D.at d 1)))) (fun (r79, r80) => .agg [iD r79, iD r80]) fun (r79, r80) => (pullD (α := Int × Int) (m_72 [iD b, iD c]) (fun d => ((D.vi (D.at d 0)), (D.vi (D.at d 1)))) (fun (r81, r82) => .agg [iD r81, iD r82]) fun (r81, r82) => (some (.tup [(shNK2_0 r79 r80 r81 r82), iD (0 : Int)]))))))) else (if c > (1000000000 : Int) then pullD (α := Int) (m_64 [.list 1 [iD c, iD d]]) (fun d => ((D.vi d))) (fun r83 => iD r83) fun r83 => (pullD (α := Int) (m_50 [.list 2 [iD (2 : Int), iD r83]]) (fun d => ((D.vi d))) (fun r84 => iD r84) fun r84 => (pullD (α := Int) (m_50 [.list 2 [iD r75, iD r84]]) (fun d => ((D.vi d))) (fun r85 => iD r85) fun r85 => ((if r85 ≠ (0 : Int) then some (.tup [(shNK2_0 (0 : Int) (0 : Int) (0 : Int) (0 : Int)), iD r85]) else pullD (α := Int × Int) (m_72 [iD a, iD d]) (fun d => ((D.vi (D.at d 0)), (D.vi (D.at d 1)))) (fun (r86, r87) => .agg [iD r86, iD r87]) fun (r86, r87) => (pullD (α := Int × Int) (m_72 [iD b, iD c]) (fun d => ((D.vi (D.at d 0)), (D.vi (D.at d 1)))) (fun (r88, r89) => .agg [iD r88, iD r89]) fun (r88, r89) => (some (.tup [(shNK2_0 r86 r87 r88 r89), iD (0 : Int)]))))))) else (if d < (1 : Int) then pullD (α := Int) (m_64 [.list 1 [iD c, iD d]]) (fun d => ((D.vi d))) (fun r90 => iD r90) fun r90 => (pullD (α := Int) (m_50 [.list 2 [iD (2 : Int), iD r90]]) (fun d => ((D.vi d))) (fun r91 => iD r91) fun r91 => (pullD (α := Int) (m_50 [.list 2 [iD r75, iD r91]]) (fun d => ((D.vi d))) (fun r92 => iD r92) fun r92 => ((if r92 ≠ (0 : Int) then some (.tup [(shNK2_0 (0 : Int) (0 : Int) (0 : Int) (0 : Int)), iD r92]) else pullD (α := Int × Int) (m_72 [iD a, iD d]) (fun d => ((D.vi (D.at d 0)), (D.vi (D.at d 1)))) (fun (r93, r94) => .agg [iD r93, iD r94]) fun (r93, r94) => (pullD (α := Int × Int) (m_72 [iD b, iD c]) (fun d => ((D.vi (D.at d 0)), (D.vi (D.at d 1)))) (fun (r95, r96) => .agg [iD r95, iD r96]) fun (r95, r96) => (some (.tup [(shNK2_0 r93 r94 r95 r96), iD (0 : Int)]))))))) else (if d > (1000000000 : Int) then pullD (α := Int) (m_64 [.list 1 [iD c, iD d]]) (fun d => ((D.vi d))) (fun r97 => iD r97) fun r97 => (pullD (α := Int) (m_50 [.list 2 [iD (2 : Int), iD r97]]) (fun d => ((D.vi d))) (fun r98 => iD r98) fun r98 => (pullD (α := Int) (m_50 [.list 2 [iD r75, iD r98]]) (fun d => ((D.vi d))) (fun r99 => iD r99) fun r99 => ((if r99 ≠ (0 : Int) then some (.tup [(shNK2_0 (0 : Int) (0 : Int) (0 : Int) (0 : Int)), iD r99]) else pullD (α := Int × Int) (m_72 [iD a, iD d]) (fun d => ((D.vi (D.at d 0)), (D.vi (D.at d 1)))) (fun (r100, r101) => .agg [iD r100, iD r101]) fun (r100, r101) => (pullD (α := Int × Int) (m_72 [iD b, iD c]) (fun d => ((D.vi (D.at d 0)), (D.vi (D.at d 1)))) (fun (r102, r103) => .agg [iD r102, iD r103]) fun (r102, r103) => (some (.tup [(shNK2_0 r100 r101 r102 r103), iD (0 : Int)]))))))) else pullD (α := Int) (m_64 [.list 1 [iD c, iD d]]) (fun d => ((D.vi d))) (fun r104 => iD r104) fun r104 => (pullD (α := Int) (m_50 [.list 2 [iD (0 : Int), iD r104]]) (fun d => ((D.vi d))) (fun r105 => iD r105) fun r105 => (pullD (α := Int) (m_50 [.list 2 [iD r75, iD r105]]) (fun d => ((D.vi d))) (fun r106 => iD r106) fun r106 => ((if r106 ≠ (0 : Int) then some (.tup [(shNK2_0 (0 : Int) (0 : Int) (0 : Int) (0 : Int)), iD r106]) else pullD (α := Int × Int) (m_72 [iD a, iD d]) (fun d => ((D.vi (D.at d 0)), (D.vi (D.at d 1)))) (fun (r107, r108) => .agg [iD r107, iD r108]) fun (r107, r108) => (pullD (α := Int × Int) (m_72 [iD b, iD c]) (fun d => ((D.vi (D.at d 0)), (D.vi (D.at d 1)))) (fun (r109, r110) => .agg [iD r109, iD r110]) fun (r109, r110) => (some (.tup [(shNK2_0 r107 r108 r109 r110), iD (0 : Int)])))))))))))))
def ratioOf_M_s3 (a b c d : Int)  : Option D := (if b > (1000000000 : Int) then pullD (α := Int) (m_64 [.list 1 [iD a, iD b]]) (fun d => ((D.vi d))) (fun r111 => iD r111) fun r111 => (pullD (α := Int) (m_50 [.list 2 [iD (2 : Int), iD r111]]) (fun d => ((D.vi d))) (fun r112 => iD r112) fun r112 => ((if c < (1 : Int) then pullD (α := Int) (m_64 [.list 1 [iD c, iD d]]) (fun d => ((D.vi d))) (fun r113 => iD r113) fun r113 => (pullD (α := Int) (m_50 [.list 2 [iD (2 : Int), iD r113]]) (fun d => ((D.vi d))) (fun r114 => iD r114) fun r114 => (pullD (α := Int) (m_50 [.list 2 [iD r112, iD r114]]) (fun d => ((D.vi d))) (fun r115 => iD r115) fun r115 => ((if r115 ≠ (0 : Int) then some (.tup [(shNK2_0 (0 : Int) (0 : Int) (0 : Int) (0 : Int)), iD r115]) else pullD (α := Int × Int) (m_72 [iD a, iD d]) (fun d => ((D.vi (D.at d 0)), (D.vi (D.at d 1)))) (fun (r116, r117) => .agg [iD r116, iD r117]) fun (r116, r117) => (pullD (α := Int × Int) (m_72 [iD b, iD c]) (fun d => ((D.vi (D.at d 0)), (D.vi (D.at d 1)))) (fun (r118, r119) => .agg [iD r118, iD r119]) fun (r118, r119) => (some (.tup [(shNK2_0 r116 r117 r118 r119), iD (0 : Int)]))))))) else (if c > (1000000000 : Int) then pullD (α := Int) (m_64 [.list 1 [iD c, iD d]]) (fun d => ((D.vi d))) (fun r120 => iD r120) fun r120 => (pullD (α := Int) (m_50 [.list 2 [iD (2 : Int), iD r120]]) (fun d => ((D.vi d))) (fun r121 => iD r121) fun r121 => (pullD (α := Int) (m_50 [.list 2 [iD r112, iD r121]]) (fun d => ((D.vi d))) (fun r122 => iD r122) fun r122 => ((if r122 ≠ (0 : Int) then some (.tup [(shNK2_0 (0 : Int) (0 : Int) (0 : Int) (0 : Int)), iD r122]) else pullD (α := Int × Int) (m_72 [iD a, iD d]) (fun d => ((D.vi (D.at d 0)), (D.vi (D.at d 1)))) (fun (r123, r124) => .agg [iD r123, iD r124]) fun (r123, r124) => (pullD (α := Int × Int) (m_72 [iD b, iD c]) (fun d => ((D.vi (D.at d 0)), (D.vi (D.at d 1)))) (fun (r125, r126) => .agg [iD r125, iD r126]) fun (r125, r126) => (some (.tup [(shNK2_0 r123 r124 r125 r126), iD (0 : Int)]))))))) else (if d < (1 : Int) then pullD (α := Int) (m_64 [.list 1 [iD c, iD d]]) (fun d => ((D.vi d))) (fun r127 => iD r127) fun r127 => (pullD (α := Int) (m_50 [.list 2 [iD (2 : Int), iD r127]]) (fun d => ((D.vi d))) (fun r128 => iD r128) fun r128 => (pullD (α := Int) (m_50 [.list 2 [iD r112, iD r128]]) (fun d => ((D.vi d))) (fun r129 => iD r129) fun r129 => ((if r129 ≠ (0 : Int) then some (.tup [(shNK2_0 (0 : Int) (0 : Int) (0 : Int) (0 : Int)), iD r129]) else pullD (α := Int × Int) (m_72 [iD a, iD d]) (fun d => ((D.vi (D.at d 0)), (D.vi (D.at d 1)))) (fun (r130, r131) => .agg [iD r130, iD r131]) fun (r130, r131) => (pullD (α := Int × Int) (m_72 [iD b, iD c]) (fun d => ((D.vi (D.at d 0)), (D.vi (D.at d 1)))) (fun (r132, r133) => .agg [iD r132, iD r133]) fun (r132, r133) => (some (.tup [(shNK2_0 r130 r131 r132 r133), iD (0 : Int)]))))))) else (if d > (1000000000 : Int) then pullD (α := Int) (m_64 [.list 1 [iD c, iD d]]) (fun d => ((D.vi d))) (fun r134 => iD r134) fun r134 => (pullD (α := Int) (m_50 [.list 2 [iD (2 : Int), iD r134]]) (fun d => ((D.vi d))) (fun r135 => iD r135) fun r135 => (pullD (α := Int) (m_50 [.list 2 [iD r112, iD r135]]) (fun d => ((D.vi d))) (fun r136 => iD r136) fun r136 => ((if r136 ≠ (0 : Int) then some (.tup [(shNK2_0 (0 : Int) (0 : Int) (0 : Int) (0 : Int)), iD r136]) else pullD (α := Int × Int) (m_72 [iD a, iD d]) (fun d => ((D.vi (D.at d 0)), (D.vi (D.at d 1)))) (fun (r137, r138) => .agg [iD r137, iD r138]) fun (r137, r138) => (pullD (α := Int × Int) (m_72 [iD b, iD c]) (fun d => ((D.vi (D.at d 0)), (D.vi (D.at d 1)))) (fun (r139, r140) => .agg [iD r139, iD r140]) fun (r139, r140) => (some (.tup [(shNK2_0 r137 r138 r139 r140), iD (0 : Int)]))))))) else pullD (α := Int) (m_64 [.list 1 [iD c, iD d]]) (fun d => ((D.vi d))) (fun r141 => iD r141) fun r141 => (pullD (α := Int) (m_50 [.list 2 [iD (0 : Int), iD r141]]) (fun d => ((D.vi d))) (fun r142 => iD r142) fun r142 => (pullD (α := Int) (m_50 [.list 2 [iD r112, iD r142]]) (fun d => ((D.vi d))) (fun r143 => iD r143) fun r143 => ((if r143 ≠ (0 : Int) then some (.tup [(shNK2_0 (0 : Int) (0 : Int) (0 : Int) (0 : Int)), iD r143]) else pullD (α := Int × Int) (m_72 [iD a, iD d]) (fun d => ((D.vi (D.at d 0)), (D.vi (D.at d 1)))) (fun (r144, r145) => .agg [iD r144, iD r145]) fun (r144, r145) => (pullD (α := Int × Int) (m_72 [iD b, iD c]) (fun d => ((D.vi (D.at d 0)), (D.vi (D.at d 1)))) (fun (r146, r147) => .agg [iD r146, iD r147]) fun (r146, r147) => (some (.tup [(shNK2_0 r144 r145 r146 r147), iD (0 : Int)]))))))))))))) else pullD (α := Int) (m_64 [.list 1 [iD a, iD b]]) (fun d => ((D.vi d))) (fun r148 => iD r148) fun r148 => (pullD (α := Int) (m_50 [.list 2 [iD (0 : Int), iD r148]]) (fun d => ((D.vi d))) (fun r149 => iD r149) fun r149 => ((if c < (1 : Int) then pullD (α := Int) (m_64 [.list 1 [iD c, iD d]]) (fun d => ((D.vi d))) (fun r150 => iD r150) fun r150 => (pullD (α := Int) (m_50 [.list 2 [iD (2 : Int), iD r150]]) (fun d => ((D.vi d))) (fun r151 => iD r151) fun r151 => (pullD (α := Int) (m_50 [.list 2 [iD r149, iD r151]]) (fun d => ((D.vi d))) (fun r152 => iD r152) fun r152 => ((if r152 ≠ (0 : Int) then some (.tup [(shNK2_0 (0 : Int) (0 : Int) (0 : Int) (0 : Int)), iD r152]) else pullD (α := Int × Int) (m_72 [iD a, iD d]) (fun d => ((D.vi (D.at d 0)), (D.vi (D.at d 1)))) (fun (r153, r154) => .agg [iD r153, iD r154]) fun (r153, r154) => (pullD (α := Int × Int) (m_72 [iD b, iD c]) (fun d => ((D.vi (D.at d 0)), (D.vi (D.at d 1)))) (fun (r155, r156) => .agg [iD r155, iD r156]) fun (r155, r156) => (some (.tup [(shNK2_0 r153 r154 r155 r156), iD (0 : Int)]))))))) else (if c > (1000000000 : Int) then pullD (α := Int) (m_64 [.list 1 [iD c, iD d]]) (fun d => ((D.vi d))) (fun r157 => iD r157) fun r157 => (pullD (α := Int) (m_50 [.list 2 [iD (2 : Int), iD r157]]) (fun d => ((D.vi d))) (fun r158 => iD r158) fun r158 => (pullD (α := Int) (m_50 [.list 2 [iD r149, iD r158]]) (fun d => ((D.vi d))) (fun r159 => iD r159) fun r159 => ((if r159 ≠ (0 : Int) then some (.tup [(shNK2_0 (0 : Int) (0 : Int) (0 : Int) (0 : Int)), iD r159]) else pullD (α := Int × Int) (m_72 [iD a, iD d]) (fun d => ((D.vi (D.at d 0)), (D.vi (D.at d 1)))) (fun (r160, r161) => .agg [iD r160, iD r161]) fun (r160, r161) => (pullD (α := Int × Int) (m_72 [iD b, iD c]) (fun d => ((D.vi (D.at d 0)), (D.vi (D.at d 1)))) (fun (r162, r163) => .agg [iD r162, iD r163]) fun (r162, r163) => (some (.tup [(shNK2_0 r160 r161 r162 r163), iD (0 : Int)]))))))) else (if d < (1 : Int) then pullD (α := Int) (m_64 [.list 1 [iD c, iD d]]) (fun d => ((D.vi d))) (fun r164 => iD r164) fun r164 => (pullD (α := Int) (m_50 [.list 2 [iD (2 : Int), iD r164]]) (fun d => ((D.vi d))) (fun r165 => iD r165) fun r165 => (pullD (α := Int) (m_50 [.list 2 [iD r149, iD r165]]) (fun d => ((D.vi d))) (fun r166 => iD r166) fun r166 => ((if r166 ≠ (0 : Int) then some (.tup [(shNK2_0 (0 : Int) (0 : Int) (0 : Int) (0 : Int)), iD r166]) else pullD (α := Int × Int) (m_72 [iD a, iD d]) (fun d => ((D.vi (D.at d 0)), (D.vi (D.at d 1)))) (fun (r167, r168) => .agg [iD r167, iD r168]) fun (r167, r168) => (pullD (α := Int × Int) (m_72 [iD b, iD c]) (fun d => ((D.vi (D.at d 0)), (D.vi (D.at d 1)))) (fun (r169, r170) => .agg [iD r169, iD r170]) fun (r169, r170) => (some (.tup [(shNK2_0 r167 r168 r169 r170), iD (0 : Int)]))))))) else (if d > (1000000000 : Int) then pullD (α := Int) (m_64 [.list 1 [iD c, iD d]]) (fun d => ((D.vi d))) (fun r171 => iD r171) fun r171 => (pullD (α := Int) (m_50 [.list 2 [iD (2 : Int), iD r171]]) (fun d => ((D.vi d))) (fun r172 => iD r172) fun r172 => (pullD (α := Int) (m_50 [.list 2 [iD r149, iD r172]]) (fun d => ((D.vi d))) (fun r173 => iD r173) fun r173 => ((if r173 ≠ (0 : Int) then some (.tup [(shNK2_0 (0 : Int) (0 : Int) (0 : Int) (0 : Int)), iD r173]) else pullD (α := Int × Int) (m_72 [iD a, iD d]) (fun d => ((D.vi (D.at d 0)), (D.vi (D.at d 1)))) (fun (r174, r175) => .agg [iD r174, iD r175]) fun (r174, r175) => (pullD (α := Int × Int) (m_72 [iD b, iD c]) (fun d => ((D.vi (D.at d 0)), (D.vi (D.at d 1)))) (fun (r176, r177) => .agg [iD r176, iD r177]) fun (r176, r177) => (some (.tup [(shNK2_0 r174 r175 r176 r177), iD (0 : Int)]))))))) else pullD (α := Int) (m_64 [.list 1 [iD c, iD d]]) (fun d => ((D.vi d))) (fun r178 => iD r178) fun r178 => (pullD (α := Int) (m_50 [.list 2 [iD (0 : Int), iD r178]]) (fun d => ((D.vi d))) (fun r179 => iD r179) fun r179 => (pullD (α := Int) (m_50 [.list 2 [iD r149, iD r179]]) (fun d => ((D.vi d))) (fun r180 => iD r180) fun r180 => ((if r180 ≠ (0 : Int) then some (.tup [(shNK2_0 (0 : Int) (0 : Int) (0 : Int) (0 : Int)), iD r180]) else pullD (α := Int × Int) (m_72 [iD a, iD d]) (fun d => ((D.vi (D.at d 0)), (D.vi (D.at d 1)))) (fun (r181, r182) => .agg [iD r181, iD r182]) fun (r181, r182) => (pullD (α := Int × Int) (m_72 [iD b, iD c]) (fun d => ((D.vi (D.at d 0)), (D.vi (D.at d 1)))) (fun (r183, r184) => .agg [iD r183, iD r184]) fun (r183, r184) => (some (.tup [(shNK2_0 r181 r182 r183 r184), iD (0 : Int)]))))))))))))))
def ratioOf_M (a b c d : Int) : Option D := (if a < (1 : Int) then ratioOf_M_s0 a b c d else (if a > (1000000000 : Int) then ratioOf_M_s1 a b c d else (if b < (1 : Int) then ratioOf_M_s2 a b c d else ratioOf_M_s3 a b c d)))
theorem ratioOf_M_s0_ok (a b c d : Int)  (b1_ : a < (1 : Int)) {r : D} (h : ratioOf_M_s0 a b c d = some r) : Con 31 [.agg [iD a, iD b], .agg [iD c, iD d]] r := by
  unfold ratioOf_M_s0 at h
  obtain ⟨r0, fq1_, hq2_⟩ := pullD_elim h
  replace fq1_ := m_64_ok fq1_
  obtain ⟨r1, fq3_, hq4_⟩ := pullD_elim hq2_
  replace fq3_ := m_50_ok fq3_
  by_cases bq5_ : c < (1 : Int)
  · have hq6_ := (if_pos bq5_).symm.trans hq4_
    obtain ⟨r2, fq7_, hq8_⟩ := pullD_elim hq6_
    replace fq7_ := m_64_ok fq7_
    obtain ⟨r3, fq9_, hq10_⟩ := pullD_elim hq8_
    replace fq9_ := m_50_ok fq9_
    obtain ⟨r4, fq11_, hq12_⟩ := pullD_elim hq10_
    replace fq11_ := m_50_ok fq11_
    by_cases bq13_ : r4 ≠ (0 : Int)
    · have hq14_ := (if_pos bq13_).symm.trans hq12_
      obtain rfl := Option.some.inj hq14_
      exact con_pc (op := true) (I := [31, 69, 63, 97]) (sp := ratioOf_sp) 3000 (bT 13 []) [iD r0, iD r1, iD r2, iD r3, iD r4] [c_T, c_d b1_, c_d b1_, c_d b1_, c_d b1_, c_T, c_le 0, c_le 1, c_T, c_d bq5_, c_d bq5_, c_d bq5_, c_d bq5_, c_T, c_le 0, c_le 1, c_le 1, c_b bq13_] [k_c fq1_, k_c fq3_, k_c fq7_, k_c fq9_, k_c fq11_] (by kernel_rfl)
    have hq14_ := (if_neg bq13_).symm.trans hq12_
    have bq15_ : r4 = (0 : Int) := by first | exact bq13_ | simpa using bq13_
    obtain ⟨⟨r5, r6⟩, fq16_, hq17_⟩ := pullD_elim hq14_
    replace fq16_ := m_72_ok fq16_
    obtain ⟨⟨r7, r8⟩, fq18_, hq19_⟩ := pullD_elim hq17_
    replace fq18_ := m_72_ok fq18_
    obtain rfl := Option.some.inj hq19_
    exact con_pc (op := true) (I := [31, 69, 63, 97]) (sp := ratioOf_sp) 3000 (bT 12 (bF 1 [])) [iD r0, iD r1, iD r2, iD r3, iD r4, .agg [iD r5, iD r6], .agg [iD r7, iD r8]] [c_T, c_d b1_, c_d b1_, c_d b1_, c_d b1_, c_T, c_le 0, c_le 1, c_T, c_d bq5_, c_d bq5_, c_d bq5_, c_d bq5_, c_T, c_le 0, c_le 1, c_le 1, c_bn bq15_] [k_c fq1_, k_c fq3_, k_c fq7_, k_c fq9_, k_c fq11_, k_c fq16_, k_c fq18_] (by kernel_rfl)
  have hq6_ := (if_neg bq5_).symm.trans hq4_
  by_cases bq20_ : c > (1000000000 : Int)
  · have hq21_ := (if_pos bq20_).symm.trans hq6_
    obtain ⟨r9, fq22_, hq23_⟩ := pullD_elim hq21_
    replace fq22_ := m_64_ok fq22_
    obtain ⟨r10, fq24_, hq25_⟩ := pullD_elim hq23_
    replace fq24_ := m_50_ok fq24_
    obtain ⟨r11, fq26_, hq27_⟩ := pullD_elim hq25_
    replace fq26_ := m_50_ok fq26_
    by_cases bq28_ : r11 ≠ (0 : Int)
    · have hq29_ := (if_pos bq28_).symm.trans hq27_
      obtain rfl := Option.some.inj hq29_
      exact con_pc (op := true) (I := [31, 69, 63, 97]) (sp := ratioOf_sp) 3000 (bT 7 (bF 4 (bT 2 []))) [iD r0, iD r1, iD r9, iD r10, iD r11] [c_T, c_d b1_, c_d b1_, c_d b1_, c_d b1_, c_T, c_le 0, c_le 1, c_T, c_n bq5_, c_n bq5_, c_n bq5_, c_n bq5_, c_d bq20_, c_le 0, c_le 1, c_le 1, c_b bq28_] [k_c fq1_, k_c fq3_, k_c fq22_, k_c fq24_, k_c fq26_] (by kernel_rfl)
    have hq29_ := (if_neg bq28_).symm.trans hq27_
    have bq30_ : r11 = (0 : Int) := by first | exact bq28_ | simpa using bq28_
    obtain ⟨⟨r12, r13⟩, fq31_, hq32_⟩ := pullD_elim hq29_
    replace fq31_ := m_72_ok fq31_
    obtain ⟨⟨r14, r15⟩, fq33_, hq34_⟩ := pullD_elim hq32_
    replace fq33_ := m_72_ok fq33_
    obtain rfl := Option.some.inj hq34_
    exact con_pc (op := true) (I := [31, 69, 63, 97]) (sp := ratioOf_sp) 3000 (bT 7 (bF 4 (bT 1 (bF 1 [])))) [iD r0, iD r1, iD r9, iD r10, iD r11, .agg [iD r12, iD r13], .agg [iD r14, iD r15]] [c_T, c_d b1_, c_d b1_, c_d b1_, c_d b1_, c_T, c_le 0, c_le 1, c_T, c_n bq5_, c_n bq5_, c_n bq5_, c_n bq5_, c_d bq20_, c_le 0, c_le 1, c_le 1, c_bn bq30_] [k_c fq1_, k_c fq3_, k_c fq22_, k_c fq24_, k_c fq26_, k_c fq31_, k_c fq33_] (by kernel_rfl)
  have hq21_ := (if_neg bq20_).symm.trans hq6_
  by_cases bq35_ : d < (1 : Int)
  · have hq36_ := (if_pos bq35_).symm.trans hq21_
    obtain ⟨r16, fq37_, hq38_⟩ := pullD_elim hq36_
    replace fq37_ := m_64_ok fq37_
    obtain ⟨r17, fq39_, hq40_⟩ := pullD_elim hq38_
    replace fq39_ := m_50_ok fq39_
    obtain ⟨r18, fq41_, hq42_⟩ := pullD_elim hq40_
    replace fq41_ := m_50_ok fq41_
    by_cases bq43_ : r18 ≠ (0 : Int)
    · have hq44_ := (if_pos bq43_).symm.trans hq42_
      obtain rfl := Option.some.inj hq44_
      exact con_pc (op := true) (I := [31, 69, 63, 97]) (sp := ratioOf_sp) 3000 (bT 7 (bF 5 (bT 7 []))) [iD r0, iD r1, iD r16, iD r17, iD r18] [c_T, c_d b1_, c_d b1_, c_d b1_, c_d b1_, c_T, c_le 0, c_le 1, c_T, c_n bq5_, c_n bq5_, c_n bq5_, c_n bq5_, c_n bq20_, c_T, c_d bq35_, c_d bq35_, c_d bq35_, c_d bq35_, c_T, c_le 0, c_le 1, c_le 1, c_b bq43_] [k_c fq1_, k_c fq3_, k_c fq37_, k_c fq39_, k_c fq41_] (by kernel_rfl)
    have hq44_ := (if_neg bq43_).symm.trans hq42_
    have bq45_ : r18 = (0 : Int) := by first | exact bq43_ | simpa using bq43_
    obtain ⟨⟨r19, r20⟩, fq46_, hq47_⟩ := pullD_elim hq44_
    replace fq46_ := m_72_ok fq46_
    obtain ⟨⟨r21, r22⟩, fq48_, hq49_⟩ := pullD_elim hq47_
    replace fq48_ := m_72_ok fq48_
    obtain rfl := Option.some.inj hq49_
    exact con_pc (op := true) (I := [31, 69, 63, 97]) (sp := ratioOf_sp) 3000 (bT 7 (bF 5 (bT 6 (bF 1 [])))) [iD r0, iD r1, iD r16, iD r17, iD r18, .agg [iD r19, iD r20], .agg [iD r21, iD r22]] [c_T, c_d b1_, c_d b1_, c_d b1_, c_d b1_, c_T, c_le 0, c_le 1, c_T, c_n bq5_, c_n bq5_, c_n bq5_, c_n bq5_, c_n bq20_, c_T, c_d bq35_, c_d bq35_, c_d bq35_, c_d bq35_, c_T, c_le 0, c_le 1, c_le 1, c_bn bq45_] [k_c fq1_, k_c fq3_, k_c fq37_, k_c fq39_, k_c fq41_, k_c fq46_, k_c fq48_] (by kernel_rfl)
  have hq36_ := (if_neg bq35_).symm.trans hq21_
  by_cases bq50_ : d > (1000000000 : Int)
  · have hq51_ := (if_pos bq50_).symm.trans hq36_
    obtain ⟨r23, fq52_, hq53_⟩ := pullD_elim hq51_
    replace fq52_ := m_64_ok fq52_
    obtain ⟨r24, fq54_, hq55_⟩ := pullD_elim hq53_
    replace fq54_ := m_50_ok fq54_
    obtain ⟨r25, fq56_, hq57_⟩ := pullD_elim hq55_
    replace fq56_ := m_50_ok fq56_
    by_cases bq58_ : r25 ≠ (0 : Int)
    · have hq59_ := (if_pos bq58_).symm.trans hq57_
      obtain rfl := Option.some.inj hq59_
      exact con_pc (op := true) (I := [31, 69, 63, 97]) (sp := ratioOf_sp) 3000 (bT 7 (bF 5 (bT 1 (bF 4 (bT 2 []))))) [iD r0, iD r1, iD r23, iD r24, iD r25] [c_T, c_d b1_, c_d b1_, c_d b1_, c_d b1_, c_T, c_le 0, c_le 1, c_T, c_n bq5_, c_n bq5_, c_n bq5_, c_n bq5_, c_n bq20_, c_T, c_n bq35_, c_n bq35_, c_n bq35_, c_n bq35_, c_d bq50_, c_le 0, c_le 1, c_le 1, c_b bq58_] [k_c fq1_, k_c fq3_, k_c fq52_, k_c fq54_, k_c fq56_] (by kernel_rfl)
    have hq59_ := (if_neg bq58_).symm.trans hq57_
    have bq60_ : r25 = (0 : Int) := by first | exact bq58_ | simpa using bq58_
    obtain ⟨⟨r26, r27⟩, fq61_, hq62_⟩ := pullD_elim hq59_
    replace fq61_ := m_72_ok fq61_
    obtain ⟨⟨r28, r29⟩, fq63_, hq64_⟩ := pullD_elim hq62_
    replace fq63_ := m_72_ok fq63_
    obtain rfl := Option.some.inj hq64_
    exact con_pc (op := true) (I := [31, 69, 63, 97]) (sp := ratioOf_sp) 3000 (bT 7 (bF 5 (bT 1 (bF 4 (bT 1 (bF 1 [])))))) [iD r0, iD r1, iD r23, iD r24, iD r25, .agg [iD r26, iD r27], .agg [iD r28, iD r29]] [c_T, c_d b1_, c_d b1_, c_d b1_, c_d b1_, c_T, c_le 0, c_le 1, c_T, c_n bq5_, c_n bq5_, c_n bq5_, c_n bq5_, c_n bq20_, c_T, c_n bq35_, c_n bq35_, c_n bq35_, c_n bq35_, c_d bq50_, c_le 0, c_le 1, c_le 1, c_bn bq60_] [k_c fq1_, k_c fq3_, k_c fq52_, k_c fq54_, k_c fq56_, k_c fq61_, k_c fq63_] (by kernel_rfl)
  have hq51_ := (if_neg bq50_).symm.trans hq36_
  obtain ⟨r30, fq65_, hq66_⟩ := pullD_elim hq51_
  replace fq65_ := m_64_ok fq65_
  obtain ⟨r31, fq67_, hq68_⟩ := pullD_elim hq66_
  replace fq67_ := m_50_ok fq67_
  obtain ⟨r32, fq69_, hq70_⟩ := pullD_elim hq68_
  replace fq69_ := m_50_ok fq69_
  by_cases bq71_ : r32 ≠ (0 : Int)
  · have hq72_ := (if_pos bq71_).symm.trans hq70_
    obtain rfl := Option.some.inj hq72_
    exact con_pc (op := true) (I := [31, 69, 63, 97]) (sp := ratioOf_sp) 3000 (bT 7 (bF 5 (bT 1 (bF 6 (bT 1 []))))) [iD r0, iD r1, iD r30, iD r31, iD r32] [c_T, c_d b1_, c_d b1_, c_d b1_, c_d b1_, c_T, c_le 0, c_le 1, c_T, c_n bq5_, c_n bq5_, c_n bq5_, c_n bq5_, c_n bq20_, c_T, c_n bq35_, c_n bq35_, c_n bq35_, c_n bq35_, c_n bq50_, c_F, c_le 0, c_le 1, c_le 1, c_b bq71_] [k_c fq1_, k_c fq3_, k_c fq65_, k_c fq67_, k_c fq69_] (by kernel_rfl)
  have hq72_ := (if_neg bq71_).symm.trans hq70_
  have bq73_ : r32 = (0 : Int) := by first | exact bq71_ | simpa using bq71_
  obtain ⟨⟨r33, r34⟩, fq74_, hq75_⟩ := pullD_elim hq72_
  replace fq74_ := m_72_ok fq74_
  obtain ⟨⟨r35, r36⟩, fq76_, hq77_⟩ := pullD_elim hq75_
  replace fq76_ := m_72_ok fq76_
  obtain rfl := Option.some.inj hq77_
  exact con_pc (op := true) (I := [31, 69, 63, 97]) (sp := ratioOf_sp) 3000 (bT 7 (bF 5 (bT 1 (bF 7 [])))) [iD r0, iD r1, iD r30, iD r31, iD r32, .agg [iD r33, iD r34], .agg [iD r35, iD r36]] [c_T, c_d b1_, c_d b1_, c_d b1_, c_d b1_, c_T, c_le 0, c_le 1, c_T, c_n bq5_, c_n bq5_, c_n bq5_, c_n bq5_, c_n bq20_, c_T, c_n bq35_, c_n bq35_, c_n bq35_, c_n bq35_, c_n bq50_, c_F, c_le 0, c_le 1, c_le 1, c_bn bq73_] [k_c fq1_, k_c fq3_, k_c fq65_, k_c fq67_, k_c fq69_, k_c fq74_, k_c fq76_] (by kernel_rfl)
theorem ratioOf_M_s1_ok (a b c d : Int)  (b1_ : ¬ (a < (1 : Int))) (b3_ : a > (1000000000 : Int)) {r : D} (h : ratioOf_M_s1 a b c d = some r) : Con 31 [.agg [iD a, iD b], .agg [iD c, iD d]] r := by
  unfold ratioOf_M_s1 at h
  obtain ⟨r37, fq1_, hq2_⟩ := pullD_elim h
  replace fq1_ := m_64_ok fq1_
  obtain ⟨r38, fq3_, hq4_⟩ := pullD_elim hq2_
  replace fq3_ := m_50_ok fq3_
  by_cases bq5_ : c < (1 : Int)
  · have hq6_ := (if_pos bq5_).symm.trans hq4_
    obtain ⟨r39, fq7_, hq8_⟩ := pullD_elim hq6_
    replace fq7_ := m_64_ok fq7_
    obtain ⟨r40, fq9_, hq10_⟩ := pullD_elim hq8_
    replace fq9_ := m_50_ok fq9_
    obtain ⟨r41, fq11_, hq12_⟩ := pullD_elim hq10_
    replace fq11_ := m_50_ok fq11_
    by_cases bq13_ : r41 ≠ (0 : Int)
    · have hq14_ := (if_pos bq13_).symm.trans hq12_
      obtain rfl := Option.some.inj hq14_
      exact con_pc (op := true) (I := [31, 69, 63, 97]) (sp := ratioOf_sp) 3000 (bT 1 (bF 4 (bT 8 []))) [iD r37, iD r38, iD r39, iD r40, iD r41] [c_T, c_n b1_, c_n b1_, c_n b1_, c_n b1_, c_d b3_, c_le 0, c_le 1, c_T, c_d bq5_, c_d bq5_, c_d bq5_, c_d bq5_, c_T, c_le 0, c_le 1, c_le 1, c_b bq13_] [k_c fq1_, k_c fq3_, k_c fq7_, k_c fq9_, k_c fq11_] (by kernel_rfl)
    have hq14_ := (if_neg bq13_).symm.trans hq12_
    have bq15_ : r41 = (0 : Int) := by first | exact bq13_ | simpa using bq13_
    obtain ⟨⟨r42, r43⟩, fq16_, hq17_⟩ := pullD_elim hq14_
    replace fq16_ := m_72_ok fq16_
    obtain ⟨⟨r44, r45⟩, fq18_, hq19_⟩ := pullD_elim hq17_
    replace fq18_ := m_72_ok fq18_
    obtain rfl := Option.some.inj hq19_
    exact con_pc (op := true) (I := [31, 69, 63, 97]) (sp := ratioOf_sp) 3000 (bT 1 (bF 4 (bT 7 (bF 1 [])))) [iD r37, iD r38, iD r39, iD r40, iD r41, .agg [iD r42, iD r43], .agg [iD r44, iD r45]] [c_T, c_n b1_, c_n b1_, c_n b1_, c_n b1_, c_d b3_, c_le 0, c_le 1, c_T, c_d bq5_, c_d bq5_, c_d bq5_, c_d bq5_, c_T, c_le 0, c_le 1, c_le 1, c_bn bq15_] [k_c fq1_, k_c fq3_, k_c fq7_, k_c fq9_, k_c fq11_, k_c fq16_, k_c fq18_] (by kernel_rfl)
  have hq6_ := (if_neg bq5_).symm.trans hq4_
  by_cases bq20_ : c > (1000000000 : Int)
  · have hq21_ := (if_pos bq20_).symm.trans hq6_
    obtain ⟨r46, fq22_, hq23_⟩ := pullD_elim hq21_
    replace fq22_ := m_64_ok fq22_
    obtain ⟨r47, fq24_, hq25_⟩ := pullD_elim hq23_
    replace fq24_ := m_50_ok fq24_
    obtain ⟨r48, fq26_, hq27_⟩ := pullD_elim hq25_
    replace fq26_ := m_50_ok fq26_
    by_cases bq28_ : r48 ≠ (0 : Int)
    · have hq29_ := (if_pos bq28_).symm.trans hq27_
      obtain rfl := Option.some.inj hq29_
      exact con_pc (op := true) (I := [31, 69, 63, 97]) (sp := ratioOf_sp) 3000 (bT 1 (bF 4 (bT 2 (bF 4 (bT 2 []))))) [iD r37, iD r38, iD r46, iD r47, iD r48] [c_T, c_n b1_, c_n b1_, c_n b1_, c_n b1_, c_d b3_, c_le 0, c_le 1, c_T, c_n bq5_, c_n bq5_, c_n bq5_, c_n bq5_, c_d bq20_, c_le 0, c_le 1, c_le 1, c_b bq28_] [k_c fq1_, k_c fq3_, k_c fq22_, k_c fq24_, k_c fq26_] (by kernel_rfl)
    have hq29_ := (if_neg bq28_).symm.trans hq27_
    have bq30_ : r48 = (0 : Int) := by first | exact bq28_ | simpa using bq28_
    obtain ⟨⟨r49, r50⟩, fq31_, hq32_⟩ := pullD_elim hq29_
    replace fq31_ := m_72_ok fq31_
    obtain ⟨⟨r51, r52⟩, fq33_, hq34_⟩ := pullD_elim hq32_
    replace fq33_ := m_72_ok fq33_
    obtain rfl := Option.some.inj hq34_
    exact con_pc (op := true) (I := [31, 69, 63, 97]) (sp := ratioOf_sp) 3000 (bT 1 (bF 4 (bT 2 (bF 4 (bT 1 (bF 1 [])))))) [iD r37, iD r38, iD r46, iD r47, iD r48, .agg [iD r49, iD r50], .agg [iD r51, iD r52]] [c_T, c_n b1_, c_n b1_, c_n b1_, c_n b1_, c_d b3_, c_le 0, c_le 1, c_T, c_n bq5_, c_n bq5_, c_n bq5_, c_n bq5_, c_d bq20_, c_le 0, c_le 1, c_le 1, c_bn bq30_] [k_c fq1_, k_c fq3_, k_c fq22_, k_c fq24_, k_c fq26_, k_c fq31_, k_c fq33_] (by kernel_rfl)
  have hq21_ := (if_neg bq20_).symm.trans hq6_
  by_cases bq35_ : d < (1 : Int)
  · have hq36_ := (if_pos bq35_).symm.trans hq21_
    obtain ⟨r53, fq37_, hq38_⟩ := pullD_elim hq36_
    replace fq37_ := m_64_ok fq37_
    obtain ⟨r54, fq39_, hq40_⟩ := pullD_elim hq38_
    replace fq39_ := m_50_ok fq39_
    obtain ⟨r55, fq41_, hq42_⟩ := pullD_elim hq40_
    replace fq41_ := m_50_ok fq41_
    by_cases bq43_ : r55 ≠ (0 : Int)
    · have hq44_ := (if_pos bq43_).symm.trans hq42_
      obtain rfl := Option.some.inj hq44_
      exact con_pc (op := true) (I := [31, 69, 63, 97]) (sp := ratioOf_sp) 3000 (bT 1 (bF 4 (bT 2 (bF 5 (bT 7 []))))) [iD r37, iD r38, iD r53, iD r54, iD r55] [c_T, c_n b1_, c_n b1_, c_n b1_, c_n b1_, c_d b3_, c_le 0, c_le 1, c_T, c_n bq5_, c_n bq5_, c_n bq5_, c_n bq5_, c_n bq20_, c_T, c_d bq35_, c_d bq35_, c_d bq35_, c_d bq35_, c_T, c_le 0, c_le 1, c_le 1, c_b bq43_] [k_c fq1_, k_c fq3_, k_c fq37_, k_c fq39_, k_c fq41_] (by kernel_rfl)
    have hq44_ := (if_neg bq43_).symm.trans hq42_
    have bq45_ : r55 = (0 : Int) := by first | exact bq43_ | simpa using bq43_
    obtain ⟨⟨r56, r57⟩, fq46_, hq47_⟩ := pullD_elim hq44_
    replace fq46_ := m_72_ok fq46_
    obtain ⟨⟨r58, r59⟩, fq48_, hq49_⟩ := pullD_elim hq47_
    replace fq48_ := m_72_ok fq48_
    obtain rfl := Option.some.inj hq49_
    exact con_pc (op := true) (I := [31, 69, 63, 97]) (sp := ratioOf_sp) 3000 (bT 1 (bF 4 (bT 2 (bF 5 (bT 6 (bF 1 [])))))) [iD r37, iD r38, iD r53, iD r54, iD r55, .agg [iD r56, iD r57], .agg [iD r58, iD r59]] [c_T, c_n b1_, c_n b1_, c_n b1_, c_n b1_, c_d b3_, c_le 0, c_le 1, c_T, c_n bq5_, c_n bq5_, c_n bq5_, c_n bq5_, c_n bq20_, c_T, c_d bq35_, c_d bq35_, c_d bq35_, c_d bq35_, c_T, c_le 0, c_le 1, c_le 1, c_bn bq45_] [k_c fq1_, k_c fq3_, k_c fq37_, k_c fq39_, k_c fq41_, k_c fq46_, k_c fq48_] (by kernel_rfl)
  have hq36_ := (if_neg bq35_).symm.trans hq21_
  by_cases bq50_ : d > (1000000000 : Int)
  · have hq51_ := (if_pos bq50_).symm.trans hq36_
    obtain ⟨r60, fq52_, hq53_⟩ := pullD_elim hq51_
    replace fq52_ := m_64_ok fq52_
    obtain ⟨r61, fq54_, hq55_⟩ := pullD_elim hq53_
    replace fq54_ := m_50_ok fq54_
    obtain ⟨r62, fq56_, hq57_⟩ := pullD_elim hq55_
    replace fq56_ := m_50_ok fq56_
    by_cases bq58_ : r62 ≠ (0 : Int)
    · have hq59_ := (if_pos bq58_).symm.trans hq57_
      obtain rfl := Option.some.inj hq59_
      exact con_pc (op := true) (I := [31, 69, 63, 97]) (sp := ratioOf_sp) 3000 (bT 1 (bF 4 (bT 2 (bF 5 (bT 1 (bF 4 (bT 2 []))))))) [iD r37, iD r38, iD r60, iD r61, iD r62] [c_T, c_n b1_, c_n b1_, c_n b1_, c_n b1_, c_d b3_, c_le 0, c_le 1, c_T, c_n bq5_, c_n bq5_, c_n bq5_, c_n bq5_, c_n bq20_, c_T, c_n bq35_, c_n bq35_, c_n bq35_, c_n bq35_, c_d bq50_, c_le 0, c_le 1, c_le 1, c_b bq58_] [k_c fq1_, k_c fq3_, k_c fq52_, k_c fq54_, k_c fq56_] (by kernel_rfl)
    have hq59_ := (if_neg bq58_).symm.trans hq57_
    have bq60_ : r62 = (0 : Int) := by first | exact bq58_ | simpa using bq58_
    obtain ⟨⟨r63, r64⟩, fq61_, hq62_⟩ := pullD_elim hq59_
    replace fq61_ := m_72_ok fq61_
    obtain ⟨⟨r65, r66⟩, fq63_, hq64_⟩ := pullD_elim hq62_
    replace fq63_ := m_72_ok fq63_
    obtain rfl := Option.some.inj hq64_
    exact con_pc (op := true) (I := [31, 69, 63, 97]) (sp := ratioOf_sp) 3000 (bT 1 (bF 4 (bT 2 (bF 5 (bT 1 (bF 4 (bT 1 (bF 1 [])))))))) [iD r37, iD r38, iD r60, iD r61, iD r62, .agg [iD r63, iD r64], .agg [iD r65, iD r66]] [c_T, c_n b1_, c_n b1_, c_n b1_, c_n b1_, c_d b3_, c_le 0, c_le 1, c_T, c_n bq5_, c_n bq5_, c_n bq5_, c_n bq5_, c_n bq20_, c_T, c_n bq35_, c_n bq35_, c_n bq35_, c_n bq35_, c_d bq50_, c_le 0, c_le 1, c_le 1, c_bn bq60_] [k_c fq1_, k_c fq3_, k_c fq52_, k_c fq54_, k_c fq56_, k_c fq61_, k_c fq63_] (by kernel_rfl)
  have hq51_ := (if_neg bq50_).symm.trans hq36_
  obtain ⟨r67, fq65_, hq66_⟩ := pullD_elim hq51_
  replace fq65_ := m_64_ok fq65_
  obtain ⟨r68, fq67_, hq68_⟩ := pullD_elim hq66_
  replace fq67_ := m_50_ok fq67_
  obtain ⟨r69, fq69_, hq70_⟩ := pullD_elim hq68_
  replace fq69_ := m_50_ok fq69_
  by_cases bq71_ : r69 ≠ (0 : Int)
  · have hq72_ := (if_pos bq71_).symm.trans hq70_
    obtain rfl := Option.some.inj hq72_
    exact con_pc (op := true) (I := [31, 69, 63, 97]) (sp := ratioOf_sp) 3000 (bT 1 (bF 4 (bT 2 (bF 5 (bT 1 (bF 6 (bT 1 []))))))) [iD r37, iD r38, iD r67, iD r68, iD r69] [c_T, c_n b1_, c_n b1_, c_n b1_, c_n b1_, c_d b3_, c_le 0, c_le 1, c_T, c_n bq5_, c_n bq5_, c_n bq5_, c_n bq5_, c_n bq20_, c_T, c_n bq35_, c_n bq35_, c_n bq35_, c_n bq35_, c_n bq50_, c_F, c_le 0, c_le 1, c_le 1, c_b bq71_] [k_c fq1_, k_c fq3_, k_c fq65_, k_c fq67_, k_c fq69_] (by kernel_rfl)
  have hq72_ := (if_neg bq71_).symm.trans hq70_
  have bq73_ : r69 = (0 : Int) := by first | exact bq71_ | simpa using bq71_
  obtain ⟨⟨r70, r71⟩, fq74_, hq75_⟩ := pullD_elim hq72_
  replace fq74_ := m_72_ok fq74_
  obtain ⟨⟨r72, r73⟩, fq76_, hq77_⟩ := pullD_elim hq75_
  replace fq76_ := m_72_ok fq76_
  obtain rfl := Option.some.inj hq77_
  exact con_pc (op := true) (I := [31, 69, 63, 97]) (sp := ratioOf_sp) 3000 (bT 1 (bF 4 (bT 2 (bF 5 (bT 1 (bF 7 [])))))) [iD r37, iD r38, iD r67, iD r68, iD r69, .agg [iD r70, iD r71], .agg [iD r72, iD r73]] [c_T, c_n b1_, c_n b1_, c_n b1_, c_n b1_, c_d b3_, c_le 0, c_le 1, c_T, c_n bq5_, c_n bq5_, c_n bq5_, c_n bq5_, c_n bq20_, c_T, c_n bq35_, c_n bq35_, c_n bq35_, c_n bq35_, c_n bq50_, c_F, c_le 0, c_le 1, c_le 1, c_bn bq73_] [k_c fq1_, k_c fq3_, k_c fq65_, k_c fq67_, k_c fq69_, k_c fq74_, k_c fq76_] (by kernel_rfl)
theorem ratioOf_M_s2_ok (a b c d : Int)  (b1_ : ¬ (a < (1 : Int))) (b3_ : ¬ (a > (1000000000 : Int))) (b5_ : b < (1 : Int)) {r : D} (h : ratioOf_M_s2 a b c d = some r) : Con 31 [.agg [iD a, iD b], .agg [iD c, iD d]] r := by
  unfold ratioOf_M_s2 at h
  obtain ⟨r74, fq1_, hq2_⟩ := pullD_elim h
  replace fq1_ := m_64_ok fq1_
  obtain ⟨r75, fq3_, hq4_⟩ := pullD_elim hq2_
  replace fq3_ := m_50_ok fq3_
  by_cases bq5_ : c < (1 : Int)
  · have hq6_ := (if_pos bq5_).symm.trans hq4_
    obtain ⟨r76, fq7_, hq8_⟩ := pullD_elim hq6_
    replace fq7_ := m_64_ok fq7_
    obtain ⟨r77, fq9_, hq10_⟩ := pullD_elim hq8_
    replace fq9_ := m_50_ok fq9_
    obtain ⟨r78, fq11_, hq12_⟩ := pullD_elim hq10_
    replace fq11_ := m_50_ok fq11_
    by_cases bq13_ : r78 ≠ (0 : Int)
    · have hq14_ := (if_pos bq13_).symm.trans hq12_
      obtain rfl := Option.some.inj hq14_
      exact con_pc (op := true) (I := [31, 69, 63, 97]) (sp := ratioOf_sp) 3000 (bT 1 (bF 5 (bT 13 []))) [iD r74, iD r75, iD r76, iD r77, iD r78] [c_T, c_n b1_, c_n b1_, c_n b1_, c_n b1_, c_n b3_, c_T, c_d b5_, c_d b5_, c_d b5_, c_d b5_, c_T, c_le 0, c_le 1, c_T, c_d bq5_, c_d bq5_, c_d bq5_, c_d bq5_, c_T, c_le 0, c_le 1, c_le 1, c_b bq13_] [k_c fq1_, k_c fq3_, k_c fq7_, k_c fq9_, k_c fq11_] (by kernel_rfl)
    have hq14_ := (if_neg bq13_).symm.trans hq12_
    have bq15_ : r78 = (0 : Int) := by first | exact bq13_ | simpa using bq13_
    obtain ⟨⟨r79, r80⟩, fq16_, hq17_⟩ := pullD_elim hq14_
    replace fq16_ := m_72_ok fq16_
    obtain ⟨⟨r81, r82⟩, fq18_, hq19_⟩ := pullD_elim hq17_
    replace fq18_ := m_72_ok fq18_
    obtain rfl := Option.some.inj hq19_
    exact con_pc (op := true) (I := [31, 69, 63, 97]) (sp := ratioOf_sp) 3000 (bT 1 (bF 5 (bT 12 (bF 1 [])))) [iD r74, iD r75, iD r76, iD r77, iD r78, .agg [iD r79, iD r80], .agg [iD r81, iD r82]] [c_T, c_n b1_, c_n b1_, c_n b1_, c_n b1_, c_n b3_, c_T, c_d b5_, c_d b5_, c_d b5_, c_d b5_, c_T, c_le 0, c_le 1, c_T, c_d bq5_, c_d bq5_, c_d bq5_, c_d bq5_, c_T, c_le 0, c_le 1, c_le 1, c_bn bq15_] [k_c fq1_, k_c fq3_, k_c fq7_, k_c fq9_, k_c fq11_, k_c fq16_, k_c fq18_] (by kernel_rfl)
  have hq6_ := (if_neg bq5_).symm.trans hq4_
  by_cases bq20_ : c > (1000000000 : Int)
  · have hq21_ := (if_pos bq20_).symm.trans hq6_
    obtain ⟨r83, fq22_, hq23_⟩ := pullD_elim hq21_
    replace fq22_ := m_64_ok fq22_
    obtain ⟨r84, fq24_, hq25_⟩ := pullD_elim hq23_
    replace fq24_ := m_50_ok fq24_
    obtain ⟨r85, fq26_, hq27_⟩ := pullD_elim hq25_
    replace fq26_ := m_50_ok fq26_
    by_cases bq28_ : r85 ≠ (0 : Int)
    · have hq29_ := (if_pos bq28_).symm.trans hq27_
      obtain rfl := Option.some.inj hq29_
      exact con_pc (op := true) (I := [31, 69, 63, 97]) (sp := ratioOf_sp) 3000 (bT 1 (bF 5 (bT 7 (bF 4 (bT 2 []))))) [iD r74, iD r75, iD r83, iD r84, iD r85] [c_T, c_n b1_, c_n b1_, c_n b1_, c_n b1_, c_n b3_, c_T, c_d b5_, c_d b5_, c_d b5_, c_d b5_, c_T, c_le 0, c_le 1, c_T, c_n bq5_, c_n bq5_, c_n bq5_, c_n bq5_, c_d bq20_, c_le 0, c_le 1, c_le 1, c_b bq28_] [k_c fq1_, k_c fq3_, k_c fq22_, k_c fq24_, k_c fq26_] (by kernel_rfl)
    have hq29_ := (if_neg bq28_).symm.trans hq27_
    have bq30_ : r85 = (0 : Int) := by first | exact bq28_ | simpa using bq28_
    obtain ⟨⟨r86, r87⟩, fq31_, hq32_⟩ := pullD_elim hq29_
    replace fq31_ := m_72_ok fq31_
    obtain ⟨⟨r88, r89⟩, fq33_, hq34_⟩ := pullD_elim hq32_
    replace fq33_ := m_72_ok fq33_
    obtain rfl := Option.some.inj hq34_
    exact con_pc (op := true) (I := [31, 69, 63, 97]) (sp := ratioOf_sp) 3000 (bT 1 (bF 5 (bT 7 (bF 4 (bT 1 (bF 1 [])))))) [iD r74, iD r75, iD r83, iD r84, iD r85, .agg [iD r86, iD r87], .agg [iD r88, iD r89]] [c_T, c_n b1_, c_n b1_, c_n b1_, c_n b1_, c_n b3_, c_T, c_d b5_, c_d b5_, c_d b5_, c_d b5_, c_T, c_le 0, c_le 1, c_T, c_n bq5_, c_n bq5_, c_n bq5_, c_n bq5_, c_d bq20_, c_le 0, c_le 1, c_le 1, c_bn bq30_] [k_c fq1_, k_c fq3_, k_c fq22_, k_c fq24_, k_c fq26_, k_c fq31_, k_c fq33_] (by kernel_rfl)
  have hq21_ := (if_neg bq20_).symm.trans hq6_
  by_cases bq35_ : d < (1 : Int)
  · have hq36_ := (if_pos bq35_).symm.trans hq21_
    obtain ⟨r90, fq37_, hq38_⟩ := pullD_elim hq36_
    replace fq37_ := m_64_ok fq37_
    obtain ⟨r91, fq39_, hq40_⟩ := pullD_elim hq38_
    replace fq39_ := m_50_ok fq39_
    obtain ⟨r92, fq41_, hq42_⟩ := pullD_elim hq40_
    replace fq41_ := m_50_ok fq41_
    by_cases bq43_ : r92 ≠ (0 : Int)
    · have hq44_ := (if_pos bq43_).symm.trans hq42_
      obtain rfl := Option.some.inj hq44_
      exact con_pc (op := true) (I := [31, 69, 63, 97]) (sp := ratioOf_sp) 3000 (bT 1 (bF 5 (bT 7 (bF 5 (bT 7 []))))) [iD r74, iD r75, iD r90, iD r91, iD r92] [c_T, c_n b1_, c_n b1_, c_n b1_, c_n b1_, c_n b3_, c_T, c_d b5_, c_d b5_, c_d b5_, c_d b5_, c_T, c_le 0, c_le 1, c_T, c_n bq5_, c_n bq5_, c_n bq5_, c_n bq5_, c_n bq20_, c_T, c_d bq35_, c_d bq35_, c_d bq35_, c_d bq35_, c_T, c_le 0, c_le 1, c_le 1, c_b bq43_] [k_c fq1_, k_c fq3_, k_c fq37_, k_c fq39_, k_c fq41_] (by kernel_rfl)
    have hq44_ := (if_neg bq43_).symm.trans hq42_
    have bq45_ : r92 = (0 : Int) := by first | exact bq43_ | simpa using bq43_
    obtain ⟨⟨r93, r94⟩, fq46_, hq47_⟩ := pullD_elim hq44_
    replace fq46_ := m_72_ok fq46_
    obtain ⟨⟨r95, r96⟩, fq48_, hq49_⟩ := pullD_elim hq47_
    replace fq48_ := m_72_ok fq48_
    obtain rfl := Option.some.inj hq49_
    exact con_pc (op := true) (I := [31, 69, 63, 97]) (sp := ratioOf_sp) 3000 (bT 1 (bF 5 (bT 7 (bF 5 (bT 6 (bF 1 [])))))) [iD r74, iD r75, iD r90, iD r91, iD r92, .agg [iD r93, iD r94], .agg [iD r95, iD r96]] [c_T, c_n b1_, c_n b1_, c_n b1_, c_n b1_, c_n b3_, c_T, c_d b5_, c_d b5_, c_d b5_, c_d b5_, c_T, c_le 0, c_le 1, c_T, c_n bq5_, c_n bq5_, c_n bq5_, c_n bq5_, c_n bq20_, c_T, c_d bq35_, c_d bq35_, c_d bq35_, c_d bq35_, c_T, c_le 0, c_le 1, c_le 1, c_bn bq45_] [k_c fq1_, k_c fq3_, k_c fq37_, k_c fq39_, k_c fq41_, k_c fq46_, k_c fq48_] (by kernel_rfl)
  have hq36_ := (if_neg bq35_).symm.trans hq21_
  by_cases bq50_ : d > (1000000000 : Int)
  · have hq51_ := (if_pos bq50_).symm.trans hq36_
    obtain ⟨r97, fq52_, hq53_⟩ := pullD_elim hq51_
    replace fq52_ := m_64_ok fq52_
    obtain ⟨r98, fq54_, hq55_⟩ := pullD_elim hq53_
    replace fq54_ := m_50_ok fq54_
    obtain ⟨r99, fq56_, hq57_⟩ := pullD_elim hq55_
    replace fq56_ := m_50_ok fq56_
    by_cases bq58_ : r99 ≠ (0 : Int)
    · have hq59_ := (if_pos bq58_).symm.trans hq57_
      obtain rfl := Option.some.inj hq59_
      exact con_pc (op := true) (I := [31, 69, 63, 97]) (sp := ratioOf_sp) 3000 (bT 1 (bF 5 (bT 7 (bF 5 (bT 1 (bF 4 (bT 2 []))))))) [iD r74, iD r75, iD r97, iD r98, iD r99] [c_T, c_n b1_, c_n b1_, c_n b1_, c_n b1_, c_n b3_, c_T, c_d b5_, c_d b5_, c_d b5_, c_d b5_, c_T, c_le 0, c_le 1, c_T, c_n bq5_, c_n bq5_, c_n bq5_, c_n bq5_, c_n bq20_, c_T, c_n bq35_, c_n bq35_, c_n bq35_, c_n bq35_, c_d bq50_, c_le 0, c_le 1, c_le 1, c_b bq58_] [k_c fq1_, k_c fq3_, k_c fq52_, k_c fq54_, k_c fq56_] (by kernel_rfl)
    have hq59_ := (if_neg bq58_).symm.trans hq57_
    have bq60_ : r99 = (0 : Int) := by first | exact bq58_ | simpa using bq58_
    obtain ⟨⟨r100, r101⟩, fq61_, hq62_⟩ := pullD_elim hq59_
    replace fq61_ := m_72_ok fq61_
    obtain ⟨⟨r102, r103⟩, fq63_, hq64_⟩ := pullD_elim hq62_
    replace fq63_ := m_72_ok fq63_
    obtain rfl := Option.some.inj hq64_
    exact con_pc (op := true) (I := [31, 69, 63, 97]) (sp := ratioOf_sp) 3000 (bT 1 (bF 5 (bT 7 (bF 5 (bT 1 (bF 4 (bT 1 (bF 1 [])))))))) [iD r74, iD r75, iD r97, iD r98, iD r99, .agg [iD r100, iD r101], .agg [iD r102, iD r103]] [c_T, c_n b1_, c_n b1_, c_n b1_, c_n b1_, c_n b3_, c_T, c_d b5_, c_d b5_, c_d b5_, c_d b5_, c_T, c_le 0, c_le 1, c_T, c_n bq5_, c_n bq5_, c_n bq5_, c_n bq5_, c_n bq20_, c_T, c_n bq35_, c_n bq35_, c_n bq35_, c_n bq35_, c_d bq50_, c_le 0, c_le 1, c_le 1, c_bn bq60_] [k_c fq1_, k_c fq3_, k_c fq52_, k_c fq54_, k_c fq56_, k_c fq61_, k_c fq63_] (by kernel_rfl)
  have hq51_ := (if_neg bq50_).symm.trans hq36_
  obtain ⟨r104, fq65_, hq66_⟩ := pullD_elim hq51_
  replace fq65_ := m_64_ok fq65_
  obtain ⟨r105, fq67_, hq68_⟩ := pullD_elim hq66_
  replace fq67_ := m_50_ok fq67_
  obtain ⟨r106, fq69_, hq70_⟩ := pullD_elim hq68_
  replace fq69_ := m_50_ok fq69_
  by_cases bq71_ : r106 ≠ (0 : Int)
  · have hq72_ := (if_pos bq71_).symm.trans hq70_
    obtain rfl := Option.some.inj hq72_
    exact con_pc (op := true) (I := [31, 69, 63, 97]) (sp := ratioOf_sp) 3000 (bT 1 (bF 5 (bT 7 (bF 5 (bT 1 (bF 6 (bT 1 []))))))) [iD r74, iD r75, iD r104, iD r105, iD r106] [c_T, c_n b1_, c_n b1_, c_n b1_, c_n b1_, c_n b3_, c_T, c_d b5_, c_d b5_, c_d b5_, c_d b5_, c_T, c_le 0, c_le 1, c_T, c_n bq5_, c_n bq5_, c_n bq5_, c_n bq5_, c_n bq20_, c_T, c_n bq35_, c_n bq35_, c_n bq35_, c_n bq35_, c_n bq50_, c_F, c_le 0, c_le 1, c_le 1, c_b bq71_] [k_c fq1_, k_c fq3_, k_c fq65_, k_c fq67_, k_c fq69_] (by kernel_rfl)
  have hq72_ := (if_neg bq71_).symm.trans hq70_
  have bq73_ : r106 = (0 : Int) := by first | exact bq71_ | simpa using bq71_
  obtain ⟨⟨r107, r108⟩, fq74_, hq75_⟩ := pullD_elim hq72_
  replace fq74_ := m_72_ok fq74_
  obtain ⟨⟨r109, r110⟩, fq76_, hq77_⟩ := pullD_elim hq75_
  replace fq76_ := m_72_ok fq76_
  obtain rfl := Option.some.inj hq77_
  exact con_pc (op := true) (I := [31, 69, 63, 97]) (sp := ratioOf_sp) 3000 (bT 1 (bF 5 (bT 7 (bF 5 (bT 1 (bF 7 [])))))) [iD r74, iD r75, iD r104, iD r105, iD r106, .agg [iD r107, iD r108], .agg [iD r109, iD r110]] [c_T, c_n b1_, c_n b1_, c_n b1_, c_n b1_, c_n b3_, c_T, c_d b5_, c_d b5_, c_d b5_, c_d b5_, c_T, c_le 0, c_le 1, c_T, c_n bq5_, c_n bq5_, c_n bq5_, c_n bq5_, c_n bq20_, c_T, c_n bq35_, c_n bq35_, c_n bq35_, c_n bq35_, c_n bq50_, c_F, c_le 0, c_le 1, c_le 1, c_bn bq73_] [k_c fq1_, k_c fq3_, k_c fq65_, k_c fq67_, k_c fq69_, k_c fq74_, k_c fq76_] (by kernel_rfl)
theorem ratioOf_M_s3_ok (a b c d : Int)  (b1_ : ¬ (a < (1 : Int))) (b3_ : ¬ (a > (1000000000 : Int))) (b5_ : ¬ (b < (1 : Int))) {r : D} (h : ratioOf_M_s3 a b c d = some r) : Con 31 [.agg [iD a, iD b], .agg [iD c, iD d]] r := by
  unfold ratioOf_M_s3 at h
  by_cases bq1_ : b > (1000000000 : Int)
  · have hq2_ := (if_pos bq1_).symm.trans h
    obtain ⟨r111, fq3_, hq4_⟩ := pullD_elim hq2_
    replace fq3_ := m_64_ok fq3_
    obtain ⟨r112, fq5_, hq6_⟩ := pullD_elim hq4_
    replace fq5_ := m_50_ok fq5_
    by_cases bq7_ : c < (1 : Int)
    · have hq8_ := (if_pos bq7_).symm.trans hq6_
      obtain ⟨r113, fq9_, hq10_⟩ := pullD_elim hq8_
      replace fq9_ := m_64_ok fq9_
      obtain ⟨r114, fq11_, hq12_⟩ := pullD_elim hq10_
      replace fq11_ := m_50_ok fq11_
      obtain ⟨r115, fq13_, hq14_⟩ := pullD_elim hq12_
      replace fq13_ := m_50_ok fq13_
      by_cases bq15_ : r115 ≠ (0 : Int)
      · have hq16_ := (if_pos bq15_).symm.trans hq14_
        obtain rfl := Option.some.inj hq16_
        exact con_pc (op := true) (I := [31, 69, 63, 97]) (sp := ratioOf_sp) 3000 (bT 1 (bF 5 (bT 1 (bF 4 (bT 8 []))))) [iD r111, iD r112, iD r113, iD r114, iD r115] [c_T, c_n b1_, c_n b1_, c_n b1_, c_n b1_, c_n b3_, c_T, c_n b5_, c_n b5_, c_n b5_, c_n b5_, c_d bq1_, c_le 0, c_le 1, c_T, c_d bq7_, c_d bq7_, c_d bq7_, c_d bq7_, c_T, c_le 0, c_le 1, c_le 1, c_b bq15_] [k_c fq3_, k_c fq5_, k_c fq9_, k_c fq11_, k_c fq13_] (by kernel_rfl)
      have hq16_ := (if_neg bq15_).symm.trans hq14_
      have bq17_ : r115 = (0 : Int) := by first | exact bq15_ | simpa using bq15_
      obtain ⟨⟨r116, r117⟩, fq18_, hq19_⟩ := pullD_elim hq16_
      replace fq18_ := m_72_ok fq18_
      obtain ⟨⟨r118, r119⟩, fq20_, hq21_⟩ := pullD_elim hq19_
      replace fq20_ := m_72_ok fq20_
      obtain rfl := Option.some.inj hq21_
      exact con_pc (op := true) (I := [31, 69, 63, 97]) (sp := ratioOf_sp) 3000 (bT 1 (bF 5 (bT 1 (bF 4 (bT 7 (bF 1 [])))))) [iD r111, iD r112, iD r113, iD r114, iD r115, .agg [iD r116, iD r117], .agg [iD r118, iD r119]] [c_T, c_n b1_, c_n b1_, c_n b1_, c_n b1_, c_n b3_, c_T, c_n b5_, c_n b5_, c_n b5_, c_n b5_, c_d bq1_, c_le 0, c_le 1, c_T, c_d bq7_, c_d bq7_, c_d bq7_, c_d bq7_, c_T, c_le 0, c_le 1, c_le 1, c_bn bq17_] [k_c fq3_, k_c fq5_, k_c fq9_, k_c fq11_, k_c fq13_, k_c fq18_, k_c fq20_] (by kernel_rfl)
    have hq8_ := (if_neg bq7_).symm.trans hq6_
    by_cases bq22_ : c > (1000000000 : Int)
    · have hq23_ := (if_pos bq22_).symm.trans hq8_
      obtain ⟨r120, fq24_, hq25_⟩ := pullD_elim hq23_
      replace fq24_ := m_64_ok fq24_
      obtain ⟨r121, fq26_, hq27_⟩ := pullD_elim hq25_
      replace fq26_ := m_50_ok fq26_
      obtain ⟨r122, fq28_, hq29_⟩ := pullD_elim hq27_
      replace fq28_ := m_50_ok fq28_
      by_cases bq30_ : r122 ≠ (0 : Int)
      · have hq31_ := (if_pos bq30_).symm.trans hq29_
        obtain rfl := Option.some.inj hq31_
        exact con_pc (op := true) (I := [31, 69, 63, 97]) (sp := ratioOf_sp) 3000 (bT 1 (bF 5 (bT 1 (bF 4 (bT 2 (bF 4 (bT 2 []))))))) [iD r111, iD r112, iD r120, iD r121, iD r122] [c_T, c_n b1_, c_n b1_, c_n b1_, c_n b1_, c_n b3_, c_T, c_n b5_, c_n b5_, c_n b5_, c_n b5_, c_d bq1_, c_le 0, c_le 1, c_T, c_n bq7_, c_n bq7_, c_n bq7_, c_n bq7_, c_d bq22_, c_le 0, c_le 1, c_le 1, c_b bq30_] [k_c fq3_, k_c fq5_, k_c fq24_, k_c fq26_, k_c fq28_] (by kernel_rfl)
      have hq31_ := (if_neg bq30_).symm.trans hq29_
      have bq32_ : r122 = (0 : Int) := by first | exact bq30_ | simpa using bq30_
      obtain ⟨⟨r123, r124⟩, fq33_, hq34_⟩ := pullD_elim hq31_
      replace fq33_ := m_72_ok fq33_
      obtain ⟨⟨r125, r126⟩, fq35_, hq36_⟩ := pullD_elim hq34_
      replace fq35_ := m_72_ok fq35_
      obtain rfl := Option.some.inj hq36_
      exact con_pc (op := true) (I := [31, 69, 63, 97]) (sp := ratioOf_sp) 3000 (bT 1 (bF 5 (bT 1 (bF 4 (bT 2 (bF 4 (bT 1 (bF 1 [])))))))) [iD r111, iD r112, iD r120, iD r121, iD r122, .agg [iD r123, iD r124], .agg [iD r125, iD r126]] [c_T, c_n b1_, c_n b1_, c_n b1_, c_n b1_, c_n b3_, c_T, c_n b5_, c_n b5_, c_n b5_, c_n b5_, c_d bq1_, c_le 0, c_le 1, c_T, c_n bq7_, c_n bq7_, c_n bq7_, c_n bq7_, c_d bq22_, c_le 0, c_le 1, c_le 1, c_bn bq32_] [k_c fq3_, k_c fq5_, k_c fq24_, k_c fq26_, k_c fq28_, k_c fq33_, k_c fq35_] (by kernel_rfl)
    have hq23_ := (if_neg bq22_).symm.trans hq8_
    by_cases bq37_ : d < (1 : Int)
    · have hq38_ := (if_pos bq37_).symm.trans hq23_
      obtain ⟨r127, fq39_, hq40_⟩ := pullD_elim hq38_
      replace fq39_ := m_64_ok fq39_
      obtain ⟨r128, fq41_, hq42_⟩ := pullD_elim hq40_
      replace fq41_ := m_50_ok fq41_
      obtain ⟨r129, fq43_, hq44_⟩ := pullD_elim hq42_
      replace fq43_ := m_50_ok fq43_
      by_cases bq45_ : r129 ≠ (0 : Int)
      · have hq46_ := (if_pos bq45_).symm.trans hq44_
        obtain rfl := Option.some.inj hq46_
        exact con_pc (op := true) (I := [31, 69, 63, 97]) (sp := ratioOf_sp) 3000 (bT 1 (bF 5 (bT 1 (bF 4 (bT 2 (bF 5 (bT 7 []))))))) [iD r111, iD r112, iD r127, iD r128, iD r129] [c_T, c_n b1_, c_n b1_, c_n b1_, c_n b1_, c_n b3_, c_T, c_n b5_, c_n b5_, c_n b5_, c_n b5_, c_d bq1_, c_le 0, c_le 1, c_T, c_n bq7_, c_n bq7_, c_n bq7_, c_n bq7_, c_n bq22_, c_T, c_d bq37_, c_d bq37_, c_d bq37_, c_d bq37_, c_T, c_le 0, c_le 1, c_le 1, c_b bq45_] [k_c fq3_, k_c fq5_, k_c fq39_, k_c fq41_, k_c fq43_] (by kernel_rfl)
      have hq46_ := (if_neg bq45_).symm.trans hq44_
      have bq47_ : r129 = (0 : Int) := by first | exact bq45_ | simpa using bq45_
      obtain ⟨⟨r130, r131⟩, fq48_, hq49_⟩ := pullD_elim hq46_
      replace fq48_ := m_72_ok fq48_
      obtain ⟨⟨r132, r133⟩, fq50_, hq51_⟩ := pullD_elim hq49_
      replace fq50_ := m_72_ok fq50_
      obtain rfl := Option.some.inj hq51_
      exact con_pc (op := true) (I := [31, 69, 63, 97]) (sp := ratioOf_sp) 3000 (bT 1 (bF 5 (bT 1 (bF 4 (bT 2 (bF 5 (bT 6 (bF 1 [])))))))) [iD r111, iD r112, iD r127, iD r128, iD r129, .agg [iD r130, iD r131], .agg [iD r132, iD r133]] [c_T, c_n b1_, c_n b1_, c_n b1_, c_n b1_, c_n b3_, c_T, c_n b5_, c_n b5_, c_n b5_, c_n b5_, c_d bq1_, c_le 0, c_le 1, c_T, c_n bq7_, c_n bq7_, c_n bq7_, c_n bq7_, c_n bq22_, c_T, c_d bq37_, c_d bq37_, c_d bq37_, c_d bq37_, c_T, c_le 0, c_le 1, c_le 1, c_bn bq47_] [k_c fq3_, k_c fq5_, k_c fq39_, k_c fq41_, k_c fq43_, k_c fq48_, k_c fq50_] (by kernel_rfl)
    have hq38_ := (if_neg bq37_).symm.trans hq23_
    by_cases bq52_ : d > (1000000000 : Int)
    · have hq53_ := (if_pos bq52_).symm.trans hq38_
      obtain ⟨r134, fq54_, hq55_⟩ := pullD_elim hq53_
      replace fq54_ := m_64_ok fq54_
      obtain ⟨r135, fq56_, hq57_⟩ := pullD_elim hq55_
      replace fq56_ := m_50_ok fq56_
      obtain ⟨r136, fq58_, hq59_⟩ := pullD_elim hq57_
      replace fq58_ := m_50_ok fq58_
      by_cases bq60_ : r136 ≠ (0 : Int)
      · have hq61_ := (if_pos bq60_).symm.trans hq59_
        obtain rfl := Option.some.inj hq61_
        exact con_pc (op := true) (I := [31, 69, 63, 97]) (sp := ratioOf_sp) 3000 (bT 1 (bF 5 (bT 1 (bF 4 (bT 2 (bF 5 (bT 1 (bF 4 (bT 2 []))))))))) [iD r111, iD r112, iD r134, iD r135, iD r136] [c_T, c_n b1_, c_n b1_, c_n b1_, c_n b1_, c_n b3_, c_T, c_n b5_, c_n b5_, c_n b5_, c_n b5_, c_d bq1_, c_le 0, c_le 1, c_T, c_n bq7_, c_n bq7_, c_n bq7_, c_n bq7_, c_n bq22_, c_T, c_n bq37_, c_n bq37_, c_n bq37_, c_n bq37_, c_d bq52_, c_le 0, c_le 1, c_le 1, c_b bq60_] [k_c fq3_, k_c fq5_, k_c fq54_, k_c fq56_, k_c fq58_] (by kernel_rfl)
      have hq61_ := (if_neg bq60_).symm.trans hq59_
      have bq62_ : r136 = (0 : Int) := by first | exact bq60_ | simpa using bq60_
      obtain ⟨⟨r137, r138⟩, fq63_, hq64_⟩ := pullD_elim hq61_
      replace fq63_ := m_72_ok fq63_
      obtain ⟨⟨r139, r140⟩, fq65_, hq66_⟩ := pullD_elim hq64_
      replace fq65_ := m_72_ok fq65_
      obtain rfl := Option.some.inj hq66_
      exact con_pc (op := true) (I := [31, 69, 63, 97]) (sp := ratioOf_sp) 3000 (bT 1 (bF 5 (bT 1 (bF 4 (bT 2 (bF 5 (bT 1 (bF 4 (bT 1 (bF 1 [])))))))))) [iD r111, iD r112, iD r134, iD r135, iD r136, .agg [iD r137, iD r138], .agg [iD r139, iD r140]] [c_T, c_n b1_, c_n b1_, c_n b1_, c_n b1_, c_n b3_, c_T, c_n b5_, c_n b5_, c_n b5_, c_n b5_, c_d bq1_, c_le 0, c_le 1, c_T, c_n bq7_, c_n bq7_, c_n bq7_, c_n bq7_, c_n bq22_, c_T, c_n bq37_, c_n bq37_, c_n bq37_, c_n bq37_, c_d bq52_, c_le 0, c_le 1, c_le 1, c_bn bq62_] [k_c fq3_, k_c fq5_, k_c fq54_, k_c fq56_, k_c fq58_, k_c fq63_, k_c fq65_] (by kernel_rfl)
    have hq53_ := (if_neg bq52_).symm.trans hq38_
    obtain ⟨r141, fq67_, hq68_⟩ := pullD_elim hq53_
    replace fq67_ := m_64_ok fq67_
    obtain ⟨r142, fq69_, hq70_⟩ := pullD_elim hq68_
    replace fq69_ := m_50_ok fq69_
    obtain ⟨r143, fq71_, hq72_⟩ := pullD_elim hq70_
    replace fq71_ := m_50_ok fq71_
    by_cases bq73_ : r143 ≠ (0 : Int)
    · have hq74_ := (if_pos bq73_).symm.trans hq72_
      obtain rfl := Option.some.inj hq74_
      exact con_pc (op := true) (I := [31, 69, 63, 97]) (sp := ratioOf_sp) 3000 (bT 1 (bF 5 (bT 1 (bF 4 (bT 2 (bF 5 (bT 1 (bF 6 (bT 1 []))))))))) [iD r111, iD r112, iD r141, iD r142, iD r143] [c_T, c_n b1_, c_n b1_, c_n b1_, c_n b1_, c_n b3_, c_T, c_n b5_, c_n b5_, c_n b5_, c_n b5_, c_d bq1_, c_le 0, c_le 1, c_T, c_n bq7_, c_n bq7_, c_n bq7_, c_n bq7_, c_n bq22_, c_T, c_n bq37_, c_n bq37_, c_n bq37_, c_n bq37_, c_n bq52_, c_F, c_le 0, c_le 1, c_le 1, c_b bq73_] [k_c fq3_, k_c fq5_, k_c fq67_, k_c fq69_, k_c fq71_] (by kernel_rfl)
    have hq74_ := (if_neg bq73_).symm.trans hq72_
    have bq75_ : r143 = (0 : Int) := by first | exact bq73_ | simpa using bq73_
    obtain ⟨⟨r144, r145⟩, fq76_, hq77_⟩ := pullD_elim hq74_
    replace fq76_ := m_72_ok fq76_
    obtain ⟨⟨r146, r147⟩, fq78_, hq79_⟩ := pullD_elim hq77_
    replace fq78_ := m_72_ok fq78_
    obtain rfl := Option.some.inj hq79_
    exact con_pc (op := true) (I := [31, 69, 63, 97]) (sp := ratioOf_sp) 3000 (bT 1 (bF 5 (bT 1 (bF 4 (bT 2 (bF 5 (bT 1 (bF 7 [])))))))) [iD r111, iD r112, iD r141, iD r142, iD r143, .agg [iD r144, iD r145], .agg [iD r146, iD r147]] [c_T, c_n b1_, c_n b1_, c_n b1_, c_n b1_, c_n b3_, c_T, c_n b5_, c_n b5_, c_n b5_, c_n b5_, c_d bq1_, c_le 0, c_le 1, c_T, c_n bq7_, c_n bq7_, c_n bq7_, c_n bq7_, c_n bq22_, c_T, c_n bq37_, c_n bq37_, c_n bq37_, c_n bq37_, c_n bq52_, c_F, c_le 0, c_le 1, c_le 1, c_bn bq75_] [k_c fq3_, k_c fq5_, k_c fq67_, k_c fq69_, k_c fq71_, k_c fq76_, k_c fq78_] (by kernel_rfl)
  have hq2_ := (if_neg bq1_).symm.trans h
  obtain ⟨r148, fq80_, hq81_⟩ := pullD_elim hq2_
  replace fq80_ := m_64_ok fq80_
  obtain ⟨r149, fq82_, hq83_⟩ := pullD_elim hq81_
  replace fq82_ := m_50_ok fq82_
  by_cases bq84_ : c < (1 : Int)
  · have hq85_ := (if_pos bq84_).symm.trans hq83_
    obtain ⟨r150, fq86_, hq87_⟩ := pullD_elim hq85_
    replace fq86_ := m_64_ok fq86_
    obtain ⟨r151, fq88_, hq89_⟩ := pullD_elim hq87_
    replace fq88_ := m_50_ok fq88_
    obtain ⟨r152, fq90_, hq91_⟩ := pullD_elim hq89_
    replace fq90_ := m_50_ok fq90_
    by_cases bq92_ : r152 ≠ (0 : Int)
    · have hq93_ := (if_pos bq92_).symm.trans hq91_
      obtain rfl := Option.some.inj hq93_
      exact con_pc (op := true) (I := [31, 69, 63, 97]) (sp := ratioOf_sp) 3000 (bT 1 (bF 5 (bT 1 (bF 6 (bT 7 []))))) [iD r148, iD r149, iD r150, iD r151, iD r152] [c_T, c_n b1_, c_n b1_, c_n b1_, c_n b1_, c_n b3_, c_T, c_n b5_, c_n b5_, c_n b5_, c_n b5_, c_n bq1_, c_F, c_le 0, c_le 1, c_T, c_d bq84_, c_d bq84_, c_d bq84_, c_d bq84_, c_T, c_le 0, c_le 1, c_le 1, c_b bq92_] [k_c fq80_, k_c fq82_, k_c fq86_, k_c fq88_, k_c fq90_] (by kernel_rfl)
    have hq93_ := (if_neg bq92_).symm.trans hq91_
    have bq94_ : r152 = (0 : Int) := by first | exact bq92_ | simpa using bq92_
    obtain ⟨⟨r153, r154⟩, fq95_, hq96_⟩ := pullD_elim hq93_
    replace fq95_ := m_72_ok fq95_
    obtain ⟨⟨r155, r156⟩, fq97_, hq98_⟩ := pullD_elim hq96_
    replace fq97_ := m_72_ok fq97_
    obtain rfl := Option.some.inj hq98_
    exact con_pc (op := true) (I := [31, 69, 63, 97]) (sp := ratioOf_sp) 3000 (bT 1 (bF 5 (bT 1 (bF 6 (bT 6 (bF 1 [])))))) [iD r148, iD r149, iD r150, iD r151, iD r152, .agg [iD r153, iD r154], .agg [iD r155, iD r156]] [c_T, c_n b1_, c_n b1_, c_n b1_, c_n b1_, c_n b3_, c_T, c_n b5_, c_n b5_, c_n b5_, c_n b5_, c_n bq1_, c_F, c_le 0, c_le 1, c_T, c_d bq84_, c_d bq84_, c_d bq84_, c_d bq84_, c_T, c_le 0, c_le 1, c_le 1, c_bn bq94_] [k_c fq80_, k_c fq82_, k_c fq86_, k_c fq88_, k_c fq90_, k_c fq95_, k_c fq97_] (by kernel_rfl)
  have hq85_ := (if_neg bq84_).symm.trans hq83_
  by_cases bq99_ : c > (1000000000 : Int)
  · have hq100_ := (if_pos bq99_).symm.trans hq85_
    obtain ⟨r157, fq101_, hq102_⟩ := pullD_elim hq100_
    replace fq101_ := m_64_ok fq101_
    obtain ⟨r158, fq103_, hq104_⟩ := pullD_elim hq102_
    replace fq103_ := m_50_ok fq103_
    obtain ⟨r159, fq105_, hq106_⟩ := pullD_elim hq104_
    replace fq105_ := m_50_ok fq105_
    by_cases bq107_ : r159 ≠ (0 : Int)
    · have hq108_ := (if_pos bq107_).symm.trans hq106_
      obtain rfl := Option.some.inj hq108_
      exact con_pc (op := true) (I := [31, 69, 63, 97]) (sp := ratioOf_sp) 3000 (bT 1 (bF 5 (bT 1 (bF 6 (bT 1 (bF 4 (bT 2 []))))))) [iD r148, iD r149, iD r157, iD r158, iD r159] [c_T, c_n b1_, c_n b1_, c_n b1_, c_n b1_, c_n b3_, c_T, c_n b5_, c_n b5_, c_n b5_, c_n b5_, c_n bq1_, c_F, c_le 0, c_le 1, c_T, c_n bq84_, c_n bq84_, c_n bq84_, c_n bq84_, c_d bq99_, c_le 0, c_le 1, c_le 1, c_b bq107_] [k_c fq80_, k_c fq82_, k_c fq101_, k_c fq103_, k_c fq105_] (by kernel_rfl)
    have hq108_ := (if_neg bq107_).symm.trans hq106_
    have bq109_ : r159 = (0 : Int) := by first | exact bq107_ | simpa using bq107_
    obtain ⟨⟨r160, r161⟩, fq110_, hq111_⟩ := pullD_elim hq108_
    replace fq110_ := m_72_ok fq110_
    obtain ⟨⟨r162, r163⟩, fq112_, hq113_⟩ := pullD_elim hq111_
    replace fq112_ := m_72_ok fq112_
    obtain rfl := Option.some.inj hq113_
    exact con_pc (op := true) (I := [31, 69, 63, 97]) (sp := ratioOf_sp) 3000 (bT 1 (bF 5 (bT 1 (bF 6 (bT 1 (bF 4 (bT 1 (bF 1 [])))))))) [iD r148, iD r149, iD r157, iD r158, iD r159, .agg [iD r160, iD r161], .agg [iD r162, iD r163]] [c_T, c_n b1_, c_n b1_, c_n b1_, c_n b1_, c_n b3_, c_T, c_n b5_, c_n b5_, c_n b5_, c_n b5_, c_n bq1_, c_F, c_le 0, c_le 1, c_T, c_n bq84_, c_n bq84_, c_n bq84_, c_n bq84_, c_d bq99_, c_le 0, c_le 1, c_le 1, c_bn bq109_] [k_c fq80_, k_c fq82_, k_c fq101_, k_c fq103_, k_c fq105_, k_c fq110_, k_c fq112_] (by kernel_rfl)
  have hq100_ := (if_neg bq99_).symm.trans hq85_
  by_cases bq114_ : d < (1 : Int)
  · have hq115_ := (if_pos bq114_).symm.trans hq100_
    obtain ⟨r164, fq116_, hq117_⟩ := pullD_elim hq115_
    replace fq116_ := m_64_ok fq116_
    obtain ⟨r165, fq118_, hq119_⟩ := pullD_elim hq117_
    replace fq118_ := m_50_ok fq118_
    obtain ⟨r166, fq120_, hq121_⟩ := pullD_elim hq119_
    replace fq120_ := m_50_ok fq120_
    by_cases bq122_ : r166 ≠ (0 : Int)
    · have hq123_ := (if_pos bq122_).symm.trans hq121_
      obtain rfl := Option.some.inj hq123_
      exact con_pc (op := true) (I := [31, 69, 63, 97]) (sp := ratioOf_sp) 3000 (bT 1 (bF 5 (bT 1 (bF 6 (bT 1 (bF 5 (bT 7 []))))))) [iD r148, iD r149, iD r164, iD r165, iD r166] [c_T, c_n b1_, c_n b1_, c_n b1_, c_n b1_, c_n b3_, c_T, c_n b5_, c_n b5_, c_n b5_, c_n b5_, c_n bq1_, c_F, c_le 0, c_le 1, c_T, c_n bq84_, c_n bq84_, c_n bq84_, c_n bq84_, c_n bq99_, c_T, c_d bq114_, c_d bq114_, c_d bq114_, c_d bq114_, c_T, c_le 0, c_le 1, c_le 1, c_b bq122_] [k_c fq80_, k_c fq82_, k_c fq116_, k_c fq118_, k_c fq120_] (by kernel_rfl)
    have hq123_ := (if_neg bq122_).symm.trans hq121_
    have bq124_ : r166 = (0 : Int) := by first | exact bq122_ | simpa using bq122_
    obtain ⟨⟨r167, r168⟩, fq125_, hq126_⟩ := pullD_elim hq123_
    replace fq125_ := m_72_ok fq125_
    obtain ⟨⟨r169, r170⟩, fq127_, hq128_⟩ := pullD_elim hq126_
    replace fq127_ := m_72_ok fq127_
    obtain rfl := Option.some.inj hq128_
    exact con_pc (op := true) (I := [31, 69, 63, 97]) (sp := ratioOf_sp) 3000 (bT 1 (bF 5 (bT 1 (bF 6 (bT 1 (bF 5 (bT 6 (bF 1 [])))))))) [iD r148, iD r149, iD r164, iD r165, iD r166, .agg [iD r167, iD r168], .agg [iD r169, iD r170]] [c_T, c_n b1_, c_n b1_, c_n b1_, c_n b1_, c_n b3_, c_T, c_n b5_, c_n b5_, c_n b5_, c_n b5_, c_n bq1_, c_F, c_le 0, c_le 1, c_T, c_n bq84_, c_n bq84_, c_n bq84_, c_n bq84_, c_n bq99_, c_T, c_d bq114_, c_d bq114_, c_d bq114_, c_d bq114_, c_T, c_le 0, c_le 1, c_le 1, c_bn bq124_] [k_c fq80_, k_c fq82_, k_c fq116_, k_c fq118_, k_c fq120_, k_c fq125_, k_c fq127_] (by kernel_rfl)
  have hq115_ := (if_neg bq114_).symm.trans hq100_
  by_cases bq129_ : d > (1000000000 : Int)
  · have hq130_ := (if_pos bq129_).symm.trans hq115_
    obtain ⟨r171, fq131_, hq132_⟩ := pullD_elim hq130_
    replace fq131_ := m_64_ok fq131_
    obtain ⟨r172, fq133_, hq134_⟩ := pullD_elim hq132_
    replace fq133_ := m_50_ok fq133_
    obtain ⟨r173, fq135_, hq136_⟩ := pullD_elim hq134_
    replace fq135_ := m_50_ok fq135_
    by_cases bq137_ : r173 ≠ (0 : Int)
    · have hq138_ := (if_pos bq137_).symm.trans hq136_
      obtain rfl := Option.some.inj hq138_
      exact con_pc (op := true) (I := [31, 69, 63, 97]) (sp := ratioOf_sp) 3000 (bT 1 (bF 5 (bT 1 (bF 6 (bT 1 (bF 5 (bT 1 (bF 4 (bT 2 []))))))))) [iD r148, iD r149, iD r171, iD r172, iD r173] [c_T, c_n b1_, c_n b1_, c_n b1_, c_n b1_, c_n b3_, c_T, c_n b5_, c_n b5_, c_n b5_, c_n b5_, c_n bq1_, c_F, c_le 0, c_le 1, c_T, c_n bq84_, c_n bq84_, c_n bq84_, c_n bq84_, c_n bq99_, c_T, c_n bq114_, c_n bq114_, c_n bq114_, c_n bq114_, c_d bq129_, c_le 0, c_le 1, c_le 1, c_b bq137_] [k_c fq80_, k_c fq82_, k_c fq131_, k_c fq133_, k_c fq135_] (by kernel_rfl)
    have hq138_ := (if_neg bq137_).symm.trans hq136_
    have bq139_ : r173 = (0 : Int) := by first | exact bq137_ | simpa using bq137_
    obtain ⟨⟨r174, r175⟩, fq140_, hq141_⟩ := pullD_elim hq138_
    replace fq140_ := m_72_ok fq140_
    obtain ⟨⟨r176, r177⟩, fq142_, hq143_⟩ := pullD_elim hq141_
    replace fq142_ := m_72_ok fq142_
    obtain rfl := Option.some.inj hq143_
    exact con_pc (op := true) (I := [31, 69, 63, 97]) (sp := ratioOf_sp) 3000 (bT 1 (bF 5 (bT 1 (bF 6 (bT 1 (bF 5 (bT 1 (bF 4 (bT 1 (bF 1 [])))))))))) [iD r148, iD r149, iD r171, iD r172, iD r173, .agg [iD r174, iD r175], .agg [iD r176, iD r177]] [c_T, c_n b1_, c_n b1_, c_n b1_, c_n b1_, c_n b3_, c_T, c_n b5_, c_n b5_, c_n b5_, c_n b5_, c_n bq1_, c_F, c_le 0, c_le 1, c_T, c_n bq84_, c_n bq84_, c_n bq84_, c_n bq84_, c_n bq99_, c_T, c_n bq114_, c_n bq114_, c_n bq114_, c_n bq114_, c_d bq129_, c_le 0, c_le 1, c_le 1, c_bn bq139_] [k_c fq80_, k_c fq82_, k_c fq131_, k_c fq133_, k_c fq135_, k_c fq140_, k_c fq142_] (by kernel_rfl)
  have hq130_ := (if_neg bq129_).symm.trans hq115_
  obtain ⟨r178, fq144_, hq145_⟩ := pullD_elim hq130_
  replace fq144_ := m_64_ok fq144_
  obtain ⟨r179, fq146_, hq147_⟩ := pullD_elim hq145_
  replace fq146_ := m_50_ok fq146_
  obtain ⟨r180, fq148_, hq149_⟩ := pullD_elim hq147_
  replace fq148_ := m_50_ok fq148_
  by_cases bq150_ : r180 ≠ (0 : Int)
  · have hq151_ := (if_pos bq150_).symm.trans hq149_
    obtain rfl := Option.some.inj hq151_
    exact con_pc (op := true) (I := [31, 69, 63, 97]) (sp := ratioOf_sp) 3000 (bT 1 (bF 5 (bT 1 (bF 6 (bT 1 (bF 5 (bT 1 (bF 6 (bT 1 []))))))))) [iD r148, iD r149, iD r178, iD r179, iD r180] [c_T, c_n b1_, c_n b1_, c_n b1_, c_n b1_, c_n b3_, c_T, c_n b5_, c_n b5_, c_n b5_, c_n b5_, c_n bq1_, c_F, c_le 0, c_le 1, c_T, c_n bq84_, c_n bq84_, c_n bq84_, c_n bq84_, c_n bq99_, c_T, c_n bq114_, c_n bq114_, c_n bq114_, c_n bq114_, c_n bq129_, c_F, c_le 0, c_le 1, c_le 1, c_b bq150_] [k_c fq80_, k_c fq82_, k_c fq144_, k_c fq146_, k_c fq148_] (by kernel_rfl)
  have hq151_ := (if_neg bq150_).symm.trans hq149_
  have bq152_ : r180 = (0 : Int) := by first | exact bq150_ | simpa using bq150_
  obtain ⟨⟨r181, r182⟩, fq153_, hq154_⟩ := pullD_elim hq151_
  replace fq153_ := m_72_ok fq153_
  obtain ⟨⟨r183, r184⟩, fq155_, hq156_⟩ := pullD_elim hq154_
  replace fq155_ := m_72_ok fq155_
  obtain rfl := Option.some.inj hq156_
  exact con_pc (op := true) (I := [31, 69, 63, 97]) (sp := ratioOf_sp) 3000 (bT 1 (bF 5 (bT 1 (bF 6 (bT 1 (bF 5 (bT 1 (bF 7 [])))))))) [iD r148, iD r149, iD r178, iD r179, iD r180, .agg [iD r181, iD r182], .agg [iD r183, iD r184]] [c_T, c_n b1_, c_n b1_, c_n b1_, c_n b1_, c_n b3_, c_T, c_n b5_, c_n b5_, c_n b5_, c_n b5_, c_n bq1_, c_F, c_le 0, c_le 1, c_T, c_n bq84_, c_n bq84_, c_n bq84_, c_n bq84_, c_n bq99_, c_T, c_n bq114_, c_n bq114_, c_n bq114_, c_n bq114_, c_n bq129_, c_F, c_le 0, c_le 1, c_le 1, c_bn bq152_] [k_c fq80_, k_c fq82_, k_c fq144_, k_c fq146_, k_c fq148_, k_c fq153_, k_c fq155_] (by kernel_rfl)
theorem ratioOf_M_ok (a b c d : Int) {r : D} (h : ratioOf_M a b c d = some r) : Con 31 [.agg [iD a, iD b], .agg [iD c, iD d]] r := by
  unfold ratioOf_M at h
  by_cases b1_ : a < (1 : Int)
  · have h2_ := (if_pos b1_).symm.trans h
    exact ratioOf_M_s0_ok a b c d b1_ h2_
  have h2_ := (if_neg b1_).symm.trans h
  by_cases b3_ : a > (1000000000 : Int)
  · have h4_ := (if_pos b3_).symm.trans h2_
    exact ratioOf_M_s1_ok a b c d b1_ b3_ h4_
  have h4_ := (if_neg b3_).symm.trans h2_
  by_cases b5_ : b < (1 : Int)
  · have h6_ := (if_pos b5_).symm.trans h4_
    exact ratioOf_M_s2_ok a b c d b1_ b3_ b5_ h6_
  have h6_ := (if_neg b5_).symm.trans h4_
  exact ratioOf_M_s3_ok a b c d b1_ b3_ b5_ h6_
def m_31 (ds : List D) : Option D := pullD (α := Int × Int × Int × Int) (some (.tup ds)) (fun d => ((D.vi (D.at (D.at d 0) 0)), (D.vi (D.at (D.at d 0) 1)), (D.vi (D.at (D.at d 1) 0)), (D.vi (D.at (D.at d 1) 1)))) (fun (a, b, c, d) => .tup [.agg [iD a, iD b], .agg [iD c, iD d]]) fun (a, b, c, d) => ratioOf_M a b c d
theorem m_31_ok {ds : List D} {r : D} (h : m_31 ds = some r) : Con 31 ds r := by
  unfold m_31 at h
  obtain ⟨⟨a, b, c, d⟩, e0, h0⟩ := pullD_elim h
  obtain rfl := tup_inj e0
  exact ratioOf_M_ok a b c d h0
theorem m_31_eq (a b c d : Int) : m_31 [.agg [iD a, iD b], .agg [iD c, iD d]] = ratioOf_M a b c d := pullD_some (a, b, c, d) rfl rfl
def ratioR_sp : List LSpec := []
def ratioR_M (a b c d : Int) : Option D := pullD (α := Int) (m_74 [.agg [iD a, iD b]]) (fun d => ((D.vi d))) (fun r0 => iD r0) fun r0 => ((if r0 ≠ (0 : Int) then some (.tup [(shNK2_0 (0 : Int) (0 : Int) (0 : Int) (0 : Int)), iD r0]) else pullD (α := Int) (m_74 [.agg [iD c, iD d]]) (fun d => ((D.vi d))) (fun r1 => iD r1) fun r1 => ((if r1 ≠ (0 : Int) then some (.tup [(shNK2_0 (0 : Int) (0 : Int) (0 : Int) (0 : Int)), iD r1]) else pullD (α := Int × Int) (m_75 [iD a, iD d]) (fun d => ((D.vi (D.at d 0)), (D.vi (D.at d 1)))) (fun (r2, r3) => .agg [iD r2, iD r3]) fun (r2, r3) => (pullD (α := Int × Int) (m_75 [iD b, iD c]) (fun d => ((D.vi (D.at d 0)), (D.vi (D.at d 1)))) (fun (r4, r5) => .agg [iD r4, iD r5]) fun (r4, r5) => (some (.tup [(shNK2_0 r2 r3 r4 r5), iD (0 : Int)])))))))
theorem ratioR_M_ok (a b c d : Int) {r : D} (h : ratioR_M a b c d = some r) : Con 33 [.agg [iD a, iD b], .agg [iD c, iD d]] r := by
  unfold ratioR_M at h
  obtain ⟨r0, f1_, h2_⟩ := pullD_elim h
  replace f1_ := m_74_ok f1_
  by_cases b3_ : r0 ≠ (0 : Int)
  · have h4_ := (if_pos b3_).symm.trans h2_
    obtain rfl := Option.some.inj h4_
    exact con_pc (op := true) (I := [33]) (sp := ratioR_sp) 3000 (bT 1 []) [iD r0] [c_b b3_] [k_c f1_] (by kernel_rfl)
  have h4_ := (if_neg b3_).symm.trans h2_
  have b5_ : r0 = (0 : Int) := by first | exact b3_ | simpa using b3_
  obtain ⟨r1, f6_, h7_⟩ := pullD_elim h4_
  replace f6_ := m_74_ok f6_
  by_cases b8_ : r1 ≠ (0 : Int)
  · have h9_ := (if_pos b8_).symm.trans h7_
    obtain rfl := Option.some.inj h9_
    exact con_pc (op := true) (I := [33]) (sp := ratioR_sp) 3000 (bF 1 (bT 1 [])) [iD r0, iD r1] [c_bn b5_, c_b b8_] [k_c f1_, k_c f6_] (by kernel_rfl)
  have h9_ := (if_neg b8_).symm.trans h7_
  have b10_ : r1 = (0 : Int) := by first | exact b8_ | simpa using b8_
  obtain ⟨⟨r2, r3⟩, f11_, h12_⟩ := pullD_elim h9_
  replace f11_ := m_75_ok f11_
  obtain ⟨⟨r4, r5⟩, f13_, h14_⟩ := pullD_elim h12_
  replace f13_ := m_75_ok f13_
  obtain rfl := Option.some.inj h14_
  exact con_pc (op := true) (I := [33]) (sp := ratioR_sp) 3000 (bF 2 []) [iD r0, iD r1, .agg [iD r2, iD r3], .agg [iD r4, iD r5]] [c_bn b5_, c_bn b10_] [k_c f1_, k_c f6_, k_c f11_, k_c f13_] (by kernel_rfl)
def m_33 (ds : List D) : Option D := pullD (α := Int × Int × Int × Int) (some (.tup ds)) (fun d => ((D.vi (D.at (D.at d 0) 0)), (D.vi (D.at (D.at d 0) 1)), (D.vi (D.at (D.at d 1) 0)), (D.vi (D.at (D.at d 1) 1)))) (fun (a, b, c, d) => .tup [.agg [iD a, iD b], .agg [iD c, iD d]]) fun (a, b, c, d) => ratioR_M a b c d
theorem m_33_ok {ds : List D} {r : D} (h : m_33 ds = some r) : Con 33 ds r := by
  unfold m_33 at h
  obtain ⟨⟨a, b, c, d⟩, e0, h0⟩ := pullD_elim h
  obtain rfl := tup_inj e0
  exact ratioR_M_ok a b c d h0
theorem m_33_eq (a b c d : Int) : m_33 [.agg [iD a, iD b], .agg [iD c, iD d]] = ratioR_M a b c d := pullD_some (a, b, c, d) rfl rfl
def resAt_sp : List LSpec := []
def resAt_M_s0 (n f t : Int)  : Option D := (if f < (-500 : Int) then pullD (α := Int) (m_50 [.list 2 [iD (2 : Int), iD (2 : Int)]]) (fun d => ((D.vi d))) (fun r0 => iD r0) fun r0 => ((if r0 ≠ (0 : Int) then some (.tup [.agg [iD (0 : Int), iD (0 : Int)], iD r0]) else pullD (α := Int × Int) (m_72 [iD (IntKind.i64.wrap (n * IntKind.i64.wrap (t - (-2350 : Int)))), iD (IntKind.i64.wrap (f - (-2350 : Int)))]) (fun d => ((D.vi (D.at d 0)), (D.vi (D.at d 1)))) (fun (r1, r2) => .agg [iD r1, iD r2]) fun (r1, r2) => (pullD (α := Bool) (m_48 [.agg [iD r1, iD r2]]) (fun d => ((D.vb d))) (fun r3 => .one (.bool r3)) fun r3 => ((if (r3) = true then some (.tup [.agg [iD (0 : Int), iD (0 : Int)], iD (8 : Int)]) else some (.tup [.agg [iD r1, iD r2], iD (0 : Int)])))))) else (if f > (3000 : Int) then pullD (α := Int) (m_50 [.list 2 [iD (2 : Int), iD (2 : Int)]]) (fun d => ((D.vi d))) (fun r4 => iD r4) fun r4 => ((if r4 ≠ (0 : Int) then some (.tup [.agg [iD (0 : Int), iD (0 : Int)], iD r4]) else pullD (α := Int × Int) (m_72 [iD (IntKind.i64.wrap (n * IntKind.i64.wrap (t - (-2350 : Int)))), iD (IntKind.i64.wrap (f - (-2350 : Int)))]) (fun d => ((D.vi (D.at d 0)), (D.vi (D.at d 1)))) (fun (r5, r6) => .agg [iD r5, iD r6]) fun (r5, r6) => (pullD (α := Bool) (m_48 [.agg [iD r5, iD r6]]) (fun d => ((D.vb d))) (fun r7 => .one (.bool r7)) fun r7 => ((if (r7) = true then some (.tup [.agg [iD (0 : Int), iD (0 : Int)], iD (8 : Int)]) else some (.tup [.agg [iD r5, iD r6], iD (0 : Int)])))))) else (if t < (-500 : Int) then pullD (α := Int) (m_50 [.list 2 [iD (2 : Int), iD (2 : Int)]]) (fun d => ((D.vi d))) (fun r8 => iD r8) fun r8 => ((if r8 ≠ (0 : Int) then some (.tup [.agg [iD (0 : Int), iD (0 : Int)], iD r8]) else pullD (α := Int × Int) (m_72 [iD (IntKind.i64.wrap (n * IntKind.i64.wrap (t - (-2350 : Int)))), iD (IntKind.i64.wrap (f - (-2350 : Int)))]) (fun d => ((D.vi (D.at d 0)), (D.vi (D.at d 1)))) (fun (r9, r10) => .agg [iD r9, iD r10]) fun (r9, r10) => (pullD (α := Bool) (m_48 [.agg [iD r9, iD r10]]) (fun d => ((D.vb d))) (fun r11 => .one (.bool r11)) fun r11 => ((if (r11) = true then some (.tup [.agg [iD (0 : Int), iD (0 : Int)], iD (8 : Int)]) else some (.tup [.agg [iD r9, iD r10], iD (0 : Int)])))))) else (if t > (3000 : Int) then pullD (α := Int) (m_50 [.list 2 [iD (2 : Int), iD (2 : Int)]]) (fun d => ((D.vi d))) (fun r12 => iD r12) fun r12 => ((if r12 ≠ (0 : Int) then some (.tup [.agg [iD (0 : Int), iD (0 : Int)], iD r12]) else pullD (α := Int × Int) (m_72 [iD (IntKind.i64.wrap (n * IntKind.i64.wrap (t - (-2350 : Int)))), iD (IntKind.i64.wrap (f - (-2350 : Int)))]) (fun d => ((D.vi (D.at d 0)), (D.vi (D.at d 1)))) (fun (r13, r14) => .agg [iD r13, iD r14]) fun (r13, r14) => (pullD (α := Bool) (m_48 [.agg [iD r13, iD r14]]) (fun d => ((D.vb d))) (fun r15 => .one (.bool r15)) fun r15 => ((if (r15) = true then some (.tup [.agg [iD (0 : Int), iD (0 : Int)], iD (8 : Int)]) else some (.tup [.agg [iD r13, iD r14], iD (0 : Int)])))))) else pullD (α := Int) (m_50 [.list 2 [iD (2 : Int), iD (0 : Int)]]) (fun d => ((D.vi d))) (fun r16 => iD r16) fun r16 => ((if r16 ≠ (0 : Int) then some (.tup [.agg [iD (0 : Int), iD (0 : Int)], iD r16]) else pullD (α := Int × Int) (m_72 [iD (IntKind.i64.wrap (n * IntKind.i64.wrap (t - (-2350 : Int)))), iD (IntKind.i64.wrap (f - (-2350 : Int)))]) (fun d => ((D.vi (D.at d 0)), (D.vi (D.at d 1)))) (fun (r17, r18) => .agg [iD r17, iD r18]) fun (r17, r18) => (pullD (α := Bool) (m_48 [.agg [iD r17, iD r18]]) (fun d => ((D.vb d))) (fun r19 => .one (.bool r19)) fun r19 => ((if (r19) = true then some (.tup [.agg [iD (0 : Int), iD (0 : Int)], iD (8 : Int)]) else some (.tup [.agg [iD r17, iD r18], iD (0 : Int)]))))))))))
def resAt_M_s1 (n f t : Int)  : Option D := (if f < (-500 : Int) then pullD (α := Int) (m_50 [.list 2 [iD (2 : Int), iD (2 : Int)]]) (fun d => ((D.vi d))) (fun r20 => iD r20) fun r20 => ((if r20 ≠ (0 : Int) then some (.tup [.agg [iD (0 : Int), iD (0 : Int)], iD r20]) else pullD (α := Int × Int) (m_72 [iD (IntKind.i64.wrap (n * IntKind.i64.wrap (t - (-2350 : Int)))), iD (IntKind.i64.wrap (f - (-2350 : Int)))]) (fun d => ((D.vi (D.at d 0)), (D.vi (D.at d 1)))) (fun (r21, r22) => .agg [iD r21, iD r22]) fun (r21, r22) => (pullD (α := Bool) (m_48 [.agg [iD r21, iD r22]]) (fun d => ((D.vb d))) (fun r23 => .one (.bool r23)) fun r23 => ((if (r23) = true then some (.tup [.agg [iD (0 : Int), iD (0 : Int)], iD (8 : Int)]) else some (.tup [.agg [iD r21, iD r22], iD (0 : Int)])))))) else (if f > (3000 : Int) then pullD (α := Int) (m_50 [.list 2 [iD (2 : Int), iD (2 : Int)]]) (fun d => ((D.vi d))) (fun r24 => iD r24) fun r24 => ((if r24 ≠ (0 : Int) then some (.tup [.agg [iD (0 : Int), iD (0 : Int)], iD r24]) else pullD (α := Int × Int) (m_72 [iD (IntKind.i64.wrap (n * IntKind.i64.wrap (t - (-2350 : Int)))), iD (IntKind.i64.wrap (f - (-2350 : Int)))]) (fun d => ((D.vi (D.at d 0)), (D.vi (D.at d 1)))) (fun (r25, r26) => .agg [iD r25, iD r26]) fun (r25, r26) => (pullD (α := Bool) (m_48 [.agg [iD r25, iD r26]]) (fun d => ((D.vb d))) (fun r27 => .one (.bool r27)) fun r27 => ((if (r27) = true then some (.tup [.agg [iD (0 : Int), iD (0 : Int)], iD (8 : Int)]) else some (.tup [.agg [iD r25, iD r26], iD (0 : Int)])))))) else (if t < (-500 : Int) then pullD (α := Int) (m_50 [.list 2 [iD (2 : Int), iD (2 : Int)]]) (fun d => ((D.vi d))) (fun r28 => iD r28) fun r28 => ((if r28 ≠ (0 : Int) then some (.tup [.agg [iD (0 : Int), iD (0 : Int)], iD r28]) else pullD (α := Int × Int) (m_72 [iD (IntKind.i64.wrap (n * IntKind.i64.wrap (t - (-2350 : Int)))), iD (IntKind.i64.wrap (f - (-2350 : Int)))]) (fun d => ((D.vi (D.at d 0)), (D.vi (D.at d 1)))) (fun (r29, r30) => .agg [iD r29, iD r30]) fun (r29, r30) => (pullD (α := Bool) (m_48 [.agg [iD r29, iD r30]]) (fun d => ((D.vb d))) (fun r31 => .one (.bool r31)) fun r31 => ((if (r31) = true then some (.tup [.agg [iD (0 : Int), iD (0 : Int)], iD (8 : Int)]) else some (.tup [.agg [iD r29, iD r30], iD (0 : Int)])))))) else (if t > (3000 : Int) then pullD (α := Int) (m_50 [.list 2 [iD (2 : Int), iD (2 : Int)]]) (fun d => ((D.vi d))) (fun r32 => iD r32) fun r32 => ((if r32 ≠ (0 : Int) then some (.tup [.agg [iD (0 : Int), iD (0 : Int)], iD r32]) else pullD (α := Int × Int) (m_72 [iD (IntKind.i64.wrap (n * IntKind.i64.wrap (t - (-2350 : Int)))), iD (IntKind.i64.wrap (f - (-2350 : Int)))]) (fun d => ((D.vi (D.at d 0)), (D.vi (D.at d 1)))) (fun (r33, r34) => .agg [iD r33, iD r34]) fun (r33, r34) => (pullD (α := Bool) (m_48 [.agg [iD r33, iD r34]]) (fun d => ((D.vb d))) (fun r35 => .one (.bool r35)) fun r35 => ((if (r35) = true then some (.tup [.agg [iD (0 : Int), iD (0 : Int)], iD (8 : Int)]) else some (.tup [.agg [iD r33, iD r34], iD (0 : Int)])))))) else pullD (α := Int) (m_50 [.list 2 [iD (2 : Int), iD (0 : Int)]]) (fun d => ((D.vi d))) (fun r36 => iD r36) fun r36 => ((if r36 ≠ (0 : Int) then some (.tup [.agg [iD (0 : Int), iD (0 : Int)], iD r36]) else pullD (α := Int × Int) (m_72 [iD (IntKind.i64.wrap (n * IntKind.i64.wrap (t - (-2350 : Int)))), iD (IntKind.i64.wrap (f - (-2350 : Int)))]) (fun d => ((D.vi (D.at d 0)), (D.vi (D.at d 1)))) (fun (r37, r38) => .agg [iD r37, iD r38]) fun (r37, r38) => (pullD (α := Bool) (m_48 [.agg [iD r37, iD r38]]) (fun d => ((D.vb d))) (fun r39 => .one (.bool r39)) fun r39 => ((if (r39) = true then some (.tup [.agg [iD (0 : Int), iD (0 : Int)], iD (8 : Int)]) else some (.tup [.agg [iD r37, iD r38], iD (0 : Int)]))))))))))
def resAt_M_s2 (n f t : Int)  : Option D := (if f < (-500 : Int) then pullD (α := Int) (m_50 [.list 2 [iD (0 : Int), iD (2 : Int)]]) (fun d => ((D.vi d))) (fun r40 => iD r40) fun r40 => ((if r40 ≠ (0 : Int) then some (.tup [.agg [iD (0 : Int), iD (0 : Int)], iD r40]) else pullD (α := Int × Int) (m_72 [iD (IntKind.i64.wrap (n * IntKind.i64.wrap (t - (-2350 : Int)))), iD (IntKind.i64.wrap (f - (-2350 : Int)))]) (fun d => ((D.vi (D.at d 0)), (D.vi (D.at d 1)))) (fun (r41, r42) => .agg [iD r41, iD r42]) fun (r41, r42) => (pullD (α := Bool) (m_48 [.agg [iD r41, iD r42]]) (fun d => ((D.vb d))) (fun r43 => .one (.bool r43)) fun r43 => ((if (r43) = true then some (.tup [.agg [iD (0 : Int), iD (0 : Int)], iD (8 : Int)]) else some (.tup [.agg [iD r41, iD r42], iD (0 : Int)])))))) else (if f > (3000 : Int) then pullD (α := Int) (m_50 [.list 2 [iD (0 : Int), iD (2 : Int)]]) (fun d => ((D.vi d))) (fun r44 => iD r44) fun r44 => ((if r44 ≠ (0 : Int) then some (.tup [.agg [iD (0 : Int), iD (0 : Int)], iD r44]) else pullD (α := Int × Int) (m_72 [iD (IntKind.i64.wrap (n * IntKind.i64.wrap (t - (-2350 : Int)))), iD (IntKind.i64.wrap (f - (-2350 : Int)))]) (fun d => ((D.vi (D.at d 0)), (D.vi (D.at d 1)))) (fun (r45, r46) => .agg [iD r45, iD r46]) fun (r45, r46) => (pullD (α := Bool) (m_48 [.agg [iD r45, iD r46]]) (fun d => ((D.vb d))) (fun r47 => .one (.bool r47)) fun r47 => ((if (r47) = true then some (.tup [.agg [iD (0 : Int), iD (0 : Int)], iD (8 : Int)]) else some (.tup [.agg [iD r45, iD r46], iD (0 : Int)])))))) else (if t < (-500 : Int) then pullD (α := Int) (m_50 [.list 2 [iD (0 : Int), iD (2 : Int)]]) (fun d => ((D.vi d))) (fun r48 => iD r48) fun r48 => ((if r48 ≠ (0 : Int) then some (.tup [.agg [iD (0 : Int), iD (0 : Int)], iD r48]) else pullD (α := Int × Int) (m_72 [iD (IntKind.i64.wrap (n * IntKind.i64.wrap (t - (-2350 : Int)))), iD (IntKind.i64.wrap (f - (-2350 : Int)))]) (fun d => ((D.vi (D.at d 0)), (D.vi (D.at d 1)))) (fun (r49, r50) => .agg [iD r49, iD r50]) fun (r49, r50) => (pullD (α := Bool) (m_48 [.agg [iD r49, iD r50]]) (fun d => ((D.vb d))) (fun r51 => .one (.bool r51)) fun r51 => ((if (r51) = true then some (.tup [.agg [iD (0 : Int), iD (0 : Int)], iD (8 : Int)]) else some (.tup [.agg [iD r49, iD r50], iD (0 : Int)])))))) else (if t > (3000 : Int) then pullD (α := Int) (m_50 [.list 2 [iD (0 : Int), iD (2 : Int)]]) (fun d => ((D.vi d))) (fun r52 => iD r52) fun r52 => ((if r52 ≠ (0 : Int) then some (.tup [.agg [iD (0 : Int), iD (0 : Int)], iD r52]) else pullD (α := Int × Int) (m_72 [iD (IntKind.i64.wrap (n * IntKind.i64.wrap (t - (-2350 : Int)))), iD (IntKind.i64.wrap (f - (-2350 : Int)))]) (fun d => ((D.vi (D.at d 0)), (D.vi (D.at d 1)))) (fun (r53, r54) => .agg [iD r53, iD r54]) fun (r53, r54) => (pullD (α := Bool) (m_48 [.agg [iD r53, iD r54]]) (fun d => ((D.vb d))) (fun r55 => .one (.bool r55)) fun r55 => ((if (r55) = true then some (.tup [.agg [iD (0 : Int), iD (0 : Int)], iD (8 : Int)]) else some (.tup [.agg [iD r53, iD r54], iD (0 : Int)])))))) else pullD (α := Int) (m_50 [.list 2 [iD (0 : Int), iD (0 : Int)]]) (fun d => ((D.vi d))) (fun r56 => iD r56) fun r56 => ((if r56 ≠ (0 : Int) then some (.tup [.agg [iD (0 : Int), iD (0 : Int)], iD r56]) else pullD (α := Int × Int) (m_72 [iD (IntKind.i64.wrap (n * IntKind.i64.wrap (t - (-2350 : Int)))), iD (IntKind.i64.wrap (f - (-2350 : Int)))]) (fun d => ((D.vi (D.at d 0)), (D.vi (D.at d 1)))) (fun (r57, r58) => .agg [iD r57, iD r58]) fun (r57, r58) => (pullD (α := Bool) (m_48 [.agg [iD r57, iD r58]]) (fun d => ((D.vb d))) (fun r59 => .one (.bool r59)) fun r59 => ((if (r59) = true then some (.tup [.agg [iD (0 : Int), iD (0 : Int)], iD (8 : Int)]) else some (.tup [.agg [iD r57, iD r58], iD (0 : Int)]))))))))))
def resAt_M (n f t : Int) : Option D := (if n < (1 : Int) then resAt_M_s0 n f t else (if n > (1000000 : Int) then resAt_M_s1 n f t else resAt_M_s2 n f t))
theorem resAt_M_s0_ok (n f t : Int)  (b1_ : n < (1 : Int)) {r : D} (h : resAt_M_s0 n f t = some r) : Con 32 [iD n, iD f, iD t] r := by
  unfold resAt_M_s0 at h
  by_cases bq1_ : f < (-500 : Int)
  · have hq2_ := (if_pos bq1_).symm.trans h
    obtain ⟨r0, fq3_, hq4_⟩ := pullD_elim hq2_
    replace fq3_ := m_50_ok fq3_
    by_cases bq5_ : r0 ≠ (0 : Int)
    · have hq6_ := (if_pos bq5_).symm.trans hq4_
      obtain rfl := Option.some.inj hq6_
      exact con_pc (op := true) (I := [32, 63, 97, 73]) (sp := resAt_sp) 3000 (bT 13 []) [iD r0] [c_T, c_d b1_, c_d b1_, c_d b1_, c_d b1_, c_T, c_T, c_d bq1_, c_d bq1_, c_d bq1_, c_d bq1_, c_T, c_le 1, c_b bq5_] [k_c fq3_] (by kernel_rfl)
    have hq6_ := (if_neg bq5_).symm.trans hq4_
    have bq7_ : r0 = (0 : Int) := by first | exact bq5_ | simpa using bq5_
    obtain ⟨⟨r1, r2⟩, fq8_, hq9_⟩ := pullD_elim hq6_
    replace fq8_ := m_72_ok fq8_
    obtain ⟨r3, fq10_, hq11_⟩ := pullD_elim hq9_
    replace fq10_ := m_48_ok fq10_
    by_cases bq12_ : (r3) = true
    · have hq13_ := (if_pos bq12_).symm.trans hq11_
      obtain rfl := Option.some.inj hq13_
      exact con_pc (op := true) (I := [32, 63, 97, 73]) (sp := resAt_sp) 3000 (bT 12 (bF 1 (bT 1 []))) [iD r0, .agg [iD r1, iD r2], .one (.bool r3)] [c_T, c_d b1_, c_d b1_, c_d b1_, c_d b1_, c_T, c_T, c_d bq1_, c_d bq1_, c_d bq1_, c_d bq1_, c_T, c_le 1, c_bn bq7_, c_q bq12_] [k_c fq3_, k_c fq8_, k_c fq10_] (by kernel_rfl)
    have hq13_ := (if_neg bq12_).symm.trans hq11_
    have bq14_ : (r3) = false := by first | exact bq12_ | simpa using bq12_
    obtain rfl := Option.some.inj hq13_
    exact con_pc (op := true) (I := [32, 63, 97, 73]) (sp := resAt_sp) 3000 (bT 12 (bF 2 [])) [iD r0, .agg [iD r1, iD r2], .one (.bool r3)] [c_T, c_d b1_, c_d b1_, c_d b1_, c_d b1_, c_T, c_T, c_d bq1_, c_d bq1_, c_d bq1_, c_d bq1_, c_T, c_le 1, c_bn bq7_, c_q bq14_] [k_c fq3_, k_c fq8_, k_c fq10_] (by kernel_rfl)
  have hq2_ := (if_neg bq1_).symm.trans h
  by_cases bq15_ : f > (3000 : Int)
  · have hq16_ := (if_pos bq15_).symm.trans hq2_
    obtain ⟨r4, fq17_, hq18_⟩ := pullD_elim hq16_
    replace fq17_ := m_50_ok fq17_
    by_cases bq19_ : r4 ≠ (0 : Int)
    · have hq20_ := (if_pos bq19_).symm.trans hq18_
      obtain rfl := Option.some.inj hq20_
      exact con_pc (op := true) (I := [32, 63, 97, 73]) (sp := resAt_sp) 3000 (bT 7 (bF 4 (bT 2 []))) [iD r4] [c_T, c_d b1_, c_d b1_, c_d b1_, c_d b1_, c_T, c_T, c_n bq1_, c_n bq1_, c_n bq1_, c_n bq1_, c_d bq15_, c_le 1, c_b bq19_] [k_c fq17_] (by kernel_rfl)
    have hq20_ := (if_neg bq19_).symm.trans hq18_
    have bq21_ : r4 = (0 : Int) := by first | exact bq19_ | simpa using bq19_
    obtain ⟨⟨r5, r6⟩, fq22_, hq23_⟩ := pullD_elim hq20_
    replace fq22_ := m_72_ok fq22_
    obtain ⟨r7, fq24_, hq25_⟩ := pullD_elim hq23_
    replace fq24_ := m_48_ok fq24_
    by_cases bq26_ : (r7) = true
    · have hq27_ := (if_pos bq26_).symm.trans hq25_
      obtain rfl := Option.some.inj hq27_
      exact con_pc (op := true) (I := [32, 63, 97, 73]) (sp := resAt_sp) 3000 (bT 7 (bF 4 (bT 1 (bF 1 (bT 1 []))))) [iD r4, .agg [iD r5, iD r6], .one (.bool r7)] [c_T, c_d b1_, c_d b1_, c_d b1_, c_d b1_, c_T, c_T, c_n bq1_, c_n bq1_, c_n bq1_, c_n bq1_, c_d bq15_, c_le 1, c_bn bq21_, c_q bq26_] [k_c fq17_, k_c fq22_, k_c fq24_] (by kernel_rfl)
    have hq27_ := (if_neg bq26_).symm.trans hq25_
    have bq28_ : (r7) = false := by first | exact bq26_ | simpa using bq26_
    obtain rfl := Option.some.inj hq27_
    exact con_pc (op := true) (I := [32, 63, 97, 73]) (sp := resAt_sp) 3000 (bT 7 (bF 4 (bT 1 (bF 2 [])))) [iD r4, .agg [iD r5, iD r6], .one (.bool r7)] [c_T, c_d b1_, c_d b1_, c_d b1_, c_d b1_, c_T, c_T, c_n bq1_, c_n bq1_, c_n bq1_, c_n bq1_, c_d bq15_, c_le 1, c_bn bq21_, c_q bq28_] [k_c fq17_, k_c fq22_, k_c fq24_] (by kernel_rfl)
  have hq16_ := (if_neg bq15_).symm.trans hq2_
  by_cases bq29_ : t < (-500 : Int)
  · have hq30_ := (if_pos bq29_).symm.trans hq16_
    obtain ⟨r8, fq31_, hq32_⟩ := pullD_elim hq30_
    replace fq31_ := m_50_ok fq31_
    by_cases bq33_ : r8 ≠ (0 : Int)
    · have hq34_ := (if_pos bq33_).symm.trans hq32_
      obtain rfl := Option.some.inj hq34_
      exact con_pc (op := true) (I := [32, 63, 97, 73]) (sp := resAt_sp) 3000 (bT 7 (bF 5 (bT 7 []))) [iD r8] [c_T, c_d b1_, c_d b1_, c_d b1_, c_d b1_, c_T, c_T, c_n bq1_, c_n bq1_, c_n bq1_, c_n bq1_, c_n bq15_, c_T, c_d bq29_, c_d bq29_, c_d bq29_, c_d bq29_, c_T, c_le 1, c_b bq33_] [k_c fq31_] (by kernel_rfl)
    have hq34_ := (if_neg bq33_).symm.trans hq32_
    have bq35_ : r8 = (0 : Int) := by first | exact bq33_ | simpa using bq33_
    obtain ⟨⟨r9, r10⟩, fq36_, hq37_⟩ := pullD_elim hq34_
    replace fq36_ := m_72_ok fq36_
    obtain ⟨r11, fq38_, hq39_⟩ := pullD_elim hq37_
    replace fq38_ := m_48_ok fq38_
    by_cases bq40_ : (r11) = true
    · have hq41_ := (if_pos bq40_).symm.trans hq39_
      obtain rfl := Option.some.inj hq41_
      exact con_pc (op := true) (I := [32, 63, 97, 73]) (sp := resAt_sp) 3000 (bT 7 (bF 5 (bT 6 (bF 1 (bT 1 []))))) [iD r8, .agg [iD r9, iD r10], .one (.bool r11)] [c_T, c_d b1_, c_d b1_, c_d b1_, c_d b1_, c_T, c_T, c_n bq1_, c_n bq1_, c_n bq1_, c_n bq1_, c_n bq15_, c_T, c_d bq29_, c_d bq29_, c_d bq29_, c_d bq29_, c_T, c_le 1, c_bn bq35_, c_q bq40_] [k_c fq31_, k_c fq36_, k_c fq38_] (by kernel_rfl)
    have hq41_ := (if_neg bq40_).symm.trans hq39_
    have bq42_ : (r11) = false := by first | exact bq40_ | simpa using bq40_
    obtain rfl := Option.some.inj hq41_
    exact con_pc (op := true) (I := [32, 63, 97, 73]) (sp := resAt_sp) 3000 (bT 7 (bF 5 (bT 6 (bF 2 [])))) [iD r8, .agg [iD r9, iD r10], .one (.bool r11)] [c_T, c_d b1_, c_d b1_, c_d b1_, c_d b1_, c_T, c_T, c_n bq1_, c_n bq1_, c_n bq1_, c_n bq1_, c_n bq15_, c_T, c_d bq29_, c_d bq29_, c_d bq29_, c_d bq29_, c_T, c_le 1, c_bn bq35_, c_q bq42_] [k_c fq31_, k_c fq36_, k_c fq38_] (by kernel_rfl)
  have hq30_ := (if_neg bq29_).symm.trans hq16_
  by_cases bq43_ : t > (3000 : Int)
  · have hq44_ := (if_pos bq43_).symm.trans hq30_
    obtain ⟨r12, fq45_, hq46_⟩ := pullD_elim hq44_
    replace fq45_ := m_50_ok fq45_
    by_cases bq47_ : r12 ≠ (0 : Int)
    · have hq48_ := (if_pos bq47_).symm.trans hq46_
      obtain rfl := Option.some.inj hq48_
      exact con_pc (op := true) (I := [32, 63, 97, 73]) (sp := resAt_sp) 3000 (bT 7 (bF 5 (bT 1 (bF 4 (bT 2 []))))) [iD r12] [c_T, c_d b1_, c_d b1_, c_d b1_, c_d b1_, c_T, c_T, c_n bq1_, c_n bq1_, c_n bq1_, c_n bq1_, c_n bq15_, c_T, c_n bq29_, c_n bq29_, c_n bq29_, c_n bq29_, c_d bq43_, c_le 1, c_b bq47_] [k_c fq45_] (by kernel_rfl)
    have hq48_ := (if_neg bq47_).symm.trans hq46_
    have bq49_ : r12 = (0 : Int) := by first | exact bq47_ | simpa using bq47_
    obtain ⟨⟨r13, r14⟩, fq50_, hq51_⟩ := pullD_elim hq48_
    replace fq50_ := m_72_ok fq50_
    obtain ⟨r15, fq52_, hq53_⟩ := pullD_elim hq51_
    replace fq52_ := m_48_ok fq52_
    by_cases bq54_ : (r15) = true
    · have hq55_ := (if_pos bq54_).symm.trans hq53_
      obtain rfl := Option.some.inj hq55_
      exact con_pc (op := true) (I := [32, 63, 97, 73]) (sp := resAt_sp) 3000 (bT 7 (bF 5 (bT 1 (bF 4 (bT 1 (bF 1 (bT 1 []))))))) [iD r12, .agg [iD r13, iD r14], .one (.bool r15)] [c_T, c_d b1_, c_d b1_, c_d b1_, c_d b1_, c_T, c_T, c_n bq1_, c_n bq1_, c_n bq1_, c_n bq1_, c_n bq15_, c_T, c_n bq29_, c_n bq29_, c_n bq29_, c_n bq29_, c_d bq43_, c_le 1, c_bn bq49_, c_q bq54_] [k_c fq45_, k_c fq50_, k_c fq52_] (by kernel_rfl)
    have hq55_ := (if_neg bq54_).symm.trans hq53_
    have bq56_ : (r15) = false := by first | exact bq54_ | simpa using bq54_
    obtain rfl := Option.some.inj hq55_
    exact con_pc (op := true) (I := [32, 63, 97, 73]) (sp := resAt_sp) 3000 (bT 7 (bF 5 (bT 1 (bF 4 (bT 1 (bF 2 [])))))) [iD r12, .agg [iD r13, iD r14], .one (.bool r15)] [c_T, c_d b1_, c_d b1_, c_d b1_, c_d b1_, c_T, c_T, c_n bq1_, c_n bq1_, c_n bq1_, c_n bq1_, c_n bq15_, c_T, c_n bq29_, c_n bq29_, c_n bq29_, c_n bq29_, c_d bq43_, c_le 1, c_bn bq49_, c_q bq56_] [k_c fq45_, k_c fq50_, k_c fq52_] (by kernel_rfl)
  have hq44_ := (if_neg bq43_).symm.trans hq30_
  obtain ⟨r16, fq57_, hq58_⟩ := pullD_elim hq44_
  replace fq57_ := m_50_ok fq57_
  by_cases bq59_ : r16 ≠ (0 : Int)
  · have hq60_ := (if_pos bq59_).symm.trans hq58_
    obtain rfl := Option.some.inj hq60_
    exact con_pc (op := true) (I := [32, 63, 97, 73]) (sp := resAt_sp) 3000 (bT 7 (bF 5 (bT 1 (bF 6 (bT 1 []))))) [iD r16] [c_T, c_d b1_, c_d b1_, c_d b1_, c_d b1_, c_T, c_T, c_n bq1_, c_n bq1_, c_n bq1_, c_n bq1_, c_n bq15_, c_T, c_n bq29_, c_n bq29_, c_n bq29_, c_n bq29_, c_n bq43_, c_F, c_le 1, c_b bq59_] [k_c fq57_] (by kernel_rfl)
  have hq60_ := (if_neg bq59_).symm.trans hq58_
  have bq61_ : r16 = (0 : Int) := by first | exact bq59_ | simpa using bq59_
  obtain ⟨⟨r17, r18⟩, fq62_, hq63_⟩ := pullD_elim hq60_
  replace fq62_ := m_72_ok fq62_
  obtain ⟨r19, fq64_, hq65_⟩ := pullD_elim hq63_
  replace fq64_ := m_48_ok fq64_
  by_cases bq66_ : (r19) = true
  · have hq67_ := (if_pos bq66_).symm.trans hq65_
    obtain rfl := Option.some.inj hq67_
    exact con_pc (op := true) (I := [32, 63, 97, 73]) (sp := resAt_sp) 3000 (bT 7 (bF 5 (bT 1 (bF 7 (bT 1 []))))) [iD r16, .agg [iD r17, iD r18], .one (.bool r19)] [c_T, c_d b1_, c_d b1_, c_d b1_, c_d b1_, c_T, c_T, c_n bq1_, c_n bq1_, c_n bq1_, c_n bq1_, c_n bq15_, c_T, c_n bq29_, c_n bq29_, c_n bq29_, c_n bq29_, c_n bq43_, c_F, c_le 1, c_bn bq61_, c_q bq66_] [k_c fq57_, k_c fq62_, k_c fq64_] (by kernel_rfl)
  have hq67_ := (if_neg bq66_).symm.trans hq65_
  have bq68_ : (r19) = false := by first | exact bq66_ | simpa using bq66_
  obtain rfl := Option.some.inj hq67_
  exact con_pc (op := true) (I := [32, 63, 97, 73]) (sp := resAt_sp) 3000 (bT 7 (bF 5 (bT 1 (bF 8 [])))) [iD r16, .agg [iD r17, iD r18], .one (.bool r19)] [c_T, c_d b1_, c_d b1_, c_d b1_, c_d b1_, c_T, c_T, c_n bq1_, c_n bq1_, c_n bq1_, c_n bq1_, c_n bq15_, c_T, c_n bq29_, c_n bq29_, c_n bq29_, c_n bq29_, c_n bq43_, c_F, c_le 1, c_bn bq61_, c_q bq68_] [k_c fq57_, k_c fq62_, k_c fq64_] (by kernel_rfl)
theorem resAt_M_s1_ok (n f t : Int)  (b1_ : ¬ (n < (1 : Int))) (b3_ : n > (1000000 : Int)) {r : D} (h : resAt_M_s1 n f t = some r) : Con 32 [iD n, iD f, iD t] r := by
  unfold resAt_M_s1 at h
  by_cases bq1_ : f < (-500 : Int)
  · have hq2_ := (if_pos bq1_).symm.trans h
    obtain ⟨r20, fq3_, hq4_⟩ := pullD_elim hq2_
    replace fq3_ := m_50_ok fq3_
    by_cases bq5_ : r20 ≠ (0 : Int)
    · have hq6_ := (if_pos bq5_).symm.trans hq4_
      obtain rfl := Option.some.inj hq6_
      exact con_pc (op := true) (I := [32, 63, 97, 73]) (sp := resAt_sp) 3000 (bT 1 (bF 4 (bT 8 []))) [iD r20] [c_T, c_n b1_, c_n b1_, c_n b1_, c_n b1_, c_d b3_, c_T, c_d bq1_, c_d bq1_, c_d bq1_, c_d bq1_, c_T, c_le 1, c_b bq5_] [k_c fq3_] (by kernel_rfl)
    have hq6_ := (if_neg bq5_).symm.trans hq4_
    have bq7_ : r20 = (0 : Int) := by first | exact bq5_ | simpa using bq5_
    obtain ⟨⟨r21, r22⟩, fq8_, hq9_⟩ := pullD_elim hq6_
    replace fq8_ := m_72_ok fq8_
    obtain ⟨r23, fq10_, hq11_⟩ := pullD_elim hq9_
    replace fq10_ := m_48_ok fq10_
    by_cases bq12_ : (r23) = true
    · have hq13_ := (if_pos bq12_).symm.trans hq11_
      obtain rfl := Option.some.inj hq13_
      exact con_pc (op := true) (I := [32, 63, 97, 73]) (sp := resAt_sp) 3000 (bT 1 (bF 4 (bT 7 (bF 1 (bT 1 []))))) [iD r20, .agg [iD r21, iD r22], .one (.bool r23)] [c_T, c_n b1_, c_n b1_, c_n b1_, c_n b1_, c_d b3_, c_T, c_d bq1_, c_d bq1_, c_d bq1_, c_d bq1_, c_T, c_le 1, c_bn bq7_, c_q bq12_] [k_c fq3_, k_c fq8_, k_c fq10_] (by kernel_rfl)
    have hq13_ := (if_neg bq12_).symm.trans hq11_
    have bq14_ : (r23) = false := by first | exact bq12_ | simpa using bq12_
    obtain rfl := Option.some.inj hq13_
    exact con_pc (op := true) (I := [32, 63, 97, 73]) (sp := resAt_sp) 3000 (bT 1 (bF 4 (bT 7 (bF 2 [])))) [iD r20, .agg [iD r21, iD r22], .one (.bool r23)] [c_T, c_n b1_, c_n b1_, c_n b1_, c_n b1_, c_d b3_, c_T, c_d bq1_, c_d bq1_, c_d bq1_, c_d bq1_, c_T, c_le 1, c_bn bq7_, c_q bq14_] [k_c fq3_, k_c fq8_, k_c fq10_] (by kernel_rfl)
  have hq2_ := (if_neg bq1_).symm.trans h
  by_cases bq15_ : f > (3000 : Int)
  · have hq16_ := (if_pos bq15_).symm.trans hq2_
    obtain ⟨r24, fq17_, hq18_⟩ := pullD_elim hq16_
    replace fq17_ := m_50_ok fq17_
    by_cases bq19_ : r24 ≠ (0 : Int)
    · have hq20_ := (if_pos bq19_).symm.trans hq18_
      obtain rfl := Option.some.inj hq20_
      exact con_pc (op := true) (I := [32, 63, 97, 73]) (sp := resAt_sp) 3000 (bT 1 (bF 4 (bT 2 (bF 4 (bT 2 []))))) [iD r24] [c_T, c_n b1_, c_n b1_, c_n b1_, c_n b1_, c_d b3_, c_T, c_n bq1_, c_n bq1_, c_n bq1_, c_n bq1_, c_d bq15_, c_le 1, c_b bq19_] [k_c fq17_] (by kernel_rfl)
    have hq20_ := (if_neg bq19_).symm.trans hq18_
    have bq21_ : r24 = (0 : Int) := by first | exact bq19_ | simpa using bq19_
    obtain ⟨⟨r25, r26⟩, fq22_, hq23_⟩ := pullD_elim hq20_
    replace fq22_ := m_72_ok fq22_
    obtain ⟨r27, fq24_, hq25_⟩ := pullD_elim hq23_
    replace fq24_ := m_48_ok fq24_
    by_cases bq26_ : (r27) = true
    · have hq27_ := (if_pos bq26_).symm.trans hq25_
      obtain rfl := Option.some.inj hq27_
      exact con_pc (op := true) (I := [32, 63, 97, 73]) (sp := resAt_sp) 3000 (bT 1 (bF 4 (bT 2 (bF 4 (bT 1 (bF 1 (bT 1 []))))))) [iD r24, .agg [iD r25, iD r26], .one (.bool r27)] [c_T, c_n b1_, c_n b1_, c_n b1_, c_n b1_, c_d b3_, c_T, c_n bq1_, c_n bq1_, c_n bq1_, c_n bq1_, c_d bq15_, c_le 1, c_bn bq21_, c_q bq26_] [k_c fq17_, k_c fq22_, k_c fq24_] (by kernel_rfl)
    have hq27_ := (if_neg bq26_).symm.trans hq25_
    have bq28_ : (r27) = false := by first | exact bq26_ | simpa using bq26_
    obtain rfl := Option.some.inj hq27_
    exact con_pc (op := true) (I := [32, 63, 97, 73]) (sp := resAt_sp) 3000 (bT 1 (bF 4 (bT 2 (bF 4 (bT 1 (bF 2 [])))))) [iD r24, .agg [iD r25, iD r26], .one (.bool r27)] [c_T, c_n b1_, c_n b1_, c_n b1_, c_n b1_, c_d b3_, c_T, c_n bq1_, c_n bq1_, c_n bq1_, c_n bq1_, c_d bq15_, c_le 1, c_bn bq21_, c_q bq28_] [k_c fq17_, k_c fq22_, k_c fq24_] (by kernel_rfl)
  have hq16_ := (if_neg bq15_).symm.trans hq2_
  by_cases bq29_ : t < (-500 : Int)
  · have hq30_ := (if_pos bq29_).symm.trans hq16_
    obtain ⟨r28, fq31_, hq32_⟩ := pullD_elim hq30_
    replace fq31_ := m_50_ok fq31_
    by_cases bq33_ : r28 ≠ (0 : Int)
    · have hq34_ := (if_pos bq33_).symm.trans hq32_
      obtain rfl := Option.some.inj hq34_
      exact con_pc (op := true) (I := [32, 63, 97, 73]) (sp := resAt_sp) 3000 (bT 1 (bF 4 (bT 2 (bF 5 (bT 7 []))))) [iD r28] [c_T, c_n b1_, c_n b1_, c_n b1_, c_n b1_, c_d b3_, c_T, c_n bq1_, c_n bq1_, c_n bq1_, c_n bq1_, c_n bq15_, c_T, c_d bq29_, c_d bq29_, c_d bq29_, c_d bq29_, c_T, c_le 1, c_b bq33_] [k_c fq31_] (by kernel_rfl)
    have hq34_ := (if_neg bq33_).symm.trans hq32_
    have bq35_ : r28 = (0 : Int) := by first | exact bq33_ | simpa using bq33_
    obtain ⟨⟨r29, r30⟩, fq36_, hq37_⟩ := pullD_elim hq34_
    replace fq36_ := m_72_ok fq36_
    obtain ⟨r31, fq38_, hq39_⟩ := pullD_elim hq37_
    replace fq38_ := m_48_ok fq38_
    by_cases bq40_ : (r31) = true
    · have hq41_ := (if_pos bq40_).symm.trans hq39_
      obtain rfl := Option.some.inj hq41_
      exact con_pc (op := true) (I := [32, 63, 97, 73]) (sp := resAt_sp) 3000 (bT 1 (bF 4 (bT 2 (bF 5 (bT 6 (bF 1 (bT 1 []))))))) [iD r28, .agg [iD r29, iD r30], .one (.bool r31)] [c_T, c_n b1_, c_n b1_, c_n b1_, c_n b1_, c_d b3_, c_T, c_n bq1_, c_n bq1_, c_n bq1_, c_n bq1_, c_n bq15_, c_T, c_d bq29_, c_d bq29_, c_d bq29_, c_d bq29_, c_T, c_le 1, c_bn bq35_, c_q bq40_] [k_c fq31_, k_c fq36_, k_c fq38_] (by kernel_rfl)
    have hq41_ := (if_neg bq40_).symm.trans hq39_
    have bq42_ : (r31) = false := by first | exact bq40_ | simpa using bq40_
    obtain rfl := Option.some.inj hq41_
    exact con_pc (op := true) (I := [32, 63, 97, 73]) (sp := resAt_sp) 3000 (bT 1 (bF 4 (bT 2 (bF 5 (bT 6 (bF 2 [])))))) [iD r28, .agg [iD r29, iD r30], .one (.bool r31)] [c_T, c_n b1_, c_n b1_, c_n b1_, c_n b1_, c_d b3_, c_T, c_n bq1_, c_n bq1_, c_n bq1_, c_n bq1_, c_n bq15_, c_T, c_d bq29_, c_d bq29_, c_d bq29_, c_d bq29_, c_T, c_le 1, c_bn bq35_, c_q bq42_] [k_c fq31_, k_c fq36_, k_c fq38_] (by kernel_rfl)
  have hq30_ := (if_neg bq29_).symm.trans hq16_
  by_cases bq43_ : t > (3000 : Int)
  · have hq44_ := (if_pos bq43_).symm.trans hq30_
    obtain ⟨r32, fq45_, hq46_⟩ := pullD_elim hq44_
    replace fq45_ := m_50_ok fq45_
    by_cases bq47_ : r32 ≠ (0 : Int)
    · have hq48_ := (if_pos bq47_).symm.trans hq46_
      obtain rfl := Option.some.inj hq48_
      exact con_pc (op := true) (I := [32, 63, 97, 73]) (sp := resAt_sp) 3000 (bT 1 (bF 4 (bT 2 (bF 5 (bT 1 (bF 4 (bT 2 []))))))) [iD r32] [c_T, c_n b1_, c_n b1_, c_n b1_, c_n b1_, c_d b3_, c_T, c_n bq1_, c_n bq1_, c_n bq1_, c_n bq1_, c_n bq15_, c_T, c_n bq29_, c_n bq29_, c_n bq29_, c_n bq29_, c_d bq43_, c_le 1, c_b bq47_] [k_c fq45_] (by kernel_rfl)
    have hq48_ := (if_neg bq47_).symm.trans hq46_
    have bq49_ : r32 = (0 : Int) := by first | exact bq47_ | simpa using bq47_
    obtain ⟨⟨r33, r34⟩, fq50_, hq51_⟩ := pullD_elim hq48_
    replace fq50_ := m_72_ok fq50_
    obtain ⟨r35, fq52_, hq53_⟩ := pullD_elim hq51_
    replace fq52_ := m_48_ok fq52_
    by_cases bq54_ : (r35) = true
    · have hq55_ := (if_pos bq54_).symm.trans hq53_
      obtain rfl := Option.some.inj hq55_
      exact con_pc (op := true) (I := [32, 63, 97, 73]) (sp := resAt_sp) 3000 (bT 1 (bF 4 (bT 2 (bF 5 (bT 1 (bF 4 (bT 1 (bF 1 (bT 1 []))))))))) [iD r32, .agg [iD r33, iD r34], .one (.bool r35)] [c_T, c_n b1_, c_n b1_, c_n b1_, c_n b1_, c_d b3_, c_T, c_n bq1_, c_n bq1_, c_n bq1_, c_n bq1_, c_n bq15_, c_T, c_n bq29_, c_n bq29_, c_n bq29_, c_n bq29_, c_d bq43_, c_le 1, c_bn bq49_, c_q bq54_] [k_c fq45_, k_c fq50_, k_c fq52_] (by kernel_rfl)
    have hq55_ := (if_neg bq54_).symm.trans hq53_
    have bq56_ : (r35) = false := by first | exact bq54_ | simpa using bq54_
    obtain rfl := Option.some.inj hq55_
    exact con_pc (op := true) (I := [32, 63, 97, 73]) (sp := resAt_sp) 3000 (bT 1 (bF 4 (bT 2 (bF 5 (bT 1 (bF 4 (bT 1 (bF 2 [])))))))) [iD r32, .agg [iD r33, iD r34], .one (.bool r35)] [c_T, c_n b1_, c_n b1_, c_n b1_, c_n b1_, c_d b3_, c_T, c_n bq1_, c_n bq1_, c_n bq1_, c_n bq1_, c_n bq15_, c_T, c_n bq29_, c_n bq29_, c_n bq29_, c_n bq29_, c_d bq43_, c_le 1, c_bn bq49_, c_q bq56_] [k_c fq45_, k_c fq50_, k_c fq52_] (by kernel_rfl)
  have hq44_ := (if_neg bq43_).symm.trans hq30_
  obtain ⟨r36, fq57_, hq58_⟩ := pullD_elim hq44_
  replace fq57_ := m_50_ok fq57_
  by_cases bq59_ : r36 ≠ (0 : Int)
  · have hq60_ := (if_pos bq59_).symm.trans hq58_
    obtain rfl := Option.some.inj hq60_
    exact con_pc (op := true) (I := [32, 63, 97, 73]) (sp := resAt_sp) 3000 (bT 1 (bF 4 (bT 2 (bF 5 (bT 1 (bF 6 (bT 1 []))))))) [iD r36] [c_T, c_n b1_, c_n b1_, c_n b1_, c_n b1_, c_d b3_, c_T, c_n bq1_, c_n bq1_, c_n bq1_, c_n bq1_, c_n bq15_, c_T, c_n bq29_, c_n bq29_, c_n bq29_, c_n bq29_, c_n bq43_, c_F, c_le 1, c_b bq59_] [k_c fq57_] (by kernel_rfl)
  have hq60_ := (if_neg bq59_).symm.trans hq58_
  have bq61_ : r36 = (0 : Int) := by first | exact bq59_ | simpa using bq59_
  obtain ⟨⟨r37, r38⟩, fq62_, hq63_⟩ := pullD_elim hq60_
  replace fq62_ := m_72_ok fq62_
  obtain ⟨r39, fq64_, hq65_⟩ := pullD_elim hq63_
  replace fq64_ := m_48_ok fq64_
  by_cases bq66_ : (r39) = true
  · have hq67_ := (if_pos bq66_).symm.trans hq65_
    obtain rfl := Option.some.inj hq67_
    exact con_pc (op := true) (I := [32, 63, 97, 73]) (sp := resAt_sp) 3000 (bT 1 (bF 4 (bT 2 (bF 5 (bT 1 (bF 7 (bT 1 []))))))) [iD r36, .agg [iD r37, iD r38], .one (.bool r39)] [c_T, c_n b1_, c_n b1_, c_n b1_, c_n b1_, c_d b3_, c_T, c_n bq1_, c_n bq1_, c_n bq1_, c_n bq1_, c_n bq15_, c_T, c_n bq29_, c_n bq29_, c_n bq29_, c_n bq29_, c_n bq43_, c_F, c_le 1, c_bn bq61_, c_q bq66_] [k_c fq57_, k_c fq62_, k_c fq64_] (by kernel_rfl)
  have hq67_ := (if_neg bq66_).symm.trans hq65_
  have bq68_ : (r39) = false := by first | exact bq66_ | simpa using bq66_
  obtain rfl := Option.some.inj hq67_
  exact con_pc (op := true) (I := [32, 63, 97, 73]) (sp := resAt_sp) 3000 (bT 1 (bF 4 (bT 2 (bF 5 (bT 1 (bF 8 [])))))) [iD r36, .agg [iD r37, iD r38], .one (.bool r39)] [c_T, c_n b1_, c_n b1_, c_n b1_, c_n b1_, c_d b3_, c_T, c_n bq1_, c_n bq1_, c_n bq1_, c_n bq1_, c_n bq15_, c_T, c_n bq29_, c_n bq29_, c_n bq29_, c_n bq29_, c_n bq43_, c_F, c_le 1, c_bn bq61_, c_q bq68_] [k_c fq57_, k_c fq62_, k_c fq64_] (by kernel_rfl)
theorem resAt_M_s2_ok (n f t : Int)  (b1_ : ¬ (n < (1 : Int))) (b3_ : ¬ (n > (1000000 : Int))) {r : D} (h : resAt_M_s2 n f t = some r) : Con 32 [iD n, iD f, iD t] r := by
  unfold resAt_M_s2 at h
  by_cases bq1_ : f < (-500 : Int)
  · have hq2_ := (if_pos bq1_).symm.trans h
    obtain ⟨r40, fq3_, hq4_⟩ := pullD_elim hq2_
    replace fq3_ := m_50_ok fq3_
    by_cases bq5_ : r40 ≠ (0 : Int)
    · have hq6_ := (if_pos bq5_).symm.trans hq4_
      obtain rfl := Option.some.inj hq6_
      exact con_pc (op := true) (I := [32, 63, 97, 73]) (sp := resAt_sp) 3000 (bT 1 (bF 6 (bT 7 []))) [iD r40] [c_T, c_n b1_, c_n b1_, c_n b1_, c_n b1_, c_n b3_, c_F, c_T, c_d bq1_, c_d bq1_, c_d bq1_, c_d bq1_, c_T, c_le 1, c_b bq5_] [k_c fq3_] (by kernel_rfl)
    have hq6_ := (if_neg bq5_).symm.trans hq4_
    have bq7_ : r40 = (0 : Int) := by first | exact bq5_ | simpa using bq5_
    obtain ⟨⟨r41, r42⟩, fq8_, hq9_⟩ := pullD_elim hq6_
    replace fq8_ := m_72_ok fq8_
    obtain ⟨r43, fq10_, hq11_⟩ := pullD_elim hq9_
    replace fq10_ := m_48_ok fq10_
    by_cases bq12_ : (r43) = true
    · have hq13_ := (if_pos bq12_).symm.trans hq11_
      obtain rfl := Option.some.inj hq13_
      exact con_pc (op := true) (I := [32, 63, 97, 73]) (sp := resAt_sp) 3000 (bT 1 (bF 6 (bT 6 (bF 1 (bT 1 []))))) [iD r40, .agg [iD r41, iD r42], .one (.bool r43)] [c_T, c_n b1_, c_n b1_, c_n b1_, c_n b1_, c_n b3_, c_F, c_T, c_d bq1_, c_d bq1_, c_d bq1_, c_d bq1_, c_T, c_le 1, c_bn bq7_, c_q bq12_] [k_c fq3_, k_c fq8_, k_c fq10_] (by kernel_rfl)
    have hq13_ := (if_neg bq12_).symm.trans hq11_
    have bq14_ : (r43) = false := by first | exact bq12_ | simpa using bq12_
    obtain rfl := Option.some.inj hq13_
    exact con_pc (op := true) (I := [32, 63, 97, 73]) (sp := resAt_sp) 3000 (bT 1 (bF 6 (bT 6 (bF 2 [])))) [iD r40, .agg [iD r41, iD r42], .one (.bool r43)] [c_T, c_n b1_, c_n b1_, c_n b1_, c_n b1_, c_n b3_, c_F, c_T, c_d bq1_, c_d bq1_, c_d bq1_, c_d bq1_, c_T, c_le 1, c_bn bq7_, c_q bq14_] [k_c fq3_, k_c fq8_, k_c fq10_] (by kernel_rfl)
  have hq2_ := (if_neg bq1_).symm.trans h
  by_cases bq15_ : f > (3000 : Int)
  · have hq16_ := (if_pos bq15_).symm.trans hq2_
    obtain ⟨r44, fq17_, hq18_⟩ := pullD_elim hq16_
    replace fq17_ := m_50_ok fq17_
    by_cases bq19_ : r44 ≠ (0 : Int)
    · have hq20_ := (if_pos bq19_).symm.trans hq18_
      obtain rfl := Option.some.inj hq20_
      exact con_pc (op := true) (I := [32, 63, 97, 73]) (sp := resAt_sp) 3000 (bT 1 (bF 6 (bT 1 (bF 4 (bT 2 []))))) [iD r44] [c_T, c_n b1_, c_n b1_, c_n b1_, c_n b1_, c_n b3_, c_F, c_T, c_n bq1_, c_n bq1_, c_n bq1_, c_n bq1_, c_d bq15_, c_le 1, c_b bq19_] [k_c fq17_] (by kernel_rfl)
    have hq20_ := (if_neg bq19_).symm.trans hq18_
    have bq21_ : r44 = (0 : Int) := by first | exact bq19_ | simpa using bq19_
    obtain ⟨⟨r45, r46⟩, fq22_, hq23_⟩ := pullD_elim hq20_
    replace fq22_ := m_72_ok fq22_
    obtain ⟨r47, fq24_, hq25_⟩ := pullD_elim hq23_
    replace fq24_ := m_48_ok fq24_
    by_cases bq26_ : (r47) = true
    · have hq27_ := (if_pos bq26_).symm.trans hq25_
      obtain rfl := Option.some.inj hq27_
      exact con_pc (op := true) (I := [32, 63, 97, 73]) (sp := resAt_sp) 3000 (bT 1 (bF 6 (bT 1 (bF 4 (bT 1 (bF 1 (bT 1 []))))))) [iD r44, .agg [iD r45, iD r46], .one (.bool r47)] [c_T, c_n b1_, c_n b1_, c_n b1_, c_n b1_, c_n b3_, c_F, c_T, c_n bq1_, c_n bq1_, c_n bq1_, c_n bq1_, c_d bq15_, c_le 1, c_bn bq21_, c_q bq26_] [k_c fq17_, k_c fq22_, k_c fq24_] (by kernel_rfl)
    have hq27_ := (if_neg bq26_).symm.trans hq25_
    have bq28_ : (r47) = false := by first | exact bq26_ | simpa using bq26_
    obtain rfl := Option.some.inj hq27_
    exact con_pc (op := true) (I := [32, 63, 97, 73]) (sp := resAt_sp) 3000 (bT 1 (bF 6 (bT 1 (bF 4 (bT 1 (bF 2 [])))))) [iD r44, .agg [iD r45, iD r46], .one (.bool r47)] [c_T, c_n b1_, c_n b1_, c_n b1_, c_n b1_, c_n b3_, c_F, c_T, c_n bq1_, c_n bq1_, c_n bq1_, c_n bq1_, c_d bq15_, c_le 1, c_bn bq21_, c_q bq28_] [k_c fq17_, k_c fq22_, k_c fq24_] (by kernel_rfl)
  have hq16_ := (if_neg bq15_).symm.trans hq2_
  by_cases bq29_ : t < (-500 : Int)
  · have hq30_ := (if_pos bq29_).symm.trans hq16_
    obtain ⟨r48, fq31_, hq32_⟩ := pullD_elim hq30_
    replace fq31_ := m_50_ok fq31_
    by_cases bq33_ : r48 ≠ (0 : Int)
    · have hq34_ := (if_pos bq33_).symm.trans hq32_
      obtain rfl := Option.some.inj hq34_
      exact con_pc (op := true) (I := [32, 63, 97, 73]) (sp := resAt_sp) 3000 (bT 1 (bF 6 (bT 1 (bF 5 (bT 7 []))))) [iD r48] [c_T, c_n b1_, c_n b1_, c_n b1_, c_n b1_, c_n b3_, c_F, c_T, c_n bq1_, c_n bq1_, c_n bq1_, c_n bq1_, c_n bq15_, c_T, c_d bq29_, c_d bq29_, c_d bq29_, c_d bq29_, c_T, c_le 1, c_b bq33_] [k_c fq31_] (by kernel_rfl)
    have hq34_ := (if_neg bq33_).symm.trans hq32_
    have bq35_ : r48 = (0 : Int) := by first | exact bq33_ | simpa using bq33_
    obtain ⟨⟨r49, r50⟩, fq36_, hq37_⟩ := pullD_elim hq34_
    replace fq36_ := m_72_ok fq36_
    obtain ⟨r51, fq38_, hq39_⟩ := pullD_elim hq37_
    replace fq38_ := m_48_ok fq38_
    by_cases bq40_ : (r51) = true
    · have hq41_ := (if_pos bq40_).symm.trans hq39_
      obtain rfl := Option.some.inj hq41_
      exact con_pc (op := true) (I := [32, 63, 97, 73]) (sp := resAt_sp) 3000 (bT 1 (bF 6 (bT 1 (bF 5 (bT 6 (bF 1 (bT 1 []))))))) [iD r48, .agg [iD r49, iD r50], .one (.bool r51)] [c_T, c_n b1_, c_n b1_, c_n b1_, c_n b1_, c_n b3_, c_F, c_T, c_n bq1_, c_n bq1_, c_n bq1_, c_n bq1_, c_n bq15_, c_T, c_d bq29_, c_d bq29_, c_d bq29_, c_d bq29_, c_T, c_le 1, c_bn bq35_, c_q bq40_] [k_c fq31_, k_c fq36_, k_c fq38_] (by kernel_rfl)
    have hq41_ := (if_neg bq40_).symm.trans hq39_
    have bq42_ : (r51) = false := by first | exact bq40_ | simpa using bq40_
    obtain rfl := Option.some.inj hq41_
    exact con_pc (op := true) (I := [32, 63, 97, 73]) (sp := resAt_sp) 3000 (bT 1 (bF 6 (bT 1 (bF 5 (bT 6 (bF 2 [])))))) [iD r48, .agg [iD r49, iD r50], .one (.bool r51)] [c_T, c_n b1_, c_n b1_, c_n b1_, c_n b1_, c_n b3_, c_F, c_T, c_n bq1_, c_n bq1_, c_n bq1_, c_n bq1_, c_n bq15_, c_T, c_d bq29_, c_d bq29_, c_d bq29_, c_d bq29_, c_T, c_le 1, c_bn bq35_, c_q bq42_] [k_c fq31_, k_c fq36_, k_c fq38_] (by kernel_rfl)
  have hq30_ := (if_neg bq29_).symm.trans hq16_
  by_cases bq43_ : t > (3000 : Int)
  · have hq44_ := (if_pos bq43_).symm.trans hq30_
    obtain ⟨r52, fq45_, hq46_⟩ := pullD_elim hq44_
    replace fq45_ := m_50_ok fq45_
    by_cases bq47_ : r52 ≠ (0 : Int)
    · have hq48_ := (if_pos bq47_).symm.trans hq46_
      obtain rfl := Option.some.inj hq48_
      exact con_pc (op := true) (I := [32, 63, 97, 73]) (sp := resAt_sp) 3000 (bT 1 (bF 6 (bT 1 (bF 5 (bT 1 (bF 4 (bT 2 []))))))) [iD r52] [c_T, c_n b1_, c_n b1_, c_n b1_, c_n b1_, c_n b3_, c_F, c_T, c_n bq1_, c_n bq1_, c_n bq1_, c_n bq1_, c_n bq15_, c_T, c_n bq29_, c_n bq29_, c_n bq29_, c_n bq29_, c_d bq43_, c_le 1, c_b bq47_] [k_c fq45_] (by kernel_rfl)
    have hq48_ := (if_neg bq47_).symm.trans hq46_
    have bq49_ : r52 = (0 : Int) := by first | exact bq47_ | simpa using bq47_
    obtain ⟨⟨r53, r54⟩, fq50_, hq51_⟩ := pullD_elim hq48_
    replace fq50_ := m_72_ok fq50_
    obtain ⟨r55, fq52_, hq53_⟩ := pullD_elim hq51_
    replace fq52_ := m_48_ok fq52_
    by_cases bq54_ : (r55) = true
    · have hq55_ := (if_pos bq54_).symm.trans hq53_
      obtain rfl := Option.some.inj hq55_
      exact con_pc (op := true) (I := [32, 63, 97, 73]) (sp := resAt_sp) 3000 (bT 1 (bF 6 (bT 1 (bF 5 (bT 1 (bF 4 (bT 1 (bF 1 (bT 1 []))))))))) [iD r52, .agg [iD r53, iD r54], .one (.bool r55)] [c_T, c_n b1_, c_n b1_, c_n b1_, c_n b1_, c_n b3_, c_F, c_T, c_n bq1_, c_n bq1_, c_n bq1_, c_n bq1_, c_n bq15_, c_T, c_n bq29_, c_n bq29_, c_n bq29_, c_n bq29_, c_d bq43_, c_le 1, c_bn bq49_, c_q bq54_] [k_c fq45_, k_c fq50_, k_c fq52_] (by kernel_rfl)
    have hq55_ := (if_neg bq54_).symm.trans hq53_
    have bq56_ : (r55) = false := by first | exact bq54_ | simpa using bq54_
    obtain rfl := Option.some.inj hq55_
    exact con_pc (op := true) (I := [32, 63, 97, 73]) (sp := resAt_sp) 3000 (bT 1 (bF 6 (bT 1 (bF 5 (bT 1 (bF 4 (bT 1 (bF 2 [])))))))) [iD r52, .agg [iD r53, iD r54], .one (.bool r55)] [c_T, c_n b1_, c_n b1_, c_n b1_, c_n b1_, c_n b3_, c_F, c_T, c_n bq1_, c_n bq1_, c_n bq1_, c_n bq1_, c_n bq15_, c_T, c_n bq29_, c_n bq29_, c_n bq29_, c_n bq29_, c_d bq43_, c_le 1, c_bn bq49_, c_q bq56_] [k_c fq45_, k_c fq50_, k_c fq52_] (by kernel_rfl)
  have hq44_ := (if_neg bq43_).symm.trans hq30_
  obtain ⟨r56, fq57_, hq58_⟩ := pullD_elim hq44_
  replace fq57_ := m_50_ok fq57_
  by_cases bq59_ : r56 ≠ (0 : Int)
  · have hq60_ := (if_pos bq59_).symm.trans hq58_
    obtain rfl := Option.some.inj hq60_
    exact con_pc (op := true) (I := [32, 63, 97, 73]) (sp := resAt_sp) 3000 (bT 1 (bF 6 (bT 1 (bF 5 (bT 1 (bF 6 (bT 1 []))))))) [iD r56] [c_T, c_n b1_, c_n b1_, c_n b1_, c_n b1_, c_n b3_, c_F, c_T, c_n bq1_, c_n bq1_, c_n bq1_, c_n bq1_, c_n bq15_, c_T, c_n bq29_, c_n bq29_, c_n bq29_, c_n bq29_, c_n bq43_, c_F, c_le 1, c_b bq59_] [k_c fq57_] (by kernel_rfl)
  have hq60_ := (if_neg bq59_).symm.trans hq58_
  have bq61_ : r56 = (0 : Int) := by first | exact bq59_ | simpa using bq59_
  obtain ⟨⟨r57, r58⟩, fq62_, hq63_⟩ := pullD_elim hq60_
  replace fq62_ := m_72_ok fq62_
  obtain ⟨r59, fq64_, hq65_⟩ := pullD_elim hq63_
  replace fq64_ := m_48_ok fq64_
  by_cases bq66_ : (r59) = true
  · have hq67_ := (if_pos bq66_).symm.trans hq65_
    obtain rfl := Option.some.inj hq67_
    exact con_pc (op := true) (I := [32, 63, 97, 73]) (sp := resAt_sp) 3000 (bT 1 (bF 6 (bT 1 (bF 5 (bT 1 (bF 7 (bT 1 []))))))) [iD r56, .agg [iD r57, iD r58], .one (.bool r59)] [c_T, c_n b1_, c_n b1_, c_n b1_, c_n b1_, c_n b3_, c_F, c_T, c_n bq1_, c_n bq1_, c_n bq1_, c_n bq1_, c_n bq15_, c_T, c_n bq29_, c_n bq29_, c_n bq29_, c_n bq29_, c_n bq43_, c_F, c_le 1, c_bn bq61_, c_q bq66_] [k_c fq57_, k_c fq62_, k_c fq64_] (by kernel_rfl)
  have hq67_ := (if_neg bq66_).symm.trans hq65_
  have bq68_ : (r59) = false := by first | exact bq66_ | simpa using bq66_
  obtain rfl := Option.some.inj hq67_
  exact con_pc (op := true) (I := [32, 63, 97, 73]) (sp := resAt_sp) 3000 (bT 1 (bF 6 (bT 1 (bF 5 (bT 1 (bF 8 [])))))) [iD r56, .agg [iD r57, iD r58], .one (.bool r59)] [c_T, c_n b1_, c_n b1_, c_n b1_, c_n b1_, c_n b3_, c_F, c_T, c_n bq1_, c_n bq1_, c_n bq1_, c_n bq1_, c_n bq15_, c_T, c_n bq29_, c_n bq29_, c_n bq29_, c_n bq29_, c_n bq43_, c_F, c_le 1, c_bn bq61_, c_q bq68_] [k_c fq57_, k_c fq62_, k_c fq64_] (by kernel_rfl)
theorem resAt_M_ok (n f t : Int) {r : D} (h : resAt_M n f t = some r) : Con 32 [iD n, iD f, iD t] r := by
  unfold resAt_M at h
  by_cases b1_ : n < (1 : Int)
  · have h2_ := (if_pos b1_).symm.trans h
    exact resAt_M_s0_ok n f t b1_ h2_
  have h2_ := (if_neg b1_).symm.trans h
  by_cases b3_ : n > (1000000 : Int)
  · have h4_ := (if_pos b3_).symm.trans h2_
    exact resAt_M_s1_ok n f t b1_ b3_ h4_
  have h4_ := (if_neg b3_).symm.trans h2_
  exact resAt_M_s2_ok n f t b1_ b3_ h4_
def m_32 (ds : List D) : Option D := pullD (α := Int × Int × Int) (some (.tup ds)) (fun d => ((D.vi (D.at d 0)), (D.vi (D.at d 1)), (D.vi (D.at d 2)))) (fun (n, f, t) => .tup [iD n, iD f, iD t]) fun (n, f, t) => resAt_M n f t
theorem m_32_ok {ds : List D} {r : D} (h : m_32 ds = some r) : Con 32 ds r := by
  unfold m_32 at h
  obtain ⟨⟨n, f, t⟩, e0, h0⟩ := pullD_elim h
  obtain rfl := tup_inj e0
  exact resAt_M_ok n f t h0
theorem m_32_eq (n f t : Int) : m_32 [iD n, iD f, iD t] = resAt_M n f t := pullD_some (n, f, t) rfl rfl
def resR_sp : List LSpec := []
def resR_M (n f t : Int) : Option D := pullD (α := Bool) (m_24 [iD n, iD (1 : Int), iD (1000000 : Int)]) (fun d => ((D.vb d))) (fun r0 => .one (.bool r0)) fun r0 => ((if r0 = false then some (.tup [.agg [iD (0 : Int), iD (0 : Int)], iD (2 : Int)]) else pullD (α := Bool) (m_76 [iD f]) (fun d => ((D.vb d))) (fun r1 => .one (.bool r1)) fun r1 => ((if r1 = false then some (.tup [.agg [iD (0 : Int), iD (0 : Int)], iD (2 : Int)]) else pullD (α := Bool) (m_76 [iD t]) (fun d => ((D.vb d))) (fun r2 => .one (.bool r2)) fun r2 => ((if r2 = false then some (.tup [.agg [iD (0 : Int), iD (0 : Int)], iD (2 : Int)]) else pullD (α := Int × Int) (m_75 [iD (IntKind.i64.wrap (n * IntKind.i64.wrap ((2350 : Int) + t))), iD (IntKind.i64.wrap ((2350 : Int) + f))]) (fun d => ((D.vi (D.at d 0)), (D.vi (D.at d 1)))) (fun (r3, r4) => .agg [iD r3, iD r4]) fun (r3, r4) => (pullD (α := Bool) (m_77 [.agg [iD r3, iD r4]]) (fun d => ((D.vb d))) (fun r5 => .one (.bool r5)) fun r5 => ((if r5 = false then some (.tup [.agg [iD (0 : Int), iD (0 : Int)], iD (8 : Int)]) else some (.tup [.agg [iD r3, iD r4], iD (0 : Int)]))))))))))
theorem resR_M_ok (n f t : Int) {r : D} (h : resR_M n f t = some r) : Con 34 [iD n, iD f, iD t] r := by
  unfold resR_M at h
  obtain ⟨r0, f1_, h2_⟩ := pullD_elim h
  replace f1_ := m_24_ok f1_
  by_cases b3_ : r0 = false
  · have h4_ := (if_pos b3_).symm.trans h2_
    obtain rfl := Option.some.inj h4_
    exact con_pc (op := true) (I := [34]) (sp := resR_sp) 3000 (bT 9 []) [.one (.bool r0)] [c_no b3_, c_no b3_, c_no b3_, c_no b3_, c_T, c_T, c_T, c_T, c_T] [k_c f1_] (by kernel_rfl)
  have h4_ := (if_neg b3_).symm.trans h2_
  have b5_ : r0 = true := by first | exact b3_ | simpa using b3_
  obtain ⟨r1, f6_, h7_⟩ := pullD_elim h4_
  replace f6_ := m_76_ok f6_
  by_cases b8_ : r1 = false
  · have h9_ := (if_pos b8_).symm.trans h7_
    obtain rfl := Option.some.inj h9_
    exact con_pc (op := true) (I := [34]) (sp := resR_sp) 3000 (bF 4 (bT 5 [])) [.one (.bool r0), .one (.bool r1)] [c_nn b5_, c_nn b5_, c_nn b5_, c_nn b5_, c_no b8_, c_no b8_, c_no b8_, c_no b8_, c_T] [k_c f1_, k_c f6_] (by kernel_rfl)
  have h9_ := (if_neg b8_).symm.trans h7_
  have b10_ : r1 = true := by first | exact b8_ | simpa using b8_
  obtain ⟨r2, f11_, h12_⟩ := pullD_elim h9_
  replace f11_ := m_76_ok f11_
  by_cases b13_ : r2 = false
  · have h14_ := (if_pos b13_).symm.trans h12_
    obtain rfl := Option.some.inj h14_
    exact con_pc (op := true) (I := [34]) (sp := resR_sp) 3000 (bF 8 (bT 1 [])) [.one (.bool r0), .one (.bool r1), .one (.bool r2)] [c_nn b5_, c_nn b5_, c_nn b5_, c_nn b5_, c_nn b10_, c_nn b10_, c_nn b10_, c_nn b10_, c_no b13_] [k_c f1_, k_c f6_, k_c f11_] (by kernel_rfl)
  have h14_ := (if_neg b13_).symm.trans h12_
  have b15_ : r2 = true := by first | exact b13_ | simpa using b13_
  obtain ⟨⟨r3, r4⟩, f16_, h17_⟩ := pullD_elim h14_
  replace f16_ := m_75_ok f16_
  obtain ⟨r5, f18_, h19_⟩ := pullD_elim h17_
  replace f18_ := m_77_ok f18_
  by_cases b20_ : r5 = false
  · have h21_ := (if_pos b20_).symm.trans h19_
    obtain rfl := Option.some.inj h21_
    exact con_pc (op := true) (I := [34]) (sp := resR_sp) 3000 (bF 9 (bT 1 [])) [.one (.bool r0), .one (.bool r1), .one (.bool r2), .agg [iD r3, iD r4], .one (.bool r5)] [c_nn b5_, c_nn b5_, c_nn b5_, c_nn b5_, c_nn b10_, c_nn b10_, c_nn b10_, c_nn b10_, c_nn b15_, c_no b20_] [k_c f1_, k_c f6_, k_c f11_, k_c f16_, k_c f18_] (by kernel_rfl)
  have h21_ := (if_neg b20_).symm.trans h19_
  have b22_ : r5 = true := by first | exact b20_ | simpa using b20_
  obtain rfl := Option.some.inj h21_
  exact con_pc (op := true) (I := [34]) (sp := resR_sp) 3000 (bF 10 []) [.one (.bool r0), .one (.bool r1), .one (.bool r2), .agg [iD r3, iD r4], .one (.bool r5)] [c_nn b5_, c_nn b5_, c_nn b5_, c_nn b5_, c_nn b10_, c_nn b10_, c_nn b10_, c_nn b10_, c_nn b15_, c_nn b22_] [k_c f1_, k_c f6_, k_c f11_, k_c f16_, k_c f18_] (by kernel_rfl)
def m_34 (ds : List D) : Option D := pullD (α := Int × Int × Int) (some (.tup ds)) (fun d => ((D.vi (D.at d 0)), (D.vi (D.at d 1)), (D.vi (D.at d 2)))) (fun (n, f, t) => .tup [iD n, iD f, iD t]) fun (n, f, t) => resR_M n f t
theorem m_34_ok {ds : List D} {r : D} (h : m_34 ds = some r) : Con 34 ds r := by
  unfold m_34 at h
  obtain ⟨⟨n, f, t⟩, e0, h0⟩ := pullD_elim h
  obtain rfl := tup_inj e0
  exact resR_M_ok n f t h0
theorem m_34_eq (n f t : Int) : m_34 [iD n, iD f, iD t] = resR_M n f t := pullD_some (n, f, t) rfl rfl
def law6_sp : List LSpec := []
def law6_M (a b c d x y z : Int) : Option D := pullD (α := Bool) (m_9 []) (fun d => ((D.vb d))) (fun r0 => .one (.bool r0)) fun r0 => ((if r0 = false then some (.one (.bool false)) else pullD (α := Int × Int × Int × Int × Int) (m_31 [.agg [iD a, iD b], .agg [iD c, iD d]]) (fun d => ((D.vi (D.at (D.at d 0) 0)), (D.vi (D.at (D.at d 0) 1)), (D.vi (D.at (D.at d 0) 2)), (D.vi (D.at (D.at d 0) 3)), (D.vi (D.at d 1)))) (fun (r1, r2, r3, r4, r5) => .tup [(shNK2_0 r1 r2 r3 r4), iD r5]) fun (r1, r2, r3, r4, r5) => (pullD (α := Int × Int × Int) (m_32 [iD x, iD y, iD z]) (fun d => ((D.vi (D.at (D.at d 0) 0)), (D.vi (D.at (D.at d 0) 1)), (D.vi (D.at d 1)))) (fun (r6, r7, r8) => .tup [.agg [iD r6, iD r7], iD r8]) fun (r6, r7, r8) => (pullD (α := Int × Int × Int × Int × Int) (m_33 [.agg [iD a, iD b], .agg [iD c, iD d]]) (fun d => ((D.vi (D.at (D.at d 0) 0)), (D.vi (D.at (D.at d 0) 1)), (D.vi (D.at (D.at d 0) 2)), (D.vi (D.at (D.at d 0) 3)), (D.vi (D.at d 1)))) (fun (r9, r10, r11, r12, r13) => .tup [(shNK2_0 r9 r10 r11 r12), iD r13]) fun (r9, r10, r11, r12, r13) => (pullD (α := Int × Int × Int) (m_34 [iD x, iD y, iD z]) (fun d => ((D.vi (D.at (D.at d 0) 0)), (D.vi (D.at (D.at d 0) 1)), (D.vi (D.at d 1)))) (fun (r14, r15, r16) => .tup [.agg [iD r14, iD r15], iD r16]) fun (r14, r15, r16) => ((if r5 ≠ r13 then some (.one (.bool false)) else (if (!(r1 == r9 && (r2 == r10 && true) && (r3 == r11 && (r4 == r12 && true) && true))) = true then some (.one (.bool false)) else (if r8 ≠ r16 then some (.one (.bool false)) else (if (!(r6 == r14 && (r7 == r15 && true))) = true then some (.one (.bool false)) else pullD (α := Int × Int × Int) (m_34 [iD x, iD y, iD y]) (fun d => ((D.vi (D.at (D.at d 0) 0)), (D.vi (D.at (D.at d 0) 1)), (D.vi (D.at d 1)))) (fun (r17, r18, r19) => .tup [.agg [iD r17, iD r18], iD r19]) fun (r17, r18, r19) => ((if r19 ≠ (0 : Int) then some (.one (.bool true)) else pullD (α := Int × Int × Int) (m_32 [iD x, iD y, iD y]) (fun d => ((D.vi (D.at (D.at d 0) 0)), (D.vi (D.at (D.at d 0) 1)), (D.vi (D.at d 1)))) (fun (r20, r21, r22) => .tup [.agg [iD r20, iD r21], iD r22]) fun (r20, r21, r22) => ((if r22 = (0 : Int) then pullD (α := Int × Int) (m_35 [iD x]) (fun d => ((D.vi (D.at d 0)), (D.vi (D.at d 1)))) (fun (r23, r24) => .agg [iD r23, iD r24]) fun (r23, r24) => (some (.one (.bool (r20 == r23 && (r21 == r24 && true))))) else some (.one (.bool false))))))))))))))))
theorem law6_M_ok (a b c d x y z : Int) {r : D} (h : law6_M a b c d x y z = some r) : Con 6 [(shNK2_0 a b c d), (shNK2_1 x y z)] r := by
  unfold law6_M at h
  obtain ⟨r0, f1_, h2_⟩ := pullD_elim h
  replace f1_ := m_9_ok f1_
  by_cases b3_ : r0 = false
  · have h4_ := (if_pos b3_).symm.trans h2_
    obtain rfl := Option.some.inj h4_
    exact con_pc (op := true) (I := [6]) (sp := law6_sp) 3000 (bT 1 []) [.one (.bool r0)] [c_no b3_] [k_c f1_] (by kernel_rfl)
  have h4_ := (if_neg b3_).symm.trans h2_
  have b5_ : r0 = true := by first | exact b3_ | simpa using b3_
  obtain ⟨⟨r1, r2, r3, r4, r5⟩, f6_, h7_⟩ := pullD_elim h4_
  replace f6_ := m_31_ok f6_
  obtain ⟨⟨r6, r7, r8⟩, f8_, h9_⟩ := pullD_elim h7_
  replace f8_ := m_32_ok f8_
  obtain ⟨⟨r9, r10, r11, r12, r13⟩, f10_, h11_⟩ := pullD_elim h9_
  replace f10_ := m_33_ok f10_
  obtain ⟨⟨r14, r15, r16⟩, f12_, h13_⟩ := pullD_elim h11_
  replace f12_ := m_34_ok f12_
  by_cases b14_ : r5 ≠ r13
  · have h15_ := (if_pos b14_).symm.trans h13_
    obtain rfl := Option.some.inj h15_
    exact con_pc (op := true) (I := [6]) (sp := law6_sp) 3000 (bF 1 (bT 13 [])) [.one (.bool r0), .tup [(shNK2_0 r1 r2 r3 r4), iD r5], .tup [.agg [iD r6, iD r7], iD r8], .tup [(shNK2_0 r9 r10 r11 r12), iD r13], .tup [.agg [iD r14, iD r15], iD r16]] [c_nn b5_, c_b b14_, c_b b14_, c_b b14_, c_b b14_, c_T, c_T, c_T, c_T, c_T, c_T, c_T, c_T, c_T] [k_c f1_, k_c f6_, k_c f8_, k_c f10_, k_c f12_] (by kernel_rfl)
  have h15_ := (if_neg b14_).symm.trans h13_
  have b16_ : r5 = r13 := by first | exact b14_ | simpa using b14_
  by_cases b17_ : (!(r1 == r9 && (r2 == r10 && true) && (r3 == r11 && (r4 == r12 && true) && true))) = true
  · have h18_ := (if_pos b17_).symm.trans h15_
    obtain rfl := Option.some.inj h18_
    exact con_pc (op := true) (I := [6]) (sp := law6_sp) 3000 (bF 5 (bT 9 [])) [.one (.bool r0), .tup [(shNK2_0 r1 r2 r3 r4), iD r5], .tup [.agg [iD r6, iD r7], iD r8], .tup [(shNK2_0 r9 r10 r11 r12), iD r13], .tup [.agg [iD r14, iD r15], iD r16]] [c_nn b5_, c_bn b16_, c_bn b16_, c_bn b16_, c_bn b16_, c_q b17_, c_q b17_, c_q b17_, c_q b17_, c_T, c_T, c_T, c_T, c_T] [k_c f1_, k_c f6_, k_c f8_, k_c f10_, k_c f12_] (by kernel_rfl)
  have h18_ := (if_neg b17_).symm.trans h15_
  have b19_ : (!(r1 == r9 && (r2 == r10 && true) && (r3 == r11 && (r4 == r12 && true) && true))) = false := by first | exact b17_ | simpa using b17_
  by_cases b20_ : r8 ≠ r16
  · have h21_ := (if_pos b20_).symm.trans h18_
    obtain rfl := Option.some.inj h21_
    exact con_pc (op := true) (I := [6]) (sp := law6_sp) 3000 (bF 9 (bT 5 [])) [.one (.bool r0), .tup [(shNK2_0 r1 r2 r3 r4), iD r5], .tup [.agg [iD r6, iD r7], iD r8], .tup [(shNK2_0 r9 r10 r11 r12), iD r13], .tup [.agg [iD r14, iD r15], iD r16]] [c_nn b5_, c_bn b16_, c_bn b16_, c_bn b16_, c_bn b16_, c_q b19_, c_q b19_, c_q b19_, c_q b19_, c_b b20_, c_b b20_, c_b b20_, c_b b20_, c_T] [k_c f1_, k_c f6_, k_c f8_, k_c f10_, k_c f12_] (by kernel_rfl)
  have h21_ := (if_neg b20_).symm.trans h18_
  have b22_ : r8 = r16 := by first | exact b20_ | simpa using b20_
  by_cases b23_ : (!(r6 == r14 && (r7 == r15 && true))) = true
  · have h24_ := (if_pos b23_).symm.trans h21_
    obtain rfl := Option.some.inj h24_
    exact con_pc (op := true) (I := [6]) (sp := law6_sp) 3000 (bF 13 (bT 1 [])) [.one (.bool r0), .tup [(shNK2_0 r1 r2 r3 r4), iD r5], .tup [.agg [iD r6, iD r7], iD r8], .tup [(shNK2_0 r9 r10 r11 r12), iD r13], .tup [.agg [iD r14, iD r15], iD r16]] [c_nn b5_, c_bn b16_, c_bn b16_, c_bn b16_, c_bn b16_, c_q b19_, c_q b19_, c_q b19_, c_q b19_, c_bn b22_, c_bn b22_, c_bn b22_, c_bn b22_, c_q b23_] [k_c f1_, k_c f6_, k_c f8_, k_c f10_, k_c f12_] (by kernel_rfl)
  have h24_ := (if_neg b23_).symm.trans h21_
  have b25_ : (!(r6 == r14 && (r7 == r15 && true))) = false := by first | exact b23_ | simpa using b23_
  obtain ⟨⟨r17, r18, r19⟩, f26_, h27_⟩ := pullD_elim h24_
  replace f26_ := m_34_ok f26_
  by_cases b28_ : r19 ≠ (0 : Int)
  · have h29_ := (if_pos b28_).symm.trans h27_
    obtain rfl := Option.some.inj h29_
    exact con_pc (op := true) (I := [6]) (sp := law6_sp) 3000 (bF 14 (bT 1 [])) [.one (.bool r0), .tup [(shNK2_0 r1 r2 r3 r4), iD r5], .tup [.agg [iD r6, iD r7], iD r8], .tup [(shNK2_0 r9 r10 r11 r12), iD r13], .tup [.agg [iD r14, iD r15], iD r16], .tup [.agg [iD r17, iD r18], iD r19]] [c_nn b5_, c_bn b16_, c_bn b16_, c_bn b16_, c_bn b16_, c_q b19_, c_q b19_, c_q b19_, c_q b19_, c_bn b22_, c_bn b22_, c_bn b22_, c_bn b22_, c_q b25_, c_b b28_] [k_c f1_, k_c f6_, k_c f8_, k_c f10_, k_c f12_, k_c f26_] (by kernel_rfl)
  have h29_ := (if_neg b28_).symm.trans h27_
  have b30_ : r19 = (0 : Int) := by first | exact b28_ | simpa using b28_
  obtain ⟨⟨r20, r21, r22⟩, f31_, h32_⟩ := pullD_elim h29_
  replace f31_ := m_32_ok f31_
  by_cases b33_ : r22 = (0 : Int)
  · have h34_ := (if_pos b33_).symm.trans h32_
    obtain ⟨⟨r23, r24⟩, f35_, h36_⟩ := pullD_elim h34_
    replace f35_ := m_35_ok f35_
    obtain rfl := Option.some.inj h36_
    exact con_pc (op := true) (I := [6]) (sp := law6_sp) 3000 (bF 15 (bT 6 [])) [.one (.bool r0), .tup [(shNK2_0 r1 r2 r3 r4), iD r5], .tup [.agg [iD r6, iD r7], iD r8], .tup [(shNK2_0 r9 r10 r11 r12), iD r13], .tup [.agg [iD r14, iD r15], iD r16], .tup [.agg [iD r17, iD r18], iD r19], .tup [.agg [iD r20, iD r21], iD r22], .agg [iD r23, iD r24]] [c_nn b5_, c_bn b16_, c_bn b16_, c_bn b16_, c_bn b16_, c_q b19_, c_q b19_, c_q b19_, c_q b19_, c_bn b22_, c_bn b22_, c_bn b22_, c_bn b22_, c_q b25_, c_bn b30_, c_e b33_, c_e b33_, c_e b33_, c_e b33_, c_e b33_, c_e b33_] [k_c f1_, k_c f6_, k_c f8_, k_c f10_, k_c f12_, k_c f26_, k_c f31_, k_c f35_] (by kernel_rfl)
  have h34_ := (if_neg b33_).symm.trans h32_
  have b37_ : r22 ≠ (0 : Int) := by first | exact b33_ | simpa using b33_
  obtain rfl := Option.some.inj h34_
  exact con_pc (op := true) (I := [6]) (sp := law6_sp) 3000 (bF 21 []) [.one (.bool r0), .tup [(shNK2_0 r1 r2 r3 r4), iD r5], .tup [.agg [iD r6, iD r7], iD r8], .tup [(shNK2_0 r9 r10 r11 r12), iD r13], .tup [.agg [iD r14, iD r15], iD r16], .tup [.agg [iD r17, iD r18], iD r19], .tup [.agg [iD r20, iD r21], iD r22]] [c_nn b5_, c_bn b16_, c_bn b16_, c_bn b16_, c_bn b16_, c_q b19_, c_q b19_, c_q b19_, c_q b19_, c_bn b22_, c_bn b22_, c_bn b22_, c_bn b22_, c_q b25_, c_bn b30_, c_en b37_, c_en b37_, c_en b37_, c_en b37_, c_en b37_, c_en b37_] [k_c f1_, k_c f6_, k_c f8_, k_c f10_, k_c f12_, k_c f26_, k_c f31_] (by kernel_rfl)
def m_6 (ds : List D) : Option D := pullD (α := Int × Int × Int × Int × Int × Int × Int) (some (.tup ds)) (fun d => ((D.vi (D.at (D.at d 0) 0)), (D.vi (D.at (D.at d 0) 1)), (D.vi (D.at (D.at d 0) 2)), (D.vi (D.at (D.at d 0) 3)), (D.vi (D.at (D.at d 1) 0)), (D.vi (D.at (D.at d 1) 1)), (D.vi (D.at (D.at d 1) 2)))) (fun (a, b, c, d, x, y, z) => .tup [(shNK2_0 a b c d), (shNK2_1 x y z)]) fun (a, b, c, d, x, y, z) => law6_M a b c d x y z
theorem m_6_ok {ds : List D} {r : D} (h : m_6 ds = some r) : Con 6 ds r := by
  unfold m_6 at h
  obtain ⟨⟨a, b, c, d, x, y, z⟩, e0, h0⟩ := pullD_elim h
  obtain rfl := tup_inj e0
  exact law6_M_ok a b c d x y z h0
theorem m_6_eq (a b c d x y z : Int) : m_6 [(shNK2_0 a b c d), (shNK2_1 x y z)] = law6_M a b c d x y z := pullD_some (a, b, c, d, x, y, z) rfl rfl
end
end Go.Proofs.Ytjjbacbjdilhmaa
/- Figures and their times. -/
namespace Go.Proofs.Ytjjbacbjdilhmaa
open Go.Ev Go.RowKit
set_option maxRecDepth 100000
/-! ### Errors -/
def firstV : List Int → Int
  | [] => 0
  | x :: l => if x = 0 then firstV l else x
theorem first_go (k : Nat) : ∀ (pre l : List Int), k = (pre ++ l).length → k ≤ 1000000 → (∀ x ∈ pre, x = 0) →
    runR (firstOf_L2_S k ((pre ++ l).map iD)) (.next 0 [iD (pre.length : Int)]) = some (if firstV l = 0 then .out 0 [] else .out 1 [iD (firstV l)]) := by
  intro pre l
  induction l generalizing pre with
  | nil =>
    intro hk _ _
    rw [List.append_nil] at hk ⊢
    refine runR_exit ?_
    show firstOf_L2_S0 _ _ _ = _
    unfold firstOf_L2_S0
    rw [pullD_some (pre.length : Int) (by rfl) (by rfl), if_neg (by omega)]
  | cons x l ih =>
    intro hk hs hp
    have hg : (pre ++ x :: l)[pre.length]? = some x := by simp
    have hlt : pre.length < k := by rw [hk, List.length_append, List.length_cons]; omega
    by_cases hx : x = 0
    · have st : firstOf_L2_S k ((pre ++ x :: l).map iD) (.next 0 [iD (pre.length : Int)]) = some (.next 0 [iD (((pre ++ [x]).length : Nat) : Int)]) := by
        show firstOf_L2_S0 _ _ _ = _
        unfold firstOf_L2_S0
        rw [pullD_some (pre.length : Int) (by rfl) (by rfl), if_pos (by omega), guardP_pos (by omega), readW hg, pullI, if_neg (by simp [hx]), wrapJ _ (by omega) (by omega), List.length_append, List.length_singleton]
        rfl
      have h2 := ih (pre ++ [x]) (by rw [hk]; simp) hs (fun y hy => by
        rcases List.mem_append.1 hy with h | h
        · exact hp y h
        · simp at h; rw [h]; exact hx)
      rw [List.append_assoc, List.singleton_append] at h2
      rw [runR_next st, h2]
      simp [firstV, hx]
    · refine (runR_exit (j := 1) (es := [iD x]) ?_).trans ?_
      · show firstOf_L2_S0 _ _ _ = _
        unfold firstOf_L2_S0
        rw [pullD_some (pre.length : Int) (by rfl) (by rfl), if_pos (by omega), guardP_pos (by omega), readW hg, pullI, if_pos hx]
      · simp [firstV, hx]
theorem firstOf_eq (l : List Int) (hl : l.length ≤ 1000000) : m_50 [lD l] = some (iD (firstV l)) := by
  have h := first_go l.length [] l rfl hl (fun _ h => by cases h)
  simp only [List.nil_append, List.length_nil] at h
  have h : runR (firstOf_L2_S l.length (l.map iD)) (.next 0 [.one (.int .i64 0)]) = some (if firstV l = 0 then .out 0 [] else .out 1 [iD (firstV l)]) := h
  rw [m_50_eq]
  unfold firstOf_M
  by_cases h0 : firstV l = 0
  · rw [if_pos h0] at h
    rw [bindL_some h, if_pos rfl, pullD_some () (by rfl) (by rfl), h0]
  · rw [if_neg h0] at h
    rw [bindL_some h, if_neg (by decide), if_pos rfl, pullD_some (firstV l) (by rfl) (by rfl)]
theorem f2 (x y : Int) : m_50 [.list 2 [iD x, iD y]] = some (iD (firstV [x, y])) := firstOf_eq [x, y] (by simp)
theorem f3 (x y z : Int) : m_50 [.list 3 [iD x, iD y, iD z]] = some (iD (firstV [x, y, z])) := firstOf_eq [x, y, z] (by simp)
/-- A loop that looks for what is not so. -/
theorem scanB {n : Nat} {ok : Nat → Bool} {bad : List D} {S : Rd → Option Rd} (hs : ∀ i, i < n → S (.next 0 [iD (i : Int)]) = if ok i = true then some (.next 0 [iD ((i + 1 : Nat) : Int)]) else some (.out 1 bad)) (he : S (.next 0 [iD (n : Int)]) = some (.out 0 [])) :
    ∀ m i, i + m = n → runR S (.next 0 [iD (i : Int)]) = if (List.range' i m).all ok = true then some (.out 0 []) else some (.out 1 bad) := by
  intro m
  induction m with
  | zero =>
    intro i hi
    have : i = n := by omega
    subst this
    rw [runR_exit he]; rfl
  | succ m ih =>
    intro i hi
    have h1 := hs i (by omega)
    rw [List.range'_succ, List.all_cons]
    cases h0 : ok i with
    | true =>
      rw [h0, if_pos rfl] at h1
      rw [runR_next h1, ih (i + 1) (by omega), Bool.true_and]
    | false =>
      rw [h0, if_neg (by decide)] at h1
      rw [runR_exit h1, Bool.false_and, if_neg (by decide)]
/-- Are all pairs in order? -/
def ordE (l : List (Int × Int)) : Int := if (List.range' 0 l.length).all (fun i => decide (ta l i ≤ va l i)) = true then 0 else 9
theorem inOrder_eq (l : List (Int × Int)) (hl : l.length ≤ 1000000) : m_64 [lP l] = some (iD (ordE l)) := by
  rw [m_64_eq]
  unfold inOrder_M
  have h := scanB (n := l.length) (ok := fun i => decide (ta l i ≤ va l i)) (bad := [iD 9]) (S := inOrder_L2_S l.length (cP l)) (fun i hi => by
    show inOrder_L2_S0 _ _ _ = _
    unfold inOrder_L2_S0
    rw [pullD_some (i : Int) (by rfl) (by rfl), if_pos (by omega), guardP_pos (by omega), show ((i : Int).toNat) = i from rfl, readP hi, pullD_some (ta l i, va l i) (by rfl) (by rfl), natI (by omega)]
    dsimp only
    by_cases h : ta l i ≤ va l i
    · rw [if_neg (by omega), if_pos (by simpa using h)]
    · rw [if_pos (by omega), if_neg (by simpa using h)]) (by
    show inOrder_L2_S0 _ _ _ = _
    unfold inOrder_L2_S0
    rw [pullD_some (l.length : Int) (by rfl) (by rfl), if_neg (by omega)]) l.length 0 (by omega)
  rw [Int.natCast_zero] at h
  unfold ordE
  by_cases q : (List.range' 0 l.length).all (fun i => decide (ta l i ≤ va l i)) = true
  · rw [if_pos q] at h ⊢
    rw [bindL_some h, if_pos rfl, pullD_some () (by rfl) (by rfl)]
  · rw [if_neg q] at h ⊢
    rw [bindL_some h, if_neg (by decide), if_pos rfl, pullD_some (9 : Int) (by rfl) (by rfl)]
theorem ord1 (a b : Int) : m_64 [.list 1 [iD a, iD b]] = some (iD (if a ≤ b then 0 else 9)) := by
  have := inOrder_eq [(a, b)] (by simp)
  refine this.trans ?_
  congr 3
  unfold ordE
  simp [List.range', ta, va]
theorem within_eq (n lo hi : Int) : m_24 [iD n, iD lo, iD hi] = some (.one (.bool (decide (lo ≤ n ∧ n ≤ hi)))) := by
  rw [m_24_eq]
  unfold within_M
  by_cases h : lo ≤ n
  · rw [if_pos h]; simp [h]
  · rw [if_neg h]; simp [h]
/-! ### Rounded -/
/-! ### Figures -/
/-! ### Times -/
end Go.Proofs.Ytjjbacbjdilhmaa
/- Quotients, resistances. -/
namespace Go.Proofs.Ytjjbacbjdilhmaa
open Go.Ev Go.RowKit
set_option maxRecDepth 100000
/-! ### Divisors -/
/-- Where the division with a remainder ends. -/
def eu (a b : Int) : Int := if h : b = 0 then a else eu b (a.tmod b)
termination_by b.natAbs
decreasing_by
  rw [Int.natAbs_tmod]
  exact Nat.mod_lt _ (by omega)
theorem eu_zero (a : Int) : eu a 0 = a := by unfold eu; simp
theorem eu_step {a b : Int} (h : b ≠ 0) : eu a b = eu b (a.tmod b) := by
  conv => lhs; unfold eu
  rw [dif_neg h]
theorem eu_gcd (a b : Int) : (eu a b).natAbs = Int.gcd a b := by
  generalize hk : b.natAbs = k
  induction k using Nat.strongRecOn generalizing a b with
  | ind k ih =>
    by_cases h : b = 0
    · subst h; rw [eu_zero]; simp
    · have hlt : (a.tmod b).natAbs < b.natAbs := by rw [Int.natAbs_tmod]; exact Nat.mod_lt _ (by omega)
      rw [eu_step h, ih _ (by omega) b (a.tmod b) rfl]
      show Nat.gcd b.natAbs (a.tmod b).natAbs = Nat.gcd a.natAbs b.natAbs
      rw [Int.natAbs_tmod, Nat.gcd_comm a.natAbs, Nat.gcd_rec b.natAbs a.natAbs, Nat.gcd_comm]
def absW (r : Int) : Int := if IntKind.i64.wrap (0 - r) > r then IntKind.i64.wrap (0 - r) else r
theorem absW_eq {r : Int} (h : r.natAbs < 9223372036854775808) : absW r = (r.natAbs : Int) := by
  unfold absW
  rw [wrapJ _ (by omega) (by omega)]
  split <;> omega
theorem div_go (x y : Int) : ∀ (k : Nat) (a b : Int), b.natAbs ≤ k → runR (divisor_L1_S x y) (.next 0 [iD a, iD b]) = some (.out 0 [iD (eu a b)]) := by
  intro k
  induction k with
  | zero =>
    intro a b h
    have hb : b = 0 := by omega
    subst hb
    refine runR_exit ?_
    show divisor_L1_S0 x y _ = _
    unfold divisor_L1_S0
    rw [pullD_some (a, (0 : Int)) (by rfl) (by rfl)]
    dsimp only
    rw [if_neg (by simp), eu_zero]
  | succ k ih =>
    intro a b h
    by_cases hb : b = 0
    · exact ih a b (by omega)
    · have st : divisor_L1_S x y (.next 0 [iD a, iD b]) = some (.next 0 [iD b, iD (a.tmod b)]) := by
        show divisor_L1_S0 x y _ = _
        unfold divisor_L1_S0
        rw [pullD_some (a, b) (by rfl) (by rfl)]
        dsimp only
        rw [if_pos hb]
      have hlt : (a.tmod b).natAbs < b.natAbs := by rw [Int.natAbs_tmod]; exact Nat.mod_lt _ (by omega)
      rw [runR_next st, ih b (a.tmod b) (by omega), ← eu_step hb]
theorem divisor_eq (a b : Int) : m_98 [iD a, iD b] = some (iD (absW (eu a b))) := by
  rw [m_98_eq]
  unfold divisor_M
  rw [div_go a b b.natAbs a b (Nat.le_refl _), bindL_some rfl, if_pos rfl, pullD_some (eu a b) (by rfl) (by rfl)]
  rfl
theorem gcd_loop (x y : Int) : ∀ (k : Nat) (a b : Int), b.natAbs ≤ k → runR (gcd_L1_S x y) (.next 0 [iD a, iD b]) = some (.out 0 [iD (eu a b)]) := by
  intro k
  induction k with
  | zero =>
    intro a b h
    have hb : b = 0 := by omega
    subst hb
    refine runR_exit ?_
    show gcd_L1_S0 x y _ = _
    unfold gcd_L1_S0
    rw [pullD_some (a, (0 : Int)) (by rfl) (by rfl)]
    dsimp only
    rw [if_neg (by simp), eu_zero]
  | succ k ih =>
    intro a b h
    by_cases hb : b = 0
    · exact ih a b (by omega)
    · have st : gcd_L1_S x y (.next 0 [iD a, iD b]) = some (.next 0 [iD b, iD (a.tmod b)]) := by
        show gcd_L1_S0 x y _ = _
        unfold gcd_L1_S0
        rw [pullD_some (a, b) (by rfl) (by rfl)]
        dsimp only
        rw [if_pos hb]
      have hlt : (a.tmod b).natAbs < b.natAbs := by rw [Int.natAbs_tmod]; exact Nat.mod_lt _ (by omega)
      rw [runR_next st, ih b (a.tmod b) (by omega), ← eu_step hb]
theorem gcdI_eq (a b : Int) : m_99 [iD a, iD b] = some (iD (absW (eu a b))) := by
  rw [m_99_eq]
  unfold gcd_M
  rw [gcd_loop a b b.natAbs a b (Nat.le_refl _), bindL_some rfl, if_pos rfl, pullD_some (eu a b) (by rfl) (by rfl), m_116_eq]
  unfold size_M
  rw [pullI]
  rfl
theorem absW_gcd {a b : Int} (h : 0 < b) (h2 : b < 9223372036854775808) : absW (eu a b) = ((Int.gcd a b : Nat) : Int) := by
  have h1 : Int.gcd a b ≤ b.natAbs := Nat.le_of_dvd (by omega) (Int.gcd_dvd_natAbs_right a b)
  rw [absW_eq (by rw [eu_gcd]; omega), eu_gcd]
def rdN (n d : Int) : Int := IntKind.i64.wrap (n.tdiv (absW (eu n d)))
def rdD (n d : Int) : Int := IntKind.i64.wrap (d.tdiv (absW (eu n d)))
theorem absW_pos {n d : Int} (hd : 0 < d) (h2 : d < 9223372036854775808) : absW (eu n d) ≠ 0 := by
  rw [absW_gcd hd h2]
  have : 0 < Int.gcd n d := Int.gcd_pos_of_ne_zero_right _ (by omega)
  omega
theorem reduced_eq (n : Int) {d : Int} (hd : 0 < d) (h2 : d < 9223372036854775808) : m_72 [iD n, iD d] = some (.agg [iD (rdN n d), iD (rdD n d)]) := by
  rw [m_72_eq]
  unfold reduced_M
  rw [divisor_eq, pullI, guardP_pos (absW_pos hd h2)]
  rfl
theorem lowest_eq (n : Int) {d : Int} (hd : 0 < d) (h2 : d < 9223372036854775808) : m_75 [iD n, iD d] = some (.agg [iD (rdN n d), iD (rdD n d)]) := by
  rw [m_75_eq]
  unfold lowest_M
  rw [gcdI_eq, pullI, if_neg (by omega), guardP_pos (absW_pos hd h2)]
  rfl
/-! ### Ranges -/
def spE (a b : Int) : Int := if 1 ≤ a ∧ a ≤ 1000000000 ∧ 1 ≤ b ∧ b ≤ 1000000000 then (if a ≤ b then 0 else 9) else 2
theorem partsErr_eq (a b : Int) : m_74 [.agg [iD a, iD b]] = some (iD (spE a b)) := by
  rw [m_74_eq]
  unfold partsErr_M spE
  rw [within_eq, pullB, within_eq, pullB]
  by_cases h : 1 ≤ a ∧ a ≤ 1000000000 ∧ 1 ≤ b ∧ b ≤ 1000000000
  · rw [if_pos h, if_neg (by simp; omega), if_neg (by simp; omega)]
    by_cases q : a ≤ b
    · rw [if_neg (by omega), if_pos q]
    · rw [if_pos (by omega), if_neg q]
  · rw [if_neg h]
    by_cases q : 1 ≤ a ∧ a ≤ 1000000000
    · rw [if_neg (by simp; omega), if_pos (by simp; omega)]
    · rw [if_pos (by simp; omega)]
theorem gv2 (x : Int) : firstV [2, x] = 2 := rfl
theorem gv0 (x : Int) : firstV [0, x] = x := by
  unfold firstV firstV
  simp only [if_true]
  split
  · rename_i h; rw [h]; rfl
  · rfl
theorem gv9 (x : Int) : firstV [9, x] = 9 := rfl
theorem n2 : ((2 : Int) ≠ 0) = True := by decide
theorem n9 : ((9 : Int) ≠ 0) = True := by decide
theorem n0 : ((0 : Int) ≠ 0) = False := by decide
def ratE (a b c d : Int) : Int := if spE a b ≠ 0 then spE a b else spE c d
def ratD (a b c d : Int) : D := if ratE a b c d = 0 then .tup [.agg [iD (rdN a d), iD (rdD a d), iD (rdN b c), iD (rdD b c)], iD 0] else .tup [.agg [iD 0, iD 0, iD 0, iD 0], iD (ratE a b c d)]
theorem rs0 (a b c d : Int) : ratioOf_M_s0 a b c d = some (.tup [.agg [iD 0, iD 0, iD 0, iD 0], iD 2]) := by
  unfold ratioOf_M_s0
  simp only [ord1, f2, pullI, gv2, n2, if_true, ite_self]
theorem rs1 (a b c d : Int) : ratioOf_M_s1 a b c d = some (.tup [.agg [iD 0, iD 0, iD 0, iD 0], iD 2]) := by
  unfold ratioOf_M_s1
  simp only [ord1, f2, pullI, gv2, n2, if_true, ite_self]
theorem rs2 (a b c d : Int) : ratioOf_M_s2 a b c d = some (.tup [.agg [iD 0, iD 0, iD 0, iD 0], iD 2]) := by
  unfold ratioOf_M_s2
  simp only [ord1, f2, pullI, gv2, n2, if_true, ite_self]
theorem spE_bad {a b : Int} (h : ¬ (1 ≤ a ∧ a ≤ 1000000000 ∧ 1 ≤ b ∧ b ≤ 1000000000)) : spE a b = 2 := by
  unfold spE; rw [if_neg h]
theorem ratD2 {a b c d : Int} (h : ¬ (1 ≤ a ∧ a ≤ 1000000000 ∧ 1 ≤ b ∧ b ≤ 1000000000)) : ratD a b c d = .tup [.agg [iD 0, iD 0, iD 0, iD 0], iD 2] := by
  unfold ratD ratE
  rw [spE_bad h, if_pos (show (2 : Int) ≠ 0 by decide), if_neg (show ¬ (2 : Int) = 0 by decide)]
theorem ratioOf_eq (a b c d : Int) : m_31 [.agg [iD a, iD b], .agg [iD c, iD d]] = some (ratD a b c d) := by
  rw [m_31_eq]
  unfold ratioOf_M
  by_cases h1 : a < 1
  · rw [if_pos h1, rs0, ratD2 (by omega)]
  rw [if_neg h1]
  by_cases h2 : a > 1000000000
  · rw [if_pos h2, rs1, ratD2 (by omega)]
  rw [if_neg h2]
  by_cases h3 : b < 1
  · rw [if_pos h3, rs2, ratD2 (by omega)]
  rw [if_neg h3]
  unfold ratioOf_M_s3
  simp only [ord1, f2, pullI, gv2, gv0, n2, if_true, ite_self]
  by_cases h4 : b > 1000000000
  · rw [if_pos h4, ratD2 (by omega)]
  rw [if_neg h4]
  have e1 : spE a b = if a ≤ b then 0 else 9 := by unfold spE; rw [if_pos (by omega)]
  by_cases o : a ≤ b
  · rw [if_pos o] at e1 ⊢
    by_cases g : 1 ≤ c ∧ c ≤ 1000000000 ∧ 1 ≤ d ∧ d ≤ 1000000000
    · have e2 : spE c d = if c ≤ d then 0 else 9 := by unfold spE; rw [if_pos g]
      rw [if_neg (by omega), if_neg (by omega), if_neg (by omega), if_neg (by omega)]
      by_cases p : c ≤ d
      · rw [if_pos p] at e2 ⊢
        have e3 : ratE a b c d = 0 := by unfold ratE; rw [e1, if_neg (by decide), e2]
        simp only [gv0, n0, if_false]
        rw [reduced_eq _ (by omega) (by omega), pullD_some (rdN a d, rdD a d) (by rfl) (by rfl)]
        dsimp only
        rw [reduced_eq _ (by omega) (by omega), pullD_some (rdN b c, rdD b c) (by rfl) (by rfl)]
        unfold ratD
        rw [if_pos e3]
      · rw [if_neg p] at e2 ⊢
        have e3 : ratE a b c d = 9 := by unfold ratE; rw [e1, if_neg (by decide), e2]
        simp only [gv0, n9, if_true]
        unfold ratD
        rw [e3, if_neg (show ¬ (9 : Int) = 0 by decide)]
    · have e2 : spE c d = 2 := spE_bad g
      have e3 : ratE a b c d = 2 := by unfold ratE; rw [e1, if_neg (show ¬ ((0 : Int) ≠ 0) by decide), e2]
      simp only [gv0, gv2, n2, if_true]
      unfold ratD
      rw [e3, if_neg (show ¬ (2 : Int) = 0 by decide)]
      by_cases q0 : c < 1
      · rw [if_pos q0]
      rw [if_neg q0]
      by_cases q1 : c > 1000000000
      · rw [if_pos q1]
      rw [if_neg q1]
      by_cases q2 : d < 1
      · rw [if_pos q2]
      rw [if_neg q2, if_pos (by omega)]
  · rw [if_neg o] at e1 ⊢
    have e3 : ratE a b c d = 9 := by unfold ratE; rw [e1, if_pos (by decide)]
    simp only [gv9, n9, if_true, ite_self]
    unfold ratD
    rw [e3, if_neg (show ¬ (9 : Int) = 0 by decide)]
theorem ratioR_eq (a b c d : Int) : m_33 [.agg [iD a, iD b], .agg [iD c, iD d]] = some (ratD a b c d) := by
  rw [m_33_eq]
  unfold ratioR_M ratD ratE
  rw [partsErr_eq, pullI]
  by_cases h1 : spE a b = 0
  · rw [if_neg (by omega), partsErr_eq, pullI, if_neg (c := spE a b ≠ 0) (by omega)]
    by_cases h2 : spE c d = 0
    · have g1 : 1 ≤ c ∧ c ≤ 1000000000 ∧ 1 ≤ d ∧ d ≤ 1000000000 := by
        refine Classical.byContradiction fun g => ?_
        rw [spE_bad g] at h2; cases h2
      rw [if_neg (by omega), if_pos h2, lowest_eq _ (by omega) (by omega), pullD_some (rdN a d, rdD a d) (by rfl) (by rfl)]
      dsimp only
      rw [lowest_eq _ (by omega) (by omega), pullD_some (rdN b c, rdD b c) (by rfl) (by rfl)]
    · rw [if_pos (by omega), if_neg h2]
  · rw [if_pos (by omega), if_pos (c := spE a b ≠ 0) (by omega), if_neg h1]
/-! ### Resistances -/
theorem isTemp_eq (n : Int) : m_76 [iD n] = some (.one (.bool (decide (-500 ≤ n ∧ n ≤ 3000)))) := by
  rw [m_76_eq]
  unfold isTemp_M
  rw [within_eq, pullB]
def resE (n f t : Int) : Int := if 1 ≤ n ∧ n ≤ 1000000 ∧ -500 ≤ f ∧ f ≤ 3000 ∧ -500 ≤ t ∧ t ≤ 3000 then 0 else 2
abbrev rN (n f t : Int) : Int := rdN (n * (2350 + t)) (2350 + f)
abbrev rD' (n f t : Int) : Int := rdD (n * (2350 + t)) (2350 + f)
def resD (n f t : Int) : D := if resE n f t = 0 then (if rN n f t ≤ 1000000000 ∧ rD' n f t ≤ 1000000000 then .tup [.agg [iD (rN n f t), iD (rD' n f t)], iD 0] else .tup [.agg [iD 0, iD 0], iD 8]) else .tup [.agg [iD 0, iD 0], iD 2]
theorem tdiv_nat {n : Int} {g : Nat} (hn : 0 ≤ n) : 0 ≤ n.tdiv g ∧ n.tdiv g ≤ n := by
  refine ⟨Int.tdiv_nonneg hn (Int.natCast_nonneg g), ?_⟩
  rw [Int.tdiv_eq_ediv_of_nonneg hn]
  exact Int.ediv_le_self _ hn
theorem rd_ok {n d : Int} (hn : 0 ≤ n) (h1 : n < 9223372036854775808) (hd : 0 < d) (h2 : d < 9223372036854775808) : rdN n d = n.tdiv ((Int.gcd n d : Nat) : Int) ∧ rdD n d = d.tdiv ((Int.gcd n d : Nat) : Int) ∧ 0 ≤ rdN n d ∧ 1 ≤ rdD n d := by
  unfold rdN rdD
  rw [absW_gcd hd h2]
  obtain ⟨a1, a2⟩ := tdiv_nat (g := Int.gcd n d) hn
  obtain ⟨b1, b2⟩ := tdiv_nat (g := Int.gcd n d) (show 0 ≤ d by omega)
  rw [wrapJ _ (by omega) (by omega), wrapJ _ (by omega) (by omega)]
  refine ⟨rfl, rfl, a1, ?_⟩
  have hg : 0 < Int.gcd n d := Int.gcd_pos_of_ne_zero_right _ (by omega)
  have hle : Int.gcd n d ≤ d.natAbs := Nat.le_of_dvd (by omega) (Int.gcd_dvd_natAbs_right n d)
  rw [Int.tdiv_eq_ediv_of_nonneg (by omega)]
  exact (Int.le_ediv_iff_mul_le (by omega)).2 (by omega)
theorem prodB {n x : Int} (h1 : 1 ≤ n) (h2 : n ≤ 1000000) (h3 : 0 ≤ x) (h4 : x ≤ 10000) : 0 ≤ n * x ∧ n * x ≤ 10000000000 := by
  refine ⟨Int.mul_nonneg (by omega) h3, ?_⟩
  have := Int.mul_le_mul h2 h4 h3 (by omega : (0 : Int) ≤ 1000000)
  omega
theorem tooLarge_eq (n d : Int) : m_48 [.agg [iD n, iD d]] = some (.one (.bool (decide (¬ (n ≤ 1000000000 ∧ d ≤ 1000000000))))) := by
  rw [m_48_eq]
  unfold tooLarge_M
  congr 3
  rw [Bool.eq_iff_iff]
  simp only [decide_eq_true_eq]
  split <;> omega
theorem isSmall_eq (n d : Int) : m_77 [.agg [iD n, iD d]] = some (.one (.bool (decide (-1000000000 ≤ n ∧ n ≤ 1000000000 ∧ 1 ≤ d ∧ d ≤ 1000000000)))) := by
  rw [m_77_eq]
  unfold isSmall_M
  rw [within_eq, pullB, within_eq, pullB]
  by_cases h : -1000000000 ≤ n ∧ n ≤ 1000000000
  · rw [if_pos (by simpa using h)]
    congr 3
    rw [Bool.eq_iff_iff]; simp only [decide_eq_true_eq]; omega
  · rw [if_neg (by simpa using h)]
    congr 3
    rw [Bool.eq_iff_iff]; simp only [decide_eq_true_eq]
    constructor
    · intro h; cases h
    · omega
theorem res_core {n f t : Int} (h : resE n f t = 0) : pullD (α := Int × Int) (m_72 [iD (IntKind.i64.wrap (n * IntKind.i64.wrap (t - (-2350 : Int)))), iD (IntKind.i64.wrap (f - (-2350 : Int)))]) (fun d => ((D.vi (D.at d 0)), (D.vi (D.at d 1)))) (fun (r1, r2) => .agg [iD r1, iD r2]) (fun (r1, r2) => (pullD (α := Bool) (m_48 [.agg [iD r1, iD r2]]) (fun d => ((D.vb d))) (fun r3 => .one (.bool r3)) fun r3 => ((if (r3) = true then some (.tup [.agg [iD (0 : Int), iD (0 : Int)], iD (8 : Int)]) else some (.tup [.agg [iD r1, iD r2], iD (0 : Int)]))))) = some (resD n f t) := by
  have hr : 1 ≤ n ∧ n ≤ 1000000 ∧ -500 ≤ f ∧ f ≤ 3000 ∧ -500 ≤ t ∧ t ≤ 3000 := by
    unfold resE at h
    split at h
    · assumption
    · cases h
  obtain ⟨p1, p2⟩ := prodB (x := 2350 + t) hr.1 hr.2.1 (by omega) (by omega)
  have e1 : IntKind.i64.wrap (n * IntKind.i64.wrap (t - (-2350 : Int))) = n * (2350 + t) := by
    rw [wrapJ (t - -2350) (by omega) (by omega), show t - -2350 = 2350 + t by omega, wrapJ _ (by omega) (by omega)]
  have e2 : IntKind.i64.wrap (f - (-2350 : Int)) = 2350 + f := by
    rw [wrapJ _ (by omega) (by omega)]; omega
  rw [e1, e2, reduced_eq _ (by omega) (by omega), pullD_some (rN n f t, rD' n f t) (by rfl) (by rfl)]
  dsimp only
  rw [tooLarge_eq, pullB]
  unfold resD
  rw [if_pos h]
  by_cases q : rN n f t ≤ 1000000000 ∧ rD' n f t ≤ 1000000000
  · rw [if_pos q, if_neg (by simp only [decide_eq_true_eq]; exact fun h => h q)]
  · rw [if_neg q, if_pos (by simp only [decide_eq_true_eq]; exact q)]
theorem resD2 {n f t : Int} (h : ¬ (1 ≤ n ∧ n ≤ 1000000 ∧ -500 ≤ f ∧ f ≤ 3000 ∧ -500 ≤ t ∧ t ≤ 3000)) : resD n f t = .tup [.agg [iD 0, iD 0], iD 2] := by
  unfold resD resE
  rw [if_neg h, if_neg (by decide)]
theorem as0 (n f t : Int) : resAt_M_s0 n f t = some (.tup [.agg [iD 0, iD 0], iD 2]) := by
  unfold resAt_M_s0
  simp only [f2, pullI, gv2, n2, if_true, ite_self]
theorem as1 (n f t : Int) : resAt_M_s1 n f t = some (.tup [.agg [iD 0, iD 0], iD 2]) := by
  unfold resAt_M_s1
  simp only [f2, pullI, gv2, n2, if_true, ite_self]
theorem resAt_eq (n f t : Int) : m_32 [iD n, iD f, iD t] = some (resD n f t) := by
  rw [m_32_eq]
  unfold resAt_M
  by_cases h1 : n < 1
  · rw [if_pos h1, as0, resD2 (by omega)]
  rw [if_neg h1]
  by_cases h2 : n > 1000000
  · rw [if_pos h2, as1, resD2 (by omega)]
  rw [if_neg h2]
  unfold resAt_M_s2
  simp only [f2, pullI, gv0, n2, n0, if_true, if_false]
  by_cases q0 : f < -500
  · rw [if_pos q0, resD2 (by omega)]
  rw [if_neg q0]
  by_cases q1 : f > 3000
  · rw [if_pos q1, resD2 (by omega)]
  rw [if_neg q1]
  by_cases q2 : t < -500
  · rw [if_pos q2, resD2 (by omega)]
  rw [if_neg q2]
  by_cases q3 : t > 3000
  · rw [if_pos q3, resD2 (by omega)]
  rw [if_neg q3]
  exact res_core (by unfold resE; rw [if_pos (by omega)])
theorem resR_eq (n f t : Int) : m_34 [iD n, iD f, iD t] = some (resD n f t) := by
  rw [m_34_eq]
  unfold resR_M
  rw [within_eq, pullB, isTemp_eq, pullB, isTemp_eq, pullB]
  by_cases g : 1 ≤ n ∧ n ≤ 1000000 ∧ -500 ≤ f ∧ f ≤ 3000 ∧ -500 ≤ t ∧ t ≤ 3000
  · have h : resE n f t = 0 := by unfold resE; rw [if_pos g]
    obtain ⟨p1, p2⟩ := prodB (x := 2350 + t) g.1 g.2.1 (by omega) (by omega)
    rw [if_neg (by simp; omega), if_neg (by simp; omega), if_neg (by simp; omega), wrapJ (2350 + t) (by omega) (by omega), wrapJ (2350 + f) (by omega) (by omega), wrapJ _ (by omega) (by omega), lowest_eq _ (by omega) (by omega), pullD_some (rN n f t, rD' n f t) (by rfl) (by rfl)]
    dsimp only
    rw [isSmall_eq, pullB]
    obtain ⟨-, -, k1, k2⟩ := rd_ok p1 (by omega) (show 0 < 2350 + f by omega) (by omega)
    have k1 : 0 ≤ rN n f t := k1
    have k2 : 1 ≤ rD' n f t := k2
    unfold resD
    rw [if_pos h]
    by_cases q : rN n f t ≤ 1000000000 ∧ rD' n f t ≤ 1000000000
    · rw [if_pos q, if_neg (by simp only [decide_eq_false_iff_not]; omega)]
    · rw [if_neg q, if_pos (by simp only [decide_eq_false_iff_not]; omega)]
  · rw [resD2 g]
    by_cases q0 : 1 ≤ n ∧ n ≤ 1000000
    · rw [if_neg (by simp; omega)]
      by_cases q1 : -500 ≤ f ∧ f ≤ 3000
      · rw [if_neg (by simp; omega), if_pos (by simp; omega)]
      · rw [if_pos (by simp; omega)]
    · rw [if_pos (by simp; omega)]
theorem same_eq {n f : Int} (h : resE n f f = 0) : resD n f f = .tup [.agg [iD n, iD 1], iD 0] := by
  have g : 1 ≤ n ∧ n ≤ 1000000 ∧ -500 ≤ f ∧ f ≤ 3000 ∧ -500 ≤ f ∧ f ≤ 3000 := by
    unfold resE at h
    split at h
    · assumption
    · cases h
  obtain ⟨p1, p2⟩ := prodB (x := 2350 + f) g.1 g.2.1 (by omega) (by omega)
  obtain ⟨k1, k2, -, -⟩ := rd_ok p1 (by omega) (show 0 < 2350 + f by omega) (by omega)
  have hg : ((Int.gcd (n * (2350 + f)) (2350 + f) : Nat) : Int) = 2350 + f := by
    have : Int.gcd (n * (2350 + f)) (2350 + f) = (2350 + f).natAbs := Int.gcd_eq_natAbs_right (Int.dvd_mul_left n (2350 + f))
    omega
  rw [hg] at k1 k2
  rw [Int.mul_tdiv_cancel _ (by omega)] at k1
  rw [Int.tdiv_self (by omega)] at k2
  unfold resD
  rw [if_pos h]
  unfold rN rD'
  rw [k1, k2, if_pos (by omega)]
theorem law6_eq (a b c d x y z : Int) : m_6 [.agg [iD a, iD b, iD c, iD d], .agg [iD x, iD y, iD z]] = some (.one (.bool true)) := by
  rw [m_6_eq]
  unfold law6_M
  rw [m_9_eq, pullB, if_neg (by decide), ratioOf_eq]
  have hr : ∃ p q u v e : Int, ratD a b c d = .tup [.agg [iD p, iD q, iD u, iD v], iD e] := by
    unfold ratD
    split
    · exact ⟨_, _, _, _, _, rfl⟩
    · exact ⟨_, _, _, _, _, rfl⟩
  have hs : ∀ t : Int, ∃ p q e : Int, resD x y t = .tup [.agg [iD p, iD q], iD e] := fun t => by
    unfold resD
    split
    · split
      · exact ⟨_, _, _, rfl⟩
      · exact ⟨_, _, _, rfl⟩
    · exact ⟨_, _, _, rfl⟩
  obtain ⟨p, q, u, v, e, hr⟩ := hr
  obtain ⟨p2, q2, e2, hs2⟩ := hs z
  rw [pullD_some (p, q, u, v, e) (by rw [hr]) (by rfl)]
  dsimp only
  rw [resAt_eq, pullD_some (p2, q2, e2) (by rw [hs2]) (by rfl)]
  dsimp only
  rw [ratioR_eq, pullD_some (p, q, u, v, e) (by rw [hr]) (by rfl)]
  dsimp only
  rw [resR_eq, pullD_some (p2, q2, e2) (by rw [hs2]) (by rfl)]
  dsimp only
  rw [if_neg (by simp), if_neg (by simp), if_neg (by simp), if_neg (by simp), resR_eq]
  by_cases h : resE x y y = 0
  · rw [same_eq h, pullD_some (x, (1 : Int), (0 : Int)) (by rfl) (by rfl)]
    dsimp only
    rw [if_neg (by simp), resAt_eq, same_eq h, pullD_some (x, (1 : Int), (0 : Int)) (by rfl) (by rfl)]
    dsimp only
    rw [if_pos rfl, m_35_eq]
    unfold whole_M
    rw [pullD_some (x, (1 : Int)) (by rfl) (by rfl)]
    simp
  · have h8 : ∃ e : Int, e ≠ 0 ∧ resD x y y = .tup [.agg [iD 0, iD 0], iD e] := by
      unfold resD
      rw [if_neg h]
      exact ⟨2, by decide, rfl⟩
    obtain ⟨e9, h9, h10⟩ := h8
    rw [h10, pullD_some ((0 : Int), (0 : Int), e9) (by rfl) (by rfl)]
    dsimp only
    rw [if_pos h9]
theorem law6_con (a b c d x y z : Int) : Con 6 [.agg [iD a, iD b, iD c, iD d], .agg [iD x, iD y, iD z]] (.one (.bool true)) := m_6_ok (law6_eq a b c d x y z)
end Go.Proofs.Ytjjbacbjdilhmaa
/- WaveRatios: what the runs give, for every argument. -/
namespace Go.Proofs.Ytjjbacbjdilhmaa.waveRatios
open Go.ChangeShapes Go.WideShapes Go.ChangeAt Go.RowKit Go.Joins Go.Ev
set_option maxRecDepth 100000 in
/-- WHAT THE RUNS GIVE, FOR EVERY ARGUMENT AND EVERY WORLD THAT HOLDS THE TABLES. -/
theorem contract (H : Type) (enc : TypeId × Value → H) (W : World) (base : Nat) (args : Array Value) (ds gs : List (DataW H)) (before : List MemPlace)
    (hval : ∀ (j : Nat) t v, Try.f6.params[j]? = some t → args[j]? = some v → Value.okWide Try.prog W .any base t v)
    (hW : DataW.Whole enc Try.prog Try.f6.params.toList Rows.waveRatiosSpec.vars false W args.toList ds gs before) (hL : laidMetH Try.prog Rows.waveRatiosRow.laid W) :
    Calls Try.prog 6 args W fun e W' => ∃ v, e = .returned v ∧ Rows.waveRatiosSpec.post enc Try.prog Try.f6 false true false false W args v W' := by
  have hW' := hW
  have hlt := hW.lt
  obtain ⟨p, q, hA0, hV, rfl, hfz, hnd⟩ := hW
  have hA : DataW.TrodAll enc Try.prog W 0 (fun _ => true) true Try.f6.params.toList args.toList ds p := hA0
  rw [Try.params6] at hA hval
  obtain ⟨v0, vs0, d0, ds0, p0, q0, hargs, rfl, rfl, h0, r0⟩ := trodAll_cons hA
  obtain ⟨v1, vs1, d1, ds1, p1, q1, rfl, rfl, rfl, h1, r1⟩ := trodAll_cons r0
  obtain ⟨rfl, rfl, rfl⟩ := trodAll_nil r1
  obtain rfl : args = #[v0, v1] := by cases args; simp_all
  obtain ⟨rfl, rfl⟩ := trodVars_none hV
  obtain ⟨e0, o0, k0⟩ := open_agg (ls := [.int .i64, .int .i64, .int .i64, .int .i64]) 8 (by kernel_rfl) (by kernel_rfl) (by kernel_rfl) (hval 0 58 v0 rfl rfl) h0
  obtain ⟨a, b, c, d, rfl⟩ := ints4_of o0
  obtain ⟨e1, o1, k1⟩ := open_agg (ls := [.int .i64, .int .i64, .int .i64]) 8 (by kernel_rfl) (by kernel_rfl) (by kernel_rfl) (hval 1 67 v1 rfl rfl) h1
  obtain ⟨x, y, z, rfl⟩ := ints3_of o1
  have hr : RpL (fun _ => True) W [.agg [.one (.int .i64 a), .one (.int .i64 b), .one (.int .i64 c), .one (.int .i64 d)], .agg [.one (.int .i64 x), .one (.int .i64 y), .one (.int .i64 z)]] [v0, v1] := by
    simp only [RpL]
    exact ⟨v0, _, rfl, k0, ⟨v1, _, rfl, k1, rfl⟩⟩
  refine (law6_con a b c d x y z W (fun _ => True) _ tabs0 hr).mono fun e W' ⟨v, he, hv, hg⟩ => ?_
  simp only [Rp] at hv
  subst he
  subst hv
  have hlaid : laidOutB Try.prog = true := by kernel_rfl
  exact ⟨_, rfl, post_below (pa := (p0 ++ (p1 ++ []))) (pv := []) hW' (fun _ _ _ => trodAll_cons_mk (shut_bool Try.underlying4 _) trodAll_mk0) (fun sp hsp => by
    rw [Try.params6]
    exact trodAll_cons_mk (stays hlaid (by kernel_rfl) (of_decide_eq_true (by kernel_rfl)) h0 hg (fun x hx => hlt x (by simp only [List.mem_append]; left; left; exact hx)) (fun x hx => hsp x (by simp only [List.mem_append]; left; left; exact hx))) (trodAll_cons_mk (stays hlaid (by kernel_rfl) (of_decide_eq_true (by kernel_rfl)) h1 hg (fun x hx => hlt x (by simp only [List.mem_append]; left; right; left; exact hx)) (fun x hx => hsp x (by simp only [List.mem_append]; left; right; left; exact hx))) (trodAll_mk0))) (fun _ _ => rfl) rfl
    hg (ok_one (by kernel_rfl) rfl (okWide_bool_mk Try.underlying4 _))⟩
end Go.Proofs.Ytjjbacbjdilhmaa.waveRatios
/- WaveRatios: closed facts of the witness. -/
namespace Go.Proofs.Ytjjbacbjdilhmaa.waveRatios
open Go.ChangeShapes Go.WideShapes Go.ChangeAt Go.RowKit Go.Joins
/-- THE WITNESS's ARGUMENTS. -/
noncomputable def args0 : Array Value := #[.agg #[.int .i64 0, .int .i64 0, .int .i64 0, .int .i64 0], .agg #[.int .i64 0, .int .i64 0, .int .i64 0]]
/-- A WORLD FOR THE WITNESS: the heap that the program's own initialisers leave. -/
noncomputable def start (os : Os) : World := World.doorLaid Try.prog 400 os
theorem laid_met (os : Os) : laidMet Try.prog Rows.waveRatiosRow.laid ((start os).forCall (fun _ _ => 0) ⟨#[], args0, []⟩).memory := ⟨[], rfl, List.nodup_nil, fun _ _ h => by cases h⟩
theorem reads (os : Os) {H : Type} (enc : TypeId × Value → H) : ∃ places, DataW.whole enc Try.prog ((start os).forCall (fun _ _ => 0) ⟨#[], args0, []⟩).memory Try.f6.params.toList Rows.waveRatiosSpec.vars false args0.toList 8 = some ([.agg [.agg [.lit (.int .i64 0), .lit (.int .i64 0)], .agg [.lit (.int .i64 0), .lit (.int .i64 0)]], .agg [.lit (.int .i64 0), .lit (.int .i64 0), .lit (.int .i64 0)]], [], places) :=
  ⟨[], by kernel_rfl⟩
theorem vB (os : Os) : ((start os).forCall (fun _ _ => 0) ⟨#[], args0, []⟩).variablesB Try.prog = true := by kernel_rfl
theorem rB (os : Os) : (((start os).forCall (fun _ _ => 0) ⟨#[], args0, []⟩).heap.toList.drop Try.prog.globals.size).take ((begin Try.prog (fun _ _ => 0) default).world.heap.size - Try.prog.globals.size) = (begin Try.prog (fun _ _ => 0) default).world.heap.toList.drop Try.prog.globals.size := by kernel_rfl
theorem oB (os : Os) : Input.okWideB Try.prog ((start os).forCall (fun _ _ => 0) ⟨#[], args0, []⟩) 6 ⟨#[], args0, []⟩ = true := by kernel_rfl
theorem hB (os : Os) : (start os).os = os := by kernel_rfl
end Go.Proofs.Ytjjbacbjdilhmaa.waveRatios
/- For any ranges and numbers, valid or not, the law WaveRatios of the program answers true, and its arguments read as they did. CONDITIONS: none. -/
namespace Go.Proofs.Ytjjbacbjdilhmaa.waveRatios
open Go.ChangeShapes Go.WideShapes Go.ChangeAt Go.RowKit Go.Joins
set_option maxRecDepth 100000 in
theorem lifted (os : Os) (started : os.Started) (H : Type) (enc : TypeId × Value → H) (F : Stop.Interp) :
    ReturnsInHanded {} Try.checked os 6 .any ((OpenSpec.ofChange Rows.waveRatiosSpec).preRow enc Try.prog Try.f6 Rows.waveRatiosRow.domain false Rows.waveRatiosRow.laid) (((OpenSpec.ofChange Rows.waveRatiosSpec).at F).post enc Try.prog Try.f6 false true false false) := by
  obtain ⟨places, hx⟩ := reads os enc
  refine returnsInHanded_of_row (C := Try.checked) (s := OpenSpec.ofChange Rows.waveRatiosSpec) own started (by kernel_rfl) Try.func6
    (witness_row_at (enc := enc) (C := Try.checked) false (start os) args0 (hB os) (vB os) (rB os) (oB os)
      (OpenSpec.preRow_of_cond 8 hx (by kernel_rfl) (fun k hk => by cases hk) (by kernel_rfl) (laid_met os))) ?_
  intro W base args ds gs before hval hW _ _ _ hL _ _
  exact contract H enc W base args ds gs before hval hW hL
theorem said : Rows.WaveRatiosSaid :=
  OpenClaim.holds_of_cond 6 Try.f6 rfl rfl rfl rfl rfl rfl rfl ⟨rfl, rfl, rfl, rfl, rfl⟩ rfl rfl rfl rfl rfl (by kernel_rfl) Try.func6 (by kernel_rfl)
    (of_decide_eq_true (by kernel_rfl)) (by unfold Func.isWrapper; first | (rw [if_pos (by decide +kernel)]; kernel_rfl) | (rw [if_neg (by decide +kernel)]; exact ⟨rfl, rfl⟩))
    (fun os started H enc _ F => by rw [OpenClaim.pre_eq_preRow]; exact lifted os started H enc F)
end Go.Proofs.Ytjjbacbjdilhmaa.waveRatios
