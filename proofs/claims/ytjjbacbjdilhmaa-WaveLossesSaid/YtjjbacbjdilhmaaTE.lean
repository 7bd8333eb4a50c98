/- For any powers and phase errors, valid or not, the law WaveLosses of the program answers true, and its arguments read as they did. CONDITIONS: none. -/
import Derived.Test.YtjjbacbjdilhmaaTD
import Derived.Test.YtjjbacbjdilhmaaTA
set_option linter.unusedVariables false
set_option linter.unusedSimpArgs false
set_option linter.unusedSectionVars false
set_option linter.unnecessarySimpa false
/- Whole numbers as lists of digits to the base 10^9, and as values in depth. -/
namespace Go.Ev
open Go.RowKit
abbrev lD (l : List Int) : D := .list l.length (l.map iD)
def Dig (l : List Int) : Prop := ∀ d ∈ l, 0 ≤ d ∧ d < (1000000000 : Int)
def Trim (l : List Int) : Prop := ∀ h : l ≠ [], l.getLast h ≠ 0
theorem Dig.cons {d : Int} {l : List Int} (h : Dig (d :: l)) : (0 ≤ d ∧ d < (1000000000 : Int)) ∧ Dig l := ⟨h d List.mem_cons_self, fun x hx => h x (List.mem_cons_of_mem _ hx)⟩
theorem Dig.nil : Dig [] := fun _ h => by cases h
theorem Dig.append {a b : List Int} (ha : Dig a) (hb : Dig b) : Dig (a ++ b) := fun x hx => by
  rcases List.mem_append.1 hx with h | h
  · exact ha x h
  · exact hb x h
theorem Dig.one {d : Int} (h0 : 0 ≤ d) (h1 : d < (1000000000 : Int)) : Dig [d] := fun x hx => by simp at hx; subst hx; exact ⟨h0, h1⟩
theorem Dig.take {l : List Int} (h : Dig l) (n : Nat) : Dig (l.take n) := fun x hx => h x (List.mem_of_mem_take hx)
theorem Dig.drop {l : List Int} (h : Dig l) (n : Nat) : Dig (l.drop n) := fun x hx => h x (List.mem_of_mem_drop hx)
theorem Trim.cons {d : Int} {l : List Int} (h : Trim (d :: l)) : Trim l := fun hl => by
  have := h (by simp)
  rwa [List.getLast_cons hl] at this
/-- How many digits are kept where zeros at the end are cut off. -/
def keep : List Int → Nat
  | [] => 0
  | d :: l => if keep l = 0 ∧ d = 0 then 0 else keep l + 1
theorem Dig.at {a : List Int} (h : Dig a) (i : Nat) : 0 ≤ a[i]?.getD 0 ∧ a[i]?.getD 0 < (1000000000 : Int) := by
  by_cases hi : i < a.length
  · rw [List.getElem?_eq_getElem hi]; exact h _ (List.getElem_mem hi)
  · rw [List.getElem?_eq_none (by omega)]; decide
theorem pullI {β : Type} (x : Int) (k : Int → Option β) : pullD (some (.one (.int .i64 x))) (fun d => D.vi d) (fun r => .one (.int .i64 r)) k = k x := pullD_some x rfl rfl
theorem pullB {β : Type} (x : Bool) (k : Bool → Option β) : pullD (some (.one (.bool x))) (fun d => D.vb d) (fun r => .one (.bool r)) k = k x := pullD_some x rfl rfl
theorem Dig.set {l : List Int} (h : Dig l) (p : Nat) {x : Int} (h0 : 0 ≤ x) (h1 : x < 1000000000) : Dig (l.set p x) := fun y hy => by
  rcases List.mem_or_eq_of_mem_set hy with hy | rfl
  · exact h y hy
  · exact ⟨h0, h1⟩
theorem readW {l : List Int} {i : Nat} {v : Int} (h : l[i]? = some v) : readD (l.map iD) ((i : Int).toNat * 1) 1 false = some (iD v) := by
  unfold readD
  simp [h]
end Go.Ev
/- Lists told by place: tables, sums of the first, and how a program builds them. -/
namespace Go.Ev
open Go.RowKit
/-- The numbers f 0, .., f (n - 1). -/
def tab (n : Nat) (f : Nat → Int) : List Int := (List.range n).map f
theorem wrapJ (x : Int) (h1 : -9223372036854775808 ≤ x) (h2 : x < 9223372036854775808) : IntKind.i64.wrap x = x := by
  unfold IntKind.wrap
  show (if (true && _) then _ else _) = _
  simp only [Bool.true_and, decide_eq_true_eq]
  show (if x % 18446744073709551616 ≥ 9223372036854775808 then x % 18446744073709551616 - 18446744073709551616 else x % 18446744073709551616) = x
  split <;> omega
theorem natI {i : Nat} (h : i < 1000000000000000) : IntKind.i64.wrap ((i : Int) + 1) = ((i + 1 : Nat) : Int) := by rw [wrapJ _ (by omega) (by omega)]; omega
end Go.Ev
/- Lists of pairs of numbers told by place; loops that look for the first error. -/
namespace Go.Ev
open Go.RowKit
def cP (l : List (Int × Int)) : List D := (l.map fun p => [iD p.1, iD p.2]).flatten
abbrev lP (l : List (Int × Int)) : D := .list l.length (cP l)
def ta (l : List (Int × Int)) (i : Nat) : Int := (l[i]?.getD (0, 0)).1
def va (l : List (Int × Int)) (i : Nat) : Int := (l[i]?.getD (0, 0)).2
theorem cP_nil : cP [] = [] := rfl
theorem cP_cons (p : Int × Int) (l : List (Int × Int)) : cP (p :: l) = iD p.1 :: iD p.2 :: cP l := rfl
theorem cP_drop : ∀ (i : Nat) (l : List (Int × Int)), (cP l).drop (i * 2) = cP (l.drop i)
  | 0, l => by simp
  | i + 1, [] => by simp [cP_nil]
  | i + 1, p :: l => by
    rw [cP_cons, show (i + 1) * 2 = i * 2 + 1 + 1 by omega, List.drop_succ_cons, List.drop_succ_cons, cP_drop i l, List.drop_succ_cons]
theorem pt_get {l : List (Int × Int)} {i : Nat} (h : i < l.length) : l[i]? = some (ta l i, va l i) := by
  unfold ta va
  rw [List.getElem?_eq_getElem h]
  rfl
theorem pt_drop {l : List (Int × Int)} {i : Nat} (h : i < l.length) : l.drop i = (ta l i, va l i) :: l.drop (i + 1) := by
  rw [List.drop_eq_getElem_cons h]
  congr 1
  have := pt_get h
  rw [List.getElem?_eq_getElem h] at this
  exact Option.some.inj this
theorem readP {l : List (Int × Int)} {i : Nat} (h : i < l.length) : readD (cP l) (i * 2) 2 true = some (.agg [iD (ta l i), iD (va l i)]) := by
  unfold readD
  simp only
  rw [cP_drop, pt_drop h, cP_cons]
  simp
end Go.Ev
/- Structs and arrays of numbers, as arguments. -/
namespace Go.Proofs.Ytjjbacbjdilhmaa
open Go.Ev Go.RowKit
theorem ints2_of {ds : List D} (h : okDs [.int .i64, .int .i64] ds) : ∃ x0 x1 : Int, ds = [iD x0, iD x1] := by
  simp only [okDs, okD] at h
  obtain ⟨_, _, rfl, ⟨x0, rfl, -⟩, _, _, rfl, ⟨x1, rfl, -⟩, rfl⟩ := h
  exact ⟨x0, x1, rfl⟩
theorem int_of {k : IntKind} {d : D} (h : okD (.int k) d) : ∃ x, d = .one (.int k x) ∧ (Lit.int k x).wf = true := by
  simp only [okD] at h
  exact h
end Go.Proofs.Ytjjbacbjdilhmaa
/- Runs inside models: what is asked, with its proofs. -/
namespace Go.Proofs.Ytjjbacbjdilhmaa
open Go.Ev Go.RowKit
set_option maxRecDepth 100000
noncomputable section
/-- A truth that is asked, and why it is so. -/
structure PC where
  c : Bool
  q : Bool
  h : c = q
abbrev PC.p (x : PC) : Bool × Bool := (x.c, x.q)
def pairsC : List PC → List (Bool × Bool)
  | [] => []
  | x :: xs => (x.c, x.q) :: pairsC xs
theorem pairsC_ok : ∀ xs : List PC, allC (pairsC xs)
  | [] => trivial
  | x :: xs => ⟨x.h, pairsC_ok xs⟩
abbrev c_T : PC := ⟨true, true, rfl⟩
abbrev c_F : PC := ⟨false, false, rfl⟩
abbrev c_d {p : Prop} [Decidable p] (h : p) : PC := ⟨decide p, true, decide_eq_true h⟩
abbrev c_n {p : Prop} [Decidable p] (h : ¬ p) : PC := ⟨decide p, false, decide_eq_false h⟩
abbrev c_f {p : Prop} (h : p) : PC := ⟨fact p, true, fact_mk h⟩
abbrev c_b {α : Type} [BEq α] [LawfulBEq α] {a b : α} (h : a ≠ b) : PC := ⟨a != b, true, bne_iff_ne.2 h⟩
abbrev c_bn {α : Type} [BEq α] [LawfulBEq α] {a b : α} (h : a = b) : PC := ⟨a != b, false, bne_eq_false_iff_eq.2 h⟩
abbrev c_e {α : Type} [BEq α] [LawfulBEq α] {a b : α} (h : a = b) : PC := ⟨a == b, true, beq_iff_eq.2 h⟩
abbrev c_en {α : Type} [BEq α] [LawfulBEq α] {a b : α} (h : a ≠ b) : PC := ⟨a == b, false, beq_eq_false_iff_ne.2 h⟩
abbrev c_q {c q : Bool} (h : c = q) : PC := ⟨c, q, h⟩
abbrev c_no {c : Bool} (h : c = false) : PC := ⟨!c, true, by rw [h]; rfl⟩
abbrev c_nn {c : Bool} (h : c = true) : PC := ⟨!c, false, by rw [h]; rfl⟩
abbrev c_le (n : Nat) : PC := ⟨fact (n + 1 ≤ n + 1), true, fact_mk (Nat.le_refl _)⟩
def bT : Nat → List Bool → List Bool
  | 0, l => l
  | n + 1, l => true :: bT n l
def bF : Nat → List Bool → List Bool
  | 0, l => l
  | n + 1, l => false :: bF n l
/-- What is asked of calls and loops, and why it is so. -/
structure PK where
  q : Go.Ev.Ask
  h : AskOK (ctx [] []) Tabs q
def asksK : List PK → List Go.Ev.Ask
  | [] => []
  | x :: xs => x.q :: asksK xs
theorem asksK_ok : ∀ xs : List PK, allK (asksK xs)
  | [] => trivial
  | x :: xs => ⟨x.h, asksK_ok xs⟩
abbrev k_c {g : FuncId} {ds : List D} {r : D} (h : Con g ds r) : PK := ⟨.call g ds r, h⟩
abbrev k_l {c : Code} {E : List AV × AHeap} {base : Nat} {x : LExit} {ds : List D} (h : LoopC c E base noFrame x ds) (ora : List Bool) (vals vals' : List D) : PK := ⟨loopAsk c E base noFrame x ds ora vals vals', h _ _ _ _⟩
theorem con_pc {op : Bool} {I : List Nat} {sp : List LSpec} (n : Nat) {g : FuncId} {ds : List D} {r : D} (ora : List Bool) (res : List D) (pcs : List PC) (pks : List PK)
    (h : okOut (run (ctxS op I sp) n (.enter g (avOfL 0 ds).1) ⟨[], (avOfL 0 ds).2.1, (avOfL 0 ds).2.2, ora, ⟨res, noFrame⟩⟩) = some (r, pairsC pcs, asksK pks)) : Con g ds r :=
  con_of h (pairsC_ok pcs) (asksK_ok pks)
theorem step_pc {I : List Nat} {sp : List LSpec} {l : LoopAt} {S1 : List AV × AHeap} {g : Option GS} {x : AX} (fuel : Nat) (ora : List Bool) (vals : List D) (pcs : List PC) (pks : List PK)
    (r : Option Out) (hr : r = run (ctx I sp) fuel (.code l.f l.c) ⟨S1.1, S1.2, l.nx, ora, ⟨vals, l.fr⟩⟩) (h1 : r = some (outOf r))
    (h2 : ((outOf r).x, (outOf r).st.res.fr, (outOf r).log, (outOf r).st.tmps) = (x, l.fr, ⟨pairsC pcs, asksK pks⟩, AV.renL (qOf l.base (nsOf g) ((outOf r).st.tmps, (outOf r).st.heap)) (aOf l.base (nsOf g) ((outOf r).st.tmps, (outOf r).st.heap)) (stateOf g).1))
    (h3 : (stateOf g).2.map (fun e => hget (outOf r).st.heap (qOf l.base (nsOf g) ((outOf r).st.tmps, (outOf r).st.heap) e.1)) = (stateOf g).2.map (fun e => some (⟨AV.renL (qOf l.base (nsOf g) ((outOf r).st.tmps, (outOf r).st.heap)) (aOf l.base (nsOf g) ((outOf r).st.tmps, (outOf r).st.heap)) e.2.cells, e.2.opn, e.2.kind⟩ : ABlock)))
    (h4 : (namesIn l.nx (stateOf g).2 && distinctBy (qOf l.base (nsOf g) ((outOf r).st.tmps, (outOf r).st.heap)) (stateOf g).2 && aboveBy l.low l.base (qOf l.base (nsOf g) ((outOf r).st.tmps, (outOf r).st.heap)) (stateOf g).2) = true)
    (h5 : (AV.okL l.nx S1.1 && Nat.ble l.low (outOf r).low) = true) (h6 : (List.range l.low).map (hget (stateOf g).2) = (List.range l.low).map (hget S1.2)) : Step (ctx I sp) Tabs l S1 (stateOf g) x :=
  step_of r hr h1 h2 h3 h4 h5 h6 rfl (pairsC_ok pcs) (asksK_ok pks)
end
end Go.Proofs.Ytjjbacbjdilhmaa
/- The stage's examples hold. -/
namespace Go.Proofs.Ytjjbacbjdilhmaa
open Go.Ev Go.RowKit
set_option maxRecDepth 100000
noncomputable section
theorem aw_all : Con 9 [] (.one (.bool true)) :=
  con_ofK (S := [(109, 3000009), (109, 3000036)]) (K := []) (sp := []) (n := 60000) (ora := []) (res := []) (conds := [(false, false), (false, false), (false, false), (false, false), (false, false), (false, false), (false, false), (false, false), (false, false), (false, false), (false, false), (false, false), (false, false), (false, false), (false, false), (false, false), (false, false), (false, false), (false, false), (false, false), (false, false), (false, false), (false, false), (false, false), (false, false), (false, false), (false, false), (false, false), (false, false), (false, false), (false, false), (false, false), (false, false), (false, false), (false, false), (false, false), (false, false), (false, false), (false, false), (false, false), (false, false), (false, false), (false, false), (false, false), (false, false), (false, false), (false, false), (false, false), (false, false), (false, false), (false, false), (false, false), (false, false), (false, false), (false, false), (false, false)]) (cls := [])
    (by kernel_rfl) ⟨rfl, rfl, rfl, rfl, rfl, rfl, rfl, rfl, rfl, rfl, rfl, rfl, rfl, rfl, rfl, rfl, rfl, rfl, rfl, rfl, rfl, rfl, rfl, rfl, rfl, rfl, rfl, rfl, rfl, rfl, rfl, rfl, rfl, rfl, rfl, rfl, rfl, rfl, rfl, rfl, rfl, rfl, rfl, rfl, rfl, rfl, rfl, rfl, rfl, rfl, rfl, rfl, rfl, rfl, rfl, rfl, trivial⟩ trivial
def m_9 (ds : List D) : Option D := pullD (some (.tup ds)) (fun _ => ()) (fun _ => .tup []) fun _ => some (.one (.bool true))
theorem m_9_ok {ds : List D} {r : D} (h : m_9 ds = some r) : Con 9 ds r := by
  unfold m_9 at h
  obtain ⟨⟨⟩, e0, h0⟩ := pullD_elim h
  obtain rfl := tup_inj e0
  obtain rfl := Option.some.inj h0
  exact aw_all
theorem m_9_eq : m_9 [] = some (.one (.bool true)) := pullD_some () rfl rfl
end
end Go.Proofs.Ytjjbacbjdilhmaa
namespace Go.Proofs.Ytjjbacbjdilhmaa
open Go.Ev Go.RowKit
set_option maxRecDepth 100000
set_option maxHeartbeats 8000000
set_option linter.all false
noncomputable section
def firstOf_x2_0 : LExit := ⟨some 0, [], (2 :: (4 :: (List.range' 7 8)))⟩
def firstOf_x2_1 : LExit := ⟨none, [.val 2], (4 :: (List.range' 7 8))⟩
def firstOf_sp : List LSpec := [⟨50, 2, [firstOf_x2_0, firstOf_x2_1]⟩]
def firstOf_L2_E (k : Nat) (c : List D)  : List AV × AHeap := ([.dsl 0, .pure (.tuple #[]), .pure (.int .i64 (0 : Int)), .pure (.tuple #[]), .pure (.tuple #[]), .dsl 0, .pure (.int .i64 (k : Int)), .pure (.int .i64 (0 : Int)), .pure (.tuple #[]), .pure (.tuple #[]), .pure (.tuple #[]), .pure (.tuple #[]), .pure (.tuple #[]), .pure (.tuple #[]), .pure (.tuple #[])], [(0, { cells := [], opn := none, kind := .deep k c })])
def firstOf_L2_A : LoopAt := ⟨50, loopAt Try.prog 50 0, 1, 11, 1, noFrame⟩
theorem firstOf_L2_ok : (firstOf_L2_A).OK := ⟨by show 1 ≤ 11; decide, by show 1 ≤ 1; decide, by kernel_rfl, rfl⟩
def firstOf_L2_gs (k : Nat) (c : List D)  : Go.Ev.Rd → Option GS
  | .next 0 ds => ghost [.val 7] (2 :: (4 :: (List.range' 8 7))) (firstOf_L2_E k c).1 (firstOf_L2_E k c).2 1 ds
  | .out 0 ds => ghost firstOf_x2_0.live firstOf_x2_0.junk (firstOf_L2_E k c).1 (firstOf_L2_E k c).2 1 ds
  | .out 1 ds => ghost firstOf_x2_1.live firstOf_x2_1.junk (firstOf_L2_E k c).1 (firstOf_L2_E k c).2 1 ds
  | _ => none
def firstOf_L2_ex : Nat → Option Nat
  | 0 => firstOf_x2_0.ex
  | 1 => firstOf_x2_1.ex
  | _ => none
def firstOf_L2_ax : Go.Ev.Rd → AX
  | .next _ _ => .normal
  | .out j _ => axOf (firstOf_L2_ex j)
def firstOf_L2_S0 (k : Nat) (c : List D)  (ds : List D) : Option Go.Ev.Rd := pullD (α := Int) (some (.tup ds)) (fun d => ((D.vi (D.at d 0)))) (fun s7 => .tup [iD s7]) fun s7 => ((if s7 < (k : Int) then guardP ((0 : Int) ≤ s7 ∧ s7.toNat < k) (pullD (α := Int) (readD c (s7.toNat * 1) 1 false) (fun d => ((D.vi d))) (fun v0 => iD v0) fun v0 => ((if v0 ≠ (0 : Int) then some (.out 1 [iD v0]) else some (.next 0 [iD (IntKind.i64.wrap (s7 + (1 : Int)))])))) else some (.out 0 [])))
def firstOf_L2_S (k : Nat) (c : List D)  : Go.Ev.Rd → Option Go.Ev.Rd
  | .next 0 ds => firstOf_L2_S0 k c ds
  | _ => none
theorem firstOf_L2_S_ok (k : Nat) (c : List D)  : ∀ s_ t_, firstOf_L2_S k c s_ = some t_ → Step (ctx [50] firstOf_sp) Tabs firstOf_L2_A (stateOf (firstOf_L2_gs k c s_)) (stateOf (firstOf_L2_gs k c t_)) (firstOf_L2_ax t_) ∧ EndOK firstOf_L2_A.nx firstOf_L2_A.low (firstOf_L2_gs k c) t_
  | .next 0 ds, t_, h => by
    have h_ : firstOf_L2_S0 k c ds = some t_ := h
    clear h
    unfold firstOf_L2_S0 at h_
    obtain ⟨s7, e0, h0⟩ := pullD_elim h_
    clear h_
    obtain rfl := tup_inj e0
    by_cases b1_ : s7 < (k : Int)
    · have h2_ := (if_pos b1_).symm.trans h0
      obtain ⟨f3_, h4_⟩ := guardP_elim h2_
      obtain ⟨v0, f5_, h6_⟩ := pullD_elim h4_
      replace f5_ := readD_elim f5_
      by_cases b7_ : v0 ≠ (0 : Int)
      · have h8_ := (if_pos b7_).symm.trans h6_
        obtain rfl := Option.some.inj h8_
        exact ⟨step_pc 3000 (bT 2 []) [iD v0] [c_d b1_, c_f f3_, c_f f5_, c_b b7_] [] _ rfl (by kernel_rfl) (by kernel_rfl) (by kernel_rfl) (by kernel_rfl) (by kernel_rfl) (by kernel_rfl), by kernel_rfl, by kernel_rfl⟩
      have h8_ := (if_neg b7_).symm.trans h6_
      have b9_ : v0 = (0 : Int) := by first | exact b7_ | simpa using b7_
      obtain rfl := Option.some.inj h8_
      exact ⟨step_pc 3000 (bT 1 (bF 1 [])) [iD v0] [c_d b1_, c_f f3_, c_f f5_, c_bn b9_] [] _ rfl (by kernel_rfl) (by kernel_rfl) (by kernel_rfl) (by kernel_rfl) (by kernel_rfl) (by kernel_rfl), trivial⟩
    have h2_ := (if_neg b1_).symm.trans h0
    obtain rfl := Option.some.inj h2_
    exact ⟨step_pc 3000 (bF 1 []) [] [c_n b1_] [] _ rfl (by kernel_rfl) (by kernel_rfl) (by kernel_rfl) (by kernel_rfl) (by kernel_rfl) (by kernel_rfl), by kernel_rfl, by kernel_rfl⟩
  | .next (_ + 1) _, _, h => by cases h
  | .out _ _, _, h => by cases h
theorem firstOf_L2_go (k : Nat) (c : List D)  {q : Nat} {ds : List D} {j : Nat} {es : List D} (h : runR (firstOf_L2_S k c) (.next q ds) = some (.out j es)) : Runs (ctx [50] firstOf_sp) Tabs firstOf_L2_A (stateOf (firstOf_L2_gs k c (.next q ds))) (stateOf (firstOf_L2_gs k c (.out j es))) (firstOf_L2_ax (.out j es)) ∧ (nxtOf (firstOf_L2_gs k c (.out j es)), lowGS (firstOf_L2_gs k c (.out j es))) = (firstOf_L2_A.nx, firstOf_L2_A.low) :=
  runs_of' (good true _ _) firstOf_L2_ok (ax := firstOf_L2_ax) (fun _ _ => rfl) (fun _ _ => axOf_end _) (firstOf_L2_S_ok k c) h
theorem firstOf_L2_in0 (k : Nat) (c : List D)  {es : List D} (h : runR (firstOf_L2_S k c) (.next 0 [iD ((0 : Int))]) = some (.out 0 es)) : LoopC (loopAt Try.prog 50 0) (firstOf_L2_E k c) 1 noFrame firstOf_x2_0 es :=
  have r := firstOf_L2_go k c h
  loopin_as rfl (loop_in (l := firstOf_L2_A) (E := (firstOf_L2_E k c)) (S := stateOf (firstOf_L2_gs k c (.next 0 [iD ((0 : Int))]))) (ns := nsOf (firstOf_L2_gs k c (.next 0 [iD ((0 : Int))]))) firstOf_L2_ok r.1 r.2 (by kernel_rfl) (by kernel_rfl) (by kernel_rfl) (by kernel_rfl))
theorem firstOf_L2_in1 (k : Nat) (c : List D)  {es : List D} (h : runR (firstOf_L2_S k c) (.next 0 [iD ((0 : Int))]) = some (.out 1 es)) : LoopC (loopAt Try.prog 50 0) (firstOf_L2_E k c) 1 noFrame firstOf_x2_1 es :=
  have r := firstOf_L2_go k c h
  loopin_as rfl (loop_in (l := firstOf_L2_A) (E := (firstOf_L2_E k c)) (S := stateOf (firstOf_L2_gs k c (.next 0 [iD ((0 : Int))]))) (ns := nsOf (firstOf_L2_gs k c (.next 0 [iD ((0 : Int))]))) firstOf_L2_ok r.1 r.2 (by kernel_rfl) (by kernel_rfl) (by kernel_rfl) (by kernel_rfl))
def firstOf_M (k : Nat) (c : List D) : Option D := bindL (runR (firstOf_L2_S k c) (.next 0 [iD ((0 : Int))])) fun j ds => (if j = 0 then pullD (some (.tup ds)) (fun _ => ()) (fun _ => .tup []) fun _ => (some (iD (0 : Int))) else if j = 1 then pullD (α := Int) (some (.tup ds)) (fun d => ((D.vi (D.at d 0)))) (fun l0 => .tup [iD l0]) fun l0 => (some (iD l0)) else none)
theorem firstOf_M_ok (k : Nat) (c : List D) {r : D} (h : firstOf_M k c = some r) : Con 50 [.list k c] r := by
  unfold firstOf_M at h
  obtain ⟨j, ds, e1_, h2_⟩ := bindL_elim h
  by_cases j3_ : j = 0
  · have h6_ := (if_pos j3_).symm.trans h2_
    clear h2_
    subst j3_
    obtain ⟨⟨⟩, e4_, h7_⟩ := pullD_elim h6_
    clear h6_
    obtain rfl := tup_inj e4_
    have k5_ := firstOf_L2_in0 k c e1_
    obtain rfl := Option.some.inj h7_
    exact con_pc (op := true) (I := [50]) (sp := firstOf_sp) 3000 [] [.tup [iD (Int.ofNat 0)]] [] [k_l k5_ [] [.tup [iD (Int.ofNat 0)]] []] (by kernel_rfl)
  have h8_ := (if_neg j3_).symm.trans h2_
  clear h2_
  by_cases j9_ : j = 1
  · have h12_ := (if_pos j9_).symm.trans h8_
    clear h8_
    subst j9_
    obtain ⟨l0, e10_, h13_⟩ := pullD_elim h12_
    clear h12_
    obtain rfl := tup_inj e10_
    have k11_ := firstOf_L2_in1 k c e1_
    obtain rfl := Option.some.inj h13_
    exact con_pc (op := true) (I := [50]) (sp := firstOf_sp) 3000 [] [.tup [iD (Int.ofNat 1), iD l0]] [] [k_l k11_ [] [.tup [iD (Int.ofNat 1), iD l0]] []] (by kernel_rfl)
  have h14_ := (if_neg j9_).symm.trans h8_
  clear h8_
  cases h14_
def m_50 (ds : List D) : Option D := pullD (α := Nat × (List D)) (some (.tup ds)) (fun d => ((D.ln (D.at d 0)), (D.lc (D.at d 0)))) (fun (k, c) => .tup [.list k c]) fun (k, c) => firstOf_M k c
theorem m_50_ok {ds : List D} {r : D} (h : m_50 ds = some r) : Con 50 ds r := by
  unfold m_50 at h
  obtain ⟨⟨k, c⟩, e0, h0⟩ := pullD_elim h
  obtain rfl := tup_inj e0
  exact firstOf_M_ok k c h0
theorem m_50_eq (k : Nat) (c : List D) : m_50 [.list k c] = firstOf_M k c := pullD_some (k, c) rfl rfl
def inOrder_x2_0 : LExit := ⟨some 0, [], (2 :: (4 :: (List.range' 7 10)))⟩
def inOrder_x2_1 : LExit := ⟨none, [.val 2], (4 :: (List.range' 7 10))⟩
def inOrder_sp : List LSpec := [⟨64, 2, [inOrder_x2_0, inOrder_x2_1]⟩]
def inOrder_L2_E (k : Nat) (c : List D)  : List AV × AHeap := ([.dsl 0, .pure (.tuple #[]), .pure (.int .i64 (0 : Int)), .pure (.tuple #[]), .pure (.tuple #[]), .dsl 0, .pure (.int .i64 (k : Int)), .pure (.int .i64 (0 : Int)), .pure (.tuple #[]), .pure (.tuple #[]), .pure (.tuple #[]), .pure (.tuple #[]), .pure (.tuple #[]), .pure (.tuple #[]), .pure (.tuple #[]), .pure (.tuple #[]), .pure (.tuple #[])], [(0, { cells := [], opn := none, kind := .deep k c })])
def inOrder_L2_A : LoopAt := ⟨64, loopAt Try.prog 64 0, 1, 13, 1, noFrame⟩
theorem inOrder_L2_ok : (inOrder_L2_A).OK := ⟨by show 1 ≤ 13; decide, by show 1 ≤ 1; decide, by kernel_rfl, rfl⟩
def inOrder_L2_gs (k : Nat) (c : List D)  : Go.Ev.Rd → Option GS
  | .next 0 ds => ghost [.val 7] (2 :: (4 :: (List.range' 8 9))) (inOrder_L2_E k c).1 (inOrder_L2_E k c).2 1 ds
  | .out 0 ds => ghost inOrder_x2_0.live inOrder_x2_0.junk (inOrder_L2_E k c).1 (inOrder_L2_E k c).2 1 ds
  | .out 1 ds => ghost inOrder_x2_1.live inOrder_x2_1.junk (inOrder_L2_E k c).1 (inOrder_L2_E k c).2 1 ds
  | _ => none
def inOrder_L2_ex : Nat → Option Nat
  | 0 => inOrder_x2_0.ex
  | 1 => inOrder_x2_1.ex
  | _ => none
def inOrder_L2_ax : Go.Ev.Rd → AX
  | .next _ _ => .normal
  | .out j _ => axOf (inOrder_L2_ex j)
def inOrder_L2_S0 (k : Nat) (c : List D)  (ds : List D) : Option Go.Ev.Rd := pullD (α := Int) (some (.tup ds)) (fun d => ((D.vi (D.at d 0)))) (fun s7 => .tup [iD s7]) fun s7 => ((if s7 < (k : Int) then guardP ((0 : Int) ≤ s7 ∧ s7.toNat < k) (pullD (α := Int × Int) (readD c (s7.toNat * 2) 2 true) (fun d => ((D.vi (D.at d 0)), (D.vi (D.at d 1)))) (fun (v0, v1) => .agg [iD v0, iD v1]) fun (v0, v1) => ((if v0 > v1 then some (.out 1 [iD (9 : Int)]) else some (.next 0 [iD (IntKind.i64.wrap (s7 + (1 : Int)))])))) else some (.out 0 [])))
def inOrder_L2_S (k : Nat) (c : List D)  : Go.Ev.Rd → Option Go.Ev.Rd
  | .next 0 ds => inOrder_L2_S0 k c ds
  | _ => none
theorem inOrder_L2_S_ok (k : Nat) (c : List D)  : ∀ s_ t_, inOrder_L2_S k c s_ = some t_ → Step (ctx [64] inOrder_sp) Tabs inOrder_L2_A (stateOf (inOrder_L2_gs k c s_)) (stateOf (inOrder_L2_gs k c t_)) (inOrder_L2_ax t_) ∧ EndOK inOrder_L2_A.nx inOrder_L2_A.low (inOrder_L2_gs k c) t_
  | .next 0 ds, t_, h => by
    have h_ : inOrder_L2_S0 k c ds = some t_ := h
    clear h
    unfold inOrder_L2_S0 at h_
    obtain ⟨s7, e0, h0⟩ := pullD_elim h_
    clear h_
    obtain rfl := tup_inj e0
    by_cases b1_ : s7 < (k : Int)
    · have h2_ := (if_pos b1_).symm.trans h0
      obtain ⟨f3_, h4_⟩ := guardP_elim h2_
      obtain ⟨⟨v0, v1⟩, f5_, h6_⟩ := pullD_elim h4_
      replace f5_ := readD_elim f5_
      by_cases b7_ : v0 > v1
      · have h8_ := (if_pos b7_).symm.trans h6_
        obtain rfl := Option.some.inj h8_
        exact ⟨step_pc 3000 (bT 2 []) [.agg [iD v0, iD v1]] [c_d b1_, c_f f3_, c_f f5_, c_d b7_] [] _ rfl (by kernel_rfl) (by kernel_rfl) (by kernel_rfl) (by kernel_rfl) (by kernel_rfl) (by kernel_rfl), by kernel_rfl, by kernel_rfl⟩
      have h8_ := (if_neg b7_).symm.trans h6_
      obtain rfl := Option.some.inj h8_
      exact ⟨step_pc 3000 (bT 1 (bF 1 [])) [.agg [iD v0, iD v1]] [c_d b1_, c_f f3_, c_f f5_, c_n b7_] [] _ rfl (by kernel_rfl) (by kernel_rfl) (by kernel_rfl) (by kernel_rfl) (by kernel_rfl) (by kernel_rfl), trivial⟩
    have h2_ := (if_neg b1_).symm.trans h0
    obtain rfl := Option.some.inj h2_
    exact ⟨step_pc 3000 (bF 1 []) [] [c_n b1_] [] _ rfl (by kernel_rfl) (by kernel_rfl) (by kernel_rfl) (by kernel_rfl) (by kernel_rfl) (by kernel_rfl), by kernel_rfl, by kernel_rfl⟩
  | .next (_ + 1) _, _, h => by cases h
  | .out _ _, _, h => by cases h
theorem inOrder_L2_go (k : Nat) (c : List D)  {q : Nat} {ds : List D} {j : Nat} {es : List D} (h : runR (inOrder_L2_S k c) (.next q ds) = some (.out j es)) : Runs (ctx [64] inOrder_sp) Tabs inOrder_L2_A (stateOf (inOrder_L2_gs k c (.next q ds))) (stateOf (inOrder_L2_gs k c (.out j es))) (inOrder_L2_ax (.out j es)) ∧ (nxtOf (inOrder_L2_gs k c (.out j es)), lowGS (inOrder_L2_gs k c (.out j es))) = (inOrder_L2_A.nx, inOrder_L2_A.low) :=
  runs_of' (good true _ _) inOrder_L2_ok (ax := inOrder_L2_ax) (fun _ _ => rfl) (fun _ _ => axOf_end _) (inOrder_L2_S_ok k c) h
theorem inOrder_L2_in0 (k : Nat) (c : List D)  {es : List D} (h : runR (inOrder_L2_S k c) (.next 0 [iD ((0 : Int))]) = some (.out 0 es)) : LoopC (loopAt Try.prog 64 0) (inOrder_L2_E k c) 1 noFrame inOrder_x2_0 es :=
  have r := inOrder_L2_go k c h
  loopin_as rfl (loop_in (l := inOrder_L2_A) (E := (inOrder_L2_E k c)) (S := stateOf (inOrder_L2_gs k c (.next 0 [iD ((0 : Int))]))) (ns := nsOf (inOrder_L2_gs k c (.next 0 [iD ((0 : Int))]))) inOrder_L2_ok r.1 r.2 (by kernel_rfl) (by kernel_rfl) (by kernel_rfl) (by kernel_rfl))
theorem inOrder_L2_in1 (k : Nat) (c : List D)  {es : List D} (h : runR (inOrder_L2_S k c) (.next 0 [iD ((0 : Int))]) = some (.out 1 es)) : LoopC (loopAt Try.prog 64 0) (inOrder_L2_E k c) 1 noFrame inOrder_x2_1 es :=
  have r := inOrder_L2_go k c h
  loopin_as rfl (loop_in (l := inOrder_L2_A) (E := (inOrder_L2_E k c)) (S := stateOf (inOrder_L2_gs k c (.next 0 [iD ((0 : Int))]))) (ns := nsOf (inOrder_L2_gs k c (.next 0 [iD ((0 : Int))]))) inOrder_L2_ok r.1 r.2 (by kernel_rfl) (by kernel_rfl) (by kernel_rfl) (by kernel_rfl))
def inOrder_M (k : Nat) (c : List D) : Option D := bindL (runR (inOrder_L2_S k c) (.next 0 [iD ((0 : Int))])) fun j ds => (if j = 0 then pullD (some (.tup ds)) (fun _ => ()) (fun _ => .tup []) fun _ => (some (iD (0 : Int))) else if j = 1 then pullD (α := Int) (some (.tup ds)) (fun d => ((D.vi (D.at d 0)))) (fun l0 => .tup [iD l0]) fun l0 => (some (iD l0)) else none)
theorem inOrder_M_ok (k : Nat) (c : List D) {r : D} (h : inOrder_M k c = some r) : Con 64 [.list k c] r := by
  unfold inOrder_M at h
  obtain ⟨j, ds, e1_, h2_⟩ := bindL_elim h
  by_cases j3_ : j = 0
  · have h6_ := (if_pos j3_).symm.trans h2_
    clear h2_
    subst j3_
    obtain ⟨⟨⟩, e4_, h7_⟩ := pullD_elim h6_
    clear h6_
    obtain rfl := tup_inj e4_
    have k5_ := inOrder_L2_in0 k c e1_
    obtain rfl := Option.some.inj h7_
    exact con_pc (op := true) (I := [64]) (sp := inOrder_sp) 3000 [] [.tup [iD (Int.ofNat 0)]] [] [k_l k5_ [] [.tup [iD (Int.ofNat 0)]] []] (by kernel_rfl)
  have h8_ := (if_neg j3_).symm.trans h2_
  clear h2_
  by_cases j9_ : j = 1
  · have h12_ := (if_pos j9_).symm.trans h8_
    clear h8_
    subst j9_
    obtain ⟨l0, e10_, h13_⟩ := pullD_elim h12_
    clear h12_
    obtain rfl := tup_inj e10_
    have k11_ := inOrder_L2_in1 k c e1_
    obtain rfl := Option.some.inj h13_
    exact con_pc (op := true) (I := [64]) (sp := inOrder_sp) 3000 [] [.tup [iD (Int.ofNat 1), iD l0]] [] [k_l k11_ [] [.tup [iD (Int.ofNat 1), iD l0]] []] (by kernel_rfl)
  have h14_ := (if_neg j9_).symm.trans h8_
  clear h8_
  cases h14_
def m_64 (ds : List D) : Option D := pullD (α := Nat × (List D)) (some (.tup ds)) (fun d => ((D.ln (D.at d 0)), (D.lc (D.at d 0)))) (fun (k, c) => .tup [.list k c]) fun (k, c) => inOrder_M k c
theorem m_64_ok {ds : List D} {r : D} (h : m_64 ds = some r) : Con 64 ds r := by
  unfold m_64 at h
  obtain ⟨⟨k, c⟩, e0, h0⟩ := pullD_elim h
  obtain rfl := tup_inj e0
  exact inOrder_M_ok k c h0
theorem m_64_eq (k : Nat) (c : List D) : m_64 [.list k c] = inOrder_M k c := pullD_some (k, c) rfl rfl
def within_sp : List LSpec := []
def within_M (n lo hi : Int) : Option D := (if lo ≤ n then some (.one (.bool (decide (n ≤ hi)))) else some (.one (.bool false)))
theorem within_M_ok (n lo hi : Int) {r : D} (h : within_M n lo hi = some r) : Con 24 [iD n, iD lo, iD hi] r := by
  unfold within_M at h
  by_cases b1_ : lo ≤ n
  · have h2_ := (if_pos b1_).symm.trans h
    obtain rfl := Option.some.inj h2_
    exact con_pc (op := true) (I := [24]) (sp := within_sp) 3000 (bT 4 []) [] [c_d b1_, c_d b1_, c_d b1_, c_d b1_] [] (by kernel_rfl)
  have h2_ := (if_neg b1_).symm.trans h
  obtain rfl := Option.some.inj h2_
  exact con_pc (op := true) (I := [24]) (sp := within_sp) 3000 (bF 4 []) [] [c_n b1_, c_n b1_, c_n b1_, c_n b1_] [] (by kernel_rfl)
def m_24 (ds : List D) : Option D := pullD (α := Int × Int × Int) (some (.tup ds)) (fun d => ((D.vi (D.at d 0)), (D.vi (D.at d 1)), (D.vi (D.at d 2)))) (fun (n, lo, hi) => .tup [iD n, iD lo, iD hi]) fun (n, lo, hi) => within_M n lo hi
theorem m_24_ok {ds : List D} {r : D} (h : m_24 ds = some r) : Con 24 ds r := by
  unfold m_24 at h
  obtain ⟨⟨n, lo, hi⟩, e0, h0⟩ := pullD_elim h
  obtain rfl := tup_inj e0
  exact within_M_ok n lo hi h0
theorem m_24_eq (n lo hi : Int) : m_24 [iD n, iD lo, iD hi] = within_M n lo hi := pullD_some (n, lo, hi) rfl rfl
def rdown_sp : List LSpec := []
def rdown_M (n d : Int) : Option D := guardP (d ≠ (0 : Int)) ((if n.tmod d < (0 : Int) then some (iD (IntKind.i64.wrap (IntKind.i64.wrap (n.tdiv d) - (1 : Int)))) else some (iD (IntKind.i64.wrap (n.tdiv d)))))
theorem rdown_M_ok (n d : Int) {r : D} (h : rdown_M n d = some r) : Con 67 [iD n, iD d] r := by
  unfold rdown_M at h
  obtain ⟨f1_, h2_⟩ := guardP_elim h
  by_cases b3_ : n.tmod d < (0 : Int)
  · have h4_ := (if_pos b3_).symm.trans h2_
    obtain rfl := Option.some.inj h4_
    exact con_pc (op := true) (I := [67]) (sp := rdown_sp) 3000 (bT 1 []) [] [c_en f1_, c_en f1_, c_d b3_] [] (by kernel_rfl)
  have h4_ := (if_neg b3_).symm.trans h2_
  obtain rfl := Option.some.inj h4_
  exact con_pc (op := true) (I := [67]) (sp := rdown_sp) 3000 (bF 1 []) [] [c_en f1_, c_en f1_, c_n b3_] [] (by kernel_rfl)
def m_67 (ds : List D) : Option D := pullD (α := Int × Int) (some (.tup ds)) (fun d => ((D.vi (D.at d 0)), (D.vi (D.at d 1)))) (fun (n, d) => .tup [iD n, iD d]) fun (n, d) => rdown_M n d
theorem m_67_ok {ds : List D} {r : D} (h : m_67 ds = some r) : Con 67 ds r := by
  unfold m_67 at h
  obtain ⟨⟨n, d⟩, e0, h0⟩ := pullD_elim h
  obtain rfl := tup_inj e0
  exact rdown_M_ok n d h0
theorem m_67_eq (n d : Int) : m_67 [iD n, iD d] = rdown_M n d := pullD_some (n, d) rfl rfl
def rup_sp : List LSpec := []
def rup_M (n d : Int) : Option D := pullD (α := Int) (m_67 [iD (IntKind.i64.wrap ((0 : Int) - n)), iD d]) (fun d => ((D.vi d))) (fun r0 => iD r0) fun r0 => (some (iD (IntKind.i64.wrap ((0 : Int) - r0))))
theorem rup_M_ok (n d : Int) {r : D} (h : rup_M n d = some r) : Con 68 [iD n, iD d] r := by
  unfold rup_M at h
  obtain ⟨r0, f1_, h2_⟩ := pullD_elim h
  replace f1_ := m_67_ok f1_
  obtain rfl := Option.some.inj h2_
  exact con_pc (op := true) (I := [68]) (sp := rup_sp) 3000 [] [iD r0] [] [k_c f1_] (by kernel_rfl)
def m_68 (ds : List D) : Option D := pullD (α := Int × Int) (some (.tup ds)) (fun d => ((D.vi (D.at d 0)), (D.vi (D.at d 1)))) (fun (n, d) => .tup [iD n, iD d]) fun (n, d) => rup_M n d
theorem m_68_ok {ds : List D} {r : D} (h : m_68 ds = some r) : Con 68 ds r := by
  unfold m_68 at h
  obtain ⟨⟨n, d⟩, e0, h0⟩ := pullD_elim h
  obtain rfl := tup_inj e0
  exact rup_M_ok n d h0
theorem m_68_eq (n d : Int) : m_68 [iD n, iD d] = rup_M n d := pullD_some (n, d) rfl rfl
def rounded_sp : List LSpec := []
def rounded_M (lo hi d : Int) : Option D := pullD (α := Int) (m_67 [iD lo, iD d]) (fun d => ((D.vi d))) (fun r0 => iD r0) fun r0 => (pullD (α := Int) (m_68 [iD hi, iD d]) (fun d => ((D.vi d))) (fun r1 => iD r1) fun r1 => (some (.agg [iD r0, iD r1])))
theorem rounded_M_ok (lo hi d : Int) {r : D} (h : rounded_M lo hi d = some r) : Con 62 [iD lo, iD hi, iD d] r := by
  unfold rounded_M at h
  obtain ⟨r0, f1_, h2_⟩ := pullD_elim h
  replace f1_ := m_67_ok f1_
  obtain ⟨r1, f3_, h4_⟩ := pullD_elim h2_
  replace f3_ := m_68_ok f3_
  obtain rfl := Option.some.inj h4_
  exact con_pc (op := true) (I := [62]) (sp := rounded_sp) 3000 [] [iD r0, iD r1] [] [k_c f1_, k_c f3_] (by kernel_rfl)
def m_62 (ds : List D) : Option D := pullD (α := Int × Int × Int) (some (.tup ds)) (fun d => ((D.vi (D.at d 0)), (D.vi (D.at d 1)), (D.vi (D.at d 2)))) (fun (lo, hi, d) => .tup [iD lo, iD hi, iD d]) fun (lo, hi, d) => rounded_M lo hi d
theorem m_62_ok {ds : List D} {r : D} (h : m_62 ds = some r) : Con 62 ds r := by
  unfold m_62 at h
  obtain ⟨⟨lo, hi, d⟩, e0, h0⟩ := pullD_elim h
  obtain rfl := tup_inj e0
  exact rounded_M_ok lo hi d h0
theorem m_62_eq (lo hi d : Int) : m_62 [iD lo, iD hi, iD d] = rounded_M lo hi d := pullD_some (lo, hi, d) rfl rfl
def floor_sp : List LSpec := []
def floor_M (n d : Int) : Option D := guardP (d ≠ (0 : Int)) ((if n.tmod d < (0 : Int) then some (iD (IntKind.i64.wrap (IntKind.i64.wrap (n.tdiv d) - (1 : Int)))) else some (iD (IntKind.i64.wrap (n.tdiv d)))))
theorem floor_M_ok (n d : Int) {r : D} (h : floor_M n d = some r) : Con 65 [iD n, iD d] r := by
  unfold floor_M at h
  obtain ⟨f1_, h2_⟩ := guardP_elim h
  by_cases b3_ : n.tmod d < (0 : Int)
  · have h4_ := (if_pos b3_).symm.trans h2_
    obtain rfl := Option.some.inj h4_
    exact con_pc (op := true) (I := [65]) (sp := floor_sp) 3000 (bT 1 []) [] [c_en f1_, c_en f1_, c_d b3_] [] (by kernel_rfl)
  have h4_ := (if_neg b3_).symm.trans h2_
  obtain rfl := Option.some.inj h4_
  exact con_pc (op := true) (I := [65]) (sp := floor_sp) 3000 (bF 1 []) [] [c_en f1_, c_en f1_, c_n b3_] [] (by kernel_rfl)
def m_65 (ds : List D) : Option D := pullD (α := Int × Int) (some (.tup ds)) (fun d => ((D.vi (D.at d 0)), (D.vi (D.at d 1)))) (fun (n, d) => .tup [iD n, iD d]) fun (n, d) => floor_M n d
theorem m_65_ok {ds : List D} {r : D} (h : m_65 ds = some r) : Con 65 ds r := by
  unfold m_65 at h
  obtain ⟨⟨n, d⟩, e0, h0⟩ := pullD_elim h
  obtain rfl := tup_inj e0
  exact floor_M_ok n d h0
theorem m_65_eq (n d : Int) : m_65 [iD n, iD d] = floor_M n d := pullD_some (n, d) rfl rfl
def ceil_sp : List LSpec := []
def ceil_M (n d : Int) : Option D := pullD (α := Int) (m_65 [iD (IntKind.i64.wrap ((0 : Int) - n)), iD d]) (fun d => ((D.vi d))) (fun r0 => iD r0) fun r0 => (some (iD (IntKind.i64.wrap ((0 : Int) - r0))))
theorem ceil_M_ok (n d : Int) {r : D} (h : ceil_M n d = some r) : Con 66 [iD n, iD d] r := by
  unfold ceil_M at h
  obtain ⟨r0, f1_, h2_⟩ := pullD_elim h
  replace f1_ := m_65_ok f1_
  obtain rfl := Option.some.inj h2_
  exact con_pc (op := true) (I := [66]) (sp := ceil_sp) 3000 [] [iD r0] [] [k_c f1_] (by kernel_rfl)
def m_66 (ds : List D) : Option D := pullD (α := Int × Int) (some (.tup ds)) (fun d => ((D.vi (D.at d 0)), (D.vi (D.at d 1)))) (fun (n, d) => .tup [iD n, iD d]) fun (n, d) => ceil_M n d
theorem m_66_ok {ds : List D} {r : D} (h : m_66 ds = some r) : Con 66 ds r := by
  unfold m_66 at h
  obtain ⟨⟨n, d⟩, e0, h0⟩ := pullD_elim h
  obtain rfl := tup_inj e0
  exact ceil_M_ok n d h0
theorem m_66_eq (n d : Int) : m_66 [iD n, iD d] = ceil_M n d := pullD_some (n, d) rfl rfl
end
end Go.Proofs.Ytjjbacbjdilhmaa
namespace Go.Proofs.Ytjjbacbjdilhmaa
open Go.Ev Go.RowKit
set_option maxRecDepth 100000
set_option maxHeartbeats 8000000
set_option linter.all false
noncomputable section
def lossParts_sp : List LSpec := []
def lossParts_M (a b c : Int) : Option D := some (iD (IntKind.i64.wrap (IntKind.i64.wrap (a * (1000000 : Int)) - IntKind.i64.wrap (b * c))))
theorem lossParts_M_ok (a b c : Int) {r : D} (h : lossParts_M a b c = some r) : Con 78 [iD a, iD b, iD c] r := by
  unfold lossParts_M at h
  obtain rfl := Option.some.inj h
  exact con_pc (op := true) (I := [78]) (sp := lossParts_sp) 3000 [] [] [] [] (by kernel_rfl)
def m_78 (ds : List D) : Option D := pullD (α := Int × Int × Int) (some (.tup ds)) (fun d => ((D.vi (D.at d 0)), (D.vi (D.at d 1)), (D.vi (D.at d 2)))) (fun (a, b, c) => .tup [iD a, iD b, iD c]) fun (a, b, c) => lossParts_M a b c
theorem m_78_ok {ds : List D} {r : D} (h : m_78 ds = some r) : Con 78 ds r := by
  unfold m_78 at h
  obtain ⟨⟨a, b, c⟩, e0, h0⟩ := pullD_elim h
  obtain rfl := tup_inj e0
  exact lossParts_M_ok a b c h0
theorem m_78_eq (a b c : Int) : m_78 [iD a, iD b, iD c] = lossParts_M a b c := pullD_some (a, b, c) rfl rfl
def lossOf_sp : List LSpec := []
def lossOf_M_s0 (a b c d : Int)  : Option D := (if c < IntKind.i64.wrap ((0 : Int) - (100000 : Int)) then pullD (α := Int) (m_64 [.list 1 [iD c, iD d]]) (fun d => ((D.vi d))) (fun r0 => iD r0) fun r0 => (pullD (α := Int) (m_50 [.list 2 [iD (2 : Int), iD r0]]) (fun d => ((D.vi d))) (fun r1 => iD r1) fun r1 => (pullD (α := Int) (m_50 [.list 3 [iD (2 : Int), iD (2 : Int), iD r1]]) (fun d => ((D.vi d))) (fun r2 => iD r2) fun r2 => ((if r2 ≠ (0 : Int) then some (.tup [.agg [iD (0 : Int), iD (0 : Int)], iD r2]) else pullD (α := Int) (m_78 [iD a, iD b, iD c]) (fun d => ((D.vi d))) (fun r3 => iD r3) fun r3 => (pullD (α := Int) (m_78 [iD a, iD b, iD d]) (fun d => ((D.vi d))) (fun r4 => iD r4) fun r4 => (pullD (α := Int × Int) (m_62 [iD (if r4 < r3 then r4 else r3), iD (if r4 > r3 then r4 else r3), iD (1000000 : Int)]) (fun d => ((D.vi (D.at d 0)), (D.vi (D.at d 1)))) (fun (r5, r6) => .agg [iD r5, iD r6]) fun (r5, r6) => (some (.tup [.agg [iD r5, iD r6], iD (0 : Int)])))))))) else (if c > (100000 : Int) then pullD (α := Int) (m_64 [.list 1 [iD c, iD d]]) (fun d => ((D.vi d))) (fun r7 => iD r7) fun r7 => (pullD (α := Int) (m_50 [.list 2 [iD (2 : Int), iD r7]]) (fun d => ((D.vi d))) (fun r8 => iD r8) fun r8 => (pullD (α := Int) (m_50 [.list 3 [iD (2 : Int), iD (2 : Int), iD r8]]) (fun d => ((D.vi d))) (fun r9 => iD r9) fun r9 => ((if r9 ≠ (0 : Int) then some (.tup [.agg [iD (0 : Int), iD (0 : Int)], iD r9]) else pullD (α := Int) (m_78 [iD a, iD b, iD c]) (fun d => ((D.vi d))) (fun r10 => iD r10) fun r10 => (pullD (α := Int) (m_78 [iD a, iD b, iD d]) (fun d => ((D.vi d))) (fun r11 => iD r11) fun r11 => (pullD (α := Int × Int) (m_62 [iD (if r11 < r10 then r11 else r10), iD (if r11 > r10 then r11 else r10), iD (1000000 : Int)]) (fun d => ((D.vi (D.at d 0)), (D.vi (D.at d 1)))) (fun (r12, r13) => .agg [iD r12, iD r13]) fun (r12, r13) => (some (.tup [.agg [iD r12, iD r13], iD (0 : Int)])))))))) else (if d < IntKind.i64.wrap ((0 : Int) - (100000 : Int)) then pullD (α := Int) (m_64 [.list 1 [iD c, iD d]]) (fun d => ((D.vi d))) (fun r14 => iD r14) fun r14 => (pullD (α := Int) (m_50 [.list 2 [iD (2 : Int), iD r14]]) (fun d => ((D.vi d))) (fun r15 => iD r15) fun r15 => (pullD (α := Int) (m_50 [.list 3 [iD (2 : Int), iD (2 : Int), iD r15]]) (fun d => ((D.vi d))) (fun r16 => iD r16) fun r16 => ((if r16 ≠ (0 : Int) then some (.tup [.agg [iD (0 : Int), iD (0 : Int)], iD r16]) else pullD (α := Int) (m_78 [iD a, iD b, iD c]) (fun d => ((D.vi d))) (fun r17 => iD r17) fun r17 => (pullD (α := Int) (m_78 [iD a, iD b, iD d]) (fun d => ((D.vi d))) (fun r18 => iD r18) fun r18 => (pullD (α := Int × Int) (m_62 [iD (if r18 < r17 then r18 else r17), iD (if r18 > r17 then r18 else r17), iD (1000000 : Int)]) (fun d => ((D.vi (D.at d 0)), (D.vi (D.at d 1)))) (fun (r19, r20) => .agg [iD r19, iD r20]) fun (r19, r20) => (some (.tup [.agg [iD r19, iD r20], iD (0 : Int)])))))))) else (if d > (100000 : Int) then pullD (α := Int) (m_64 [.list 1 [iD c, iD d]]) (fun d => ((D.vi d))) (fun r21 => iD r21) fun r21 => (pullD (α := Int) (m_50 [.list 2 [iD (2 : Int), iD r21]]) (fun d => ((D.vi d))) (fun r22 => iD r22) fun r22 => (pullD (α := Int) (m_50 [.list 3 [iD (2 : Int), iD (2 : Int), iD r22]]) (fun d => ((D.vi d))) (fun r23 => iD r23) fun r23 => ((if r23 ≠ (0 : Int) then some (.tup [.agg [iD (0 : Int), iD (0 : Int)], iD r23]) else pullD (α := Int) (m_78 [iD a, iD b, iD c]) (fun d => ((D.vi d))) (fun r24 => iD r24) fun r24 => (pullD (α := Int) (m_78 [iD a, iD b, iD d]) (fun d => ((D.vi d))) (fun r25 => iD r25) fun r25 => (pullD (α := Int × Int) (m_62 [iD (if r25 < r24 then r25 else r24), iD (if r25 > r24 then r25 else r24), iD (1000000 : Int)]) (fun d => ((D.vi (D.at d 0)), (D.vi (D.at d 1)))) (fun (r26, r27) => .agg [iD r26, iD r27]) fun (r26, r27) => (some (.tup [.agg [iD r26, iD r27], iD (0 : Int)])))))))) else pullD (α := Int) (m_64 [.list 1 [iD c, iD d]]) (fun d => ((D.vi d))) (fun r28 => iD r28) fun r28 => (pullD (α := Int) (m_50 [.list 2 [iD (0 : Int), iD r28]]) (fun d => ((D.vi d))) (fun r29 => iD r29) fun r29 => (pullD (α := Int) (m_50 [.list 3 [iD (2 : Int), iD (2 : Int), iD r29]]) (fun d => ((D.vi d))) (fun r30 => iD r30) fun r30 => ((if r30 ≠ (0 : Int) then some (.tup [.agg [iD (0 : Int), iD (0 : Int)], iD r30]) else pullD (α := Int) (m_78 [iD a, iD b, iD c]) (fun d => ((D.vi d))) (fun r31 => iD r31) fun r31 => (pullD (α := Int) (m_78 [iD a, iD b, iD d]) (fun d => ((D.vi d))) (fun r32 => iD r32) fun r32 => (pullD (α := Int × Int) (m_62 [iD (if r32 < r31 then r32 else r31), iD (if r32 > r31 then r32 else r31), iD (1000000 : Int)]) (fun d => ((D.vi (D.at d 0)), (D.vi (D.at d 1)))) (fun (r33, r34) => .agg [iD r33, iD r34]) fun (r33, r34) => (some (.tup [.agg [iD r33, iD r34], iD (0 : Int)]))))))))))))
def lossOf_M_s1 (a b c d : Int)  : Option D := (if b > (1000000000 : Int) then (if c < IntKind.i64.wrap ((0 : Int) - (100000 : Int)) then pullD (α := Int) (m_64 [.list 1 [iD c, iD d]]) (fun d => ((D.vi d))) (fun r35 => iD r35) fun r35 => (pullD (α := Int) (m_50 [.list 2 [iD (2 : Int), iD r35]]) (fun d => ((D.vi d))) (fun r36 => iD r36) fun r36 => (pullD (α := Int) (m_50 [.list 3 [iD (2 : Int), iD (2 : Int), iD r36]]) (fun d => ((D.vi d))) (fun r37 => iD r37) fun r37 => ((if r37 ≠ (0 : Int) then some (.tup [.agg [iD (0 : Int), iD (0 : Int)], iD r37]) else pullD (α := Int) (m_78 [iD a, iD b, iD c]) (fun d => ((D.vi d))) (fun r38 => iD r38) fun r38 => (pullD (α := Int) (m_78 [iD a, iD b, iD d]) (fun d => ((D.vi d))) (fun r39 => iD r39) fun r39 => (pullD (α := Int × Int) (m_62 [iD (if r39 < r38 then r39 else r38), iD (if r39 > r38 then r39 else r38), iD (1000000 : Int)]) (fun d => ((D.vi (D.at d 0)), (D.vi (D.at d 1)))) (fun (r40, r41) => .agg [iD r40, iD r41]) fun (r40, r41) => (some (.tup [.agg [iD r40, iD r41], iD (0 : Int)])))))))) else (if c > (100000 : Int) then pullD (α := Int) (m_64 [.list 1 [iD c, iD d]]) (fun d => ((D.vi d))) (fun r42 => iD r42) fun r42 => (pullD (α := Int) (m_50 [.list 2 [iD (2 : Int), iD r42]]) (fun d => ((D.vi d))) (fun r43 => iD r43) fun r43 => (pullD (α := Int) (m_50 [.list 3 [iD (2 : Int), iD (2 : Int), iD r43]]) (fun d => ((D.vi d))) (fun r44 => iD r44) fun r44 => ((if r44 ≠ (0 : Int) then some (.tup [.agg [iD (0 : Int), iD (0 : Int)], iD r44]) else pullD (α := Int) (m_78 [iD a, iD b, iD c]) (fun d => ((D.vi d))) (fun r45 => iD r45) fun r45 => (pullD (α := Int) (m_78 [iD a, iD b, iD d]) (fun d => ((D.vi d))) (fun r46 => iD r46) fun r46 => (pullD (α := Int × Int) (m_62 [iD (if r46 < r45 then r46 else r45), iD (if r46 > r45 then r46 else r45), iD (1000000 : Int)]) (fun d => ((D.vi (D.at d 0)), (D.vi (D.at d 1)))) (fun (r47, r48) => .agg [iD r47, iD r48]) fun (r47, r48) => (some (.tup [.agg [iD r47, iD r48], iD (0 : Int)])))))))) else (if d < IntKind.i64.wrap ((0 : Int) - (100000 : Int)) then pullD (α := Int) (m_64 [.list 1 [iD c, iD d]]) (fun d => ((D.vi d))) (fun r49 => iD r49) fun r49 => (pullD (α := Int) (m_50 [.list 2 [iD (2 : Int), iD r49]]) (fun d => ((D.vi d))) (fun r50 => iD r50) fun r50 => (pullD (α := Int) (m_50 [.list 3 [iD (2 : Int), iD (2 : Int), iD r50]]) (fun d => ((D.vi d))) (fun r51 => iD r51) fun r51 => ((if r51 ≠ (0 : Int) then some (.tup [.agg [iD (0 : Int), iD (0 : Int)], iD r51]) else pullD (α := Int) (m_78 [iD a, iD b, iD c]) (fun d => ((D.vi d))) (fun r52 => iD r52) fun r52 => (pullD (α := Int) (m_78 [iD a, iD b, iD d]) (fun d => ((D.vi d))) (fun r53 => iD r53) fun r53 => (pullD (α := Int × Int) (m_62 [iD (if r53 < r52 then r53 else r52), iD (if r53 > r52 then r53 else r52), iD (1000000 : Int)]) (fun d => ((D.vi (D.at d 0)), (D.vi (D.at d 1)))) (fun (r54, r55) => .agg [iD r54, iD r55]) fun (r54, r55) => (some (.tup [.agg [iD r54, iD r55], iD (0 : Int)])))))))) else (if d > (100000 : Int) then pullD (α := Int) (m_64 [.list 1 [iD c, iD d]]) (fun d => ((D.vi d))) (fun r56 => iD r56) fun r56 => (pullD (α := Int) (m_50 [.list 2 [iD (2 : Int), iD r56]]) (fun d => ((D.vi d))) (fun r57 => iD r57) fun r57 => (pullD (α := Int) (m_50 [.list 3 [iD (2 : Int), iD (2 : Int), iD r57]]) (fun d => ((D.vi d))) (fun r58 => iD r58) fun r58 => ((if r58 ≠ (0 : Int) then some (.tup [.agg [iD (0 : Int), iD (0 : Int)], iD r58]) else pullD (α := Int) (m_78 [iD a, iD b, iD c]) (fun d => ((D.vi d))) (fun r59 => iD r59) fun r59 => (pullD (α := Int) (m_78 [iD a, iD b, iD d]) (fun d => ((D.vi d))) (fun r60 => iD r60) fun r60 => (pullD (α := Int × Int) (m_62 [iD (if r60 < r59 then r60 else r59), iD (if r60 > r59 then r60 else r59), iD (1000000 : Int)]) (fun d => ((D.vi (D.at d 0)), (D.vi (D.at d 1)))) (fun (r61, r62) => .agg [iD r61, iD r62]) fun (r61, r62) => (some (.tup [.agg [iD r61, iD r62], iD (0 : Int)])))))))) else pullD (α := Int) (m_64 [.list 1 [iD c, iD d]]) (fun d => ((D.vi d))) (fun r63 => iD r63) fun r63 => (pullD (α := Int) (m_50 [.list 2 [iD (0 : Int), iD r63]]) (fun d => ((D.vi d))) (fun r64 => iD r64) fun r64 => (pullD (α := Int) (m_50 [.list 3 [iD (2 : Int), iD (2 : Int), iD r64]]) (fun d => ((D.vi d))) (fun r65 => iD r65) fun r65 => ((if r65 ≠ (0 : Int) then some (.tup [.agg [iD (0 : Int), iD (0 : Int)], iD r65]) else pullD (α := Int) (m_78 [iD a, iD b, iD c]) (fun d => ((D.vi d))) (fun r66 => iD r66) fun r66 => (pullD (α := Int) (m_78 [iD a, iD b, iD d]) (fun d => ((D.vi d))) (fun r67 => iD r67) fun r67 => (pullD (α := Int × Int) (m_62 [iD (if r67 < r66 then r67 else r66), iD (if r67 > r66 then r67 else r66), iD (1000000 : Int)]) (fun d => ((D.vi (D.at d 0)), (D.vi (D.at d 1)))) (fun (r68, r69) => .agg [iD r68, iD r69]) fun (r68, r69) => (some (.tup [.agg [iD r68, iD r69], iD (0 : Int)])))))))))))) else (if c < IntKind.i64.wrap ((0 : Int) - (100000 : Int)) then pullD (α := Int) (m_64 [.list 1 [iD c, iD d]]) (fun d => ((D.vi d))) (fun r70 => iD r70) fun r70 => (pullD (α := Int) (m_50 [.list 2 [iD (2 : Int), iD r70]]) (fun d => ((D.vi d))) (fun r71 => iD r71) fun r71 => (pullD (α := Int) (m_50 [.list 3 [iD (2 : Int), iD (0 : Int), iD r71]]) (fun d => ((D.vi d))) (fun r72 => iD r72) fun r72 => ((if r72 ≠ (0 : Int) then some (.tup [.agg [iD (0 : Int), iD (0 : Int)], iD r72]) else pullD (α := Int) (m_78 [iD a, iD b, iD c]) (fun d => ((D.vi d))) (fun r73 => iD r73) fun r73 => (pullD (α := Int) (m_78 [iD a, iD b, iD d]) (fun d => ((D.vi d))) (fun r74 => iD r74) fun r74 => (pullD (α := Int × Int) (m_62 [iD (if r74 < r73 then r74 else r73), iD (if r74 > r73 then r74 else r73), iD (1000000 : Int)]) (fun d => ((D.vi (D.at d 0)), (D.vi (D.at d 1)))) (fun (r75, r76) => .agg [iD r75, iD r76]) fun (r75, r76) => (some (.tup [.agg [iD r75, iD r76], iD (0 : Int)])))))))) else (if c > (100000 : Int) then pullD (α := Int) (m_64 [.list 1 [iD c, iD d]]) (fun d => ((D.vi d))) (fun r77 => iD r77) fun r77 => (pullD (α := Int) (m_50 [.list 2 [iD (2 : Int), iD r77]]) (fun d => ((D.vi d))) (fun r78 => iD r78) fun r78 => (pullD (α := Int) (m_50 [.list 3 [iD (2 : Int), iD (0 : Int), iD r78]]) (fun d => ((D.vi d))) (fun r79 => iD r79) fun r79 => ((if r79 ≠ (0 : Int) then some (.tup [.agg [iD (0 : Int), iD (0 : Int)], iD r79]) else pullD (α := Int) (m_78 [iD a, iD b, iD c]) (fun d => ((D.vi d))) (fun r80 => iD r80) fun r80 => (pullD (α := Int) (m_78 [iD a, iD b, iD d]) (fun d => ((D.vi d))) (fun r81 => iD r81) fun r81 => (pullD (α := Int × Int) (m_62 [iD (if r81 < r80 then r81 else r80), iD (if r81 > r80 then r81 else r80), iD (1000000 : Int)]) (fun d => ((D.vi (D.at d 0)), (D.vi (D.at d 1)))) (fun (r82, r83) => .agg [iD r82, iD r83]) fun (r82, r83) => (some (.tup [.agg [iD r82, iD r83], iD (0 : Int)])))))))) else (if d < IntKind.i64.wrap ((0 : Int) - (100000 : Int)) then pullD (α := Int) (m_64 [.list 1 [iD c, iD d]]) (fun d => ((D.vi d))) (fun r84 => iD r84) fun r84 => (pullD (α := Int) (m_50 [.list 2 [iD (2 : Int), iD r84]]) (fun d => ((D.vi d))) (fun r85 => iD r85) fun r85 => (pullD (α := Int) (m_50 [.list 3 [iD (2 : Int), iD (0 : Int), iD r85]]) (fun d => ((D.vi d))) (fun r86 => iD r86) fun r86 => ((if r86 ≠ (0 : Int) then some (.tup [.agg [iD (0 : Int), iD (0 : Int)], iD r86]) else pullD (α := Int) (m_78 [iD a, iD b, iD c]) (fun d => ((D.vi d))) (fun r87 => iD r87) fun r87 => (pullD (α := Int) (m_78 [iD a, iD b, iD d]) (fun d => ((D.vi d))) (fun r88 => iD r88) fun r88 => (pullD (α := Int × Int) (m_62 [iD (if r88 < r87 then r88 else r87), iD (if r88 > r87 then r88 else r87), iD (1000000 : Int)]) (fun d => ((D.vi (D.at d 0)), (D.vi (D.at d 1)))) (fun (r89, r90) => .agg [iD r89, iD r90]) fun (r89, r90) => (some (.tup [.agg [iD r89, iD r90], iD (0 : Int)])))))))) else (if d > (100000 : Int) then pullD (α := Int) (m_64 [.list 1 [iD c, iD d]]) (fun d => ((D.vi d))) (fun r91 => iD r91) fun r91 => (pullD (α := Int) (m_50 [.list 2 [iD (2 : Int), iD r91]]) (fun d => ((D.vi d))) (fun r92 => iD r92) fun r92 => (pullD (α := Int) (m_50 [.list 3 [iD (2 : Int), iD (0 : Int), iD r92]]) (fun d => ((D.vi d))) (fun r93 => iD r93) fun r93 => ((if r93 ≠ (0 : Int) then some (.tup [.agg [iD (0 : Int), iD (0 : Int)], iD r93]) else pullD (α := Int) (m_78 [iD a, iD b, iD c]) (fun d => ((D.vi d))) (fun r94 => iD r94) fun r94 => (pullD (α := Int) (m_78 [iD a, iD b, iD d]) (fun d => ((D.vi d))) (fun r95 => iD r95) fun r95 => (pullD (α := Int × Int) (m_62 [iD (if r95 < r94 then r95 else r94), iD (if r95 > r94 then r95 else r94), iD (1000000 : Int)]) (fun d => ((D.vi (D.at d 0)), (D.vi (D.at d 1)))) (fun (r96, r97) => .agg [iD r96, iD r97]) fun (r96, r97) => (some (.tup [.agg [iD r96, iD r97], iD (0 : Int)])))))))) else pullD (α := Int) (m_64 [.list 1 [iD c, iD d]]) (fun d => ((D.vi d))) (fun r98 => iD r98) fun r98 => (pullD (α := Int) (m_50 [.list 2 [iD (0 : Int), iD r98]]) (fun d => ((D.vi d))) (fun r99 => iD r99) fun r99 => (pullD (α := Int) (m_50 [.list 3 [iD (2 : Int), iD (0 : Int), iD r99]]) (fun d => ((D.vi d))) (fun r100 => iD r100) fun r100 => ((if r100 ≠ (0 : Int) then some (.tup [.agg [iD (0 : Int), iD (0 : Int)], iD r100]) else pullD (α := Int) (m_78 [iD a, iD b, iD c]) (fun d => ((D.vi d))) (fun r101 => iD r101) fun r101 => (pullD (α := Int) (m_78 [iD a, iD b, iD d]) (fun d => ((D.vi d))) (fun r102 => iD r102) fun r102 => (pullD (α := Int × Int) (m_62 [iD (if r102 < r101 then r102 else r101), iD (if r102 > r101 then r102 else r101), iD (1000000 : Int)]) (fun d => ((D.vi (D.at d 0)), (D.vi (D.at d 1)))) (fun (r103, r104) => .agg [iD r103, iD r104]) fun (r103, r104) => (some (.tup [.agg [iD r103, iD r104], iD (0 : Int)])))))))))))))
def lossOf_M_s2 (a b c d : Int)  : Option D := (if c < IntKind.i64.wrap ((0 : Int) - (100000 : Int)) then pullD (α := Int) (m_64 [.list 1 [iD c, iD d]]) (fun d => ((D.vi d))) (fun r105 => iD r105) fun r105 => (pullD (α := Int) (m_50 [.list 2 [iD (2 : Int), iD r105]]) (fun d => ((D.vi d))) (fun r106 => iD r106) fun r106 => (pullD (α := Int) (m_50 [.list 3 [iD (2 : Int), iD (2 : Int), iD r106]]) (fun d => ((D.vi d))) (fun r107 => iD r107) fun r107 => ((if r107 ≠ (0 : Int) then some (.tup [.agg [iD (0 : Int), iD (0 : Int)], iD r107]) else pullD (α := Int) (m_78 [iD a, iD b, iD c]) (fun d => ((D.vi d))) (fun r108 => iD r108) fun r108 => (pullD (α := Int) (m_78 [iD a, iD b, iD d]) (fun d => ((D.vi d))) (fun r109 => iD r109) fun r109 => (pullD (α := Int × Int) (m_62 [iD (if r109 < r108 then r109 else r108), iD (if r109 > r108 then r109 else r108), iD (1000000 : Int)]) (fun d => ((D.vi (D.at d 0)), (D.vi (D.at d 1)))) (fun (r110, r111) => .agg [iD r110, iD r111]) fun (r110, r111) => (some (.tup [.agg [iD r110, iD r111], iD (0 : Int)])))))))) else (if c > (100000 : Int) then pullD (α := Int) (m_64 [.list 1 [iD c, iD d]]) (fun d => ((D.vi d))) (fun r112 => iD r112) fun r112 => (pullD (α := Int) (m_50 [.list 2 [iD (2 : Int), iD r112]]) (fun d => ((D.vi d))) (fun r113 => iD r113) fun r113 => (pullD (α := Int) (m_50 [.list 3 [iD (2 : Int), iD (2 : Int), iD r113]]) (fun d => ((D.vi d))) (fun r114 => iD r114) fun r114 => ((if r114 ≠ (0 : Int) then some (.tup [.agg [iD (0 : Int), iD (0 : Int)], iD r114]) else pullD (α := Int) (m_78 [iD a, iD b, iD c]) (fun d => ((D.vi d))) (fun r115 => iD r115) fun r115 => (pullD (α := Int) (m_78 [iD a, iD b, iD d]) (fun d => ((D.vi d))) (fun r116 => iD r116) fun r116 => (pullD (α := Int × Int) (m_62 [iD (if r116 < r115 then r116 else r115), iD (if r116 > r115 then r116 else r115), iD (1000000 : Int)]) (fun d => ((D.vi (D.at d 0)), (D.vi (D.at d 1)))) (fun (r117, r118) => .agg [iD r117, iD r118]) fun (r117, r118) => (some (.tup [.agg [iD r117, iD r118], iD (0 : Int)])))))))) else (if d < IntKind.i64.wrap ((0 : Int) - (100000 : Int)) then pullD (α := Int) (m_64 [.list 1 [iD c, iD d]]) (fun d => ((D.vi d))) (fun r119 => iD r119) fun r119 => (pullD (α := Int) (m_50 [.list 2 [iD (2 : Int), iD r119]]) (fun d => ((D.vi d))) (fun r120 => iD r120) fun r120 => (pullD (α := Int) (m_50 [.list 3 [iD (2 : Int), iD (2 : Int), iD r120]]) (fun d => ((D.vi d))) (fun r121 => iD r121) fun r121 => ((if r121 ≠ (0 : Int) then some (.tup [.agg [iD (0 : Int), iD (0 : Int)], iD r121]) else pullD (α := Int) (m_78 [iD a, iD b, iD c]) (fun d => ((D.vi d))) (fun r122 => iD r122) fun r122 => (pullD (α := Int) (m_78 [iD a, iD b, iD d]) (fun d => ((D.vi d))) (fun r123 => iD r123) fun r123 => (pullD (α := Int × Int) (m_62 [iD (if r123 < r122 then r123 else r122), iD (if r123 > r122 then r123 else r122), iD (1000000 : Int)]) (fun d => ((D.vi (D.at d 0)), (D.vi (D.at d 1)))) (fun (r124, r125) => .agg [iD r124, iD r125]) fun (r124, r125) => (some (.tup [.agg [iD r124, iD r125], iD (0 : Int)])))))))) else (if d > (100000 : Int) then pullD (α := Int) (m_64 [.list 1 [iD c, iD d]]) (fun d => ((D.vi d))) (fun r126 => iD r126) fun r126 => (pullD (α := Int) (m_50 [.list 2 [iD (2 : Int), iD r126]]) (fun d => ((D.vi d))) (fun r127 => iD r127) fun r127 => (pullD (α := Int) (m_50 [.list 3 [iD (2 : Int), iD (2 : Int), iD r127]]) (fun d => ((D.vi d))) (fun r128 => iD r128) fun r128 => ((if r128 ≠ (0 : Int) then some (.tup [.agg [iD (0 : Int), iD (0 : Int)], iD r128]) else pullD (α := Int) (m_78 [iD a, iD b, iD c]) (fun d => ((D.vi d))) (fun r129 => iD r129) fun r129 => (pullD (α := Int) (m_78 [iD a, iD b, iD d]) (fun d => ((D.vi d))) (fun r130 => iD r130) fun r130 => (pullD (α := Int × Int) (m_62 [iD (if r130 < r129 then r130 else r129), iD (if r130 > r129 then r130 else r129), iD (1000000 : Int)]) (fun d => ((D.vi (D.at d 0)), (D.vi (D.at d 1)))) (fun (r131, r132) => .agg [iD r131, iD r132]) fun (r131, r132) => (some (.tup [.agg [iD r131, iD r132], iD (0 : Int)])))))))) else pullD (α := Int) (m_64 [.list 1 [iD c, iD d]]) (fun d => ((D.vi d))) (fun r133 => iD r133) fun r133 => (pullD (α := Int) (m_50 [.list 2 [iD (0 : Int), iD r133]]) (fun d => ((D.vi d))) (fun r134 => iD r134) fun r134 => (pullD (α := Int) (m_50 [.list 3 [iD (2 : Int), iD (2 : Int), iD r134]]) (fun d => ((D.vi d))) (fun r135 => iD r135) fun r135 => ((if r135 ≠ (0 : Int) then some (.tup [.agg [iD (0 : Int), iD (0 : Int)], iD r135]) else pullD (α := Int) (m_78 [iD a, iD b, iD c]) (fun d => ((D.vi d))) (fun r136 => iD r136) fun r136 => (pullD (α := Int) (m_78 [iD a, iD b, iD d]) (fun d => ((D.vi d))) (fun r137 => iD r137) fun r137 => (pullD (α := Int × Int) (m_62 [iD (if r137 < r136 then r137 else r136), iD (if r137 > r136 then r137 else r136), iD (1000000 : Int)]) (fun d => ((D.vi (D.at d 0)), (D.vi (D.at d 1)))) (fun (r138, r139) => .agg [iD r138, iD r139]) fun (r138, r139) => (some (.tup [.agg [iD r138, iD r139], iD (0 : Int)]))))))))))))
def lossOf_M_s3 (a b c d : Int)  : Option D := (if b > (1000000000 : Int) then (if c < IntKind.i64.wrap ((0 : Int) - (100000 : Int)) then pullD (α := Int) (m_64 [.list 1 [iD c, iD d]]) (fun d => ((D.vi d))) (fun r140 => iD r140) fun r140 => (pullD (α := Int) (m_50 [.list 2 [iD (2 : Int), iD r140]]) (fun d => ((D.vi d))) (fun r141 => iD r141) fun r141 => (pullD (α := Int) (m_50 [.list 3 [iD (2 : Int), iD (2 : Int), iD r141]]) (fun d => ((D.vi d))) (fun r142 => iD r142) fun r142 => ((if r142 ≠ (0 : Int) then some (.tup [.agg [iD (0 : Int), iD (0 : Int)], iD r142]) else pullD (α := Int) (m_78 [iD a, iD b, iD c]) (fun d => ((D.vi d))) (fun r143 => iD r143) fun r143 => (pullD (α := Int) (m_78 [iD a, iD b, iD d]) (fun d => ((D.vi d))) (fun r144 => iD r144) fun r144 => (pullD (α := Int × Int) (m_62 [iD (if r144 < r143 then r144 else r143), iD (if r144 > r143 then r144 else r143), iD (1000000 : Int)]) (fun d => ((D.vi (D.at d 0)), (D.vi (D.at d 1)))) (fun (r145, r146) => .agg [iD r145, iD r146]) fun (r145, r146) => (some (.tup [.agg [iD r145, iD r146], iD (0 : Int)])))))))) else (if c > (100000 : Int) then pullD (α := Int) (m_64 [.list 1 [iD c, iD d]]) (fun d => ((D.vi d))) (fun r147 => iD r147) fun r147 => (pullD (α := Int) (m_50 [.list 2 [iD (2 : Int), iD r147]]) (fun d => ((D.vi d))) (fun r148 => iD r148) fun r148 => (pullD (α := Int) (m_50 [.list 3 [iD (2 : Int), iD (2 : Int), iD r148]]) (fun d => ((D.vi d))) (fun r149 => iD r149) fun r149 => ((if r149 ≠ (0 : Int) then some (.tup [.agg [iD (0 : Int), iD (0 : Int)], iD r149]) else pullD (α := Int) (m_78 [iD a, iD b, iD c]) (fun d => ((D.vi d))) (fun r150 => iD r150) fun r150 => (pullD (α := Int) (m_78 [iD a, iD b, iD d]) (fun d => ((D.vi d))) (fun r151 => iD r151) fun r151 => (pullD (α := Int × Int) (m_62 [iD (if r151 < r150 then r151 else r150), iD (if r151 > r150 then r151 else r150), iD (1000000 : Int)]) (fun d => ((D.vi (D.at d 0)), (D.vi (D.at d 1)))) (fun (r152, r153) => .agg [iD r152, iD r153]) fun (r152, r153) => (some (.tup [.agg [iD r152, iD r153], iD (0 : Int)])))))))) else (if d < IntKind.i64.wrap ((0 : Int) - (100000 : Int)) then pullD (α := Int) (m_64 [.list 1 [iD c, iD d]]) (fun d => ((D.vi d))) (fun r154 => iD r154) fun r154 => (pullD (α := Int) (m_50 [.list 2 [iD (2 : Int), iD r154]]) (fun d => ((D.vi d))) (fun r155 => iD r155) fun r155 => (pullD (α := Int) (m_50 [.list 3 [iD (2 : Int), iD (2 : Int), iD r155]]) (fun d => ((D.vi d))) (fun r156 => iD r156) fun r156 => ((if r156 ≠ (0 : Int) then some (.tup [.agg [iD (0 : Int), iD (0 : Int)], iD r156]) else pullD (α := Int) (m_78 [iD a, iD b, iD c]) (fun d => ((D.vi d))) (fun r157 => iD r157) fun r157 => (pullD (α := Int) (m_78 [iD a, iD b, iD d]) (fun d => ((D.vi d))) (fun r158 => iD r158) fun r158 => (pullD (α := Int × Int) (m_62 [iD (if r158 < r157 then r158 else r157), iD (if r158 > r157 then r158 else r157), iD (1000000 : Int)]) (fun d => ((D.vi (D.at d 0)), (D.vi (D.at d 1)))) (fun (r159, r160) => .agg [iD r159, iD r160]) fun (r159, r160) => (some (.tup [.agg [iD r159, iD r160], iD (0 : Int)])))))))) else (if d > (100000 : Int) then pullD (α := Int) (m_64 [.list 1 [iD c, iD d]]) (fun d => ((D.vi d))) (fun r161 => iD r161) fun r161 => (pullD (α := Int) (m_50 [.list 2 [iD (2 : Int), iD r161]]) (fun d => ((D.vi d))) (fun r162 => iD r162) fun r162 => (pullD (α := Int) (m_50 [.list 3 [iD (2 : Int), iD (2 : Int), iD r162]]) (fun d => ((D.vi d))) (fun r163 => iD r163) fun r163 => ((if r163 ≠ (0 : Int) then some (.tup [.agg [iD (0 : Int), iD (0 : Int)], iD r163]) else pullD (α := Int) (m_78 [iD a, iD b, iD c]) (fun d => ((D.vi d))) (fun r164 => iD r164) fun r164 => (pullD (α := Int) (m_78 [iD a, iD b, iD d]) (fun d => ((D.vi d))) (fun r165 => iD r165) fun r165 => (pullD (α := Int × Int) (m_62 [iD (if r165 < r164 then r165 else r164), iD (if r165 > r164 then r165 else r164), iD (1000000 : Int)]) (fun d => ((D.vi (D.at d 0)), (D.vi (D.at d 1)))) (fun (r166, r167) => .agg [iD r166, iD r167]) fun (r166, r167) => (some (.tup [.agg [iD r166, iD r167], iD (0 : Int)])))))))) else pullD (α := Int) (m_64 [.list 1 [iD c, iD d]]) (fun d => ((D.vi d))) (fun r168 => iD r168) fun r168 => (pullD (α := Int) (m_50 [.list 2 [iD (0 : Int), iD r168]]) (fun d => ((D.vi d))) (fun r169 => iD r169) fun r169 => (pullD (α := Int) (m_50 [.list 3 [iD (2 : Int), iD (2 : Int), iD r169]]) (fun d => ((D.vi d))) (fun r170 => iD r170) fun r170 => ((if r170 ≠ (0 : Int) then some (.tup [.agg [iD (0 : Int), iD (0 : Int)], iD r170]) else pullD (α := Int) (m_78 [iD a, iD b, iD c]) (fun d => ((D.vi d))) (fun r171 => iD r171) fun r171 => (pullD (α := Int) (m_78 [iD a, iD b, iD d]) (fun d => ((D.vi d))) (fun r172 => iD r172) fun r172 => (pullD (α := Int × Int) (m_62 [iD (if r172 < r171 then r172 else r171), iD (if r172 > r171 then r172 else r171), iD (1000000 : Int)]) (fun d => ((D.vi (D.at d 0)), (D.vi (D.at d 1)))) (fun (r173, r174) => .agg [iD r173, iD r174]) fun (r173, r174) => (some (.tup [.agg [iD r173, iD r174], iD (0 : Int)])))))))))))) else (if c < IntKind.i64.wrap ((0 : Int) - (100000 : Int)) then pullD (α := Int) (m_64 [.list 1 [iD c, iD d]]) (fun d => ((D.vi d))) (fun r175 => iD r175) fun r175 => (pullD (α := Int) (m_50 [.list 2 [iD (2 : Int), iD r175]]) (fun d => ((D.vi d))) (fun r176 => iD r176) fun r176 => (pullD (α := Int) (m_50 [.list 3 [iD (2 : Int), iD (0 : Int), iD r176]]) (fun d => ((D.vi d))) (fun r177 => iD r177) fun r177 => ((if r177 ≠ (0 : Int) then some (.tup [.agg [iD (0 : Int), iD (0 : Int)], iD r177]) else pullD (α := Int) (m_78 [iD a, iD b, iD c]) (fun d => ((D.vi d))) (fun r178 => iD r178) fun r178 => (pullD (α := Int) (m_78 [iD a, iD b, iD d]) (fun d => ((D.vi d))) (fun r179 => iD r179) fun r179 => (pullD (α := Int × Int) (m_62 [iD (if r179 < r178 then r179 else r178), iD (if r179 > r178 then r179 else r178), iD (1000000 : Int)]) (fun d => ((D.vi (D.at d 0)), (D.vi (D.at d 1)))) (fun (r180, r181) => .agg [iD r180, iD r181]) fun (r180, r181) => (some (.tup [.agg [iD r180, iD r181], iD (0 : Int)])))))))) else (if c > (100000 : Int) then pullD (α := Int) (m_64 [.list 1 [iD c, iD d]]) (fun d => ((D.vi d))) (fun r182 => iD r182) fun r182 => (pullD (α := Int) (m_50 [.list 2 [iD (2 : Int), iD r182]]) (fun d => ((D.vi d))) (fun r183 => iD r183) fun r183 => (pullD (α := Int) (m_50 [.list 3 [iD (2 : Int), iD (0 : Int), iD r183]]) (fun d => ((D.vi d))) (fun r184 => iD r184) fun r184 => ((if r184 ≠ (0 : Int) then some (.tup [.agg [iD (0 : Int), iD (0 : Int)], iD r184]) else pullD (α := Int) (m_78 [iD a, iD b, iD c]) (fun d => ((D.vi d))) (fun r185 => iD r185) fun r185 => (pullD (α := Int) (m_78 [iD a, iD b, iD d]) (fun d => ((D.vi d))) (fun r186 => iD r186) fun r186 => (pullD (α := Int × Int) (m_62 [iD (if r186 < r185 then r186 else r185), iD (if r186 > r185 then r186 else r185), iD (1000000 : Int)]) (fun d => ((D.vi (D.at d 0)), (D.vi (D.at d 1)))) (fun (r187, r188) => .agg [iD r187, iD r188]) fun (r187, r188) => (some (.tup [.agg [iD r187, iD r188], iD (0 : Int)])))))))) else (if d < IntKind.i64.wrap ((0 : Int) - (100000 : Int)) then pullD (α := Int) (m_64 [.list 1 [iD c, iD d]]) (fun d => ((D.vi d))) (fun r189 => iD r189) fun r189 => (pullD (α := Int) (m_50 [.list 2 [iD (2 : Int), iD r189]]) (fun d => ((D.vi d))) (fun r190 => iD r190) fun r190 => (pullD (α := Int) (m_50 [.list 3 [iD (2 : Int), iD (0 : Int), iD r190]]) (fun d => ((D.vi d))) (fun r191 => iD r191) fun r191 => ((if r191 ≠ (0 : Int) then some (.tup [.agg [iD (0 : Int), iD (0 : Int)], iD r191]) else pullD (α := Int) (m_78 [iD a, iD b, iD c]) (fun d => ((D.vi d))) (fun r192 => iD r192) fun r192 => (pullD (α := Int) (m_78 [iD a, iD b, iD d]) (fun d => ((D.vi d))) (fun r193 => iD r193) fun r193 => (pullD (α := Int × Int) (m_62 [iD (if r193 < r192 then r193 else r192), iD (if r193 > r192 then r193 else r192), iD (1000000 : Int)]) (fun d => ((D.vi (D.at d 0)), (D.vi (D.at d 1)))) (fun (r194, r195) => .agg [iD r194, iD r195]) fun (r194, r195) => (some (.tup [.agg [iD r194, iD r195], iD (0 : Int)])))))))) else (if d > (100000 : Int) then pullD (α := Int) (m_64 [.list 1 [iD c, iD d]]) (fun d => ((D.vi d))) (fun r196 => iD r196) fun r196 => (pullD (α := Int) (m_50 [.list 2 [iD (2 : Int), iD r196]]) (fun d => ((D.vi d))) (fun r197 => iD r197) fun r197 => (pullD (α := Int) (m_50 [.list 3 [iD (2 : Int), iD (0 : Int), iD r197]]) (fun d => ((D.vi d))) (fun r198 => iD r198) fun r198 => ((if r198 ≠ (0 : Int) then some (.tup [.agg [iD (0 : Int), iD (0 : Int)], iD r198]) else pullD (α := Int) (m_78 [iD a, iD b, iD c]) (fun d => ((D.vi d))) (fun r199 => iD r199) fun r199 => (pullD (α := Int) (m_78 [iD a, iD b, iD d]) (fun d => ((D.vi d))) (fun r200 => iD r200) fun r200 => (pullD (α := Int × Int) (m_62 [iD (if r200 < r199 then r200 else r199), iD (if r200 > r199 then r200 else r199), iD (1000000 : Int)]) (fun d => ((D.vi (D.at d 0)), (D.vi (D.at d 1)))) (fun (r201, r202) => .agg [iD r201, iD r202]) fun (r201, r202) => (some (.tup [.agg [iD r201, iD r202], iD (0 : Int)])))))))) else pullD (α := Int) (m_64 [.list 1 [iD c, iD d]]) (fun d => ((D.vi d))) (fun r203 => iD r203) fun r203 => (pullD (α := Int) (m_50 [.list 2 [iD (0 : Int), iD r203]]) (fun d => ((D.vi d))) (fun r204 => iD r204) fun r204 => (pullD (α := Int) (m_50 [.list 3 [iD (2 : Int), iD (0 : Int), iD r204]]) (fun d => ((D.vi d))) (fun r205 => iD r205) fun r205 => ((if r205 ≠ (0 : Int) then some (.tup [.agg [iD (0 : Int), iD (0 : Int)], iD r205]) else pullD (α := Int) (m_78 [iD a, iD b, iD c]) (fun d => ((D.vi d))) (fun r206 => iD r206) fun r206 => (pullD (α := Int) (m_78 [iD a, iD b, iD d]) (fun d => ((D.vi d))) (fun r207 => iD r207) fun r207 => (pullD (α := Int × Int) (m_62 [iD (if r207 < r206 then r207 else r206), iD (if r207 > r206 then r207 else r206), iD (1000000 : Int)]) (fun d => ((D.vi (D.at d 0)), (D.vi (D.at d 1)))) (fun (r208, r209) => .agg [iD r208, iD r209]) fun (r208, r209) => (some (.tup [.agg [iD r208, iD r209], iD (0 : Int)])))))))))))))
def lossOf_M_s4 (a b c d : Int)  : Option D := (if c < IntKind.i64.wrap ((0 : Int) - (100000 : Int)) then pullD (α := Int) (m_64 [.list 1 [iD c, iD d]]) (fun d => ((D.vi d))) (fun r210 => iD r210) fun r210 => (pullD (α := Int) (m_50 [.list 2 [iD (2 : Int), iD r210]]) (fun d => ((D.vi d))) (fun r211 => iD r211) fun r211 => (pullD (α := Int) (m_50 [.list 3 [iD (0 : Int), iD (2 : Int), iD r211]]) (fun d => ((D.vi d))) (fun r212 => iD r212) fun r212 => ((if r212 ≠ (0 : Int) then some (.tup [.agg [iD (0 : Int), iD (0 : Int)], iD r212]) else pullD (α := Int) (m_78 [iD a, iD b, iD c]) (fun d => ((D.vi d))) (fun r213 => iD r213) fun r213 => (pullD (α := Int) (m_78 [iD a, iD b, iD d]) (fun d => ((D.vi d))) (fun r214 => iD r214) fun r214 => (pullD (α := Int × Int) (m_62 [iD (if r214 < r213 then r214 else r213), iD (if r214 > r213 then r214 else r213), iD (1000000 : Int)]) (fun d => ((D.vi (D.at d 0)), (D.vi (D.at d 1)))) (fun (r215, r216) => .agg [iD r215, iD r216]) fun (r215, r216) => (some (.tup [.agg [iD r215, iD r216], iD (0 : Int)])))))))) else (if c > (100000 : Int) then pullD (α := Int) (m_64 [.list 1 [iD c, iD d]]) (fun d => ((D.vi d))) (fun r217 => iD r217) fun r217 => (pullD (α := Int) (m_50 [.list 2 [iD (2 : Int), iD r217]]) (fun d => ((D.vi d))) (fun r218 => iD r218) fun r218 => (pullD (α := Int) (m_50 [.list 3 [iD (0 : Int), iD (2 : Int), iD r218]]) (fun d => ((D.vi d))) (fun r219 => iD r219) fun r219 => ((if r219 ≠ (0 : Int) then some (.tup [.agg [iD (0 : Int), iD (0 : Int)], iD r219]) else pullD (α := Int) (m_78 [iD a, iD b, iD c]) (fun d => ((D.vi d))) (fun r220 => iD r220) fun r220 => (pullD (α := Int) (m_78 [iD a, iD b, iD d]) (fun d => ((D.vi d))) (fun r221 => iD r221) fun r221 => (pullD (α := Int × Int) (m_62 [iD (if r221 < r220 then r221 else r220), iD (if r221 > r220 then r221 else r220), iD (1000000 : Int)]) (fun d => ((D.vi (D.at d 0)), (D.vi (D.at d 1)))) (fun (r222, r223) => .agg [iD r222, iD r223]) fun (r222, r223) => (some (.tup [.agg [iD r222, iD r223], iD (0 : Int)])))))))) else (if d < IntKind.i64.wrap ((0 : Int) - (100000 : Int)) then pullD (α := Int) (m_64 [.list 1 [iD c, iD d]]) (fun d => ((D.vi d))) (fun r224 => iD r224) fun r224 => (pullD (α := Int) (m_50 [.list 2 [iD (2 : Int), iD r224]]) (fun d => ((D.vi d))) (fun r225 => iD r225) fun r225 => (pullD (α := Int) (m_50 [.list 3 [iD (0 : Int), iD (2 : Int), iD r225]]) (fun d => ((D.vi d))) (fun r226 => iD r226) fun r226 => ((if r226 ≠ (0 : Int) then some (.tup [.agg [iD (0 : Int), iD (0 : Int)], iD r226]) else pullD (α := Int) (m_78 [iD a, iD b, iD c]) (fun d => ((D.vi d))) (fun r227 => iD r227) fun r227 => (pullD (α := Int) (m_78 [iD a, iD b, iD d]) (fun d => ((D.vi d))) (fun r228 => iD r228) fun r228 => (pullD (α := Int × Int) (m_62 [iD (if r228 < r227 then r228 else r227), iD (if r228 > r227 then r228 else r227), iD (1000000 : Int)]) (fun d => ((D.vi (D.at d 0)), (D.vi (D.at d 1)))) (fun (r229, r230) => .agg [iD r229, iD r230]) fun (r229, r230) => (some (.tup [.agg [iD r229, iD r230], iD (0 : Int)])))))))) else (if d > (100000 : Int) then pullD (α := Int) (m_64 [.list 1 [iD c, iD d]]) (fun d => ((D.vi d))) (fun r231 => iD r231) fun r231 => (pullD (α := Int) (m_50 [.list 2 [iD (2 : Int), iD r231]]) (fun d => ((D.vi d))) (fun r232 => iD r232) fun r232 => (pullD (α := Int) (m_50 [.list 3 [iD (0 : Int), iD (2 : Int), iD r232]]) (fun d => ((D.vi d))) (fun r233 => iD r233) fun r233 => ((if r233 ≠ (0 : Int) then some (.tup [.agg [iD (0 : Int), iD (0 : Int)], iD r233]) else pullD (α := Int) (m_78 [iD a, iD b, iD c]) (fun d => ((D.vi d))) (fun r234 => iD r234) fun r234 => (pullD (α := Int) (m_78 [iD a, iD b, iD d]) (fun d => ((D.vi d))) (fun r235 => iD r235) fun r235 => (pullD (α := Int × Int) (m_62 [iD (if r235 < r234 then r235 else r234), iD (if r235 > r234 then r235 else r234), iD (1000000 : Int)]) (fun d => ((D.vi (D.at d 0)), (D.vi (D.at d 1)))) (fun (r236, r237) => .agg [iD r236, iD r237]) fun (r236, r237) => (some (.tup [.agg [iD r236, iD r237], iD (0 : Int)])))))))) else pullD (α := Int) (m_64 [.list 1 [iD c, iD d]]) (fun d => ((D.vi d))) (fun r238 => iD r238) fun r238 => (pullD (α := Int) (m_50 [.list 2 [iD (0 : Int), iD r238]]) (fun d => ((D.vi d))) (fun r239 => iD r239) fun r239 => (pullD (α := Int) (m_50 [.list 3 [iD (0 : Int), iD (2 : Int), iD r239]]) (fun d => ((D.vi d))) (fun r240 => iD r240) fun r240 => ((if r240 ≠ (0 : Int) then some (.tup [.agg [iD (0 : Int), iD (0 : Int)], iD r240]) else pullD (α := Int) (m_78 [iD a, iD b, iD c]) (fun d => ((D.vi d))) (fun r241 => iD r241) fun r241 => (pullD (α := Int) (m_78 [iD a, iD b, iD d]) (fun d => ((D.vi d))) (fun r242 => iD r242) fun r242 => (pullD (α := Int × Int) (m_62 [iD (if r242 < r241 then r242 else r241), iD (if r242 > r241 then r242 else r241), iD (1000000 : Int)]) (fun d => ((D.vi (D.at d 0)), (D.vi (D.at d 1)))) (fun (r243, r244) => .agg [iD r243, iD r244]) fun (r243, r244) => (some (.tup [.agg [iD r243, iD r244], iD (0 : Int)]))))))))))))
def lossOf_M_s5 (a b c d : Int)  : Option D := (if b > (1000000000 : Int) then (if c < IntKind.i64.wrap ((0 : Int) - (100000 : Int)) then pullD (α := Int) (m_64 [.list 1 [iD c, iD d]]) (fun d => ((D.vi d))) (fun r245 => iD r245) fun r245 => (pullD (α := Int) (m_50 [.list 2 [iD (2 : Int), iD r245]]) (fun d => ((D.vi d))) (fun r246 => iD r246) fun r246 => (pullD (α := Int) (m_50 [.list 3 [iD (0 : Int), iD (2 : Int), iD r246]]) (fun d => ((D.vi d))) (fun r247 => iD r247) fun r247 => ((if r247 ≠ (0 : Int) then some (.tup [.agg [iD (0 : Int), iD (0 : Int)], iD r247]) else pullD (α := Int) (m_78 [iD a, iD b, iD c]) (fun d => ((D.vi d))) (fun r248 => iD r248) fun r248 => (pullD (α := Int) (m_78 [iD a, iD b, iD d]) (fun d => ((D.vi d))) (fun r249 => iD r249) fun r249 => (pullD (α := Int × Int) (m_62 [iD (if r249 < r248 then r249 else r248), iD (if r249 > r248 then r249 else r248), iD (1000000 : Int)]) (fun d => ((D.vi (D.at d 0)), (D.vi (D.at d 1)))) (fun (r250, r251) => .agg [iD r250, iD r251]) fun (r250, r251) => (some (.tup [.agg [iD r250, iD r251], iD (0 : Int)])))))))) else (if c > (100000 : Int) then pullD (α := Int) (m_64 [.list 1 [iD c, iD d]]) (fun d => ((D.vi d))) (fun r252 => iD r252) fun r252 => (pullD (α := Int) (m_50 [.list 2 [iD (2 : Int), iD r252]]) (fun d => ((D.vi d))) (fun r253 => iD r253) fun r253 => (pullD (α := Int) (m_50 [.list 3 [iD (0 : Int), iD (2 : Int), iD r253]]) (fun d => ((D.vi d))) (fun r254 => iD r254) fun r254 => ((if r254 ≠ (0 : Int) then some (.tup [.agg [iD (0 : Int), iD (0 : Int)], iD r254]) else pullD (α := Int) (m_78 [iD a, iD b, iD c]) (fun d => ((D.vi d))) (fun r255 => iD r255) fun r255 => (pullD (α := Int) (m_78 [iD a, iD b, iD d]) (fun d => ((D.vi d))) (fun r256 => iD r256) fun r256 => (pullD (α := Int × Int) (m_62 [iD (if r256 < r255 then r256 else r255), iD (if r256 > r255 then r256 else r255), iD (1000000 : Int)]) (fun d => ((D.vi (D.at d 0)), (D.vi (D.at d 1)))) (fun (r257, r258) => .agg [iD r257, iD r258]) fun (r257, r258) => (some (.tup [.agg [iD r257, iD r258], iD (0 : Int)])))))))) else (if d < IntKind.i64.wrap ((0 : Int) - (100000 : Int)) then pullD (α := Int) (m_64 [.list 1 [iD c, iD d]]) (fun d => ((D.vi d))) (fun r259 => iD r259) fun r259 => (pullD (α := Int) (m_50 [.list 2 [iD (2 : Int), iD r259]]) (fun d => ((D.vi d))) (fun r260 => iD r260) fun r260 => (pullD (α := Int) (m_50 [.list 3 [iD (0 : Int), iD (2 : Int), iD r260]]) (fun d => ((D.vi d))) (fun r261 => iD r261) fun r261 => ((if r261 ≠ (0 : Int) then some (.tup [.agg [iD (0 : Int), iD (0 : Int)], iD r261]) else pullD (α := Int) (m_78 [iD a, iD b, iD c]) (fun d => ((D.vi d))) (fun r262 => iD r262) fun r262 => (pullD (α := Int) (m_78 [iD a, iD b, iD d]) (fun d => ((D.vi d))) (fun r263 => iD r263) fun r263 => (pullD (α := Int × Int) (m_62 [iD (if r263 < r262 then r263 else r262), iD (if r263 > r262 then r263 else r262), iD (1000000 : Int)]) (fun d => ((D.vi (D.at d 0)), (D.vi (D.at d 1)))) (fun (r264, r265) => .agg [iD r264, iD r265]) fun (r264, r265) => (some (.tup [.agg [iD r264, iD r265], iD (0 : Int)])))))))) else (if d > (100000 : Int) then pullD (α := Int) (m_64 [.list 1 [iD c, iD d]]) (fun d => ((D.vi d))) (fun r266 => iD r266) fun r266 => (pullD (α := Int) (m_50 [.list 2 [iD (2 : Int), iD r266]]) (fun d => ((D.vi d))) (fun r267 => iD r267) fun r267 => (pullD (α := Int) (m_50 [.list 3 [iD (0 : Int), iD (2 : Int), iD r267]]) (fun d => ((D.vi d))) (fun r268 => iD r268) fun r268 => ((if r268 ≠ (0 : Int) then some (.tup [.agg [iD (0 : Int), iD (0 : Int)], iD r268]) else pullD (α := Int) (m_78 [iD a, iD b, iD c]) (fun d => ((D.vi d))) (fun r269 => iD r269) fun r269 => (pullD (α := Int) (m_78 [iD a, iD b, iD d]) (fun d => ((D.vi d))) (fun r270 => iD r270) fun r270 => (pullD (α := Int × Int) (m_62 [iD (if r270 < r269 then r270 else r269), iD (if r270 > r269 then r270 else r269), iD (1000000 : Int)]) (fun d => ((D.vi (D.at d 0)), (D.vi (D.at d 1)))) (fun (r271, r272) => .agg [iD r271, iD r272]) fun (r271, r272) => (some (.tup [.agg [iD r271, iD r272], iD (0 : Int)])))))))) else pullD (α := Int) (m_64 [.list 1 [iD c, iD d]]) (fun d => ((D.vi d))) (fun r273 => iD r273) fun r273 => (pullD (α := Int) (m_50 [.list 2 [iD (0 : Int), iD r273]]) (fun d => ((D.vi d))) (fun r274 => iD r274) fun r274 => (pullD (α := Int) (m_50 [.list 3 [iD (0 : Int), iD (2 : Int), iD r274]]) (fun d => ((D.vi d))) (fun r275 => iD r275) fun r275 => ((if r275 ≠ (0 : Int) then some (.tup [.agg [iD (0 : Int), iD (0 : Int)], iD r275]) else pullD (α := Int) (m_78 [iD a, iD b, iD c]) (fun d => ((D.vi d))) (fun r276 => iD r276) fun r276 => (pullD (α := Int) (m_78 [iD a, iD b, iD d]) (fun d => ((D.vi d))) (fun r277 => iD r277) fun r277 => (pullD (α := Int × Int) (m_62 [iD (if r277 < r276 then r277 else r276), iD (if r277 > r276 then r277 else r276), iD (1000000 : Int)]) (fun d => ((D.vi (D.at d 0)), (D.vi (D.at d 1)))) (fun (r278, r279) => .agg [iD r278, iD r279]) fun (r278, r279) => (some (.tup [.agg [iD r278, iD r279], iD (0 : Int)])))))))))))) else (if c < IntKind.i64.wrap ((0 : Int) - (100000 : Int)) then pullD (α := Int) (m_64 [.list 1 [iD c, iD d]]) (fun d => ((D.vi d))) (fun r280 => iD r280) fun r280 => (pullD (α := Int) (m_50 [.list 2 [iD (2 : Int), iD r280]]) (fun d => ((D.vi d))) (fun r281 => iD r281) fun r281 => (pullD (α := Int) (m_50 [.list 3 [iD (0 : Int), iD (0 : Int), iD r281]]) (fun d => ((D.vi d))) (fun r282 => iD r282) fun r282 => ((if r282 ≠ (0 : Int) then some (.tup [.agg [iD (0 : Int), iD (0 : Int)], iD r282]) else pullD (α := Int) (m_78 [iD a, iD b, iD c]) (fun d => ((D.vi d))) (fun r283 => iD r283) fun r283 => (pullD (α := Int) (m_78 [iD a, iD b, iD d]) (fun d => ((D.vi d))) (fun r284 => iD r284) fun r284 => (pullD (α := Int × Int) (m_62 [iD (if r284 < r283 then r284 else r283), iD (if r284 > r283 then r284 else r283), iD (1000000 : Int)]) (fun d => ((D.vi (D.at d 0)), (D.vi (D.at d 1)))) (fun (r285, r286) => .agg [iD r285, iD r286]) fun (r285, r286) => (some (.tup [.agg [iD r285, iD r286], iD (0 : Int)])))))))) else (if c > (100000 : Int) then pullD (α := Int) (m_64 [.list 1 [iD c, iD d]]) (fun d => ((D.vi d))) (fun r287 => iD r287) fun r287 => (pullD (α := Int) (m_50 [.list 2 [iD (2 : Int), iD r287]]) (fun d => ((D.vi d))) (fun r288 => iD r288) fun r288 => (pullD (α := Int) (m_50 [.list 3 [iD (0 : Int), iD (0 : Int), iD r288]]) (fun d => ((D.vi d))) (fun r289 => iD r289) fun r289 => ((if r289 ≠ (0 : Int) then some (.tup [.agg [iD (0 : Int), iD (0 : Int)], iD r289]) else pullD (α := Int) (m_78 [iD a, iD b, iD c]) (fun d => ((D.vi d))) (fun r290 => iD r290) fun r290 => (pullD (α := Int) (m_78 [iD a, iD b, iD d]) (fun d => ((D.vi d))) (fun r291 => iD r291) fun r291 => (pullD (α := Int × Int) (m_62 [iD (if r291 < r290 then r291 else r290), iD (if r291 > r290 then r291 else r290), iD (1000000 : Int)]) (fun d => ((D.vi (D.at d 0)), (D.vi (D.at d 1)))) (fun (r292, r293) => .agg [iD r292, iD r293]) fun (r292, r293) => (some (.tup [.agg [iD r292, iD r293], iD (0 : Int)])))))))) else (if d < IntKind.i64.wrap ((0 : Int) - (100000 : Int)) then pullD (α := Int) (m_64 [.list 1 [iD c, iD d]]) (fun d => ((D.vi d))) (fun r294 => iD r294) fun r294 => (pullD (α := Int) (m_50 [.list 2 [iD (2 : Int), iD r294]]) (fun d => ((D.vi d))) (fun r295 => iD r295) fun r295 => (pullD (α := Int) (m_50 [.list 3 [iD (0 : Int), iD (0 : Int), iD r295]]) (fun d => ((D.vi d))) (fun r296 => iD r296) fun r296 => ((if r296 ≠ (0 : Int) then some (.tup [.agg [iD (0 : Int), iD (0 : Int)], iD r296]) else pullD (α := Int) (m_78 [iD a, iD b, iD c]) (fun d => ((D.vi d))) (fun r297 => iD r297) fun r297 => (pullD (α := Int) (m_78 [iD a, iD b, iD d]) (fun d => ((D.vi d))) (fun r298 => iD r298) fun r298 => (pullD (α := Int × Int) (m_62 [iD (if r298 < r297 then r298 else r297), iD (if r298 > r297 then r298 else r297), iD (1000000 : Int)]) (fun d => ((D.vi (D.at d 0)), (D.vi (D.at d 1)))) (fun (r299, r300) => .agg [iD r299, iD r300]) fun (r299, r300) => (some (.tup [.agg [iD r299, iD r300], iD (0 : Int)])))))))) else (if d > (100000 : Int) then pullD (α := Int) (m_64 [.list 1 [iD c, iD d]]) (fun d => ((D.vi d))) (fun r301 => iD r301) fun r301 => (pullD (α := Int) (m_50 [.list 2 [iD (2 : Int), iD r301]]) (fun d => ((D.vi d))) (fun r302 => iD r302) fun r302 => (pullD (α := Int) (m_50 [.list 3 [iD (0 : Int), iD (0 : Int), iD r302]]) (fun d => ((D.vi d))) (fun r303 => iD r303) fun r303 => ((if r303 ≠ (0 : Int) then some (.tup [.agg [iD (0 : Int), iD (0 : Int)], iD r303]) else pullD (α := Int) (m_78 [iD a, iD b, iD c]) (fun d => ((D.vi d))) (fun r304 => iD r304) fun r304 => (pullD (α := Int) (m_78 [iD a, iD b, iD d]) (fun d => ((D.vi d))) (fun r305 => iD r305) fun r305 => (pullD (α := Int × Int) (m_62 [iD (if r305 < r304 then r305 else r304), iD (if r305 > r304 then r305 else r304), iD (1000000 : Int)]) (fun d => ((D.vi (D.at d 0)), (D.vi (D.at d 1)))) (fun (r306, r307) => .agg [iD r306, iD r307]) fun (r306, r307) => (some (.tup [.agg [iD r306, iD r307], iD (0 : Int)])))))))) else pullD (α := Int) (m_64 [.list 1 [iD c, iD d]]) (fun d => ((D.vi d))) (fun r308 => iD r308) fun r308 => (pullD (α := Int) (m_50 [.list 2 [iD (0 : Int), iD r308]]) (fun d => ((D.vi d))) (fun r309 => iD r309) fun r309 => (pullD (α := Int) (m_50 [.list 3 [iD (0 : Int), iD (0 : Int), iD r309]]) (fun d => ((D.vi d))) (fun r310 => iD r310) fun r310 => ((if r310 ≠ (0 : Int) then some (.tup [.agg [iD (0 : Int), iD (0 : Int)], iD r310]) else pullD (α := Int) (m_78 [iD a, iD b, iD c]) (fun d => ((D.vi d))) (fun r311 => iD r311) fun r311 => (pullD (α := Int) (m_78 [iD a, iD b, iD d]) (fun d => ((D.vi d))) (fun r312 => iD r312) fun r312 => (pullD (α := Int × Int) (m_62 [iD (if r312 < r311 then r312 else r311), iD (if r312 > r311 then r312 else r311), iD (1000000 : Int)]) (fun d => ((D.vi (D.at d 0)), (D.vi (D.at d 1)))) (fun (r313, r314) => .agg [iD r313, iD r314]) fun (r313, r314) => (some (.tup [.agg [iD r313, iD r314], iD (0 : Int)])))))))))))))
def lossOf_M (a b c d : Int) : Option D := (if a < (0 : Int) then (if b < IntKind.i64.wrap ((0 : Int) - (1000000000 : Int)) then lossOf_M_s0 a b c d else lossOf_M_s1 a b c d) else (if a > (1000000000 : Int) then (if b < IntKind.i64.wrap ((0 : Int) - (1000000000 : Int)) then lossOf_M_s2 a b c d else lossOf_M_s3 a b c d) else (if b < IntKind.i64.wrap ((0 : Int) - (1000000000 : Int)) then lossOf_M_s4 a b c d else lossOf_M_s5 a b c d)))
theorem lossOf_M_s0_ok (a b c d : Int)  (b1_ : a < (0 : Int)) (b3_ : b < IntKind.i64.wrap ((0 : Int) - (1000000000 : Int))) {r : D} (h : lossOf_M_s0 a b c d = some r) : Con 36 [iD a, iD b, .agg [iD c, iD d]] r := by
  unfold lossOf_M_s0 at h
  by_cases bq1_ : c < IntKind.i64.wrap ((0 : Int) - (100000 : Int))
  · have hq2_ := (if_pos bq1_).symm.trans h
    obtain ⟨r0, fq3_, hq4_⟩ := pullD_elim hq2_
    replace fq3_ := m_64_ok fq3_
    obtain ⟨r1, fq5_, hq6_⟩ := pullD_elim hq4_
    replace fq5_ := m_50_ok fq5_
    obtain ⟨r2, fq7_, hq8_⟩ := pullD_elim hq6_
    replace fq7_ := m_50_ok fq7_
    by_cases bq9_ : r2 ≠ (0 : Int)
    · have hq10_ := (if_pos bq9_).symm.trans hq8_
      obtain rfl := Option.some.inj hq10_
      exact con_pc (op := true) (I := [36, 55, 69, 63, 97]) (sp := lossOf_sp) 3000 (bT 19 []) [iD r0, iD r1, iD r2] [c_T, c_d b1_, c_d b1_, c_d b1_, c_d b1_, c_T, c_T, c_d b3_, c_d b3_, c_d b3_, c_d b3_, c_T, c_T, c_d bq1_, c_d bq1_, c_d bq1_, c_d bq1_, c_T, c_le 0, c_le 1, c_le 2, c_b bq9_] [k_c fq3_, k_c fq5_, k_c fq7_] (by kernel_rfl)
    have hq10_ := (if_neg bq9_).symm.trans hq8_
    have bq11_ : r2 = (0 : Int) := by first | exact bq9_ | simpa using bq9_
    obtain ⟨r3, fq12_, hq13_⟩ := pullD_elim hq10_
    replace fq12_ := m_78_ok fq12_
    obtain ⟨r4, fq14_, hq15_⟩ := pullD_elim hq13_
    replace fq14_ := m_78_ok fq14_
    obtain ⟨⟨r5, r6⟩, fq16_, hq17_⟩ := pullD_elim hq15_
    replace fq16_ := m_62_ok fq16_
    obtain rfl := Option.some.inj hq17_
    exact con_pc (op := true) (I := [36, 55, 69, 63, 97]) (sp := lossOf_sp) 3000 (bT 18 (bF 1 [])) [iD r0, iD r1, iD r2, iD r3, iD r4, .agg [iD r5, iD r6]] [c_T, c_d b1_, c_d b1_, c_d b1_, c_d b1_, c_T, c_T, c_d b3_, c_d b3_, c_d b3_, c_d b3_, c_T, c_T, c_d bq1_, c_d bq1_, c_d bq1_, c_d bq1_, c_T, c_le 0, c_le 1, c_le 2, c_bn bq11_] [k_c fq3_, k_c fq5_, k_c fq7_, k_c fq12_, k_c fq14_, k_c fq16_] (by kernel_rfl)
  have hq2_ := (if_neg bq1_).symm.trans h
  by_cases bq18_ : c > (100000 : Int)
  · have hq19_ := (if_pos bq18_).symm.trans hq2_
    obtain ⟨r7, fq20_, hq21_⟩ := pullD_elim hq19_
    replace fq20_ := m_64_ok fq20_
    obtain ⟨r8, fq22_, hq23_⟩ := pullD_elim hq21_
    replace fq22_ := m_50_ok fq22_
    obtain ⟨r9, fq24_, hq25_⟩ := pullD_elim hq23_
    replace fq24_ := m_50_ok fq24_
    by_cases bq26_ : r9 ≠ (0 : Int)
    · have hq27_ := (if_pos bq26_).symm.trans hq25_
      obtain rfl := Option.some.inj hq27_
      exact con_pc (op := true) (I := [36, 55, 69, 63, 97]) (sp := lossOf_sp) 3000 (bT 13 (bF 4 (bT 2 []))) [iD r7, iD r8, iD r9] [c_T, c_d b1_, c_d b1_, c_d b1_, c_d b1_, c_T, c_T, c_d b3_, c_d b3_, c_d b3_, c_d b3_, c_T, c_T, c_n bq1_, c_n bq1_, c_n bq1_, c_n bq1_, c_d bq18_, c_le 0, c_le 1, c_le 2, c_b bq26_] [k_c fq20_, k_c fq22_, k_c fq24_] (by kernel_rfl)
    have hq27_ := (if_neg bq26_).symm.trans hq25_
    have bq28_ : r9 = (0 : Int) := by first | exact bq26_ | simpa using bq26_
    obtain ⟨r10, fq29_, hq30_⟩ := pullD_elim hq27_
    replace fq29_ := m_78_ok fq29_
    obtain ⟨r11, fq31_, hq32_⟩ := pullD_elim hq30_
    replace fq31_ := m_78_ok fq31_
    obtain ⟨⟨r12, r13⟩, fq33_, hq34_⟩ := pullD_elim hq32_
    replace fq33_ := m_62_ok fq33_
    obtain rfl := Option.some.inj hq34_
    exact con_pc (op := true) (I := [36, 55, 69, 63, 97]) (sp := lossOf_sp) 3000 (bT 13 (bF 4 (bT 1 (bF 1 [])))) [iD r7, iD r8, iD r9, iD r10, iD r11, .agg [iD r12, iD r13]] [c_T, c_d b1_, c_d b1_, c_d b1_, c_d b1_, c_T, c_T, c_d b3_, c_d b3_, c_d b3_, c_d b3_, c_T, c_T, c_n bq1_, c_n bq1_, c_n bq1_, c_n bq1_, c_d bq18_, c_le 0, c_le 1, c_le 2, c_bn bq28_] [k_c fq20_, k_c fq22_, k_c fq24_, k_c fq29_, k_c fq31_, k_c fq33_] (by kernel_rfl)
  have hq19_ := (if_neg bq18_).symm.trans hq2_
  by_cases bq35_ : d < IntKind.i64.wrap ((0 : Int) - (100000 : Int))
  · have hq36_ := (if_pos bq35_).symm.trans hq19_
    obtain ⟨r14, fq37_, hq38_⟩ := pullD_elim hq36_
    replace fq37_ := m_64_ok fq37_
    obtain ⟨r15, fq39_, hq40_⟩ := pullD_elim hq38_
    replace fq39_ := m_50_ok fq39_
    obtain ⟨r16, fq41_, hq42_⟩ := pullD_elim hq40_
    replace fq41_ := m_50_ok fq41_
    by_cases bq43_ : r16 ≠ (0 : Int)
    · have hq44_ := (if_pos bq43_).symm.trans hq42_
      obtain rfl := Option.some.inj hq44_
      exact con_pc (op := true) (I := [36, 55, 69, 63, 97]) (sp := lossOf_sp) 3000 (bT 13 (bF 5 (bT 7 []))) [iD r14, iD r15, iD r16] [c_T, c_d b1_, c_d b1_, c_d b1_, c_d b1_, c_T, c_T, c_d b3_, c_d b3_, c_d b3_, c_d b3_, c_T, c_T, c_n bq1_, c_n bq1_, c_n bq1_, c_n bq1_, c_n bq18_, c_T, c_d bq35_, c_d bq35_, c_d bq35_, c_d bq35_, c_T, c_le 0, c_le 1, c_le 2, c_b bq43_] [k_c fq37_, k_c fq39_, k_c fq41_] (by kernel_rfl)
    have hq44_ := (if_neg bq43_).symm.trans hq42_
    have bq45_ : r16 = (0 : Int) := by first | exact bq43_ | simpa using bq43_
    obtain ⟨r17, fq46_, hq47_⟩ := pullD_elim hq44_
    replace fq46_ := m_78_ok fq46_
    obtain ⟨r18, fq48_, hq49_⟩ := pullD_elim hq47_
    replace fq48_ := m_78_ok fq48_
    obtain ⟨⟨r19, r20⟩, fq50_, hq51_⟩ := pullD_elim hq49_
    replace fq50_ := m_62_ok fq50_
    obtain rfl := Option.some.inj hq51_
    exact con_pc (op := true) (I := [36, 55, 69, 63, 97]) (sp := lossOf_sp) 3000 (bT 13 (bF 5 (bT 6 (bF 1 [])))) [iD r14, iD r15, iD r16, iD r17, iD r18, .agg [iD r19, iD r20]] [c_T, c_d b1_, c_d b1_, c_d b1_, c_d b1_, c_T, c_T, c_d b3_, c_d b3_, c_d b3_, c_d b3_, c_T, c_T, c_n bq1_, c_n bq1_, c_n bq1_, c_n bq1_, c_n bq18_, c_T, c_d bq35_, c_d bq35_, c_d bq35_, c_d bq35_, c_T, c_le 0, c_le 1, c_le 2, c_bn bq45_] [k_c fq37_, k_c fq39_, k_c fq41_, k_c fq46_, k_c fq48_, k_c fq50_] (by kernel_rfl)
  have hq36_ := (if_neg bq35_).symm.trans hq19_
  by_cases bq52_ : d > (100000 : Int)
  · have hq53_ := (if_pos bq52_).symm.trans hq36_
    obtain ⟨r21, fq54_, hq55_⟩ := pullD_elim hq53_
    replace fq54_ := m_64_ok fq54_
    obtain ⟨r22, fq56_, hq57_⟩ := pullD_elim hq55_
    replace fq56_ := m_50_ok fq56_
    obtain ⟨r23, fq58_, hq59_⟩ := pullD_elim hq57_
    replace fq58_ := m_50_ok fq58_
    by_cases bq60_ : r23 ≠ (0 : Int)
    · have hq61_ := (if_pos bq60_).symm.trans hq59_
      obtain rfl := Option.some.inj hq61_
      exact con_pc (op := true) (I := [36, 55, 69, 63, 97]) (sp := lossOf_sp) 3000 (bT 13 (bF 5 (bT 1 (bF 4 (bT 2 []))))) [iD r21, iD r22, iD r23] [c_T, c_d b1_, c_d b1_, c_d b1_, c_d b1_, c_T, c_T, c_d b3_, c_d b3_, c_d b3_, c_d b3_, c_T, c_T, c_n bq1_, c_n bq1_, c_n bq1_, c_n bq1_, c_n bq18_, c_T, c_n bq35_, c_n bq35_, c_n bq35_, c_n bq35_, c_d bq52_, c_le 0, c_le 1, c_le 2, c_b bq60_] [k_c fq54_, k_c fq56_, k_c fq58_] (by kernel_rfl)
    have hq61_ := (if_neg bq60_).symm.trans hq59_
    have bq62_ : r23 = (0 : Int) := by first | exact bq60_ | simpa using bq60_
    obtain ⟨r24, fq63_, hq64_⟩ := pullD_elim hq61_
    replace fq63_ := m_78_ok fq63_
    obtain ⟨r25, fq65_, hq66_⟩ := pullD_elim hq64_
    replace fq65_ := m_78_ok fq65_
    obtain ⟨⟨r26, r27⟩, fq67_, hq68_⟩ := pullD_elim hq66_
    replace fq67_ := m_62_ok fq67_
    obtain rfl := Option.some.inj hq68_
    exact con_pc (op := true) (I := [36, 55, 69, 63, 97]) (sp := lossOf_sp) 3000 (bT 13 (bF 5 (bT 1 (bF 4 (bT 1 (bF 1 [])))))) [iD r21, iD r22, iD r23, iD r24, iD r25, .agg [iD r26, iD r27]] [c_T, c_d b1_, c_d b1_, c_d b1_, c_d b1_, c_T, c_T, c_d b3_, c_d b3_, c_d b3_, c_d b3_, c_T, c_T, c_n bq1_, c_n bq1_, c_n bq1_, c_n bq1_, c_n bq18_, c_T, c_n bq35_, c_n bq35_, c_n bq35_, c_n bq35_, c_d bq52_, c_le 0, c_le 1, c_le 2, c_bn bq62_] [k_c fq54_, k_c fq56_, k_c fq58_, k_c fq63_, k_c fq65_, k_c fq67_] (by kernel_rfl)
  have hq53_ := (if_neg bq52_).symm.trans hq36_
  obtain ⟨r28, fq69_, hq70_⟩ := pullD_elim hq53_
  replace fq69_ := m_64_ok fq69_
  obtain ⟨r29, fq71_, hq72_⟩ := pullD_elim hq70_
  replace fq71_ := m_50_ok fq71_
  obtain ⟨r30, fq73_, hq74_⟩ := pullD_elim hq72_
  replace fq73_ := m_50_ok fq73_
  by_cases bq75_ : r30 ≠ (0 : Int)
  · have hq76_ := (if_pos bq75_).symm.trans hq74_
    obtain rfl := Option.some.inj hq76_
    exact con_pc (op := true) (I := [36, 55, 69, 63, 97]) (sp := lossOf_sp) 3000 (bT 13 (bF 5 (bT 1 (bF 6 (bT 1 []))))) [iD r28, iD r29, iD r30] [c_T, c_d b1_, c_d b1_, c_d b1_, c_d b1_, c_T, c_T, c_d b3_, c_d b3_, c_d b3_, c_d b3_, c_T, c_T, c_n bq1_, c_n bq1_, c_n bq1_, c_n bq1_, c_n bq18_, c_T, c_n bq35_, c_n bq35_, c_n bq35_, c_n bq35_, c_n bq52_, c_F, c_le 0, c_le 1, c_le 2, c_b bq75_] [k_c fq69_, k_c fq71_, k_c fq73_] (by kernel_rfl)
  have hq76_ := (if_neg bq75_).symm.trans hq74_
  have bq77_ : r30 = (0 : Int) := by first | exact bq75_ | simpa using bq75_
  obtain ⟨r31, fq78_, hq79_⟩ := pullD_elim hq76_
  replace fq78_ := m_78_ok fq78_
  obtain ⟨r32, fq80_, hq81_⟩ := pullD_elim hq79_
  replace fq80_ := m_78_ok fq80_
  obtain ⟨⟨r33, r34⟩, fq82_, hq83_⟩ := pullD_elim hq81_
  replace fq82_ := m_62_ok fq82_
  obtain rfl := Option.some.inj hq83_
  exact con_pc (op := true) (I := [36, 55, 69, 63, 97]) (sp := lossOf_sp) 3000 (bT 13 (bF 5 (bT 1 (bF 7 [])))) [iD r28, iD r29, iD r30, iD r31, iD r32, .agg [iD r33, iD r34]] [c_T, c_d b1_, c_d b1_, c_d b1_, c_d b1_, c_T, c_T, c_d b3_, c_d b3_, c_d b3_, c_d b3_, c_T, c_T, c_n bq1_, c_n bq1_, c_n bq1_, c_n bq1_, c_n bq18_, c_T, c_n bq35_, c_n bq35_, c_n bq35_, c_n bq35_, c_n bq52_, c_F, c_le 0, c_le 1, c_le 2, c_bn bq77_] [k_c fq69_, k_c fq71_, k_c fq73_, k_c fq78_, k_c fq80_, k_c fq82_] (by kernel_rfl)
theorem lossOf_M_s1_ok (a b c d : Int)  (b1_ : a < (0 : Int)) (b3_ : ¬ (b < IntKind.i64.wrap ((0 : Int) - (1000000000 : Int)))) {r : D} (h : lossOf_M_s1 a b c d = some r) : Con 36 [iD a, iD b, .agg [iD c, iD d]] r := by
  unfold lossOf_M_s1 at h
  by_cases bq1_ : b > (1000000000 : Int)
  · have hq2_ := (if_pos bq1_).symm.trans h
    by_cases bq3_ : c < IntKind.i64.wrap ((0 : Int) - (100000 : Int))
    · have hq4_ := (if_pos bq3_).symm.trans hq2_
      obtain ⟨r35, fq5_, hq6_⟩ := pullD_elim hq4_
      replace fq5_ := m_64_ok fq5_
      obtain ⟨r36, fq7_, hq8_⟩ := pullD_elim hq6_
      replace fq7_ := m_50_ok fq7_
      obtain ⟨r37, fq9_, hq10_⟩ := pullD_elim hq8_
      replace fq9_ := m_50_ok fq9_
      by_cases bq11_ : r37 ≠ (0 : Int)
      · have hq12_ := (if_pos bq11_).symm.trans hq10_
        obtain rfl := Option.some.inj hq12_
        exact con_pc (op := true) (I := [36, 55, 69, 63, 97]) (sp := lossOf_sp) 3000 (bT 7 (bF 4 (bT 8 []))) [iD r35, iD r36, iD r37] [c_T, c_d b1_, c_d b1_, c_d b1_, c_d b1_, c_T, c_T, c_n b3_, c_n b3_, c_n b3_, c_n b3_, c_d bq1_, c_T, c_d bq3_, c_d bq3_, c_d bq3_, c_d bq3_, c_T, c_le 0, c_le 1, c_le 2, c_b bq11_] [k_c fq5_, k_c fq7_, k_c fq9_] (by kernel_rfl)
      have hq12_ := (if_neg bq11_).symm.trans hq10_
      have bq13_ : r37 = (0 : Int) := by first | exact bq11_ | simpa using bq11_
      obtain ⟨r38, fq14_, hq15_⟩ := pullD_elim hq12_
      replace fq14_ := m_78_ok fq14_
      obtain ⟨r39, fq16_, hq17_⟩ := pullD_elim hq15_
      replace fq16_ := m_78_ok fq16_
      obtain ⟨⟨r40, r41⟩, fq18_, hq19_⟩ := pullD_elim hq17_
      replace fq18_ := m_62_ok fq18_
      obtain rfl := Option.some.inj hq19_
      exact con_pc (op := true) (I := [36, 55, 69, 63, 97]) (sp := lossOf_sp) 3000 (bT 7 (bF 4 (bT 7 (bF 1 [])))) [iD r35, iD r36, iD r37, iD r38, iD r39, .agg [iD r40, iD r41]] [c_T, c_d b1_, c_d b1_, c_d b1_, c_d b1_, c_T, c_T, c_n b3_, c_n b3_, c_n b3_, c_n b3_, c_d bq1_, c_T, c_d bq3_, c_d bq3_, c_d bq3_, c_d bq3_, c_T, c_le 0, c_le 1, c_le 2, c_bn bq13_] [k_c fq5_, k_c fq7_, k_c fq9_, k_c fq14_, k_c fq16_, k_c fq18_] (by kernel_rfl)
    have hq4_ := (if_neg bq3_).symm.trans hq2_
    by_cases bq20_ : c > (100000 : Int)
    · have hq21_ := (if_pos bq20_).symm.trans hq4_
      obtain ⟨r42, fq22_, hq23_⟩ := pullD_elim hq21_
      replace fq22_ := m_64_ok fq22_
      obtain ⟨r43, fq24_, hq25_⟩ := pullD_elim hq23_
      replace fq24_ := m_50_ok fq24_
      obtain ⟨r44, fq26_, hq27_⟩ := pullD_elim hq25_
      replace fq26_ := m_50_ok fq26_
      by_cases bq28_ : r44 ≠ (0 : Int)
      · have hq29_ := (if_pos bq28_).symm.trans hq27_
        obtain rfl := Option.some.inj hq29_
        exact con_pc (op := true) (I := [36, 55, 69, 63, 97]) (sp := lossOf_sp) 3000 (bT 7 (bF 4 (bT 2 (bF 4 (bT 2 []))))) [iD r42, iD r43, iD r44] [c_T, c_d b1_, c_d b1_, c_d b1_, c_d b1_, c_T, c_T, c_n b3_, c_n b3_, c_n b3_, c_n b3_, c_d bq1_, c_T, c_n bq3_, c_n bq3_, c_n bq3_, c_n bq3_, c_d bq20_, c_le 0, c_le 1, c_le 2, c_b bq28_] [k_c fq22_, k_c fq24_, k_c fq26_] (by kernel_rfl)
      have hq29_ := (if_neg bq28_).symm.trans hq27_
      have bq30_ : r44 = (0 : Int) := by first | exact bq28_ | simpa using bq28_
      obtain ⟨r45, fq31_, hq32_⟩ := pullD_elim hq29_
      replace fq31_ := m_78_ok fq31_
      obtain ⟨r46, fq33_, hq34_⟩ := pullD_elim hq32_
      replace fq33_ := m_78_ok fq33_
      obtain ⟨⟨r47, r48⟩, fq35_, hq36_⟩ := pullD_elim hq34_
      replace fq35_ := m_62_ok fq35_
      obtain rfl := Option.some.inj hq36_
      exact con_pc (op := true) (I := [36, 55, 69, 63, 97]) (sp := lossOf_sp) 3000 (bT 7 (bF 4 (bT 2 (bF 4 (bT 1 (bF 1 [])))))) [iD r42, iD r43, iD r44, iD r45, iD r46, .agg [iD r47, iD r48]] [c_T, c_d b1_, c_d b1_, c_d b1_, c_d b1_, c_T, c_T, c_n b3_, c_n b3_, c_n b3_, c_n b3_, c_d bq1_, c_T, c_n bq3_, c_n bq3_, c_n bq3_, c_n bq3_, c_d bq20_, c_le 0, c_le 1, c_le 2, c_bn bq30_] [k_c fq22_, k_c fq24_, k_c fq26_, k_c fq31_, k_c fq33_, k_c fq35_] (by kernel_rfl)
    have hq21_ := (if_neg bq20_).symm.trans hq4_
    by_cases bq37_ : d < IntKind.i64.wrap ((0 : Int) - (100000 : Int))
    · have hq38_ := (if_pos bq37_).symm.trans hq21_
      obtain ⟨r49, fq39_, hq40_⟩ := pullD_elim hq38_
      replace fq39_ := m_64_ok fq39_
      obtain ⟨r50, fq41_, hq42_⟩ := pullD_elim hq40_
      replace fq41_ := m_50_ok fq41_
      obtain ⟨r51, fq43_, hq44_⟩ := pullD_elim hq42_
      replace fq43_ := m_50_ok fq43_
      by_cases bq45_ : r51 ≠ (0 : Int)
      · have hq46_ := (if_pos bq45_).symm.trans hq44_
        obtain rfl := Option.some.inj hq46_
        exact con_pc (op := true) (I := [36, 55, 69, 63, 97]) (sp := lossOf_sp) 3000 (bT 7 (bF 4 (bT 2 (bF 5 (bT 7 []))))) [iD r49, iD r50, iD r51] [c_T, c_d b1_, c_d b1_, c_d b1_, c_d b1_, c_T, c_T, c_n b3_, c_n b3_, c_n b3_, c_n b3_, c_d bq1_, c_T, c_n bq3_, c_n bq3_, c_n bq3_, c_n bq3_, c_n bq20_, c_T, c_d bq37_, c_d bq37_, c_d bq37_, c_d bq37_, c_T, c_le 0, c_le 1, c_le 2, c_b bq45_] [k_c fq39_, k_c fq41_, k_c fq43_] (by kernel_rfl)
      have hq46_ := (if_neg bq45_).symm.trans hq44_
      have bq47_ : r51 = (0 : Int) := by first | exact bq45_ | simpa using bq45_
      obtain ⟨r52, fq48_, hq49_⟩ := pullD_elim hq46_
      replace fq48_ := m_78_ok fq48_
      obtain ⟨r53, fq50_, hq51_⟩ := pullD_elim hq49_
      replace fq50_ := m_78_ok fq50_
      obtain ⟨⟨r54, r55⟩, fq52_, hq53_⟩ := pullD_elim hq51_
      replace fq52_ := m_62_ok fq52_
      obtain rfl := Option.some.inj hq53_
      exact con_pc (op := true) (I := [36, 55, 69, 63, 97]) (sp := lossOf_sp) 3000 (bT 7 (bF 4 (bT 2 (bF 5 (bT 6 (bF 1 [])))))) [iD r49, iD r50, iD r51, iD r52, iD r53, .agg [iD r54, iD r55]] [c_T, c_d b1_, c_d b1_, c_d b1_, c_d b1_, c_T, c_T, c_n b3_, c_n b3_, c_n b3_, c_n b3_, c_d bq1_, c_T, c_n bq3_, c_n bq3_, c_n bq3_, c_n bq3_, c_n bq20_, c_T, c_d bq37_, c_d bq37_, c_d bq37_, c_d bq37_, c_T, c_le 0, c_le 1, c_le 2, c_bn bq47_] [k_c fq39_, k_c fq41_, k_c fq43_, k_c fq48_, k_c fq50_, k_c fq52_] (by kernel_rfl)
    have hq38_ := (if_neg bq37_).symm.trans hq21_
    by_cases bq54_ : d > (100000 : Int)
    · have hq55_ := (if_pos bq54_).symm.trans hq38_
      obtain ⟨r56, fq56_, hq57_⟩ := pullD_elim hq55_
      replace fq56_ := m_64_ok fq56_
      obtain ⟨r57, fq58_, hq59_⟩ := pullD_elim hq57_
      replace fq58_ := m_50_ok fq58_
      obtain ⟨r58, fq60_, hq61_⟩ := pullD_elim hq59_
      replace fq60_ := m_50_ok fq60_
      by_cases bq62_ : r58 ≠ (0 : Int)
      · have hq63_ := (if_pos bq62_).symm.trans hq61_
        obtain rfl := Option.some.inj hq63_
        exact con_pc (op := true) (I := [36, 55, 69, 63, 97]) (sp := lossOf_sp) 3000 (bT 7 (bF 4 (bT 2 (bF 5 (bT 1 (bF 4 (bT 2 []))))))) [iD r56, iD r57, iD r58] [c_T, c_d b1_, c_d b1_, c_d b1_, c_d b1_, c_T, c_T, c_n b3_, c_n b3_, c_n b3_, c_n b3_, c_d bq1_, c_T, c_n bq3_, c_n bq3_, c_n bq3_, c_n bq3_, c_n bq20_, c_T, c_n bq37_, c_n bq37_, c_n bq37_, c_n bq37_, c_d bq54_, c_le 0, c_le 1, c_le 2, c_b bq62_] [k_c fq56_, k_c fq58_, k_c fq60_] (by kernel_rfl)
      have hq63_ := (if_neg bq62_).symm.trans hq61_
      have bq64_ : r58 = (0 : Int) := by first | exact bq62_ | simpa using bq62_
      obtain ⟨r59, fq65_, hq66_⟩ := pullD_elim hq63_
      replace fq65_ := m_78_ok fq65_
      obtain ⟨r60, fq67_, hq68_⟩ := pullD_elim hq66_
      replace fq67_ := m_78_ok fq67_
      obtain ⟨⟨r61, r62⟩, fq69_, hq70_⟩ := pullD_elim hq68_
      replace fq69_ := m_62_ok fq69_
      obtain rfl := Option.some.inj hq70_
      exact con_pc (op := true) (I := [36, 55, 69, 63, 97]) (sp := lossOf_sp) 3000 (bT 7 (bF 4 (bT 2 (bF 5 (bT 1 (bF 4 (bT 1 (bF 1 [])))))))) [iD r56, iD r57, iD r58, iD r59, iD r60, .agg [iD r61, iD r62]] [c_T, c_d b1_, c_d b1_, c_d b1_, c_d b1_, c_T, c_T, c_n b3_, c_n b3_, c_n b3_, c_n b3_, c_d bq1_, c_T, c_n bq3_, c_n bq3_, c_n bq3_, c_n bq3_, c_n bq20_, c_T, c_n bq37_, c_n bq37_, c_n bq37_, c_n bq37_, c_d bq54_, c_le 0, c_le 1, c_le 2, c_bn bq64_] [k_c fq56_, k_c fq58_, k_c fq60_, k_c fq65_, k_c fq67_, k_c fq69_] (by kernel_rfl)
    have hq55_ := (if_neg bq54_).symm.trans hq38_
    obtain ⟨r63, fq71_, hq72_⟩ := pullD_elim hq55_
    replace fq71_ := m_64_ok fq71_
    obtain ⟨r64, fq73_, hq74_⟩ := pullD_elim hq72_
    replace fq73_ := m_50_ok fq73_
    obtain ⟨r65, fq75_, hq76_⟩ := pullD_elim hq74_
    replace fq75_ := m_50_ok fq75_
    by_cases bq77_ : r65 ≠ (0 : Int)
    · have hq78_ := (if_pos bq77_).symm.trans hq76_
      obtain rfl := Option.some.inj hq78_
      exact con_pc (op := true) (I := [36, 55, 69, 63, 97]) (sp := lossOf_sp) 3000 (bT 7 (bF 4 (bT 2 (bF 5 (bT 1 (bF 6 (bT 1 []))))))) [iD r63, iD r64, iD r65] [c_T, c_d b1_, c_d b1_, c_d b1_, c_d b1_, c_T, c_T, c_n b3_, c_n b3_, c_n b3_, c_n b3_, c_d bq1_, c_T, c_n bq3_, c_n bq3_, c_n bq3_, c_n bq3_, c_n bq20_, c_T, c_n bq37_, c_n bq37_, c_n bq37_, c_n bq37_, c_n bq54_, c_F, c_le 0, c_le 1, c_le 2, c_b bq77_] [k_c fq71_, k_c fq73_, k_c fq75_] (by kernel_rfl)
    have hq78_ := (if_neg bq77_).symm.trans hq76_
    have bq79_ : r65 = (0 : Int) := by first | exact bq77_ | simpa using bq77_
    obtain ⟨r66, fq80_, hq81_⟩ := pullD_elim hq78_
    replace fq80_ := m_78_ok fq80_
    obtain ⟨r67, fq82_, hq83_⟩ := pullD_elim hq81_
    replace fq82_ := m_78_ok fq82_
    obtain ⟨⟨r68, r69⟩, fq84_, hq85_⟩ := pullD_elim hq83_
    replace fq84_ := m_62_ok fq84_
    obtain rfl := Option.some.inj hq85_
    exact con_pc (op := true) (I := [36, 55, 69, 63, 97]) (sp := lossOf_sp) 3000 (bT 7 (bF 4 (bT 2 (bF 5 (bT 1 (bF 7 [])))))) [iD r63, iD r64, iD r65, iD r66, iD r67, .agg [iD r68, iD r69]] [c_T, c_d b1_, c_d b1_, c_d b1_, c_d b1_, c_T, c_T, c_n b3_, c_n b3_, c_n b3_, c_n b3_, c_d bq1_, c_T, c_n bq3_, c_n bq3_, c_n bq3_, c_n bq3_, c_n bq20_, c_T, c_n bq37_, c_n bq37_, c_n bq37_, c_n bq37_, c_n bq54_, c_F, c_le 0, c_le 1, c_le 2, c_bn bq79_] [k_c fq71_, k_c fq73_, k_c fq75_, k_c fq80_, k_c fq82_, k_c fq84_] (by kernel_rfl)
  have hq2_ := (if_neg bq1_).symm.trans h
  by_cases bq86_ : c < IntKind.i64.wrap ((0 : Int) - (100000 : Int))
  · have hq87_ := (if_pos bq86_).symm.trans hq2_
    obtain ⟨r70, fq88_, hq89_⟩ := pullD_elim hq87_
    replace fq88_ := m_64_ok fq88_
    obtain ⟨r71, fq90_, hq91_⟩ := pullD_elim hq89_
    replace fq90_ := m_50_ok fq90_
    obtain ⟨r72, fq92_, hq93_⟩ := pullD_elim hq91_
    replace fq92_ := m_50_ok fq92_
    by_cases bq94_ : r72 ≠ (0 : Int)
    · have hq95_ := (if_pos bq94_).symm.trans hq93_
      obtain rfl := Option.some.inj hq95_
      exact con_pc (op := true) (I := [36, 55, 69, 63, 97]) (sp := lossOf_sp) 3000 (bT 7 (bF 6 (bT 7 []))) [iD r70, iD r71, iD r72] [c_T, c_d b1_, c_d b1_, c_d b1_, c_d b1_, c_T, c_T, c_n b3_, c_n b3_, c_n b3_, c_n b3_, c_n bq1_, c_F, c_T, c_d bq86_, c_d bq86_, c_d bq86_, c_d bq86_, c_T, c_le 0, c_le 1, c_le 2, c_b bq94_] [k_c fq88_, k_c fq90_, k_c fq92_] (by kernel_rfl)
    have hq95_ := (if_neg bq94_).symm.trans hq93_
    have bq96_ : r72 = (0 : Int) := by first | exact bq94_ | simpa using bq94_
    obtain ⟨r73, fq97_, hq98_⟩ := pullD_elim hq95_
    replace fq97_ := m_78_ok fq97_
    obtain ⟨r74, fq99_, hq100_⟩ := pullD_elim hq98_
    replace fq99_ := m_78_ok fq99_
    obtain ⟨⟨r75, r76⟩, fq101_, hq102_⟩ := pullD_elim hq100_
    replace fq101_ := m_62_ok fq101_
    obtain rfl := Option.some.inj hq102_
    exact con_pc (op := true) (I := [36, 55, 69, 63, 97]) (sp := lossOf_sp) 3000 (bT 7 (bF 6 (bT 6 (bF 1 [])))) [iD r70, iD r71, iD r72, iD r73, iD r74, .agg [iD r75, iD r76]] [c_T, c_d b1_, c_d b1_, c_d b1_, c_d b1_, c_T, c_T, c_n b3_, c_n b3_, c_n b3_, c_n b3_, c_n bq1_, c_F, c_T, c_d bq86_, c_d bq86_, c_d bq86_, c_d bq86_, c_T, c_le 0, c_le 1, c_le 2, c_bn bq96_] [k_c fq88_, k_c fq90_, k_c fq92_, k_c fq97_, k_c fq99_, k_c fq101_] (by kernel_rfl)
  have hq87_ := (if_neg bq86_).symm.trans hq2_
  by_cases bq103_ : c > (100000 : Int)
  · have hq104_ := (if_pos bq103_).symm.trans hq87_
    obtain ⟨r77, fq105_, hq106_⟩ := pullD_elim hq104_
    replace fq105_ := m_64_ok fq105_
    obtain ⟨r78, fq107_, hq108_⟩ := pullD_elim hq106_
    replace fq107_ := m_50_ok fq107_
    obtain ⟨r79, fq109_, hq110_⟩ := pullD_elim hq108_
    replace fq109_ := m_50_ok fq109_
    by_cases bq111_ : r79 ≠ (0 : Int)
    · have hq112_ := (if_pos bq111_).symm.trans hq110_
      obtain rfl := Option.some.inj hq112_
      exact con_pc (op := true) (I := [36, 55, 69, 63, 97]) (sp := lossOf_sp) 3000 (bT 7 (bF 6 (bT 1 (bF 4 (bT 2 []))))) [iD r77, iD r78, iD r79] [c_T, c_d b1_, c_d b1_, c_d b1_, c_d b1_, c_T, c_T, c_n b3_, c_n b3_, c_n b3_, c_n b3_, c_n bq1_, c_F, c_T, c_n bq86_, c_n bq86_, c_n bq86_, c_n bq86_, c_d bq103_, c_le 0, c_le 1, c_le 2, c_b bq111_] [k_c fq105_, k_c fq107_, k_c fq109_] (by kernel_rfl)
    have hq112_ := (if_neg bq111_).symm.trans hq110_
    have bq113_ : r79 = (0 : Int) := by first | exact bq111_ | simpa using bq111_
    obtain ⟨r80, fq114_, hq115_⟩ := pullD_elim hq112_
    replace fq114_ := m_78_ok fq114_
    obtain ⟨r81, fq116_, hq117_⟩ := pullD_elim hq115_
    replace fq116_ := m_78_ok fq116_
    obtain ⟨⟨r82, r83⟩, fq118_, hq119_⟩ := pullD_elim hq117_
    replace fq118_ := m_62_ok fq118_
    obtain rfl := Option.some.inj hq119_
    exact con_pc (op := true) (I := [36, 55, 69, 63, 97]) (sp := lossOf_sp) 3000 (bT 7 (bF 6 (bT 1 (bF 4 (bT 1 (bF 1 [])))))) [iD r77, iD r78, iD r79, iD r80, iD r81, .agg [iD r82, iD r83]] [c_T, c_d b1_, c_d b1_, c_d b1_, c_d b1_, c_T, c_T, c_n b3_, c_n b3_, c_n b3_, c_n b3_, c_n bq1_, c_F, c_T, c_n bq86_, c_n bq86_, c_n bq86_, c_n bq86_, c_d bq103_, c_le 0, c_le 1, c_le 2, c_bn bq113_] [k_c fq105_, k_c fq107_, k_c fq109_, k_c fq114_, k_c fq116_, k_c fq118_] (by kernel_rfl)
  have hq104_ := (if_neg bq103_).symm.trans hq87_
  by_cases bq120_ : d < IntKind.i64.wrap ((0 : Int) - (100000 : Int))
  · have hq121_ := (if_pos bq120_).symm.trans hq104_
    obtain ⟨r84, fq122_, hq123_⟩ := pullD_elim hq121_
    replace fq122_ := m_64_ok fq122_
    obtain ⟨r85, fq124_, hq125_⟩ := pullD_elim hq123_
    replace fq124_ := m_50_ok fq124_
    obtain ⟨r86, fq126_, hq127_⟩ := pullD_elim hq125_
    replace fq126_ := m_50_ok fq126_
    by_cases bq128_ : r86 ≠ (0 : Int)
    · have hq129_ := (if_pos bq128_).symm.trans hq127_
      obtain rfl := Option.some.inj hq129_
      exact con_pc (op := true) (I := [36, 55, 69, 63, 97]) (sp := lossOf_sp) 3000 (bT 7 (bF 6 (bT 1 (bF 5 (bT 7 []))))) [iD r84, iD r85, iD r86] [c_T, c_d b1_, c_d b1_, c_d b1_, c_d b1_, c_T, c_T, c_n b3_, c_n b3_, c_n b3_, c_n b3_, c_n bq1_, c_F, c_T, c_n bq86_, c_n bq86_, c_n bq86_, c_n bq86_, c_n bq103_, c_T, c_d bq120_, c_d bq120_, c_d bq120_, c_d bq120_, c_T, c_le 0, c_le 1, c_le 2, c_b bq128_] [k_c fq122_, k_c fq124_, k_c fq126_] (by kernel_rfl)
    have hq129_ := (if_neg bq128_).symm.trans hq127_
    have bq130_ : r86 = (0 : Int) := by first | exact bq128_ | simpa using bq128_
    obtain ⟨r87, fq131_, hq132_⟩ := pullD_elim hq129_
    replace fq131_ := m_78_ok fq131_
    obtain ⟨r88, fq133_, hq134_⟩ := pullD_elim hq132_
    replace fq133_ := m_78_ok fq133_
    obtain ⟨⟨r89, r90⟩, fq135_, hq136_⟩ := pullD_elim hq134_
    replace fq135_ := m_62_ok fq135_
    obtain rfl := Option.some.inj hq136_
    exact con_pc (op := true) (I := [36, 55, 69, 63, 97]) (sp := lossOf_sp) 3000 (bT 7 (bF 6 (bT 1 (bF 5 (bT 6 (bF 1 [])))))) [iD r84, iD r85, iD r86, iD r87, iD r88, .agg [iD r89, iD r90]] [c_T, c_d b1_, c_d b1_, c_d b1_, c_d b1_, c_T, c_T, c_n b3_, c_n b3_, c_n b3_, c_n b3_, c_n bq1_, c_F, c_T, c_n bq86_, c_n bq86_, c_n bq86_, c_n bq86_, c_n bq103_, c_T, c_d bq120_, c_d bq120_, c_d bq120_, c_d bq120_, c_T, c_le 0, c_le 1, c_le 2, c_bn bq130_] [k_c fq122_, k_c fq124_, k_c fq126_, k_c fq131_, k_c fq133_, k_c fq135_] (by kernel_rfl)
  have hq121_ := (if_neg bq120_).symm.trans hq104_
  by_cases bq137_ : d > (100000 : Int)
  · have hq138_ := (if_pos bq137_).symm.trans hq121_
    obtain ⟨r91, fq139_, hq140_⟩ := pullD_elim hq138_
    replace fq139_ := m_64_ok fq139_
    obtain ⟨r92, fq141_, hq142_⟩ := pullD_elim hq140_
    replace fq141_ := m_50_ok fq141_
    obtain ⟨r93, fq143_, hq144_⟩ := pullD_elim hq142_
    replace fq143_ := m_50_ok fq143_
    by_cases bq145_ : r93 ≠ (0 : Int)
    · have hq146_ := (if_pos bq145_).symm.trans hq144_
      obtain rfl := Option.some.inj hq146_
      exact con_pc (op := true) (I := [36, 55, 69, 63, 97]) (sp := lossOf_sp) 3000 (bT 7 (bF 6 (bT 1 (bF 5 (bT 1 (bF 4 (bT 2 []))))))) [iD r91, iD r92, iD r93] [c_T, c_d b1_, c_d b1_, c_d b1_, c_d b1_, c_T, c_T, c_n b3_, c_n b3_, c_n b3_, c_n b3_, c_n bq1_, c_F, c_T, c_n bq86_, c_n bq86_, c_n bq86_, c_n bq86_, c_n bq103_, c_T, c_n bq120_, c_n bq120_, c_n bq120_, c_n bq120_, c_d bq137_, c_le 0, c_le 1, c_le 2, c_b bq145_] [k_c fq139_, k_c fq141_, k_c fq143_] (by kernel_rfl)
    have hq146_ := (if_neg bq145_).symm.trans hq144_
    have bq147_ : r93 = (0 : Int) := by first | exact bq145_ | simpa using bq145_
    obtain ⟨r94, fq148_, hq149_⟩ := pullD_elim hq146_
    replace fq148_ := m_78_ok fq148_
    obtain ⟨r95, fq150_, hq151_⟩ := pullD_elim hq149_
    replace fq150_ := m_78_ok fq150_
    obtain ⟨⟨r96, r97⟩, fq152_, hq153_⟩ := pullD_elim hq151_
    replace fq152_ := m_62_ok fq152_
    obtain rfl := Option.some.inj hq153_
    exact con_pc (op := true) (I := [36, 55, 69, 63, 97]) (sp := lossOf_sp) 3000 (bT 7 (bF 6 (bT 1 (bF 5 (bT 1 (bF 4 (bT 1 (bF 1 [])))))))) [iD r91, iD r92, iD r93, iD r94, iD r95, .agg [iD r96, iD r97]] [c_T, c_d b1_, c_d b1_, c_d b1_, c_d b1_, c_T, c_T, c_n b3_, c_n b3_, c_n b3_, c_n b3_, c_n bq1_, c_F, c_T, c_n bq86_, c_n bq86_, c_n bq86_, c_n bq86_, c_n bq103_, c_T, c_n bq120_, c_n bq120_, c_n bq120_, c_n bq120_, c_d bq137_, c_le 0, c_le 1, c_le 2, c_bn bq147_] [k_c fq139_, k_c fq141_, k_c fq143_, k_c fq148_, k_c fq150_, k_c fq152_] (by kernel_rfl)
  have hq138_ := (if_neg bq137_).symm.trans hq121_
  obtain ⟨r98, fq154_, hq155_⟩ := pullD_elim hq138_
  replace fq154_ := m_64_ok fq154_
  obtain ⟨r99, fq156_, hq157_⟩ := pullD_elim hq155_
  replace fq156_ := m_50_ok fq156_
  obtain ⟨r100, fq158_, hq159_⟩ := pullD_elim hq157_
  replace fq158_ := m_50_ok fq158_
  by_cases bq160_ : r100 ≠ (0 : Int)
  · have hq161_ := (if_pos bq160_).symm.trans hq159_
    obtain rfl := Option.some.inj hq161_
    exact con_pc (op := true) (I := [36, 55, 69, 63, 97]) (sp := lossOf_sp) 3000 (bT 7 (bF 6 (bT 1 (bF 5 (bT 1 (bF 6 (bT 1 []))))))) [iD r98, iD r99, iD r100] [c_T, c_d b1_, c_d b1_, c_d b1_, c_d b1_, c_T, c_T, c_n b3_, c_n b3_, c_n b3_, c_n b3_, c_n bq1_, c_F, c_T, c_n bq86_, c_n bq86_, c_n bq86_, c_n bq86_, c_n bq103_, c_T, c_n bq120_, c_n bq120_, c_n bq120_, c_n bq120_, c_n bq137_, c_F, c_le 0, c_le 1, c_le 2, c_b bq160_] [k_c fq154_, k_c fq156_, k_c fq158_] (by kernel_rfl)
  have hq161_ := (if_neg bq160_).symm.trans hq159_
  have bq162_ : r100 = (0 : Int) := by first | exact bq160_ | simpa using bq160_
  obtain ⟨r101, fq163_, hq164_⟩ := pullD_elim hq161_
  replace fq163_ := m_78_ok fq163_
  obtain ⟨r102, fq165_, hq166_⟩ := pullD_elim hq164_
  replace fq165_ := m_78_ok fq165_
  obtain ⟨⟨r103, r104⟩, fq167_, hq168_⟩ := pullD_elim hq166_
  replace fq167_ := m_62_ok fq167_
  obtain rfl := Option.some.inj hq168_
  exact con_pc (op := true) (I := [36, 55, 69, 63, 97]) (sp := lossOf_sp) 3000 (bT 7 (bF 6 (bT 1 (bF 5 (bT 1 (bF 7 [])))))) [iD r98, iD r99, iD r100, iD r101, iD r102, .agg [iD r103, iD r104]] [c_T, c_d b1_, c_d b1_, c_d b1_, c_d b1_, c_T, c_T, c_n b3_, c_n b3_, c_n b3_, c_n b3_, c_n bq1_, c_F, c_T, c_n bq86_, c_n bq86_, c_n bq86_, c_n bq86_, c_n bq103_, c_T, c_n bq120_, c_n bq120_, c_n bq120_, c_n bq120_, c_n bq137_, c_F, c_le 0, c_le 1, c_le 2, c_bn bq162_] [k_c fq154_, k_c fq156_, k_c fq158_, k_c fq163_, k_c fq165_, k_c fq167_] (by kernel_rfl)
theorem lossOf_M_s2_ok (a b c d : Int)  (b1_ : ¬ (a < (0 : Int))) (b5_ : a > (1000000000 : Int)) (b7_ : b < IntKind.i64.wrap ((0 : Int) - (1000000000 : Int))) {r : D} (h : lossOf_M_s2 a b c d = some r) : Con 36 [iD a, iD b, .agg [iD c, iD d]] r := by
  unfold lossOf_M_s2 at h
  by_cases bq1_ : c < IntKind.i64.wrap ((0 : Int) - (100000 : Int))
  · have hq2_ := (if_pos bq1_).symm.trans h
    obtain ⟨r105, fq3_, hq4_⟩ := pullD_elim hq2_
    replace fq3_ := m_64_ok fq3_
    obtain ⟨r106, fq5_, hq6_⟩ := pullD_elim hq4_
    replace fq5_ := m_50_ok fq5_
    obtain ⟨r107, fq7_, hq8_⟩ := pullD_elim hq6_
    replace fq7_ := m_50_ok fq7_
    by_cases bq9_ : r107 ≠ (0 : Int)
    · have hq10_ := (if_pos bq9_).symm.trans hq8_
      obtain rfl := Option.some.inj hq10_
      exact con_pc (op := true) (I := [36, 55, 69, 63, 97]) (sp := lossOf_sp) 3000 (bT 1 (bF 4 (bT 14 []))) [iD r105, iD r106, iD r107] [c_T, c_n b1_, c_n b1_, c_n b1_, c_n b1_, c_d b5_, c_T, c_d b7_, c_d b7_, c_d b7_, c_d b7_, c_T, c_T, c_d bq1_, c_d bq1_, c_d bq1_, c_d bq1_, c_T, c_le 0, c_le 1, c_le 2, c_b bq9_] [k_c fq3_, k_c fq5_, k_c fq7_] (by kernel_rfl)
    have hq10_ := (if_neg bq9_).symm.trans hq8_
    have bq11_ : r107 = (0 : Int) := by first | exact bq9_ | simpa using bq9_
    obtain ⟨r108, fq12_, hq13_⟩ := pullD_elim hq10_
    replace fq12_ := m_78_ok fq12_
    obtain ⟨r109, fq14_, hq15_⟩ := pullD_elim hq13_
    replace fq14_ := m_78_ok fq14_
    obtain ⟨⟨r110, r111⟩, fq16_, hq17_⟩ := pullD_elim hq15_
    replace fq16_ := m_62_ok fq16_
    obtain rfl := Option.some.inj hq17_
    exact con_pc (op := true) (I := [36, 55, 69, 63, 97]) (sp := lossOf_sp) 3000 (bT 1 (bF 4 (bT 13 (bF 1 [])))) [iD r105, iD r106, iD r107, iD r108, iD r109, .agg [iD r110, iD r111]] [c_T, c_n b1_, c_n b1_, c_n b1_, c_n b1_, c_d b5_, c_T, c_d b7_, c_d b7_, c_d b7_, c_d b7_, c_T, c_T, c_d bq1_, c_d bq1_, c_d bq1_, c_d bq1_, c_T, c_le 0, c_le 1, c_le 2, c_bn bq11_] [k_c fq3_, k_c fq5_, k_c fq7_, k_c fq12_, k_c fq14_, k_c fq16_] (by kernel_rfl)
  have hq2_ := (if_neg bq1_).symm.trans h
  by_cases bq18_ : c > (100000 : Int)
  · have hq19_ := (if_pos bq18_).symm.trans hq2_
    obtain ⟨r112, fq20_, hq21_⟩ := pullD_elim hq19_
    replace fq20_ := m_64_ok fq20_
    obtain ⟨r113, fq22_, hq23_⟩ := pullD_elim hq21_
    replace fq22_ := m_50_ok fq22_
    obtain ⟨r114, fq24_, hq25_⟩ := pullD_elim hq23_
    replace fq24_ := m_50_ok fq24_
    by_cases bq26_ : r114 ≠ (0 : Int)
    · have hq27_ := (if_pos bq26_).symm.trans hq25_
      obtain rfl := Option.some.inj hq27_
      exact con_pc (op := true) (I := [36, 55, 69, 63, 97]) (sp := lossOf_sp) 3000 (bT 1 (bF 4 (bT 8 (bF 4 (bT 2 []))))) [iD r112, iD r113, iD r114] [c_T, c_n b1_, c_n b1_, c_n b1_, c_n b1_, c_d b5_, c_T, c_d b7_, c_d b7_, c_d b7_, c_d b7_, c_T, c_T, c_n bq1_, c_n bq1_, c_n bq1_, c_n bq1_, c_d bq18_, c_le 0, c_le 1, c_le 2, c_b bq26_] [k_c fq20_, k_c fq22_, k_c fq24_] (by kernel_rfl)
    have hq27_ := (if_neg bq26_).symm.trans hq25_
    have bq28_ : r114 = (0 : Int) := by first | exact bq26_ | simpa using bq26_
    obtain ⟨r115, fq29_, hq30_⟩ := pullD_elim hq27_
    replace fq29_ := m_78_ok fq29_
    obtain ⟨r116, fq31_, hq32_⟩ := pullD_elim hq30_
    replace fq31_ := m_78_ok fq31_
    obtain ⟨⟨r117, r118⟩, fq33_, hq34_⟩ := pullD_elim hq32_
    replace fq33_ := m_62_ok fq33_
    obtain rfl := Option.some.inj hq34_
    exact con_pc (op := true) (I := [36, 55, 69, 63, 97]) (sp := lossOf_sp) 3000 (bT 1 (bF 4 (bT 8 (bF 4 (bT 1 (bF 1 [])))))) [iD r112, iD r113, iD r114, iD r115, iD r116, .agg [iD r117, iD r118]] [c_T, c_n b1_, c_n b1_, c_n b1_, c_n b1_, c_d b5_, c_T, c_d b7_, c_d b7_, c_d b7_, c_d b7_, c_T, c_T, c_n bq1_, c_n bq1_, c_n bq1_, c_n bq1_, c_d bq18_, c_le 0, c_le 1, c_le 2, c_bn bq28_] [k_c fq20_, k_c fq22_, k_c fq24_, k_c fq29_, k_c fq31_, k_c fq33_] (by kernel_rfl)
  have hq19_ := (if_neg bq18_).symm.trans hq2_
  by_cases bq35_ : d < IntKind.i64.wrap ((0 : Int) - (100000 : Int))
  · have hq36_ := (if_pos bq35_).symm.trans hq19_
    obtain ⟨r119, fq37_, hq38_⟩ := pullD_elim hq36_
    replace fq37_ := m_64_ok fq37_
    obtain ⟨r120, fq39_, hq40_⟩ := pullD_elim hq38_
    replace fq39_ := m_50_ok fq39_
    obtain ⟨r121, fq41_, hq42_⟩ := pullD_elim hq40_
    replace fq41_ := m_50_ok fq41_
    by_cases bq43_ : r121 ≠ (0 : Int)
    · have hq44_ := (if_pos bq43_).symm.trans hq42_
      obtain rfl := Option.some.inj hq44_
      exact con_pc (op := true) (I := [36, 55, 69, 63, 97]) (sp := lossOf_sp) 3000 (bT 1 (bF 4 (bT 8 (bF 5 (bT 7 []))))) [iD r119, iD r120, iD r121] [c_T, c_n b1_, c_n b1_, c_n b1_, c_n b1_, c_d b5_, c_T, c_d b7_, c_d b7_, c_d b7_, c_d b7_, c_T, c_T, c_n bq1_, c_n bq1_, c_n bq1_, c_n bq1_, c_n bq18_, c_T, c_d bq35_, c_d bq35_, c_d bq35_, c_d bq35_, c_T, c_le 0, c_le 1, c_le 2, c_b bq43_] [k_c fq37_, k_c fq39_, k_c fq41_] (by kernel_rfl)
    have hq44_ := (if_neg bq43_).symm.trans hq42_
    have bq45_ : r121 = (0 : Int) := by first | exact bq43_ | simpa using bq43_
    obtain ⟨r122, fq46_, hq47_⟩ := pullD_elim hq44_
    replace fq46_ := m_78_ok fq46_
    obtain ⟨r123, fq48_, hq49_⟩ := pullD_elim hq47_
    replace fq48_ := m_78_ok fq48_
    obtain ⟨⟨r124, r125⟩, fq50_, hq51_⟩ := pullD_elim hq49_
    replace fq50_ := m_62_ok fq50_
    obtain rfl := Option.some.inj hq51_
    exact con_pc (op := true) (I := [36, 55, 69, 63, 97]) (sp := lossOf_sp) 3000 (bT 1 (bF 4 (bT 8 (bF 5 (bT 6 (bF 1 [])))))) [iD r119, iD r120, iD r121, iD r122, iD r123, .agg [iD r124, iD r125]] [c_T, c_n b1_, c_n b1_, c_n b1_, c_n b1_, c_d b5_, c_T, c_d b7_, c_d b7_, c_d b7_, c_d b7_, c_T, c_T, c_n bq1_, c_n bq1_, c_n bq1_, c_n bq1_, c_n bq18_, c_T, c_d bq35_, c_d bq35_, c_d bq35_, c_d bq35_, c_T, c_le 0, c_le 1, c_le 2, c_bn bq45_] [k_c fq37_, k_c fq39_, k_c fq41_, k_c fq46_, k_c fq48_, k_c fq50_] (by kernel_rfl)
  have hq36_ := (if_neg bq35_).symm.trans hq19_
  by_cases bq52_ : d > (100000 : Int)
  · have hq53_ := (if_pos bq52_).symm.trans hq36_
    obtain ⟨r126, fq54_, hq55_⟩ := pullD_elim hq53_
    replace fq54_ := m_64_ok fq54_
    obtain ⟨r127, fq56_, hq57_⟩ := pullD_elim hq55_
    replace fq56_ := m_50_ok fq56_
    obtain ⟨r128, fq58_, hq59_⟩ := pullD_elim hq57_
    replace fq58_ := m_50_ok fq58_
    by_cases bq60_ : r128 ≠ (0 : Int)
    · have hq61_ := (if_pos bq60_).symm.trans hq59_
      obtain rfl := Option.some.inj hq61_
      exact con_pc (op := true) (I := [36, 55, 69, 63, 97]) (sp := lossOf_sp) 3000 (bT 1 (bF 4 (bT 8 (bF 5 (bT 1 (bF 4 (bT 2 []))))))) [iD r126, iD r127, iD r128] [c_T, c_n b1_, c_n b1_, c_n b1_, c_n b1_, c_d b5_, c_T, c_d b7_, c_d b7_, c_d b7_, c_d b7_, c_T, c_T, c_n bq1_, c_n bq1_, c_n bq1_, c_n bq1_, c_n bq18_, c_T, c_n bq35_, c_n bq35_, c_n bq35_, c_n bq35_, c_d bq52_, c_le 0, c_le 1, c_le 2, c_b bq60_] [k_c fq54_, k_c fq56_, k_c fq58_] (by kernel_rfl)
    have hq61_ := (if_neg bq60_).symm.trans hq59_
    have bq62_ : r128 = (0 : Int) := by first | exact bq60_ | simpa using bq60_
    obtain ⟨r129, fq63_, hq64_⟩ := pullD_elim hq61_
    replace fq63_ := m_78_ok fq63_
    obtain ⟨r130, fq65_, hq66_⟩ := pullD_elim hq64_
    replace fq65_ := m_78_ok fq65_
    obtain ⟨⟨r131, r132⟩, fq67_, hq68_⟩ := pullD_elim hq66_
    replace fq67_ := m_62_ok fq67_
    obtain rfl := Option.some.inj hq68_
    exact con_pc (op := true) (I := [36, 55, 69, 63, 97]) (sp := lossOf_sp) 3000 (bT 1 (bF 4 (bT 8 (bF 5 (bT 1 (bF 4 (bT 1 (bF 1 [])))))))) [iD r126, iD r127, iD r128, iD r129, iD r130, .agg [iD r131, iD r132]] [c_T, c_n b1_, c_n b1_, c_n b1_, c_n b1_, c_d b5_, c_T, c_d b7_, c_d b7_, c_d b7_, c_d b7_, c_T, c_T, c_n bq1_, c_n bq1_, c_n bq1_, c_n bq1_, c_n bq18_, c_T, c_n bq35_, c_n bq35_, c_n bq35_, c_n bq35_, c_d bq52_, c_le 0, c_le 1, c_le 2, c_bn bq62_] [k_c fq54_, k_c fq56_, k_c fq58_, k_c fq63_, k_c fq65_, k_c fq67_] (by kernel_rfl)
  have hq53_ := (if_neg bq52_).symm.trans hq36_
  obtain ⟨r133, fq69_, hq70_⟩ := pullD_elim hq53_
  replace fq69_ := m_64_ok fq69_
  obtain ⟨r134, fq71_, hq72_⟩ := pullD_elim hq70_
  replace fq71_ := m_50_ok fq71_
  obtain ⟨r135, fq73_, hq74_⟩ := pullD_elim hq72_
  replace fq73_ := m_50_ok fq73_
  by_cases bq75_ : r135 ≠ (0 : Int)
  · have hq76_ := (if_pos bq75_).symm.trans hq74_
    obtain rfl := Option.some.inj hq76_
    exact con_pc (op := true) (I := [36, 55, 69, 63, 97]) (sp := lossOf_sp) 3000 (bT 1 (bF 4 (bT 8 (bF 5 (bT 1 (bF 6 (bT 1 []))))))) [iD r133, iD r134, iD r135] [c_T, c_n b1_, c_n b1_, c_n b1_, c_n b1_, c_d b5_, c_T, c_d b7_, c_d b7_, c_d b7_, c_d b7_, c_T, c_T, c_n bq1_, c_n bq1_, c_n bq1_, c_n bq1_, c_n bq18_, c_T, c_n bq35_, c_n bq35_, c_n bq35_, c_n bq35_, c_n bq52_, c_F, c_le 0, c_le 1, c_le 2, c_b bq75_] [k_c fq69_, k_c fq71_, k_c fq73_] (by kernel_rfl)
  have hq76_ := (if_neg bq75_).symm.trans hq74_
  have bq77_ : r135 = (0 : Int) := by first | exact bq75_ | simpa using bq75_
  obtain ⟨r136, fq78_, hq79_⟩ := pullD_elim hq76_
  replace fq78_ := m_78_ok fq78_
  obtain ⟨r137, fq80_, hq81_⟩ := pullD_elim hq79_
  replace fq80_ := m_78_ok fq80_
  obtain ⟨⟨r138, r139⟩, fq82_, hq83_⟩ := pullD_elim hq81_
  replace fq82_ := m_62_ok fq82_
  obtain rfl := Option.some.inj hq83_
  exact con_pc (op := true) (I := [36, 55, 69, 63, 97]) (sp := lossOf_sp) 3000 (bT 1 (bF 4 (bT 8 (bF 5 (bT 1 (bF 7 [])))))) [iD r133, iD r134, iD r135, iD r136, iD r137, .agg [iD r138, iD r139]] [c_T, c_n b1_, c_n b1_, c_n b1_, c_n b1_, c_d b5_, c_T, c_d b7_, c_d b7_, c_d b7_, c_d b7_, c_T, c_T, c_n bq1_, c_n bq1_, c_n bq1_, c_n bq1_, c_n bq18_, c_T, c_n bq35_, c_n bq35_, c_n bq35_, c_n bq35_, c_n bq52_, c_F, c_le 0, c_le 1, c_le 2, c_bn bq77_] [k_c fq69_, k_c fq71_, k_c fq73_, k_c fq78_, k_c fq80_, k_c fq82_] (by kernel_rfl)
theorem lossOf_M_s3_ok (a b c d : Int)  (b1_ : ¬ (a < (0 : Int))) (b5_ : a > (1000000000 : Int)) (b7_ : ¬ (b < IntKind.i64.wrap ((0 : Int) - (1000000000 : Int)))) {r : D} (h : lossOf_M_s3 a b c d = some r) : Con 36 [iD a, iD b, .agg [iD c, iD d]] r := by
  unfold lossOf_M_s3 at h
  by_cases bq1_ : b > (1000000000 : Int)
  · have hq2_ := (if_pos bq1_).symm.trans h
    by_cases bq3_ : c < IntKind.i64.wrap ((0 : Int) - (100000 : Int))
    · have hq4_ := (if_pos bq3_).symm.trans hq2_
      obtain ⟨r140, fq5_, hq6_⟩ := pullD_elim hq4_
      replace fq5_ := m_64_ok fq5_
      obtain ⟨r141, fq7_, hq8_⟩ := pullD_elim hq6_
      replace fq7_ := m_50_ok fq7_
      obtain ⟨r142, fq9_, hq10_⟩ := pullD_elim hq8_
      replace fq9_ := m_50_ok fq9_
      by_cases bq11_ : r142 ≠ (0 : Int)
      · have hq12_ := (if_pos bq11_).symm.trans hq10_
        obtain rfl := Option.some.inj hq12_
        exact con_pc (op := true) (I := [36, 55, 69, 63, 97]) (sp := lossOf_sp) 3000 (bT 1 (bF 4 (bT 2 (bF 4 (bT 8 []))))) [iD r140, iD r141, iD r142] [c_T, c_n b1_, c_n b1_, c_n b1_, c_n b1_, c_d b5_, c_T, c_n b7_, c_n b7_, c_n b7_, c_n b7_, c_d bq1_, c_T, c_d bq3_, c_d bq3_, c_d bq3_, c_d bq3_, c_T, c_le 0, c_le 1, c_le 2, c_b bq11_] [k_c fq5_, k_c fq7_, k_c fq9_] (by kernel_rfl)
      have hq12_ := (if_neg bq11_).symm.trans hq10_
      have bq13_ : r142 = (0 : Int) := by first | exact bq11_ | simpa using bq11_
      obtain ⟨r143, fq14_, hq15_⟩ := pullD_elim hq12_
      replace fq14_ := m_78_ok fq14_
      obtain ⟨r144, fq16_, hq17_⟩ := pullD_elim hq15_
      replace fq16_ := m_78_ok fq16_
      obtain ⟨⟨r145, r146⟩, fq18_, hq19_⟩ := pullD_elim hq17_
      replace fq18_ := m_62_ok fq18_
      obtain rfl := Option.some.inj hq19_
      exact con_pc (op := true) (I := [36, 55, 69, 63, 97]) (sp := lossOf_sp) 3000 (bT 1 (bF 4 (bT 2 (bF 4 (bT 7 (bF 1 [])))))) [iD r140, iD r141, iD r142, iD r143, iD r144, .agg [iD r145, iD r146]] [c_T, c_n b1_, c_n b1_, c_n b1_, c_n b1_, c_d b5_, c_T, c_n b7_, c_n b7_, c_n b7_, c_n b7_, c_d bq1_, c_T, c_d bq3_, c_d bq3_, c_d bq3_, c_d bq3_, c_T, c_le 0, c_le 1, c_le 2, c_bn bq13_] [k_c fq5_, k_c fq7_, k_c fq9_, k_c fq14_, k_c fq16_, k_c fq18_] (by kernel_rfl)
    have hq4_ := (if_neg bq3_).symm.trans hq2_
    by_cases bq20_ : c > (100000 : Int)
    · have hq21_ := (if_pos bq20_).symm.trans hq4_
      obtain ⟨r147, fq22_, hq23_⟩ := pullD_elim hq21_
      replace fq22_ := m_64_ok fq22_
      obtain ⟨r148, fq24_, hq25_⟩ := pullD_elim hq23_
      replace fq24_ := m_50_ok fq24_
      obtain ⟨r149, fq26_, hq27_⟩ := pullD_elim hq25_
      replace fq26_ := m_50_ok fq26_
      by_cases bq28_ : r149 ≠ (0 : Int)
      · have hq29_ := (if_pos bq28_).symm.trans hq27_
        obtain rfl := Option.some.inj hq29_
        exact con_pc (op := true) (I := [36, 55, 69, 63, 97]) (sp := lossOf_sp) 3000 (bT 1 (bF 4 (bT 2 (bF 4 (bT 2 (bF 4 (bT 2 []))))))) [iD r147, iD r148, iD r149] [c_T, c_n b1_, c_n b1_, c_n b1_, c_n b1_, c_d b5_, c_T, c_n b7_, c_n b7_, c_n b7_, c_n b7_, c_d bq1_, c_T, c_n bq3_, c_n bq3_, c_n bq3_, c_n bq3_, c_d bq20_, c_le 0, c_le 1, c_le 2, c_b bq28_] [k_c fq22_, k_c fq24_, k_c fq26_] (by kernel_rfl)
      have hq29_ := (if_neg bq28_).symm.trans hq27_
      have bq30_ : r149 = (0 : Int) := by first | exact bq28_ | simpa using bq28_
      obtain ⟨r150, fq31_, hq32_⟩ := pullD_elim hq29_
      replace fq31_ := m_78_ok fq31_
      obtain ⟨r151, fq33_, hq34_⟩ := pullD_elim hq32_
      replace fq33_ := m_78_ok fq33_
      obtain ⟨⟨r152, r153⟩, fq35_, hq36_⟩ := pullD_elim hq34_
      replace fq35_ := m_62_ok fq35_
      obtain rfl := Option.some.inj hq36_
      exact con_pc (op := true) (I := [36, 55, 69, 63, 97]) (sp := lossOf_sp) 3000 (bT 1 (bF 4 (bT 2 (bF 4 (bT 2 (bF 4 (bT 1 (bF 1 [])))))))) [iD r147, iD r148, iD r149, iD r150, iD r151, .agg [iD r152, iD r153]] [c_T, c_n b1_, c_n b1_, c_n b1_, c_n b1_, c_d b5_, c_T, c_n b7_, c_n b7_, c_n b7_, c_n b7_, c_d bq1_, c_T, c_n bq3_, c_n bq3_, c_n bq3_, c_n bq3_, c_d bq20_, c_le 0, c_le 1, c_le 2, c_bn bq30_] [k_c fq22_, k_c fq24_, k_c fq26_, k_c fq31_, k_c fq33_, k_c fq35_] (by kernel_rfl)
    have hq21_ := (if_neg bq20_).symm.trans hq4_
    by_cases bq37_ : d < IntKind.i64.wrap ((0 : Int) - (100000 : Int))
    · have hq38_ := (if_pos bq37_).symm.trans hq21_
      obtain ⟨r154, fq39_, hq40_⟩ := pullD_elim hq38_
      replace fq39_ := m_64_ok fq39_
      obtain ⟨r155, fq41_, hq42_⟩ := pullD_elim hq40_
      replace fq41_ := m_50_ok fq41_
      obtain ⟨r156, fq43_, hq44_⟩ := pullD_elim hq42_
      replace fq43_ := m_50_ok fq43_
      by_cases bq45_ : r156 ≠ (0 : Int)
      · have hq46_ := (if_pos bq45_).symm.trans hq44_
        obtain rfl := Option.some.inj hq46_
        exact con_pc (op := true) (I := [36, 55, 69, 63, 97]) (sp := lossOf_sp) 3000 (bT 1 (bF 4 (bT 2 (bF 4 (bT 2 (bF 5 (bT 7 []))))))) [iD r154, iD r155, iD r156] [c_T, c_n b1_, c_n b1_, c_n b1_, c_n b1_, c_d b5_, c_T, c_n b7_, c_n b7_, c_n b7_, c_n b7_, c_d bq1_, c_T, c_n bq3_, c_n bq3_, c_n bq3_, c_n bq3_, c_n bq20_, c_T, c_d bq37_, c_d bq37_, c_d bq37_, c_d bq37_, c_T, c_le 0, c_le 1, c_le 2, c_b bq45_] [k_c fq39_, k_c fq41_, k_c fq43_] (by kernel_rfl)
      have hq46_ := (if_neg bq45_).symm.trans hq44_
      have bq47_ : r156 = (0 : Int) := by first | exact bq45_ | simpa using bq45_
      obtain ⟨r157, fq48_, hq49_⟩ := pullD_elim hq46_
      replace fq48_ := m_78_ok fq48_
      obtain ⟨r158, fq50_, hq51_⟩ := pullD_elim hq49_
      replace fq50_ := m_78_ok fq50_
      obtain ⟨⟨r159, r160⟩, fq52_, hq53_⟩ := pullD_elim hq51_
      replace fq52_ := m_62_ok fq52_
      obtain rfl := Option.some.inj hq53_
      exact con_pc (op := true) (I := [36, 55, 69, 63, 97]) (sp := lossOf_sp) 3000 (bT 1 (bF 4 (bT 2 (bF 4 (bT 2 (bF 5 (bT 6 (bF 1 [])))))))) [iD r154, iD r155, iD r156, iD r157, iD r158, .agg [iD r159, iD r160]] [c_T, c_n b1_, c_n b1_, c_n b1_, c_n b1_, c_d b5_, c_T, c_n b7_, c_n b7_, c_n b7_, c_n b7_, c_d bq1_, c_T, c_n bq3_, c_n bq3_, c_n bq3_, c_n bq3_, c_n bq20_, c_T, c_d bq37_, c_d bq37_, c_d bq37_, c_d bq37_, c_T, c_le 0, c_le 1, c_le 2, c_bn bq47_] [k_c fq39_, k_c fq41_, k_c fq43_, k_c fq48_, k_c fq50_, k_c fq52_] (by kernel_rfl)
    have hq38_ := (if_neg bq37_).symm.trans hq21_
    by_cases bq54_ : d > (100000 : Int)
    · have hq55_ := (if_pos bq54_).symm.trans hq38_
      obtain ⟨r161, fq56_, hq57_⟩ := pullD_elim hq55_
      replace fq56_ := m_64_ok fq56_
      obtain ⟨r162, fq58_, hq59_⟩ := pullD_elim hq57_
      replace fq58_ := m_50_ok fq58_
      obtain ⟨r163, fq60_, hq61_⟩ := pullD_elim hq59_
      replace fq60_ := m_50_ok fq60_
      by_cases bq62_ : r163 ≠ (0 : Int)
      · have hq63_ := (if_pos bq62_).symm.trans hq61_
        obtain rfl := Option.some.inj hq63_
        exact con_pc (op := true) (I := [36, 55, 69, 63, 97]) (sp := lossOf_sp) 3000 (bT 1 (bF 4 (bT 2 (bF 4 (bT 2 (bF 5 (bT 1 (bF 4 (bT 2 []))))))))) [iD r161, iD r162, iD r163] [c_T, c_n b1_, c_n b1_, c_n b1_, c_n b1_, c_d b5_, c_T, c_n b7_, c_n b7_, c_n b7_, c_n b7_, c_d bq1_, c_T, c_n bq3_, c_n bq3_, c_n bq3_, c_n bq3_, c_n bq20_, c_T, c_n bq37_, c_n bq37_, c_n bq37_, c_n bq37_, c_d bq54_, c_le 0, c_le 1, c_le 2, c_b bq62_] [k_c fq56_, k_c fq58_, k_c fq60_] (by kernel_rfl)
      have hq63_ := (if_neg bq62_).symm.trans hq61_
      have bq64_ : r163 = (0 : Int) := by first | exact bq62_ | simpa using bq62_
      obtain ⟨r164, fq65_, hq66_⟩ := pullD_elim hq63_
      replace fq65_ := m_78_ok fq65_
      obtain ⟨r165, fq67_, hq68_⟩ := pullD_elim hq66_
      replace fq67_ := m_78_ok fq67_
      obtain ⟨⟨r166, r167⟩, fq69_, hq70_⟩ := pullD_elim hq68_
      replace fq69_ := m_62_ok fq69_
      obtain rfl := Option.some.inj hq70_
      exact con_pc (op := true) (I := [36, 55, 69, 63, 97]) (sp := lossOf_sp) 3000 (bT 1 (bF 4 (bT 2 (bF 4 (bT 2 (bF 5 (bT 1 (bF 4 (bT 1 (bF 1 [])))))))))) [iD r161, iD r162, iD r163, iD r164, iD r165, .agg [iD r166, iD r167]] [c_T, c_n b1_, c_n b1_, c_n b1_, c_n b1_, c_d b5_, c_T, c_n b7_, c_n b7_, c_n b7_, c_n b7_, c_d bq1_, c_T, c_n bq3_, c_n bq3_, c_n bq3_, c_n bq3_, c_n bq20_, c_T, c_n bq37_, c_n bq37_, c_n bq37_, c_n bq37_, c_d bq54_, c_le 0, c_le 1, c_le 2, c_bn bq64_] [k_c fq56_, k_c fq58_, k_c fq60_, k_c fq65_, k_c fq67_, k_c fq69_] (by kernel_rfl)
    have hq55_ := (if_neg bq54_).symm.trans hq38_
    obtain ⟨r168, fq71_, hq72_⟩ := pullD_elim hq55_
    replace fq71_ := m_64_ok fq71_
    obtain ⟨r169, fq73_, hq74_⟩ := pullD_elim hq72_
    replace fq73_ := m_50_ok fq73_
    obtain ⟨r170, fq75_, hq76_⟩ := pullD_elim hq74_
    replace fq75_ := m_50_ok fq75_
    by_cases bq77_ : r170 ≠ (0 : Int)
    · have hq78_ := (if_pos bq77_).symm.trans hq76_
      obtain rfl := Option.some.inj hq78_
      exact con_pc (op := true) (I := [36, 55, 69, 63, 97]) (sp := lossOf_sp) 3000 (bT 1 (bF 4 (bT 2 (bF 4 (bT 2 (bF 5 (bT 1 (bF 6 (bT 1 []))))))))) [iD r168, iD r169, iD r170] [c_T, c_n b1_, c_n b1_, c_n b1_, c_n b1_, c_d b5_, c_T, c_n b7_, c_n b7_, c_n b7_, c_n b7_, c_d bq1_, c_T, c_n bq3_, c_n bq3_, c_n bq3_, c_n bq3_, c_n bq20_, c_T, c_n bq37_, c_n bq37_, c_n bq37_, c_n bq37_, c_n bq54_, c_F, c_le 0, c_le 1, c_le 2, c_b bq77_] [k_c fq71_, k_c fq73_, k_c fq75_] (by kernel_rfl)
    have hq78_ := (if_neg bq77_).symm.trans hq76_
    have bq79_ : r170 = (0 : Int) := by first | exact bq77_ | simpa using bq77_
    obtain ⟨r171, fq80_, hq81_⟩ := pullD_elim hq78_
    replace fq80_ := m_78_ok fq80_
    obtain ⟨r172, fq82_, hq83_⟩ := pullD_elim hq81_
    replace fq82_ := m_78_ok fq82_
    obtain ⟨⟨r173, r174⟩, fq84_, hq85_⟩ := pullD_elim hq83_
    replace fq84_ := m_62_ok fq84_
    obtain rfl := Option.some.inj hq85_
    exact con_pc (op := true) (I := [36, 55, 69, 63, 97]) (sp := lossOf_sp) 3000 (bT 1 (bF 4 (bT 2 (bF 4 (bT 2 (bF 5 (bT 1 (bF 7 [])))))))) [iD r168, iD r169, iD r170, iD r171, iD r172, .agg [iD r173, iD r174]] [c_T, c_n b1_, c_n b1_, c_n b1_, c_n b1_, c_d b5_, c_T, c_n b7_, c_n b7_, c_n b7_, c_n b7_, c_d bq1_, c_T, c_n bq3_, c_n bq3_, c_n bq3_, c_n bq3_, c_n bq20_, c_T, c_n bq37_, c_n bq37_, c_n bq37_, c_n bq37_, c_n bq54_, c_F, c_le 0, c_le 1, c_le 2, c_bn bq79_] [k_c fq71_, k_c fq73_, k_c fq75_, k_c fq80_, k_c fq82_, k_c fq84_] (by kernel_rfl)
  have hq2_ := (if_neg bq1_).symm.trans h
  by_cases bq86_ : c < IntKind.i64.wrap ((0 : Int) - (100000 : Int))
  · have hq87_ := (if_pos bq86_).symm.trans hq2_
    obtain ⟨r175, fq88_, hq89_⟩ := pullD_elim hq87_
    replace fq88_ := m_64_ok fq88_
    obtain ⟨r176, fq90_, hq91_⟩ := pullD_elim hq89_
    replace fq90_ := m_50_ok fq90_
    obtain ⟨r177, fq92_, hq93_⟩ := pullD_elim hq91_
    replace fq92_ := m_50_ok fq92_
    by_cases bq94_ : r177 ≠ (0 : Int)
    · have hq95_ := (if_pos bq94_).symm.trans hq93_
      obtain rfl := Option.some.inj hq95_
      exact con_pc (op := true) (I := [36, 55, 69, 63, 97]) (sp := lossOf_sp) 3000 (bT 1 (bF 4 (bT 2 (bF 6 (bT 7 []))))) [iD r175, iD r176, iD r177] [c_T, c_n b1_, c_n b1_, c_n b1_, c_n b1_, c_d b5_, c_T, c_n b7_, c_n b7_, c_n b7_, c_n b7_, c_n bq1_, c_F, c_T, c_d bq86_, c_d bq86_, c_d bq86_, c_d bq86_, c_T, c_le 0, c_le 1, c_le 2, c_b bq94_] [k_c fq88_, k_c fq90_, k_c fq92_] (by kernel_rfl)
    have hq95_ := (if_neg bq94_).symm.trans hq93_
    have bq96_ : r177 = (0 : Int) := by first | exact bq94_ | simpa using bq94_
    obtain ⟨r178, fq97_, hq98_⟩ := pullD_elim hq95_
    replace fq97_ := m_78_ok fq97_
    obtain ⟨r179, fq99_, hq100_⟩ := pullD_elim hq98_
    replace fq99_ := m_78_ok fq99_
    obtain ⟨⟨r180, r181⟩, fq101_, hq102_⟩ := pullD_elim hq100_
    replace fq101_ := m_62_ok fq101_
    obtain rfl := Option.some.inj hq102_
    exact con_pc (op := true) (I := [36, 55, 69, 63, 97]) (sp := lossOf_sp) 3000 (bT 1 (bF 4 (bT 2 (bF 6 (bT 6 (bF 1 [])))))) [iD r175, iD r176, iD r177, iD r178, iD r179, .agg [iD r180, iD r181]] [c_T, c_n b1_, c_n b1_, c_n b1_, c_n b1_, c_d b5_, c_T, c_n b7_, c_n b7_, c_n b7_, c_n b7_, c_n bq1_, c_F, c_T, c_d bq86_, c_d bq86_, c_d bq86_, c_d bq86_, c_T, c_le 0, c_le 1, c_le 2, c_bn bq96_] [k_c fq88_, k_c fq90_, k_c fq92_, k_c fq97_, k_c fq99_, k_c fq101_] (by kernel_rfl)
  have hq87_ := (if_neg bq86_).symm.trans hq2_
  by_cases bq103_ : c > (100000 : Int)
  · have hq104_ := (if_pos bq103_).symm.trans hq87_
    obtain ⟨r182, fq105_, hq106_⟩ := pullD_elim hq104_
    replace fq105_ := m_64_ok fq105_
    obtain ⟨r183, fq107_, hq108_⟩ := pullD_elim hq106_
    replace fq107_ := m_50_ok fq107_
    obtain ⟨r184, fq109_, hq110_⟩ := pullD_elim hq108_
    replace fq109_ := m_50_ok fq109_
    by_cases bq111_ : r184 ≠ (0 : Int)
    · have hq112_ := (if_pos bq111_).symm.trans hq110_
      obtain rfl := Option.some.inj hq112_
      exact con_pc (op := true) (I := [36, 55, 69, 63, 97]) (sp := lossOf_sp) 3000 (bT 1 (bF 4 (bT 2 (bF 6 (bT 1 (bF 4 (bT 2 []))))))) [iD r182, iD r183, iD r184] [c_T, c_n b1_, c_n b1_, c_n b1_, c_n b1_, c_d b5_, c_T, c_n b7_, c_n b7_, c_n b7_, c_n b7_, c_n bq1_, c_F, c_T, c_n bq86_, c_n bq86_, c_n bq86_, c_n bq86_, c_d bq103_, c_le 0, c_le 1, c_le 2, c_b bq111_] [k_c fq105_, k_c fq107_, k_c fq109_] (by kernel_rfl)
    have hq112_ := (if_neg bq111_).symm.trans hq110_
    have bq113_ : r184 = (0 : Int) := by first | exact bq111_ | simpa using bq111_
    obtain ⟨r185, fq114_, hq115_⟩ := pullD_elim hq112_
    replace fq114_ := m_78_ok fq114_
    obtain ⟨r186, fq116_, hq117_⟩ := pullD_elim hq115_
    replace fq116_ := m_78_ok fq116_
    obtain ⟨⟨r187, r188⟩, fq118_, hq119_⟩ := pullD_elim hq117_
    replace fq118_ := m_62_ok fq118_
    obtain rfl := Option.some.inj hq119_
    exact con_pc (op := true) (I := [36, 55, 69, 63, 97]) (sp := lossOf_sp) 3000 (bT 1 (bF 4 (bT 2 (bF 6 (bT 1 (bF 4 (bT 1 (bF 1 [])))))))) [iD r182, iD r183, iD r184, iD r185, iD r186, .agg [iD r187, iD r188]] [c_T, c_n b1_, c_n b1_, c_n b1_, c_n b1_, c_d b5_, c_T, c_n b7_, c_n b7_, c_n b7_, c_n b7_, c_n bq1_, c_F, c_T, c_n bq86_, c_n bq86_, c_n bq86_, c_n bq86_, c_d bq103_, c_le 0, c_le 1, c_le 2, c_bn bq113_] [k_c fq105_, k_c fq107_, k_c fq109_, k_c fq114_, k_c fq116_, k_c fq118_] (by kernel_rfl)
  have hq104_ := (if_neg bq103_).symm.trans hq87_
  by_cases bq120_ : d < IntKind.i64.wrap ((0 : Int) - (100000 : Int))
  · have hq121_ := (if_pos bq120_).symm.trans hq104_
    obtain ⟨r189, fq122_, hq123_⟩ := pullD_elim hq121_
    replace fq122_ := m_64_ok fq122_
    obtain ⟨r190, fq124_, hq125_⟩ := pullD_elim hq123_
    replace fq124_ := m_50_ok fq124_
    obtain ⟨r191, fq126_, hq127_⟩ := pullD_elim hq125_
    replace fq126_ := m_50_ok fq126_
    by_cases bq128_ : r191 ≠ (0 : Int)
    · have hq129_ := (if_pos bq128_).symm.trans hq127_
      obtain rfl := Option.some.inj hq129_
      exact con_pc (op := true) (I := [36, 55, 69, 63, 97]) (sp := lossOf_sp) 3000 (bT 1 (bF 4 (bT 2 (bF 6 (bT 1 (bF 5 (bT 7 []))))))) [iD r189, iD r190, iD r191] [c_T, c_n b1_, c_n b1_, c_n b1_, c_n b1_, c_d b5_, c_T, c_n b7_, c_n b7_, c_n b7_, c_n b7_, c_n bq1_, c_F, c_T, c_n bq86_, c_n bq86_, c_n bq86_, c_n bq86_, c_n bq103_, c_T, c_d bq120_, c_d bq120_, c_d bq120_, c_d bq120_, c_T, c_le 0, c_le 1, c_le 2, c_b bq128_] [k_c fq122_, k_c fq124_, k_c fq126_] (by kernel_rfl)
    have hq129_ := (if_neg bq128_).symm.trans hq127_
    have bq130_ : r191 = (0 : Int) := by first | exact bq128_ | simpa using bq128_
    obtain ⟨r192, fq131_, hq132_⟩ := pullD_elim hq129_
    replace fq131_ := m_78_ok fq131_
    obtain ⟨r193, fq133_, hq134_⟩ := pullD_elim hq132_
    replace fq133_ := m_78_ok fq133_
    obtain ⟨⟨r194, r195⟩, fq135_, hq136_⟩ := pullD_elim hq134_
    replace fq135_ := m_62_ok fq135_
    obtain rfl := Option.some.inj hq136_
    exact con_pc (op := true) (I := [36, 55, 69, 63, 97]) (sp := lossOf_sp) 3000 (bT 1 (bF 4 (bT 2 (bF 6 (bT 1 (bF 5 (bT 6 (bF 1 [])))))))) [iD r189, iD r190, iD r191, iD r192, iD r193, .agg [iD r194, iD r195]] [c_T, c_n b1_, c_n b1_, c_n b1_, c_n b1_, c_d b5_, c_T, c_n b7_, c_n b7_, c_n b7_, c_n b7_, c_n bq1_, c_F, c_T, c_n bq86_, c_n bq86_, c_n bq86_, c_n bq86_, c_n bq103_, c_T, c_d bq120_, c_d bq120_, c_d bq120_, c_d bq120_, c_T, c_le 0, c_le 1, c_le 2, c_bn bq130_] [k_c fq122_, k_c fq124_, k_c fq126_, k_c fq131_, k_c fq133_, k_c fq135_] (by kernel_rfl)
  have hq121_ := (if_neg bq120_).symm.trans hq104_
  by_cases bq137_ : d > (100000 : Int)
  · have hq138_ := (if_pos bq137_).symm.trans hq121_
    obtain ⟨r196, fq139_, hq140_⟩ := pullD_elim hq138_
    replace fq139_ := m_64_ok fq139_
    obtain ⟨r197, fq141_, hq142_⟩ := pullD_elim hq140_
    replace fq141_ := m_50_ok fq141_
    obtain ⟨r198, fq143_, hq144_⟩ := pullD_elim hq142_
    replace fq143_ := m_50_ok fq143_
    by_cases bq145_ : r198 ≠ (0 : Int)
    · have hq146_ := (if_pos bq145_).symm.trans hq144_
      obtain rfl := Option.some.inj hq146_
      exact con_pc (op := true) (I := [36, 55, 69, 63, 97]) (sp := lossOf_sp) 3000 (bT 1 (bF 4 (bT 2 (bF 6 (bT 1 (bF 5 (bT 1 (bF 4 (bT 2 []))))))))) [iD r196, iD r197, iD r198] [c_T, c_n b1_, c_n b1_, c_n b1_, c_n b1_, c_d b5_, c_T, c_n b7_, c_n b7_, c_n b7_, c_n b7_, c_n bq1_, c_F, c_T, c_n bq86_, c_n bq86_, c_n bq86_, c_n bq86_, c_n bq103_, c_T, c_n bq120_, c_n bq120_, c_n bq120_, c_n bq120_, c_d bq137_, c_le 0, c_le 1, c_le 2, c_b bq145_] [k_c fq139_, k_c fq141_, k_c fq143_] (by kernel_rfl)
    have hq146_ := (if_neg bq145_).symm.trans hq144_
    have bq147_ : r198 = (0 : Int) := by first | exact bq145_ | simpa using bq145_
    obtain ⟨r199, fq148_, hq149_⟩ := pullD_elim hq146_
    replace fq148_ := m_78_ok fq148_
    obtain ⟨r200, fq150_, hq151_⟩ := pullD_elim hq149_
    replace fq150_ := m_78_ok fq150_
    obtain ⟨⟨r201, r202⟩, fq152_, hq153_⟩ := pullD_elim hq151_
    replace fq152_ := m_62_ok fq152_
    obtain rfl := Option.some.inj hq153_
    exact con_pc (op := true) (I := [36, 55, 69, 63, 97]) (sp := lossOf_sp) 3000 (bT 1 (bF 4 (bT 2 (bF 6 (bT 1 (bF 5 (bT 1 (bF 4 (bT 1 (bF 1 [])))))))))) [iD r196, iD r197, iD r198, iD r199, iD r200, .agg [iD r201, iD r202]] [c_T, c_n b1_, c_n b1_, c_n b1_, c_n b1_, c_d b5_, c_T, c_n b7_, c_n b7_, c_n b7_, c_n b7_, c_n bq1_, c_F, c_T, c_n bq86_, c_n bq86_, c_n bq86_, c_n bq86_, c_n bq103_, c_T, c_n bq120_, c_n bq120_, c_n bq120_, c_n bq120_, c_d bq137_, c_le 0, c_le 1, c_le 2, c_bn bq147_] [k_c fq139_, k_c fq141_, k_c fq143_, k_c fq148_, k_c fq150_, k_c fq152_] (by kernel_rfl)
  have hq138_ := (if_neg bq137_).symm.trans hq121_
  obtain ⟨r203, fq154_, hq155_⟩ := pullD_elim hq138_
  replace fq154_ := m_64_ok fq154_
  obtain ⟨r204, fq156_, hq157_⟩ := pullD_elim hq155_
  replace fq156_ := m_50_ok fq156_
  obtain ⟨r205, fq158_, hq159_⟩ := pullD_elim hq157_
  replace fq158_ := m_50_ok fq158_
  by_cases bq160_ : r205 ≠ (0 : Int)
  · have hq161_ := (if_pos bq160_).symm.trans hq159_
    obtain rfl := Option.some.inj hq161_
    exact con_pc (op := true) (I := [36, 55, 69, 63, 97]) (sp := lossOf_sp) 3000 (bT 1 (bF 4 (bT 2 (bF 6 (bT 1 (bF 5 (bT 1 (bF 6 (bT 1 []))))))))) [iD r203, iD r204, iD r205] [c_T, c_n b1_, c_n b1_, c_n b1_, c_n b1_, c_d b5_, c_T, c_n b7_, c_n b7_, c_n b7_, c_n b7_, c_n bq1_, c_F, c_T, c_n bq86_, c_n bq86_, c_n bq86_, c_n bq86_, c_n bq103_, c_T, c_n bq120_, c_n bq120_, c_n bq120_, c_n bq120_, c_n bq137_, c_F, c_le 0, c_le 1, c_le 2, c_b bq160_] [k_c fq154_, k_c fq156_, k_c fq158_] (by kernel_rfl)
  have hq161_ := (if_neg bq160_).symm.trans hq159_
  have bq162_ : r205 = (0 : Int) := by first | exact bq160_ | simpa using bq160_
  obtain ⟨r206, fq163_, hq164_⟩ := pullD_elim hq161_
  replace fq163_ := m_78_ok fq163_
  obtain ⟨r207, fq165_, hq166_⟩ := pullD_elim hq164_
  replace fq165_ := m_78_ok fq165_
  obtain ⟨⟨r208, r209⟩, fq167_, hq168_⟩ := pullD_elim hq166_
  replace fq167_ := m_62_ok fq167_
  obtain rfl := Option.some.inj hq168_
  exact con_pc (op := true) (I := [36, 55, 69, 63, 97]) (sp := lossOf_sp) 3000 (bT 1 (bF 4 (bT 2 (bF 6 (bT 1 (bF 5 (bT 1 (bF 7 [])))))))) [iD r203, iD r204, iD r205, iD r206, iD r207, .agg [iD r208, iD r209]] [c_T, c_n b1_, c_n b1_, c_n b1_, c_n b1_, c_d b5_, c_T, c_n b7_, c_n b7_, c_n b7_, c_n b7_, c_n bq1_, c_F, c_T, c_n bq86_, c_n bq86_, c_n bq86_, c_n bq86_, c_n bq103_, c_T, c_n bq120_, c_n bq120_, c_n bq120_, c_n bq120_, c_n bq137_, c_F, c_le 0, c_le 1, c_le 2, c_bn bq162_] [k_c fq154_, k_c fq156_, k_c fq158_, k_c fq163_, k_c fq165_, k_c fq167_] (by kernel_rfl)
theorem lossOf_M_s4_ok (a b c d : Int)  (b1_ : ¬ (a < (0 : Int))) (b5_ : ¬ (a > (1000000000 : Int))) (b9_ : b < IntKind.i64.wrap ((0 : Int) - (1000000000 : Int))) {r : D} (h : lossOf_M_s4 a b c d = some r) : Con 36 [iD a, iD b, .agg [iD c, iD d]] r := by
  unfold lossOf_M_s4 at h
  by_cases bq1_ : c < IntKind.i64.wrap ((0 : Int) - (100000 : Int))
  · have hq2_ := (if_pos bq1_).symm.trans h
    obtain ⟨r210, fq3_, hq4_⟩ := pullD_elim hq2_
    replace fq3_ := m_64_ok fq3_
    obtain ⟨r211, fq5_, hq6_⟩ := pullD_elim hq4_
    replace fq5_ := m_50_ok fq5_
    obtain ⟨r212, fq7_, hq8_⟩ := pullD_elim hq6_
    replace fq7_ := m_50_ok fq7_
    by_cases bq9_ : r212 ≠ (0 : Int)
    · have hq10_ := (if_pos bq9_).symm.trans hq8_
      obtain rfl := Option.some.inj hq10_
      exact con_pc (op := true) (I := [36, 55, 69, 63, 97]) (sp := lossOf_sp) 3000 (bT 1 (bF 6 (bT 13 []))) [iD r210, iD r211, iD r212] [c_T, c_n b1_, c_n b1_, c_n b1_, c_n b1_, c_n b5_, c_F, c_T, c_d b9_, c_d b9_, c_d b9_, c_d b9_, c_T, c_T, c_d bq1_, c_d bq1_, c_d bq1_, c_d bq1_, c_T, c_le 0, c_le 1, c_le 2, c_b bq9_] [k_c fq3_, k_c fq5_, k_c fq7_] (by kernel_rfl)
    have hq10_ := (if_neg bq9_).symm.trans hq8_
    have bq11_ : r212 = (0 : Int) := by first | exact bq9_ | simpa using bq9_
    obtain ⟨r213, fq12_, hq13_⟩ := pullD_elim hq10_
    replace fq12_ := m_78_ok fq12_
    obtain ⟨r214, fq14_, hq15_⟩ := pullD_elim hq13_
    replace fq14_ := m_78_ok fq14_
    obtain ⟨⟨r215, r216⟩, fq16_, hq17_⟩ := pullD_elim hq15_
    replace fq16_ := m_62_ok fq16_
    obtain rfl := Option.some.inj hq17_
    exact con_pc (op := true) (I := [36, 55, 69, 63, 97]) (sp := lossOf_sp) 3000 (bT 1 (bF 6 (bT 12 (bF 1 [])))) [iD r210, iD r211, iD r212, iD r213, iD r214, .agg [iD r215, iD r216]] [c_T, c_n b1_, c_n b1_, c_n b1_, c_n b1_, c_n b5_, c_F, c_T, c_d b9_, c_d b9_, c_d b9_, c_d b9_, c_T, c_T, c_d bq1_, c_d bq1_, c_d bq1_, c_d bq1_, c_T, c_le 0, c_le 1, c_le 2, c_bn bq11_] [k_c fq3_, k_c fq5_, k_c fq7_, k_c fq12_, k_c fq14_, k_c fq16_] (by kernel_rfl)
  have hq2_ := (if_neg bq1_).symm.trans h
  by_cases bq18_ : c > (100000 : Int)
  · have hq19_ := (if_pos bq18_).symm.trans hq2_
    obtain ⟨r217, fq20_, hq21_⟩ := pullD_elim hq19_
    replace fq20_ := m_64_ok fq20_
    obtain ⟨r218, fq22_, hq23_⟩ := pullD_elim hq21_
    replace fq22_ := m_50_ok fq22_
    obtain ⟨r219, fq24_, hq25_⟩ := pullD_elim hq23_
    replace fq24_ := m_50_ok fq24_
    by_cases bq26_ : r219 ≠ (0 : Int)
    · have hq27_ := (if_pos bq26_).symm.trans hq25_
      obtain rfl := Option.some.inj hq27_
      exact con_pc (op := true) (I := [36, 55, 69, 63, 97]) (sp := lossOf_sp) 3000 (bT 1 (bF 6 (bT 7 (bF 4 (bT 2 []))))) [iD r217, iD r218, iD r219] [c_T, c_n b1_, c_n b1_, c_n b1_, c_n b1_, c_n b5_, c_F, c_T, c_d b9_, c_d b9_, c_d b9_, c_d b9_, c_T, c_T, c_n bq1_, c_n bq1_, c_n bq1_, c_n bq1_, c_d bq18_, c_le 0, c_le 1, c_le 2, c_b bq26_] [k_c fq20_, k_c fq22_, k_c fq24_] (by kernel_rfl)
    have hq27_ := (if_neg bq26_).symm.trans hq25_
    have bq28_ : r219 = (0 : Int) := by first | exact bq26_ | simpa using bq26_
    obtain ⟨r220, fq29_, hq30_⟩ := pullD_elim hq27_
    replace fq29_ := m_78_ok fq29_
    obtain ⟨r221, fq31_, hq32_⟩ := pullD_elim hq30_
    replace fq31_ := m_78_ok fq31_
    obtain ⟨⟨r222, r223⟩, fq33_, hq34_⟩ := pullD_elim hq32_
    replace fq33_ := m_62_ok fq33_
    obtain rfl := Option.some.inj hq34_
    exact con_pc (op := true) (I := [36, 55, 69, 63, 97]) (sp := lossOf_sp) 3000 (bT 1 (bF 6 (bT 7 (bF 4 (bT 1 (bF 1 [])))))) [iD r217, iD r218, iD r219, iD r220, iD r221, .agg [iD r222, iD r223]] [c_T, c_n b1_, c_n b1_, c_n b1_, c_n b1_, c_n b5_, c_F, c_T, c_d b9_, c_d b9_, c_d b9_, c_d b9_, c_T, c_T, c_n bq1_, c_n bq1_, c_n bq1_, c_n bq1_, c_d bq18_, c_le 0, c_le 1, c_le 2, c_bn bq28_] [k_c fq20_, k_c fq22_, k_c fq24_, k_c fq29_, k_c fq31_, k_c fq33_] (by kernel_rfl)
  have hq19_ := (if_neg bq18_).symm.trans hq2_
  by_cases bq35_ : d < IntKind.i64.wrap ((0 : Int) - (100000 : Int))
  · have hq36_ := (if_pos bq35_).symm.trans hq19_
    obtain ⟨r224, fq37_, hq38_⟩ := pullD_elim hq36_
    replace fq37_ := m_64_ok fq37_
    obtain ⟨r225, fq39_, hq40_⟩ := pullD_elim hq38_
    replace fq39_ := m_50_ok fq39_
    obtain ⟨r226, fq41_, hq42_⟩ := pullD_elim hq40_
    replace fq41_ := m_50_ok fq41_
    by_cases bq43_ : r226 ≠ (0 : Int)
    · have hq44_ := (if_pos bq43_).symm.trans hq42_
      obtain rfl := Option.some.inj hq44_
      exact con_pc (op := true) (I := [36, 55, 69, 63, 97]) (sp := lossOf_sp) 3000 (bT 1 (bF 6 (bT 7 (bF 5 (bT 7 []))))) [iD r224, iD r225, iD r226] [c_T, c_n b1_, c_n b1_, c_n b1_, c_n b1_, c_n b5_, c_F, c_T, c_d b9_, c_d b9_, c_d b9_, c_d b9_, c_T, c_T, c_n bq1_, c_n bq1_, c_n bq1_, c_n bq1_, c_n bq18_, c_T, c_d bq35_, c_d bq35_, c_d bq35_, c_d bq35_, c_T, c_le 0, c_le 1, c_le 2, c_b bq43_] [k_c fq37_, k_c fq39_, k_c fq41_] (by kernel_rfl)
    have hq44_ := (if_neg bq43_).symm.trans hq42_
    have bq45_ : r226 = (0 : Int) := by first | exact bq43_ | simpa using bq43_
    obtain ⟨r227, fq46_, hq47_⟩ := pullD_elim hq44_
    replace fq46_ := m_78_ok fq46_
    obtain ⟨r228, fq48_, hq49_⟩ := pullD_elim hq47_
    replace fq48_ := m_78_ok fq48_
    obtain ⟨⟨r229, r230⟩, fq50_, hq51_⟩ := pullD_elim hq49_
    replace fq50_ := m_62_ok fq50_
    obtain rfl := Option.some.inj hq51_
    exact con_pc (op := true) (I := [36, 55, 69, 63, 97]) (sp := lossOf_sp) 3000 (bT 1 (bF 6 (bT 7 (bF 5 (bT 6 (bF 1 [])))))) [iD r224, iD r225, iD r226, iD r227, iD r228, .agg [iD r229, iD r230]] [c_T, c_n b1_, c_n b1_, c_n b1_, c_n b1_, c_n b5_, c_F, c_T, c_d b9_, c_d b9_, c_d b9_, c_d b9_, c_T, c_T, c_n bq1_, c_n bq1_, c_n bq1_, c_n bq1_, c_n bq18_, c_T, c_d bq35_, c_d bq35_, c_d bq35_, c_d bq35_, c_T, c_le 0, c_le 1, c_le 2, c_bn bq45_] [k_c fq37_, k_c fq39_, k_c fq41_, k_c fq46_, k_c fq48_, k_c fq50_] (by kernel_rfl)
  have hq36_ := (if_neg bq35_).symm.trans hq19_
  by_cases bq52_ : d > (100000 : Int)
  · have hq53_ := (if_pos bq52_).symm.trans hq36_
    obtain ⟨r231, fq54_, hq55_⟩ := pullD_elim hq53_
    replace fq54_ := m_64_ok fq54_
    obtain ⟨r232, fq56_, hq57_⟩ := pullD_elim hq55_
    replace fq56_ := m_50_ok fq56_
    obtain ⟨r233, fq58_, hq59_⟩ := pullD_elim hq57_
    replace fq58_ := m_50_ok fq58_
    by_cases bq60_ : r233 ≠ (0 : Int)
    · have hq61_ := (if_pos bq60_).symm.trans hq59_
      obtain rfl := Option.some.inj hq61_
      exact con_pc (op := true) (I := [36, 55, 69, 63, 97]) (sp := lossOf_sp) 3000 (bT 1 (bF 6 (bT 7 (bF 5 (bT 1 (bF 4 (bT 2 []))))))) [iD r231, iD r232, iD r233] [c_T, c_n b1_, c_n b1_, c_n b1_, c_n b1_, c_n b5_, c_F, c_T, c_d b9_, c_d b9_, c_d b9_, c_d b9_, c_T, c_T, c_n bq1_, c_n bq1_, c_n bq1_, c_n bq1_, c_n bq18_, c_T, c_n bq35_, c_n bq35_, c_n bq35_, c_n bq35_, c_d bq52_, c_le 0, c_le 1, c_le 2, c_b bq60_] [k_c fq54_, k_c fq56_, k_c fq58_] (by kernel_rfl)
    have hq61_ := (if_neg bq60_).symm.trans hq59_
    have bq62_ : r233 = (0 : Int) := by first | exact bq60_ | simpa using bq60_
    obtain ⟨r234, fq63_, hq64_⟩ := pullD_elim hq61_
    replace fq63_ := m_78_ok fq63_
    obtain ⟨r235, fq65_, hq66_⟩ := pullD_elim hq64_
    replace fq65_ := m_78_ok fq65_
    obtain ⟨⟨r236, r237⟩, fq67_, hq68_⟩ := pullD_elim hq66_
    replace fq67_ := m_62_ok fq67_
    obtain rfl := Option.some.inj hq68_
    exact con_pc (op := true) (I := [36, 55, 69, 63, 97]) (sp := lossOf_sp) 3000 (bT 1 (bF 6 (bT 7 (bF 5 (bT 1 (bF 4 (bT 1 (bF 1 [])))))))) [iD r231, iD r232, iD r233, iD r234, iD r235, .agg [iD r236, iD r237]] [c_T, c_n b1_, c_n b1_, c_n b1_, c_n b1_, c_n b5_, c_F, c_T, c_d b9_, c_d b9_, c_d b9_, c_d b9_, c_T, c_T, c_n bq1_, c_n bq1_, c_n bq1_, c_n bq1_, c_n bq18_, c_T, c_n bq35_, c_n bq35_, c_n bq35_, c_n bq35_, c_d bq52_, c_le 0, c_le 1, c_le 2, c_bn bq62_] [k_c fq54_, k_c fq56_, k_c fq58_, k_c fq63_, k_c fq65_, k_c fq67_] (by kernel_rfl)
  have hq53_ := (if_neg bq52_).symm.trans hq36_
  obtain ⟨r238, fq69_, hq70_⟩ := pullD_elim hq53_
  replace fq69_ := m_64_ok fq69_
  obtain ⟨r239, fq71_, hq72_⟩ := pullD_elim hq70_
  replace fq71_ := m_50_ok fq71_
  obtain ⟨r240, fq73_, hq74_⟩ := pullD_elim hq72_
  replace fq73_ := m_50_ok fq73_
  by_cases bq75_ : r240 ≠ (0 : Int)
  · have hq76_ := (if_pos bq75_).symm.trans hq74_
    obtain rfl := Option.some.inj hq76_
    exact con_pc (op := true) (I := [36, 55, 69, 63, 97]) (sp := lossOf_sp) 3000 (bT 1 (bF 6 (bT 7 (bF 5 (bT 1 (bF 6 (bT 1 []))))))) [iD r238, iD r239, iD r240] [c_T, c_n b1_, c_n b1_, c_n b1_, c_n b1_, c_n b5_, c_F, c_T, c_d b9_, c_d b9_, c_d b9_, c_d b9_, c_T, c_T, c_n bq1_, c_n bq1_, c_n bq1_, c_n bq1_, c_n bq18_, c_T, c_n bq35_, c_n bq35_, c_n bq35_, c_n bq35_, c_n bq52_, c_F, c_le 0, c_le 1, c_le 2, c_b bq75_] [k_c fq69_, k_c fq71_, k_c fq73_] (by kernel_rfl)
  have hq76_ := (if_neg bq75_).symm.trans hq74_
  have bq77_ : r240 = (0 : Int) := by first | exact bq75_ | simpa using bq75_
  obtain ⟨r241, fq78_, hq79_⟩ := pullD_elim hq76_
  replace fq78_ := m_78_ok fq78_
  obtain ⟨r242, fq80_, hq81_⟩ := pullD_elim hq79_
  replace fq80_ := m_78_ok fq80_
  obtain ⟨⟨r243, r244⟩, fq82_, hq83_⟩ := pullD_elim hq81_
  replace fq82_ := m_62_ok fq82_
  obtain rfl := Option.some.inj hq83_
  exact con_pc (op := true) (I := [36, 55, 69, 63, 97]) (sp := lossOf_sp) 3000 (bT 1 (bF 6 (bT 7 (bF 5 (bT 1 (bF 7 [])))))) [iD r238, iD r239, iD r240, iD r241, iD r242, .agg [iD r243, iD r244]] [c_T, c_n b1_, c_n b1_, c_n b1_, c_n b1_, c_n b5_, c_F, c_T, c_d b9_, c_d b9_, c_d b9_, c_d b9_, c_T, c_T, c_n bq1_, c_n bq1_, c_n bq1_, c_n bq1_, c_n bq18_, c_T, c_n bq35_, c_n bq35_, c_n bq35_, c_n bq35_, c_n bq52_, c_F, c_le 0, c_le 1, c_le 2, c_bn bq77_] [k_c fq69_, k_c fq71_, k_c fq73_, k_c fq78_, k_c fq80_, k_c fq82_] (by kernel_rfl)
theorem lossOf_M_s5_ok (a b c d : Int)  (b1_ : ¬ (a < (0 : Int))) (b5_ : ¬ (a > (1000000000 : Int))) (b9_ : ¬ (b < IntKind.i64.wrap ((0 : Int) - (1000000000 : Int)))) {r : D} (h : lossOf_M_s5 a b c d = some r) : Con 36 [iD a, iD b, .agg [iD c, iD d]] r := by
  unfold lossOf_M_s5 at h
  by_cases bq1_ : b > (1000000000 : Int)
  · have hq2_ := (if_pos bq1_).symm.trans h
    by_cases bq3_ : c < IntKind.i64.wrap ((0 : Int) - (100000 : Int))
    · have hq4_ := (if_pos bq3_).symm.trans hq2_
      obtain ⟨r245, fq5_, hq6_⟩ := pullD_elim hq4_
      replace fq5_ := m_64_ok fq5_
      obtain ⟨r246, fq7_, hq8_⟩ := pullD_elim hq6_
      replace fq7_ := m_50_ok fq7_
      obtain ⟨r247, fq9_, hq10_⟩ := pullD_elim hq8_
      replace fq9_ := m_50_ok fq9_
      by_cases bq11_ : r247 ≠ (0 : Int)
      · have hq12_ := (if_pos bq11_).symm.trans hq10_
        obtain rfl := Option.some.inj hq12_
        exact con_pc (op := true) (I := [36, 55, 69, 63, 97]) (sp := lossOf_sp) 3000 (bT 1 (bF 6 (bT 1 (bF 4 (bT 8 []))))) [iD r245, iD r246, iD r247] [c_T, c_n b1_, c_n b1_, c_n b1_, c_n b1_, c_n b5_, c_F, c_T, c_n b9_, c_n b9_, c_n b9_, c_n b9_, c_d bq1_, c_T, c_d bq3_, c_d bq3_, c_d bq3_, c_d bq3_, c_T, c_le 0, c_le 1, c_le 2, c_b bq11_] [k_c fq5_, k_c fq7_, k_c fq9_] (by kernel_rfl)
      have hq12_ := (if_neg bq11_).symm.trans hq10_
      have bq13_ : r247 = (0 : Int) := by first | exact bq11_ | simpa using bq11_
      obtain ⟨r248, fq14_, hq15_⟩ := pullD_elim hq12_
      replace fq14_ := m_78_ok fq14_
      obtain ⟨r249, fq16_, hq17_⟩ := pullD_elim hq15_
      replace fq16_ := m_78_ok fq16_
      obtain ⟨⟨r250, r251⟩, fq18_, hq19_⟩ := pullD_elim hq17_
      replace fq18_ := m_62_ok fq18_
      obtain rfl := Option.some.inj hq19_
      exact con_pc (op := true) (I := [36, 55, 69, 63, 97]) (sp := lossOf_sp) 3000 (bT 1 (bF 6 (bT 1 (bF 4 (bT 7 (bF 1 [])))))) [iD r245, iD r246, iD r247, iD r248, iD r249, .agg [iD r250, iD r251]] [c_T, c_n b1_, c_n b1_, c_n b1_, c_n b1_, c_n b5_, c_F, c_T, c_n b9_, c_n b9_, c_n b9_, c_n b9_, c_d bq1_, c_T, c_d bq3_, c_d bq3_, c_d bq3_, c_d bq3_, c_T, c_le 0, c_le 1, c_le 2, c_bn bq13_] [k_c fq5_, k_c fq7_, k_c fq9_, k_c fq14_, k_c fq16_, k_c fq18_] (by kernel_rfl)
    have hq4_ := (if_neg bq3_).symm.trans hq2_
    by_cases bq20_ : c > (100000 : Int)
    · have hq21_ := (if_pos bq20_).symm.trans hq4_
      obtain ⟨r252, fq22_, hq23_⟩ := pullD_elim hq21_
      replace fq22_ := m_64_ok fq22_
      obtain ⟨r253, fq24_, hq25_⟩ := pullD_elim hq23_
      replace fq24_ := m_50_ok fq24_
      obtain ⟨r254, fq26_, hq27_⟩ := pullD_elim hq25_
      replace fq26_ := m_50_ok fq26_
      by_cases bq28_ : r254 ≠ (0 : Int)
      · have hq29_ := (if_pos bq28_).symm.trans hq27_
        obtain rfl := Option.some.inj hq29_
        exact con_pc (op := true) (I := [36, 55, 69, 63, 97]) (sp := lossOf_sp) 3000 (bT 1 (bF 6 (bT 1 (bF 4 (bT 2 (bF 4 (bT 2 []))))))) [iD r252, iD r253, iD r254] [c_T, c_n b1_, c_n b1_, c_n b1_, c_n b1_, c_n b5_, c_F, c_T, c_n b9_, c_n b9_, c_n b9_, c_n b9_, c_d bq1_, c_T, c_n bq3_, c_n bq3_, c_n bq3_, c_n bq3_, c_d bq20_, c_le 0, c_le 1, c_le 2, c_b bq28_] [k_c fq22_, k_c fq24_, k_c fq26_] (by kernel_rfl)
      have hq29_ := (if_neg bq28_).symm.trans hq27_
      have bq30_ : r254 = (0 : Int) := by first | exact bq28_ | simpa using bq28_
      obtain ⟨r255, fq31_, hq32_⟩ := pullD_elim hq29_
      replace fq31_ := m_78_ok fq31_
      obtain ⟨r256, fq33_, hq34_⟩ := pullD_elim hq32_
      replace fq33_ := m_78_ok fq33_
      obtain ⟨⟨r257, r258⟩, fq35_, hq36_⟩ := pullD_elim hq34_
      replace fq35_ := m_62_ok fq35_
      obtain rfl := Option.some.inj hq36_
      exact con_pc (op := true) (I := [36, 55, 69, 63, 97]) (sp := lossOf_sp) 3000 (bT 1 (bF 6 (bT 1 (bF 4 (bT 2 (bF 4 (bT 1 (bF 1 [])))))))) [iD r252, iD r253, iD r254, iD r255, iD r256, .agg [iD r257, iD r258]] [c_T, c_n b1_, c_n b1_, c_n b1_, c_n b1_, c_n b5_, c_F, c_T, c_n b9_, c_n b9_, c_n b9_, c_n b9_, c_d bq1_, c_T, c_n bq3_, c_n bq3_, c_n bq3_, c_n bq3_, c_d bq20_, c_le 0, c_le 1, c_le 2, c_bn bq30_] [k_c fq22_, k_c fq24_, k_c fq26_, k_c fq31_, k_c fq33_, k_c fq35_] (by kernel_rfl)
    have hq21_ := (if_neg bq20_).symm.trans hq4_
    by_cases bq37_ : d < IntKind.i64.wrap ((0 : Int) - (100000 : Int))
    · have hq38_ := (if_pos bq37_).symm.trans hq21_
      obtain ⟨r259, fq39_, hq40_⟩ := pullD_elim hq38_
      replace fq39_ := m_64_ok fq39_
      obtain ⟨r260, fq41_, hq42_⟩ := pullD_elim hq40_
      replace fq41_ := m_50_ok fq41_
      obtain ⟨r261, fq43_, hq44_⟩ := pullD_elim hq42_
      replace fq43_ := m_50_ok fq43_
      by_cases bq45_ : r261 ≠ (0 : Int)
      · have hq46_ := (if_pos bq45_).symm.trans hq44_
        obtain rfl := Option.some.inj hq46_
        exact con_pc (op := true) (I := [36, 55, 69, 63, 97]) (sp := lossOf_sp) 3000 (bT 1 (bF 6 (bT 1 (bF 4 (bT 2 (bF 5 (bT 7 []))))))) [iD r259, iD r260, iD r261] [c_T, c_n b1_, c_n b1_, c_n b1_, c_n b1_, c_n b5_, c_F, c_T, c_n b9_, c_n b9_, c_n b9_, c_n b9_, c_d bq1_, c_T, c_n bq3_, c_n bq3_, c_n bq3_, c_n bq3_, c_n bq20_, c_T, c_d bq37_, c_d bq37_, c_d bq37_, c_d bq37_, c_T, c_le 0, c_le 1, c_le 2, c_b bq45_] [k_c fq39_, k_c fq41_, k_c fq43_] (by kernel_rfl)
      have hq46_ := (if_neg bq45_).symm.trans hq44_
      have bq47_ : r261 = (0 : Int) := by first | exact bq45_ | simpa using bq45_
      obtain ⟨r262, fq48_, hq49_⟩ := pullD_elim hq46_
      replace fq48_ := m_78_ok fq48_
      obtain ⟨r263, fq50_, hq51_⟩ := pullD_elim hq49_
      replace fq50_ := m_78_ok fq50_
      obtain ⟨⟨r264, r265⟩, fq52_, hq53_⟩ := pullD_elim hq51_
      replace fq52_ := m_62_ok fq52_
      obtain rfl := Option.some.inj hq53_
      exact con_pc (op := true) (I := [36, 55, 69, 63, 97]) (sp := lossOf_sp) 3000 (bT 1 (bF 6 (bT 1 (bF 4 (bT 2 (bF 5 (bT 6 (bF 1 [])))))))) [iD r259, iD r260, iD r261, iD r262, iD r263, .agg [iD r264, iD r265]] [c_T, c_n b1_, c_n b1_, c_n b1_, c_n b1_, c_n b5_, c_F, c_T, c_n b9_, c_n b9_, c_n b9_, c_n b9_, c_d bq1_, c_T, c_n bq3_, c_n bq3_, c_n bq3_, c_n bq3_, c_n bq20_, c_T, c_d bq37_, c_d bq37_, c_d bq37_, c_d bq37_, c_T, c_le 0, c_le 1, c_le 2, c_bn bq47_] [k_c fq39_, k_c fq41_, k_c fq43_, k_c fq48_, k_c fq50_, k_c fq52_] (by kernel_rfl)
    have hq38_ := (if_neg bq37_).symm.trans hq21_
    by_cases bq54_ : d > (100000 : Int)
    · have hq55_ := (if_pos bq54_).symm.trans hq38_
      obtain ⟨r266, fq56_, hq57_⟩ := pullD_elim hq55_
      replace fq56_ := m_64_ok fq56_
      obtain ⟨r267, fq58_, hq59_⟩ := pullD_elim hq57_
      replace fq58_ := m_50_ok fq58_
      obtain ⟨r268, fq60_, hq61_⟩ := pullD_elim hq59_
      replace fq60_ := m_50_ok fq60_
      by_cases bq62_ : r268 ≠ (0 : Int)
      · have hq63_ := (if_pos bq62_).symm.trans hq61_
        obtain rfl := Option.some.inj hq63_
        exact con_pc (op := true) (I := [36, 55, 69, 63, 97]) (sp := lossOf_sp) 3000 (bT 1 (bF 6 (bT 1 (bF 4 (bT 2 (bF 5 (bT 1 (bF 4 (bT 2 []))))))))) [iD r266, iD r267, iD r268] [c_T, c_n b1_, c_n b1_, c_n b1_, c_n b1_, c_n b5_, c_F, c_T, c_n b9_, c_n b9_, c_n b9_, c_n b9_, c_d bq1_, c_T, c_n bq3_, c_n bq3_, c_n bq3_, c_n bq3_, c_n bq20_, c_T, c_n bq37_, c_n bq37_, c_n bq37_, c_n bq37_, c_d bq54_, c_le 0, c_le 1, c_le 2, c_b bq62_] [k_c fq56_, k_c fq58_, k_c fq60_] (by kernel_rfl)
      have hq63_ := (if_neg bq62_).symm.trans hq61_
      have bq64_ : r268 = (0 : Int) := by first | exact bq62_ | simpa using bq62_
      obtain ⟨r269, fq65_, hq66_⟩ := pullD_elim hq63_
      replace fq65_ := m_78_ok fq65_
      obtain ⟨r270, fq67_, hq68_⟩ := pullD_elim hq66_
      replace fq67_ := m_78_ok fq67_
      obtain ⟨⟨r271, r272⟩, fq69_, hq70_⟩ := pullD_elim hq68_
      replace fq69_ := m_62_ok fq69_
      obtain rfl := Option.some.inj hq70_
      exact con_pc (op := true) (I := [36, 55, 69, 63, 97]) (sp := lossOf_sp) 3000 (bT 1 (bF 6 (bT 1 (bF 4 (bT 2 (bF 5 (bT 1 (bF 4 (bT 1 (bF 1 [])))))))))) [iD r266, iD r267, iD r268, iD r269, iD r270, .agg [iD r271, iD r272]] [c_T, c_n b1_, c_n b1_, c_n b1_, c_n b1_, c_n b5_, c_F, c_T, c_n b9_, c_n b9_, c_n b9_, c_n b9_, c_d bq1_, c_T, c_n bq3_, c_n bq3_, c_n bq3_, c_n bq3_, c_n bq20_, c_T, c_n bq37_, c_n bq37_, c_n bq37_, c_n bq37_, c_d bq54_, c_le 0, c_le 1, c_le 2, c_bn bq64_] [k_c fq56_, k_c fq58_, k_c fq60_, k_c fq65_, k_c fq67_, k_c fq69_] (by kernel_rfl)
    have hq55_ := (if_neg bq54_).symm.trans hq38_
    obtain ⟨r273, fq71_, hq72_⟩ := pullD_elim hq55_
    replace fq71_ := m_64_ok fq71_
    obtain ⟨r274, fq73_, hq74_⟩ := pullD_elim hq72_
    replace fq73_ := m_50_ok fq73_
    obtain ⟨r275, fq75_, hq76_⟩ := pullD_elim hq74_
    replace fq75_ := m_50_ok fq75_
    by_cases bq77_ : r275 ≠ (0 : Int)
    · have hq78_ := (if_pos bq77_).symm.trans hq76_
      obtain rfl := Option.some.inj hq78_
      exact con_pc (op := true) (I := [36, 55, 69, 63, 97]) (sp := lossOf_sp) 3000 (bT 1 (bF 6 (bT 1 (bF 4 (bT 2 (bF 5 (bT 1 (bF 6 (bT 1 []))))))))) [iD r273, iD r274, iD r275] [c_T, c_n b1_, c_n b1_, c_n b1_, c_n b1_, c_n b5_, c_F, c_T, c_n b9_, c_n b9_, c_n b9_, c_n b9_, c_d bq1_, c_T, c_n bq3_, c_n bq3_, c_n bq3_, c_n bq3_, c_n bq20_, c_T, c_n bq37_, c_n bq37_, c_n bq37_, c_n bq37_, c_n bq54_, c_F, c_le 0, c_le 1, c_le 2, c_b bq77_] [k_c fq71_, k_c fq73_, k_c fq75_] (by kernel_rfl)
    have hq78_ := (if_neg bq77_).symm.trans hq76_
    have bq79_ : r275 = (0 : Int) := by first | exact bq77_ | simpa using bq77_
    obtain ⟨r276, fq80_, hq81_⟩ := pullD_elim hq78_
    replace fq80_ := m_78_ok fq80_
    obtain ⟨r277, fq82_, hq83_⟩ := pullD_elim hq81_
    replace fq82_ := m_78_ok fq82_
    obtain ⟨⟨r278, r279⟩, fq84_, hq85_⟩ := pullD_elim hq83_
    replace fq84_ := m_62_ok fq84_
    obtain rfl := Option.some.inj hq85_
    exact con_pc (op := true) (I := [36, 55, 69, 63, 97]) (sp := lossOf_sp) 3000 (bT 1 (bF 6 (bT 1 (bF 4 (bT 2 (bF 5 (bT 1 (bF 7 [])))))))) [iD r273, iD r274, iD r275, iD r276, iD r277, .agg [iD r278, iD r279]] [c_T, c_n b1_, c_n b1_, c_n b1_, c_n b1_, c_n b5_, c_F, c_T, c_n b9_, c_n b9_, c_n b9_, c_n b9_, c_d bq1_, c_T, c_n bq3_, c_n bq3_, c_n bq3_, c_n bq3_, c_n bq20_, c_T, c_n bq37_, c_n bq37_, c_n bq37_, c_n bq37_, c_n bq54_, c_F, c_le 0, c_le 1, c_le 2, c_bn bq79_] [k_c fq71_, k_c fq73_, k_c fq75_, k_c fq80_, k_c fq82_, k_c fq84_] (by kernel_rfl)
  have hq2_ := (if_neg bq1_).symm.trans h
  by_cases bq86_ : c < IntKind.i64.wrap ((0 : Int) - (100000 : Int))
  · have hq87_ := (if_pos bq86_).symm.trans hq2_
    obtain ⟨r280, fq88_, hq89_⟩ := pullD_elim hq87_
    replace fq88_ := m_64_ok fq88_
    obtain ⟨r281, fq90_, hq91_⟩ := pullD_elim hq89_
    replace fq90_ := m_50_ok fq90_
    obtain ⟨r282, fq92_, hq93_⟩ := pullD_elim hq91_
    replace fq92_ := m_50_ok fq92_
    by_cases bq94_ : r282 ≠ (0 : Int)
    · have hq95_ := (if_pos bq94_).symm.trans hq93_
      obtain rfl := Option.some.inj hq95_
      exact con_pc (op := true) (I := [36, 55, 69, 63, 97]) (sp := lossOf_sp) 3000 (bT 1 (bF 6 (bT 1 (bF 6 (bT 7 []))))) [iD r280, iD r281, iD r282] [c_T, c_n b1_, c_n b1_, c_n b1_, c_n b1_, c_n b5_, c_F, c_T, c_n b9_, c_n b9_, c_n b9_, c_n b9_, c_n bq1_, c_F, c_T, c_d bq86_, c_d bq86_, c_d bq86_, c_d bq86_, c_T, c_le 0, c_le 1, c_le 2, c_b bq94_] [k_c fq88_, k_c fq90_, k_c fq92_] (by kernel_rfl)
    have hq95_ := (if_neg bq94_).symm.trans hq93_
    have bq96_ : r282 = (0 : Int) := by first | exact bq94_ | simpa using bq94_
    obtain ⟨r283, fq97_, hq98_⟩ := pullD_elim hq95_
    replace fq97_ := m_78_ok fq97_
    obtain ⟨r284, fq99_, hq100_⟩ := pullD_elim hq98_
    replace fq99_ := m_78_ok fq99_
    obtain ⟨⟨r285, r286⟩, fq101_, hq102_⟩ := pullD_elim hq100_
    replace fq101_ := m_62_ok fq101_
    obtain rfl := Option.some.inj hq102_
    exact con_pc (op := true) (I := [36, 55, 69, 63, 97]) (sp := lossOf_sp) 3000 (bT 1 (bF 6 (bT 1 (bF 6 (bT 6 (bF 1 [])))))) [iD r280, iD r281, iD r282, iD r283, iD r284, .agg [iD r285, iD r286]] [c_T, c_n b1_, c_n b1_, c_n b1_, c_n b1_, c_n b5_, c_F, c_T, c_n b9_, c_n b9_, c_n b9_, c_n b9_, c_n bq1_, c_F, c_T, c_d bq86_, c_d bq86_, c_d bq86_, c_d bq86_, c_T, c_le 0, c_le 1, c_le 2, c_bn bq96_] [k_c fq88_, k_c fq90_, k_c fq92_, k_c fq97_, k_c fq99_, k_c fq101_] (by kernel_rfl)
  have hq87_ := (if_neg bq86_).symm.trans hq2_
  by_cases bq103_ : c > (100000 : Int)
  · have hq104_ := (if_pos bq103_).symm.trans hq87_
    obtain ⟨r287, fq105_, hq106_⟩ := pullD_elim hq104_
    replace fq105_ := m_64_ok fq105_
    obtain ⟨r288, fq107_, hq108_⟩ := pullD_elim hq106_
    replace fq107_ := m_50_ok fq107_
    obtain ⟨r289, fq109_, hq110_⟩ := pullD_elim hq108_
    replace fq109_ := m_50_ok fq109_
    by_cases bq111_ : r289 ≠ (0 : Int)
    · have hq112_ := (if_pos bq111_).symm.trans hq110_
      obtain rfl := Option.some.inj hq112_
      exact con_pc (op := true) (I := [36, 55, 69, 63, 97]) (sp := lossOf_sp) 3000 (bT 1 (bF 6 (bT 1 (bF 6 (bT 1 (bF 4 (bT 2 []))))))) [iD r287, iD r288, iD r289] [c_T, c_n b1_, c_n b1_, c_n b1_, c_n b1_, c_n b5_, c_F, c_T, c_n b9_, c_n b9_, c_n b9_, c_n b9_, c_n bq1_, c_F, c_T, c_n bq86_, c_n bq86_, c_n bq86_, c_n bq86_, c_d bq103_, c_le 0, c_le 1, c_le 2, c_b bq111_] [k_c fq105_, k_c fq107_, k_c fq109_] (by kernel_rfl)
    have hq112_ := (if_neg bq111_).symm.trans hq110_
    have bq113_ : r289 = (0 : Int) := by first | exact bq111_ | simpa using bq111_
    obtain ⟨r290, fq114_, hq115_⟩ := pullD_elim hq112_
    replace fq114_ := m_78_ok fq114_
    obtain ⟨r291, fq116_, hq117_⟩ := pullD_elim hq115_
    replace fq116_ := m_78_ok fq116_
    obtain ⟨⟨r292, r293⟩, fq118_, hq119_⟩ := pullD_elim hq117_
    replace fq118_ := m_62_ok fq118_
    obtain rfl := Option.some.inj hq119_
    exact con_pc (op := true) (I := [36, 55, 69, 63, 97]) (sp := lossOf_sp) 3000 (bT 1 (bF 6 (bT 1 (bF 6 (bT 1 (bF 4 (bT 1 (bF 1 [])))))))) [iD r287, iD r288, iD r289, iD r290, iD r291, .agg [iD r292, iD r293]] [c_T, c_n b1_, c_n b1_, c_n b1_, c_n b1_, c_n b5_, c_F, c_T, c_n b9_, c_n b9_, c_n b9_, c_n b9_, c_n bq1_, c_F, c_T, c_n bq86_, c_n bq86_, c_n bq86_, c_n bq86_, c_d bq103_, c_le 0, c_le 1, c_le 2, c_bn bq113_] [k_c fq105_, k_c fq107_, k_c fq109_, k_c fq114_, k_c fq116_, k_c fq118_] (by kernel_rfl)
  have hq104_ := (if_neg bq103_).symm.trans hq87_
  by_cases bq120_ : d < IntKind.i64.wrap ((0 : Int) - (100000 : Int))
  · have hq121_ := (if_pos bq120_).symm.trans hq104_
    obtain ⟨r294, fq122_, hq123_⟩ := pullD_elim hq121_
    replace fq122_ := m_64_ok fq122_
    obtain ⟨r295, fq124_, hq125_⟩ := pullD_elim hq123_
    replace fq124_ := m_50_ok fq124_
    obtain ⟨r296, fq126_, hq127_⟩ := pullD_elim hq125_
    replace fq126_ := m_50_ok fq126_
    by_cases bq128_ : r296 ≠ (0 : Int)
    · have hq129_ := (if_pos bq128_).symm.trans hq127_
      obtain rfl := Option.some.inj hq129_
      exact con_pc (op := true) (I := [36, 55, 69, 63, 97]) (sp := lossOf_sp) 3000 (bT 1 (bF 6 (bT 1 (bF 6 (bT 1 (bF 5 (bT 7 []))))))) [iD r294, iD r295, iD r296] [c_T, c_n b1_, c_n b1_, c_n b1_, c_n b1_, c_n b5_, c_F, c_T, c_n b9_, c_n b9_, c_n b9_, c_n b9_, c_n bq1_, c_F, c_T, c_n bq86_, c_n bq86_, c_n bq86_, c_n bq86_, c_n bq103_, c_T, c_d bq120_, c_d bq120_, c_d bq120_, c_d bq120_, c_T, c_le 0, c_le 1, c_le 2, c_b bq128_] [k_c fq122_, k_c fq124_, k_c fq126_] (by kernel_rfl)
    have hq129_ := (if_neg bq128_).symm.trans hq127_
    have bq130_ : r296 = (0 : Int) := by first | exact bq128_ | simpa using bq128_
    obtain ⟨r297, fq131_, hq132_⟩ := pullD_elim hq129_
    replace fq131_ := m_78_ok fq131_
    obtain ⟨r298, fq133_, hq134_⟩ := pullD_elim hq132_
    replace fq133_ := m_78_ok fq133_
    obtain ⟨⟨r299, r300⟩, fq135_, hq136_⟩ := pullD_elim hq134_
    replace fq135_ := m_62_ok fq135_
    obtain rfl := Option.some.inj hq136_
    exact con_pc (op := true) (I := [36, 55, 69, 63, 97]) (sp := lossOf_sp) 3000 (bT 1 (bF 6 (bT 1 (bF 6 (bT 1 (bF 5 (bT 6 (bF 1 [])))))))) [iD r294, iD r295, iD r296, iD r297, iD r298, .agg [iD r299, iD r300]] [c_T, c_n b1_, c_n b1_, c_n b1_, c_n b1_, c_n b5_, c_F, c_T, c_n b9_, c_n b9_, c_n b9_, c_n b9_, c_n bq1_, c_F, c_T, c_n bq86_, c_n bq86_, c_n bq86_, c_n bq86_, c_n bq103_, c_T, c_d bq120_, c_d bq120_, c_d bq120_, c_d bq120_, c_T, c_le 0, c_le 1, c_le 2, c_bn bq130_] [k_c fq122_, k_c fq124_, k_c fq126_, k_c fq131_, k_c fq133_, k_c fq135_] (by kernel_rfl)
  have hq121_ := (if_neg bq120_).symm.trans hq104_
  by_cases bq137_ : d > (100000 : Int)
  · have hq138_ := (if_pos bq137_).symm.trans hq121_
    obtain ⟨r301, fq139_, hq140_⟩ := pullD_elim hq138_
    replace fq139_ := m_64_ok fq139_
    obtain ⟨r302, fq141_, hq142_⟩ := pullD_elim hq140_
    replace fq141_ := m_50_ok fq141_
    obtain ⟨r303, fq143_, hq144_⟩ := pullD_elim hq142_
    replace fq143_ := m_50_ok fq143_
    by_cases bq145_ : r303 ≠ (0 : Int)
    · have hq146_ := (if_pos bq145_).symm.trans hq144_
      obtain rfl := Option.some.inj hq146_
      exact con_pc (op := true) (I := [36, 55, 69, 63, 97]) (sp := lossOf_sp) 3000 (bT 1 (bF 6 (bT 1 (bF 6 (bT 1 (bF 5 (bT 1 (bF 4 (bT 2 []))))))))) [iD r301, iD r302, iD r303] [c_T, c_n b1_, c_n b1_, c_n b1_, c_n b1_, c_n b5_, c_F, c_T, c_n b9_, c_n b9_, c_n b9_, c_n b9_, c_n bq1_, c_F, c_T, c_n bq86_, c_n bq86_, c_n bq86_, c_n bq86_, c_n bq103_, c_T, c_n bq120_, c_n bq120_, c_n bq120_, c_n bq120_, c_d bq137_, c_le 0, c_le 1, c_le 2, c_b bq145_] [k_c fq139_, k_c fq141_, k_c fq143_] (by kernel_rfl)
    have hq146_ := (if_neg bq145_).symm.trans hq144_
    have bq147_ : r303 = (0 : Int) := by first | exact bq145_ | simpa using bq145_
    obtain ⟨r304, fq148_, hq149_⟩ := pullD_elim hq146_
    replace fq148_ := m_78_ok fq148_
    obtain ⟨r305, fq150_, hq151_⟩ := pullD_elim hq149_
    replace fq150_ := m_78_ok fq150_
    obtain ⟨⟨r306, r307⟩, fq152_, hq153_⟩ := pullD_elim hq151_
    replace fq152_ := m_62_ok fq152_
    obtain rfl := Option.some.inj hq153_
    exact con_pc (op := true) (I := [36, 55, 69, 63, 97]) (sp := lossOf_sp) 3000 (bT 1 (bF 6 (bT 1 (bF 6 (bT 1 (bF 5 (bT 1 (bF 4 (bT 1 (bF 1 [])))))))))) [iD r301, iD r302, iD r303, iD r304, iD r305, .agg [iD r306, iD r307]] [c_T, c_n b1_, c_n b1_, c_n b1_, c_n b1_, c_n b5_, c_F, c_T, c_n b9_, c_n b9_, c_n b9_, c_n b9_, c_n bq1_, c_F, c_T, c_n bq86_, c_n bq86_, c_n bq86_, c_n bq86_, c_n bq103_, c_T, c_n bq120_, c_n bq120_, c_n bq120_, c_n bq120_, c_d bq137_, c_le 0, c_le 1, c_le 2, c_bn bq147_] [k_c fq139_, k_c fq141_, k_c fq143_, k_c fq148_, k_c fq150_, k_c fq152_] (by kernel_rfl)
  have hq138_ := (if_neg bq137_).symm.trans hq121_
  obtain ⟨r308, fq154_, hq155_⟩ := pullD_elim hq138_
  replace fq154_ := m_64_ok fq154_
  obtain ⟨r309, fq156_, hq157_⟩ := pullD_elim hq155_
  replace fq156_ := m_50_ok fq156_
  obtain ⟨r310, fq158_, hq159_⟩ := pullD_elim hq157_
  replace fq158_ := m_50_ok fq158_
  by_cases bq160_ : r310 ≠ (0 : Int)
  · have hq161_ := (if_pos bq160_).symm.trans hq159_
    obtain rfl := Option.some.inj hq161_
    exact con_pc (op := true) (I := [36, 55, 69, 63, 97]) (sp := lossOf_sp) 3000 (bT 1 (bF 6 (bT 1 (bF 6 (bT 1 (bF 5 (bT 1 (bF 6 (bT 1 []))))))))) [iD r308, iD r309, iD r310] [c_T, c_n b1_, c_n b1_, c_n b1_, c_n b1_, c_n b5_, c_F, c_T, c_n b9_, c_n b9_, c_n b9_, c_n b9_, c_n bq1_, c_F, c_T, c_n bq86_, c_n bq86_, c_n bq86_, c_n bq86_, c_n bq103_, c_T, c_n bq120_, c_n bq120_, c_n bq120_, c_n bq120_, c_n bq137_, c_F, c_le 0, c_le 1, c_le 2, c_b bq160_] [k_c fq154_, k_c fq156_, k_c fq158_] (by kernel_rfl)
  have hq161_ := (if_neg bq160_).symm.trans hq159_
  have bq162_ : r310 = (0 : Int) := by first | exact bq160_ | simpa using bq160_
  obtain ⟨r311, fq163_, hq164_⟩ := pullD_elim hq161_
  replace fq163_ := m_78_ok fq163_
  obtain ⟨r312, fq165_, hq166_⟩ := pullD_elim hq164_
  replace fq165_ := m_78_ok fq165_
  obtain ⟨⟨r313, r314⟩, fq167_, hq168_⟩ := pullD_elim hq166_
  replace fq167_ := m_62_ok fq167_
  obtain rfl := Option.some.inj hq168_
  exact con_pc (op := true) (I := [36, 55, 69, 63, 97]) (sp := lossOf_sp) 3000 (bT 1 (bF 6 (bT 1 (bF 6 (bT 1 (bF 5 (bT 1 (bF 7 [])))))))) [iD r308, iD r309, iD r310, iD r311, iD r312, .agg [iD r313, iD r314]] [c_T, c_n b1_, c_n b1_, c_n b1_, c_n b1_, c_n b5_, c_F, c_T, c_n b9_, c_n b9_, c_n b9_, c_n b9_, c_n bq1_, c_F, c_T, c_n bq86_, c_n bq86_, c_n bq86_, c_n bq86_, c_n bq103_, c_T, c_n bq120_, c_n bq120_, c_n bq120_, c_n bq120_, c_n bq137_, c_F, c_le 0, c_le 1, c_le 2, c_bn bq162_] [k_c fq154_, k_c fq156_, k_c fq158_, k_c fq163_, k_c fq165_, k_c fq167_] (by kernel_rfl)
theorem lossOf_M_ok (a b c d : Int) {r : D} (h : lossOf_M a b c d = some r) : Con 36 [iD a, iD b, .agg [iD c, iD d]] r := by
  unfold lossOf_M at h
  by_cases b1_ : a < (0 : Int)
  · have h2_ := (if_pos b1_).symm.trans h
    by_cases b3_ : b < IntKind.i64.wrap ((0 : Int) - (1000000000 : Int))
    · have h4_ := (if_pos b3_).symm.trans h2_
      exact lossOf_M_s0_ok a b c d b1_ b3_ h4_
    have h4_ := (if_neg b3_).symm.trans h2_
    exact lossOf_M_s1_ok a b c d b1_ b3_ h4_
  have h2_ := (if_neg b1_).symm.trans h
  by_cases b5_ : a > (1000000000 : Int)
  · have h6_ := (if_pos b5_).symm.trans h2_
    by_cases b7_ : b < IntKind.i64.wrap ((0 : Int) - (1000000000 : Int))
    · have h8_ := (if_pos b7_).symm.trans h6_
      exact lossOf_M_s2_ok a b c d b1_ b5_ b7_ h8_
    have h8_ := (if_neg b7_).symm.trans h6_
    exact lossOf_M_s3_ok a b c d b1_ b5_ b7_ h8_
  have h6_ := (if_neg b5_).symm.trans h2_
  by_cases b9_ : b < IntKind.i64.wrap ((0 : Int) - (1000000000 : Int))
  · have h10_ := (if_pos b9_).symm.trans h6_
    exact lossOf_M_s4_ok a b c d b1_ b5_ b9_ h10_
  have h10_ := (if_neg b9_).symm.trans h6_
  exact lossOf_M_s5_ok a b c d b1_ b5_ b9_ h10_
def m_36 (ds : List D) : Option D := pullD (α := Int × Int × Int × Int) (some (.tup ds)) (fun d => ((D.vi (D.at d 0)), (D.vi (D.at d 1)), (D.vi (D.at (D.at d 2) 0)), (D.vi (D.at (D.at d 2) 1)))) (fun (a, b, c, d) => .tup [iD a, iD b, .agg [iD c, iD d]]) fun (a, b, c, d) => lossOf_M a b c d
theorem m_36_ok {ds : List D} {r : D} (h : m_36 ds = some r) : Con 36 ds r := by
  unfold m_36 at h
  obtain ⟨⟨a, b, c, d⟩, e0, h0⟩ := pullD_elim h
  obtain rfl := tup_inj e0
  exact lossOf_M_ok a b c d h0
theorem m_36_eq (a b c d : Int) : m_36 [iD a, iD b, .agg [iD c, iD d]] = lossOf_M a b c d := pullD_some (a, b, c, d) rfl rfl
def lossR_sp : List LSpec := []
def lossR_M (a b c d : Int) : Option D := pullD (α := Bool) (m_24 [iD a, iD (0 : Int), iD (1000000000 : Int)]) (fun d => ((D.vb d))) (fun r0 => .one (.bool r0)) fun r0 => ((if r0 = false then some (.tup [.agg [iD (0 : Int), iD (0 : Int)], iD (2 : Int)]) else pullD (α := Bool) (m_24 [iD b, iD (-1000000000 : Int), iD (1000000000 : Int)]) (fun d => ((D.vb d))) (fun r1 => .one (.bool r1)) fun r1 => ((if r1 = false then some (.tup [.agg [iD (0 : Int), iD (0 : Int)], iD (2 : Int)]) else pullD (α := Bool) (m_24 [iD c, iD (-100000 : Int), iD (100000 : Int)]) (fun d => ((D.vb d))) (fun r2 => .one (.bool r2)) fun r2 => ((if r2 = false then some (.tup [.agg [iD (0 : Int), iD (0 : Int)], iD (2 : Int)]) else pullD (α := Bool) (m_24 [iD d, iD (-100000 : Int), iD (100000 : Int)]) (fun d => ((D.vb d))) (fun r3 => .one (.bool r3)) fun r3 => ((if r3 = false then some (.tup [.agg [iD (0 : Int), iD (0 : Int)], iD (2 : Int)]) else (if c > d then some (.tup [.agg [iD (0 : Int), iD (0 : Int)], iD (9 : Int)]) else pullD (α := Int) (m_65 [iD (if IntKind.i64.wrap (IntKind.i64.wrap (a * (1000000 : Int)) - IntKind.i64.wrap (b * d)) < IntKind.i64.wrap (IntKind.i64.wrap (a * (1000000 : Int)) - IntKind.i64.wrap (b * c)) then IntKind.i64.wrap (IntKind.i64.wrap (a * (1000000 : Int)) - IntKind.i64.wrap (b * d)) else IntKind.i64.wrap (IntKind.i64.wrap (a * (1000000 : Int)) - IntKind.i64.wrap (b * c))), iD (1000000 : Int)]) (fun d => ((D.vi d))) (fun r4 => iD r4) fun r4 => (pullD (α := Int) (m_66 [iD (if IntKind.i64.wrap (IntKind.i64.wrap (a * (1000000 : Int)) - IntKind.i64.wrap (b * d)) > IntKind.i64.wrap (IntKind.i64.wrap (a * (1000000 : Int)) - IntKind.i64.wrap (b * c)) then IntKind.i64.wrap (IntKind.i64.wrap (a * (1000000 : Int)) - IntKind.i64.wrap (b * d)) else IntKind.i64.wrap (IntKind.i64.wrap (a * (1000000 : Int)) - IntKind.i64.wrap (b * c))), iD (1000000 : Int)]) (fun d => ((D.vi d))) (fun r5 => iD r5) fun r5 => (some (.tup [.agg [iD r4, iD r5], iD (0 : Int)]))))))))))))
theorem lossR_M_ok (a b c d : Int) {r : D} (h : lossR_M a b c d = some r) : Con 37 [iD a, iD b, .agg [iD c, iD d]] r := by
  unfold lossR_M at h
  obtain ⟨r0, f1_, h2_⟩ := pullD_elim h
  replace f1_ := m_24_ok f1_
  by_cases b3_ : r0 = false
  · have h4_ := (if_pos b3_).symm.trans h2_
    obtain rfl := Option.some.inj h4_
    exact con_pc (op := true) (I := [37]) (sp := lossR_sp) 3000 (bT 15 []) [.one (.bool r0)] [c_no b3_, c_no b3_, c_no b3_, c_no b3_, c_T, c_T, c_T, c_T, c_T, c_T, c_T, c_T, c_T, c_T, c_T] [k_c f1_] (by kernel_rfl)
  have h4_ := (if_neg b3_).symm.trans h2_
  have b5_ : r0 = true := by first | exact b3_ | simpa using b3_
  obtain ⟨r1, f6_, h7_⟩ := pullD_elim h4_
  replace f6_ := m_24_ok f6_
  by_cases b8_ : r1 = false
  · have h9_ := (if_pos b8_).symm.trans h7_
    obtain rfl := Option.some.inj h9_
    exact con_pc (op := true) (I := [37]) (sp := lossR_sp) 3000 (bF 4 (bT 11 [])) [.one (.bool r0), .one (.bool r1)] [c_nn b5_, c_nn b5_, c_nn b5_, c_nn b5_, c_no b8_, c_no b8_, c_no b8_, c_no b8_, c_no b8_, c_T, c_T, c_T, c_T, c_T, c_T] [k_c f1_, k_c f6_] (by kernel_rfl)
  have h9_ := (if_neg b8_).symm.trans h7_
  have b10_ : r1 = true := by first | exact b8_ | simpa using b8_
  obtain ⟨r2, f11_, h12_⟩ := pullD_elim h9_
  replace f11_ := m_24_ok f11_
  by_cases b13_ : r2 = false
  · have h14_ := (if_pos b13_).symm.trans h12_
    obtain rfl := Option.some.inj h14_
    exact con_pc (op := true) (I := [37]) (sp := lossR_sp) 3000 (bF 9 (bT 6 [])) [.one (.bool r0), .one (.bool r1), .one (.bool r2)] [c_nn b5_, c_nn b5_, c_nn b5_, c_nn b5_, c_nn b10_, c_nn b10_, c_nn b10_, c_nn b10_, c_nn b10_, c_no b13_, c_no b13_, c_no b13_, c_no b13_, c_no b13_, c_T] [k_c f1_, k_c f6_, k_c f11_] (by kernel_rfl)
  have h14_ := (if_neg b13_).symm.trans h12_
  have b15_ : r2 = true := by first | exact b13_ | simpa using b13_
  obtain ⟨r3, f16_, h17_⟩ := pullD_elim h14_
  replace f16_ := m_24_ok f16_
  by_cases b18_ : r3 = false
  · have h19_ := (if_pos b18_).symm.trans h17_
    obtain rfl := Option.some.inj h19_
    exact con_pc (op := true) (I := [37]) (sp := lossR_sp) 3000 (bF 14 (bT 1 [])) [.one (.bool r0), .one (.bool r1), .one (.bool r2), .one (.bool r3)] [c_nn b5_, c_nn b5_, c_nn b5_, c_nn b5_, c_nn b10_, c_nn b10_, c_nn b10_, c_nn b10_, c_nn b10_, c_nn b15_, c_nn b15_, c_nn b15_, c_nn b15_, c_nn b15_, c_no b18_] [k_c f1_, k_c f6_, k_c f11_, k_c f16_] (by kernel_rfl)
  have h19_ := (if_neg b18_).symm.trans h17_
  have b20_ : r3 = true := by first | exact b18_ | simpa using b18_
  by_cases b21_ : c > d
  · have h22_ := (if_pos b21_).symm.trans h19_
    obtain rfl := Option.some.inj h22_
    exact con_pc (op := true) (I := [37]) (sp := lossR_sp) 3000 (bF 15 (bT 1 [])) [.one (.bool r0), .one (.bool r1), .one (.bool r2), .one (.bool r3)] [c_nn b5_, c_nn b5_, c_nn b5_, c_nn b5_, c_nn b10_, c_nn b10_, c_nn b10_, c_nn b10_, c_nn b10_, c_nn b15_, c_nn b15_, c_nn b15_, c_nn b15_, c_nn b15_, c_nn b20_, c_d b21_] [k_c f1_, k_c f6_, k_c f11_, k_c f16_] (by kernel_rfl)
  have h22_ := (if_neg b21_).symm.trans h19_
  obtain ⟨r4, f23_, h24_⟩ := pullD_elim h22_
  replace f23_ := m_65_ok f23_
  obtain ⟨r5, f25_, h26_⟩ := pullD_elim h24_
  replace f25_ := m_66_ok f25_
  obtain rfl := Option.some.inj h26_
  exact con_pc (op := true) (I := [37]) (sp := lossR_sp) 3000 (bF 16 []) [.one (.bool r0), .one (.bool r1), .one (.bool r2), .one (.bool r3), iD r4, iD r5] [c_nn b5_, c_nn b5_, c_nn b5_, c_nn b5_, c_nn b10_, c_nn b10_, c_nn b10_, c_nn b10_, c_nn b10_, c_nn b15_, c_nn b15_, c_nn b15_, c_nn b15_, c_nn b15_, c_nn b20_, c_n b21_] [k_c f1_, k_c f6_, k_c f11_, k_c f16_, k_c f23_, k_c f25_] (by kernel_rfl)
def m_37 (ds : List D) : Option D := pullD (α := Int × Int × Int × Int) (some (.tup ds)) (fun d => ((D.vi (D.at d 0)), (D.vi (D.at d 1)), (D.vi (D.at (D.at d 2) 0)), (D.vi (D.at (D.at d 2) 1)))) (fun (a, b, c, d) => .tup [iD a, iD b, .agg [iD c, iD d]]) fun (a, b, c, d) => lossR_M a b c d
theorem m_37_ok {ds : List D} {r : D} (h : m_37 ds = some r) : Con 37 ds r := by
  unfold m_37 at h
  obtain ⟨⟨a, b, c, d⟩, e0, h0⟩ := pullD_elim h
  obtain rfl := tup_inj e0
  exact lossR_M_ok a b c d h0
theorem m_37_eq (a b c d : Int) : m_37 [iD a, iD b, .agg [iD c, iD d]] = lossR_M a b c d := pullD_some (a, b, c, d) rfl rfl
def law7_sp : List LSpec := []
def law7_M (a b c d : Int) : Option D := pullD (α := Bool) (m_9 []) (fun d => ((D.vb d))) (fun r0 => .one (.bool r0)) fun r0 => ((if r0 = false then some (.one (.bool false)) else pullD (α := Int × Int × Int) (m_36 [iD a, iD b, .agg [iD c, iD d]]) (fun d => ((D.vi (D.at (D.at d 0) 0)), (D.vi (D.at (D.at d 0) 1)), (D.vi (D.at d 1)))) (fun (r1, r2, r3) => .tup [.agg [iD r1, iD r2], iD r3]) fun (r1, r2, r3) => (pullD (α := Int × Int × Int) (m_37 [iD a, iD b, .agg [iD c, iD d]]) (fun d => ((D.vi (D.at (D.at d 0) 0)), (D.vi (D.at (D.at d 0) 1)), (D.vi (D.at d 1)))) (fun (r4, r5, r6) => .tup [.agg [iD r4, iD r5], iD r6]) fun (r4, r5, r6) => ((if r3 ≠ r6 then some (.one (.bool false)) else (if (!(r1 == r4 && (r2 == r5 && true))) = true then some (.one (.bool false)) else (if r6 ≠ (0 : Int) then some (.one (.bool true)) else pullD (α := Int × Int × Int) (m_36 [iD a, iD b, .agg [iD (0 : Int), iD (0 : Int)]]) (fun d => ((D.vi (D.at (D.at d 0) 0)), (D.vi (D.at (D.at d 0) 1)), (D.vi (D.at d 1)))) (fun (r7, r8, r9) => .tup [.agg [iD r7, iD r8], iD r9]) fun (r7, r8, r9) => ((if r9 = (0 : Int) then some (.one (.bool (r7 == a && (r8 == a && true)))) else some (.one (.bool false)))))))))))
theorem law7_M_ok (a b c d : Int) {r : D} (h : law7_M a b c d = some r) : Con 7 [iD a, iD b, .agg [iD c, iD d]] r := by
  unfold law7_M at h
  obtain ⟨r0, f1_, h2_⟩ := pullD_elim h
  replace f1_ := m_9_ok f1_
  by_cases b3_ : r0 = false
  · have h4_ := (if_pos b3_).symm.trans h2_
    obtain rfl := Option.some.inj h4_
    exact con_pc (op := true) (I := [7]) (sp := law7_sp) 3000 (bT 1 []) [.one (.bool r0)] [c_no b3_] [k_c f1_] (by kernel_rfl)
  have h4_ := (if_neg b3_).symm.trans h2_
  have b5_ : r0 = true := by first | exact b3_ | simpa using b3_
  obtain ⟨⟨r1, r2, r3⟩, f6_, h7_⟩ := pullD_elim h4_
  replace f6_ := m_36_ok f6_
  obtain ⟨⟨r4, r5, r6⟩, f8_, h9_⟩ := pullD_elim h7_
  replace f8_ := m_37_ok f8_
  by_cases b10_ : r3 ≠ r6
  · have h11_ := (if_pos b10_).symm.trans h9_
    obtain rfl := Option.some.inj h11_
    exact con_pc (op := true) (I := [7]) (sp := law7_sp) 3000 (bF 1 (bT 5 [])) [.one (.bool r0), .tup [.agg [iD r1, iD r2], iD r3], .tup [.agg [iD r4, iD r5], iD r6]] [c_nn b5_, c_b b10_, c_b b10_, c_b b10_, c_b b10_, c_T] [k_c f1_, k_c f6_, k_c f8_] (by kernel_rfl)
  have h11_ := (if_neg b10_).symm.trans h9_
  have b12_ : r3 = r6 := by first | exact b10_ | simpa using b10_
  by_cases b13_ : (!(r1 == r4 && (r2 == r5 && true))) = true
  · have h14_ := (if_pos b13_).symm.trans h11_
    obtain rfl := Option.some.inj h14_
    exact con_pc (op := true) (I := [7]) (sp := law7_sp) 3000 (bF 5 (bT 1 [])) [.one (.bool r0), .tup [.agg [iD r1, iD r2], iD r3], .tup [.agg [iD r4, iD r5], iD r6]] [c_nn b5_, c_bn b12_, c_bn b12_, c_bn b12_, c_bn b12_, c_q b13_] [k_c f1_, k_c f6_, k_c f8_] (by kernel_rfl)
  have h14_ := (if_neg b13_).symm.trans h11_
  have b15_ : (!(r1 == r4 && (r2 == r5 && true))) = false := by first | exact b13_ | simpa using b13_
  by_cases b16_ : r6 ≠ (0 : Int)
  · have h17_ := (if_pos b16_).symm.trans h14_
    obtain rfl := Option.some.inj h17_
    exact con_pc (op := true) (I := [7]) (sp := law7_sp) 3000 (bF 6 (bT 1 [])) [.one (.bool r0), .tup [.agg [iD r1, iD r2], iD r3], .tup [.agg [iD r4, iD r5], iD r6]] [c_nn b5_, c_bn b12_, c_bn b12_, c_bn b12_, c_bn b12_, c_q b15_, c_b b16_] [k_c f1_, k_c f6_, k_c f8_] (by kernel_rfl)
  have h17_ := (if_neg b16_).symm.trans h14_
  have b18_ : r6 = (0 : Int) := by first | exact b16_ | simpa using b16_
  obtain ⟨⟨r7, r8, r9⟩, f19_, h20_⟩ := pullD_elim h17_
  replace f19_ := m_36_ok f19_
  by_cases b21_ : r9 = (0 : Int)
  · have h22_ := (if_pos b21_).symm.trans h20_
    obtain rfl := Option.some.inj h22_
    exact con_pc (op := true) (I := [7]) (sp := law7_sp) 3000 (bF 7 (bT 6 [])) [.one (.bool r0), .tup [.agg [iD r1, iD r2], iD r3], .tup [.agg [iD r4, iD r5], iD r6], .tup [.agg [iD r7, iD r8], iD r9]] [c_nn b5_, c_bn b12_, c_bn b12_, c_bn b12_, c_bn b12_, c_q b15_, c_bn b18_, c_e b21_, c_e b21_, c_e b21_, c_e b21_, c_e b21_, c_e b21_] [k_c f1_, k_c f6_, k_c f8_, k_c f19_] (by kernel_rfl)
  have h22_ := (if_neg b21_).symm.trans h20_
  have b23_ : r9 ≠ (0 : Int) := by first | exact b21_ | simpa using b21_
  obtain rfl := Option.some.inj h22_
  exact con_pc (op := true) (I := [7]) (sp := law7_sp) 3000 (bF 13 []) [.one (.bool r0), .tup [.agg [iD r1, iD r2], iD r3], .tup [.agg [iD r4, iD r5], iD r6], .tup [.agg [iD r7, iD r8], iD r9]] [c_nn b5_, c_bn b12_, c_bn b12_, c_bn b12_, c_bn b12_, c_q b15_, c_bn b18_, c_en b23_, c_en b23_, c_en b23_, c_en b23_, c_en b23_, c_en b23_] [k_c f1_, k_c f6_, k_c f8_, k_c f19_] (by kernel_rfl)
def m_7 (ds : List D) : Option D := pullD (α := Int × Int × Int × Int) (some (.tup ds)) (fun d => ((D.vi (D.at d 0)), (D.vi (D.at d 1)), (D.vi (D.at (D.at d 2) 0)), (D.vi (D.at (D.at d 2) 1)))) (fun (a, b, c, d) => .tup [iD a, iD b, .agg [iD c, iD d]]) fun (a, b, c, d) => law7_M a b c d
theorem m_7_ok {ds : List D} {r : D} (h : m_7 ds = some r) : Con 7 ds r := by
  unfold m_7 at h
  obtain ⟨⟨a, b, c, d⟩, e0, h0⟩ := pullD_elim h
  obtain rfl := tup_inj e0
  exact law7_M_ok a b c d h0
theorem m_7_eq (a b c d : Int) : m_7 [iD a, iD b, .agg [iD c, iD d]] = law7_M a b c d := pullD_some (a, b, c, d) rfl rfl
end
end Go.Proofs.Ytjjbacbjdilhmaa
namespace Go.Proofs.Ytjjbacbjdilhmaa
open Go.Ev Go.RowKit
set_option maxRecDepth 100000
set_option maxHeartbeats 8000000
set_option linter.all false
noncomputable section
abbrev shNK2_0 (a0 : Int) (a1 : Int) (a2 : Int) (a3 : Int) : D := .agg [.one (.int .i64 a0), .one (.int .i64 a1), .one (.int .i64 a2), .one (.int .i64 a3)]
def divisor_L1_S0 (a b : Int)  (ds : List D) : Option Go.Ev.Rd := pullD (α := Int × Int) (some (.tup ds)) (fun d => ((D.vi (D.at d 0)), (D.vi (D.at d 1)))) (fun (s0, s1) => .tup [iD s0, iD s1]) fun (s0, s1) => ((if s1 ≠ (0 : Int) then some (.next 0 [iD s1, iD (s0.tmod s1)]) else some (.out 0 [iD s0])))
def divisor_L1_S (a b : Int)  : Go.Ev.Rd → Option Go.Ev.Rd
  | .next 0 ds => divisor_L1_S0 a b ds
  | _ => none
def divisor_M (a b : Int) : Option D := bindL (runR (divisor_L1_S a b) (.next 0 [iD a, iD b])) fun j ds => (if j = 0 then pullD (α := Int) (some (.tup ds)) (fun d => ((D.vi (D.at d 0)))) (fun l0 => .tup [iD l0]) fun l0 => (some (iD (if IntKind.i64.wrap ((0 : Int) - l0) > l0 then IntKind.i64.wrap ((0 : Int) - l0) else l0))) else none)
def m_98 (ds : List D) : Option D := pullD (α := Int × Int) (some (.tup ds)) (fun d => ((D.vi (D.at d 0)), (D.vi (D.at d 1)))) (fun (a, b) => .tup [iD a, iD b]) fun (a, b) => divisor_M a b
def reduced_M (n d : Int) : Option D := pullD (α := Int) (m_98 [iD n, iD d]) (fun d => ((D.vi d))) (fun r0 => iD r0) fun r0 => (guardP (r0 ≠ (0 : Int)) (some (.agg [iD (IntKind.i64.wrap (n.tdiv r0)), iD (IntKind.i64.wrap (d.tdiv r0))])))
def m_72 (ds : List D) : Option D := pullD (α := Int × Int) (some (.tup ds)) (fun d => ((D.vi (D.at d 0)), (D.vi (D.at d 1)))) (fun (n, d) => .tup [iD n, iD d]) fun (n, d) => reduced_M n d
def ratioOf_M_s1 (a b c d : Int)  : Option D := pullD (α := Int) (m_64 [.list 1 [iD a, iD b]]) (fun d => ((D.vi d))) (fun r37 => iD r37) fun r37 => (pullD (α := Int) (m_50 [.list 2 [iD (2 : Int), iD r37]]) (fun d => ((D.vi d))) (fun r38 => iD r38) fun r38 => ((if c < (1 : Int) then pullD (α := Int) (m_64 [.list 1 [iD c, iD d]]) (fun d => ((D.vi d))) (fun r39 => iD r39) fun r39 => (pullD (α := Int) (m_50 [.list 2 [iD (2 : Int), iD r39]]) (fun d => ((D.vi d))) (fun r40 => iD r40) fun r40 => (pullD (α := Int) (m_50 [.list 2 [iD r38, iD r40]]) (fun d => ((D.vi d))) (fun r41 => iD r41) fun r41 => ((if r41 ≠ (0 : Int) then some (.tup [(shNK2_0 (0 : Int) (0 : Int) (0 : Int) (0 : Int)), iD r41]) else pullD (α := Int × Int) (m_72 [iD a, iD d]) (fun d => ((D.vi (D.at d 0)), (D.vi (D.at d 1)))) (fun (r42, r43) => .agg [iD r42, iD r43]) fun (r42, r43) => (pullD (α := Int × Int) (m_72 [iD b, iD c]) (fun d => ((D.vi (D.at d 0)), (D.vi (D.at d 1)))) (fun (r44, r45) => .agg [iD r44, iD r45]) fun (r44, r45) => (some (.tup [(shNK2_0 r42 r43 r44 r45), iD (0 : Int)]))))))) else (if c > (1000000000 : Int) then pullD (α := Int) (m_64 [.list 1 [iD c, iD d]]) (fun d => ((D.vi d))) (fun r46 => iD r46) fun r46 => (pullD (α := Int) (m_50 [.list 2 [iD (2 : Int), iD r46]]) (fun d => ((D.vi d))) (fun r47 => iD r47) fun r47 => (pullD (α := Int) (m_50 [.list 2 [iD r38, iD r47]]) (fun d => ((D.vi d))) (fun r48 => iD r48) fun r48 => ((if r48 ≠ (0 : Int) then some (.tup [(shNK2_0 (0 : Int) (0 : Int) (0 : Int) (0 : Int)), iD r48]) else pullD (α := Int × Int) (m_72 [iD a, iD d]) (fun d => ((D.vi (D.at d 0)), (D.vi (D.at d 1)))) (fun (r49, r50) => .agg [iD r49, iD r50]) fun (r49, r50) => (pullD (α := Int × Int) (m_72 [iD b, iD c]) (fun d => ((D.vi (D.at d 0)), (D.vi (D.at d 1)))) (fun (r51, r52) => .agg [iD r51, iD r52]) fun (r51, r52) => (some (.tup [(shNK2_0 r49 r50 r51 r52), iD (0 : Int)]))))))) else (if d < (1 : Int) then pullD (α := Int) (m_64 [.list 1 [iD c, iD d]]) (fun d => ((D.vi d))) (fun r53 => iD r53) fun r53 => (pullD (α := Int) (m_50 [.list 2 [iD (2 : Int), iD r53]]) (fun d => ((D.vi d))) (fun r54 => iD r54) fun r54 => (pullD (α := Int) (m_50 [.list 2 [iD r38, iD r54]]) (fun d => ((D.vi d))) (fun r55 => iD r55) fun r55 => ((if r55 ≠ (0 : Int) then some (.tup [(shNK2_0 (0 : Int) (0 : Int) (0 : Int) (0 : Int)), iD r55]) else pullD (α := Int × Int) (m_72 [iD a, iD d]) (fun d => ((D.vi (D.at d 0)), (D.vi (D.at d 1)))) (fun (r56, r57) => .agg [iD r56, iD r57]) fun (r56, r57) => (pullD (α := Int × Int) (m_72 [iD b, iD c]) (fun d => ((D.vi (D.at d 0)), (D.vi (D.at d 1)))) (fun (r58, r59) => .agg [iD r58, iD r59]) fun (r58, r59) => (some (.tup [(shNK2_0 r56 r57 r58 r59), iD (0 : Int)]))))))) else (if d > (1000000000 : Int) then pullD (α := Int) (m_64 [.list 1 [iD c, iD d]]) (fun d => ((D.vi d))) (fun r60 => iD r60) fun r60 => (pullD (α := Int) (m_50 [.list 2 [iD (2 : Int), iD r60]]) (fun d => ((D.vi d))) (fun r61 => iD r61) fun r61 => (pullD (α := Int) (m_50 [.list 2 [iD r38, iD r61]]) (fun d => ((D.vi d))) (fun r62 => iD r62) fun r62 => ((if r62 ≠ (0 : Int) then some (.tup [(shNK2_0 (0 : Int) (0 : Int) (0 : Int) (0 : Int)), iD r62]) else pullD (α := Int × Int) (m_72 [iD a, iD d]) (fun d => ((D.vi (D.at d 0)), (D.vi (D.at d 1)))) (fun (r63, r64) => .agg [iD r63, iD r64]) fun (r63, r64) => (pullD (α := Int × Int) (m_72 [iD b, iD c]) (fun d => ((D.vi (D.at d 0)), (D.vi (D.at d 1)))) (fun (r65, r66) => .agg [iD r65, iD r66]) fun (r65, r66) => (some (.tup [(shNK2_0 r63 r64 r65 r66), iD (0 : Int)]))))))) else pullD (α := Int) (m_64 [.list 1 [iD c, iD d]]) (fun d => ((D.vi d))) (fun r67 => iD r67) fun r67 => (pullD (α := Int) (m_50 [.list 2 [iD (0 : Int), iD r67]]) (fun d => ((D.vi d))) (fun r68 => iD r68) fun r68 => (pullD (α := Int) (m_50 [.list 2 [iD r38, iD r68]]) (fun d => ((D.vi d))) (fun r69 => iD r69) fun r69 => ((if r69 ≠ (0 : Int) then some (.tup [(shNK2_0 (0 : Int) (0 : Int) (0 : Int) (0 : Int)), iD r69]) else pullD (α := Int × Int) (m_72 [iD a, iD d]) (fun d => ((D.vi (D.at d 0)), (D.vi (D.at d 1)))) (fun (r70, r71) => .agg [iD r70, iD r71]) fun (r70, r71) => (pullD (α := Int × Int) (m_72 [iD b, iD c]) (fun d => ((D.vi (D.at d 0)), (D.vi (D.at d 1)))) (fun (r72, r73) => .agg [iD r72, iD r73]) fun (r72, r73) => (some (.tup [(shNK2_0 r70 r71 r72 r73), iD (0 : Int)])))))))))))))
def ratioOf_M_s2 (a b c d : Int)  : Option D := pullD (α := Int) (m_64 [.list 1 [iD a, iD b]]) (fun d => ((D.vi d))) (fun r74 => iD r74) fun r74 => (pullD (α := Int) (m_50 [.list 2 [iD (2 : Int), iD r74]]) (fun d => ((D.vi d))) (fun r75 => iD r75) fun r75 => ((if c < (1 : Int) then pullD (α := Int) (m_64 [.list 1 [iD c, iD d]]) (fun d => ((D.vi d))) (fun r76 => iD r76) fun r76 => (pullD (α := Int) (m_50 [.list 2 [iD (2 : Int), iD r76]]) (fun d => ((D.vi d))) (fun r77 => iD r77) fun r77 => (pullD (α := Int) (m_50 [.list 2 [iD r75, iD r77]]) (fun d => ((D.vi d))) (fun r78 => iD r78) fun r78 => ((if r78 ≠ (0 : Int) then some (.tup [(shNK2_0 (0 : Int) (0 : Int) (0 : Int) (0 : Int)), iD r78]) else pullD (α := Int × Int) (m_72 [iD a, iD d]) (fun d => ((D.vi (D.at d 0)), (D.vi (D.at d 1)))) (fun (r79, r80) => .agg [iD r79, iD r80]) fun (r79, r80) => (pullD (α := Int × Int) (m_72 [iD b, iD c]) (fun d => ((D.vi (D.at d 0)), (D.vi (D.at d 1)))) (fun (r81, r82) => .agg [iD r81, iD r82]) fun (r81, r82) => (some (.tup [(shNK2_0 r79 r80 r81 r82), iD (0 : Int)]))))))) else (if c > (1000000000 : Int) then pullD (α := Int) (m_64 [.list 1 [iD c, iD d]]) (fun d => ((D.vi d))) (fun r83 => iD r83) fun r83 => (pullD (α := Int) (m_50 [.list 2 [iD (2 : Int), iD r83]]) (fun d => ((D.vi d))) (fun r84 => iD r84) fun r84 => (pullD (α := Int) (m_50 [.list 2 [iD r75, iD r84]]) (fun d => ((D.vi d))) (fun r85 => iD r85) fun r85 => ((if r85 ≠ (0 : Int) then some (.tup [(shNK2_0 (0 : Int) (0 : Int) (0 : Int) (0 : Int)), iD r85]) else pullD (α := Int × Int) (m_72 [iD a, iD d]) (fun d => ((D.vi (D.at d 0)), (D.vi (D.at d 1)))) (fun (r86, r87) => .agg [iD r86, iD r87]) fun (r86, r87) => (pullD (α := Int × Int) (m_72 [iD b, iD c]) (fun d => ((D.vi (D.at d 0)), (D.vi (D.at d 1)))) (fun (r88, r89) => .agg [iD r88, iD r89]) fun (r88, r89) => (some (.tup [(shNK2_0 r86 r87 r88 r89), iD (0 : Int)]))))))) else (if d < (1 : Int) then pullD (α := Int) (m_64 [.list 1 [iD c, iD d]]) (fun d => ((D.vi d))) (fun r90 => iD r90) fun r90 => (pullD (α := Int) (m_50 [.list 2 [iD (2 : Int), iD r90]]) (fun d => ((D.vi d))) (fun r91 => iD r91) fun r91 => (pullD (α := Int) (m_50 [.list 2 [iD r75, iD r91]]) (fun d => ((D.vi d))) (fun r92 => iD r92) fun r92 => ((if r92 ≠ (0 : Int) then some (.tup [(shNK2_0 (0 : Int) (0 : Int) (0 : Int) (0 : Int)), iD r92]) else pullD (α := Int × Int) (m_72 [iD a, iD d]) (fun d => ((D.vi (D.at d 0)), (D.vi (D.at d 1)))) (fun (r93, r94) => .agg [iD r93, iD r94]) fun (r93, r94) => (pullD (α := Int × Int) (m_72 [iD b, iD c]) (fun d => ((D.vi (D.at d 0)), (D.vi (D.at d 1)))) (fun (r95, r96) => .agg [iD r95, iD r96]) fun (r95, r96) => (some (.tup [(shNK2_0 r93 r94 r95 r96), iD (0 : Int)]))))))) else (if d > (1000000000 : Int) then pullD (α := Int) (m_64 [.list 1 [iD c, iD d]]) (fun d => ((D.vi d))) (fun r97 => iD r97) fun r97 => (pullD (α := Int) (m_50 [.list 2 [iD (2 : Int), iD r97]]) (fun d => ((D.vi d))) (fun r98 => iD r98) fun r98 => (pullD (α := Int) (m_50 [.list 2 [iD r75, iD r98]]) (fun d => ((D.vi d))) (fun r99 => iD r99) fun r99 => ((if r99 ≠ (0 : Int) then some (.tup [(shNK2_0 (0 : Int) (0 : Int) (0 : Int) (0 : Int)), iD r99]) else pullD (α := Int × Int) (m_72 [iD a, iD d]) (fun d => ((D.vi (D.at d 0)), (D.vi (D.at d 1)))) (fun (r100, r101) => .agg [iD r100, iD r101]) fun (r100, r101) => (pullD (α := Int × Int) (m_72 [iD b, iD c]) (fun d => ((D.vi (D.at d 0)), (D.vi (D.at d 1)))) (fun (r102, r103) => .agg [iD r102, iD r103]) fun (r102, r103) => (some (.tup [(shNK2_0 r100 r101 r102 r103), iD (0 : Int)]))))))) else pullD (α := Int) (m_64 [.list 1 [iD c, iD d]]) (fun d => ((D.vi d))) (fun r104 => iD r104) fun r104 => (pullD (α := Int) (m_50 [.list 2 [iD (0 : Int), iD r104]]) (fun d => ((D.vi d))) (fun r105 => iD r105) fun r105 => (pullD (α := Int) (m_50 [.list 2 [iD r75, iD r105]]) (fun d => ((D.vi d))) (fun r106 => iD r106) fun r106 => ((if r106 ≠ (0 : Int) then some (.tup [(shNK2_0 (0 : Int) (0 : Int) (0 : Int) (0 : Int)), iD r106]) else pullD (α := Int × Int) (m_72 [iD a, iD d]) (fun d => ((D.vi (D.at d 0)), (D.vi (D.at d 1)))) (fun (r107, r108) => .agg [iD r107, iD r108]) fun (r107, r108) => (pullD (α := Int × Int) (m_72 [iD b, iD c]) (fun d => ((D.vi (D.at d 0)), (D.vi (D.at d 1)))) (fun (r109, r110) => .agg [iD r109, iD r110]) fun (r109, r110) => (some (.tup [(shNK2_0 r107 r108 r109 r110), iD (0 : Int)])))))))))))))
end
end Go.Proofs.Ytjjbacbjdilhmaa
/- Figures and their times. -/
namespace Go.Proofs.Ytjjbacbjdilhmaa
open Go.Ev Go.RowKit
set_option maxRecDepth 100000
/-! ### Errors -/
def firstV : List Int → Int
  | [] => 0
  | x :: l => if x = 0 then firstV l else x
theorem first_go (k : Nat) : ∀ (pre l : List Int), k = (pre ++ l).length → k ≤ 1000000 → (∀ x ∈ pre, x = 0) →
    runR (firstOf_L2_S k ((pre ++ l).map iD)) (.next 0 [iD (pre.length : Int)]) = some (if firstV l = 0 then .out 0 [] else .out 1 [iD (firstV l)]) := by
  intro pre l
  induction l generalizing pre with
  | nil =>
    intro hk _ _
    rw [List.append_nil] at hk ⊢
    refine runR_exit ?_
    show firstOf_L2_S0 _ _ _ = _
    unfold firstOf_L2_S0
    rw [pullD_some (pre.length : Int) (by rfl) (by rfl), if_neg (by omega)]
  | cons x l ih =>
    intro hk hs hp
    have hg : (pre ++ x :: l)[pre.length]? = some x := by simp
    have hlt : pre.length < k := by rw [hk, List.length_append, List.length_cons]; omega
    by_cases hx : x = 0
    · have st : firstOf_L2_S k ((pre ++ x :: l).map iD) (.next 0 [iD (pre.length : Int)]) = some (.next 0 [iD (((pre ++ [x]).length : Nat) : Int)]) := by
        show firstOf_L2_S0 _ _ _ = _
        unfold firstOf_L2_S0
        rw [pullD_some (pre.length : Int) (by rfl) (by rfl), if_pos (by omega), guardP_pos (by omega), readW hg, pullI, if_neg (by simp [hx]), wrapJ _ (by omega) (by omega), List.length_append, List.length_singleton]
        rfl
      have h2 := ih (pre ++ [x]) (by rw [hk]; simp) hs (fun y hy => by
        rcases List.mem_append.1 hy with h | h
        · exact hp y h
        · simp at h; rw [h]; exact hx)
      rw [List.append_assoc, List.singleton_append] at h2
      rw [runR_next st, h2]
      simp [firstV, hx]
    · refine (runR_exit (j := 1) (es := [iD x]) ?_).trans ?_
      · show firstOf_L2_S0 _ _ _ = _
        unfold firstOf_L2_S0
        rw [pullD_some (pre.length : Int) (by rfl) (by rfl), if_pos (by omega), guardP_pos (by omega), readW hg, pullI, if_pos hx]
      · simp [firstV, hx]
theorem firstOf_eq (l : List Int) (hl : l.length ≤ 1000000) : m_50 [lD l] = some (iD (firstV l)) := by
  have h := first_go l.length [] l rfl hl (fun _ h => by cases h)
  simp only [List.nil_append, List.length_nil] at h
  have h : runR (firstOf_L2_S l.length (l.map iD)) (.next 0 [.one (.int .i64 0)]) = some (if firstV l = 0 then .out 0 [] else .out 1 [iD (firstV l)]) := h
  rw [m_50_eq]
  unfold firstOf_M
  by_cases h0 : firstV l = 0
  · rw [if_pos h0] at h
    rw [bindL_some h, if_pos rfl, pullD_some () (by rfl) (by rfl), h0]
  · rw [if_neg h0] at h
    rw [bindL_some h, if_neg (by decide), if_pos rfl, pullD_some (firstV l) (by rfl) (by rfl)]
theorem f2 (x y : Int) : m_50 [.list 2 [iD x, iD y]] = some (iD (firstV [x, y])) := firstOf_eq [x, y] (by simp)
theorem f3 (x y z : Int) : m_50 [.list 3 [iD x, iD y, iD z]] = some (iD (firstV [x, y, z])) := firstOf_eq [x, y, z] (by simp)
/-- A loop that looks for what is not so. -/
theorem scanB {n : Nat} {ok : Nat → Bool} {bad : List D} {S : Rd → Option Rd} (hs : ∀ i, i < n → S (.next 0 [iD (i : Int)]) = if ok i = true then some (.next 0 [iD ((i + 1 : Nat) : Int)]) else some (.out 1 bad)) (he : S (.next 0 [iD (n : Int)]) = some (.out 0 [])) :
    ∀ m i, i + m = n → runR S (.next 0 [iD (i : Int)]) = if (List.range' i m).all ok = true then some (.out 0 []) else some (.out 1 bad) := by
  intro m
  induction m with
  | zero =>
    intro i hi
    have : i = n := by omega
    subst this
    rw [runR_exit he]; rfl
  | succ m ih =>
    intro i hi
    have h1 := hs i (by omega)
    rw [List.range'_succ, List.all_cons]
    cases h0 : ok i with
    | true =>
      rw [h0, if_pos rfl] at h1
      rw [runR_next h1, ih (i + 1) (by omega), Bool.true_and]
    | false =>
      rw [h0, if_neg (by decide)] at h1
      rw [runR_exit h1, Bool.false_and, if_neg (by decide)]
/-- Are all pairs in order? -/
def ordE (l : List (Int × Int)) : Int := if (List.range' 0 l.length).all (fun i => decide (ta l i ≤ va l i)) = true then 0 else 9
theorem inOrder_eq (l : List (Int × Int)) (hl : l.length ≤ 1000000) : m_64 [lP l] = some (iD (ordE l)) := by
  rw [m_64_eq]
  unfold inOrder_M
  have h := scanB (n := l.length) (ok := fun i => decide (ta l i ≤ va l i)) (bad := [iD 9]) (S := inOrder_L2_S l.length (cP l)) (fun i hi => by
    show inOrder_L2_S0 _ _ _ = _
    unfold inOrder_L2_S0
    rw [pullD_some (i : Int) (by rfl) (by rfl), if_pos (by omega), guardP_pos (by omega), show ((i : Int).toNat) = i from rfl, readP hi, pullD_some (ta l i, va l i) (by rfl) (by rfl), natI (by omega)]
    dsimp only
    by_cases h : ta l i ≤ va l i
    · rw [if_neg (by omega), if_pos (by simpa using h)]
    · rw [if_pos (by omega), if_neg (by simpa using h)]) (by
    show inOrder_L2_S0 _ _ _ = _
    unfold inOrder_L2_S0
    rw [pullD_some (l.length : Int) (by rfl) (by rfl), if_neg (by omega)]) l.length 0 (by omega)
  rw [Int.natCast_zero] at h
  unfold ordE
  by_cases q : (List.range' 0 l.length).all (fun i => decide (ta l i ≤ va l i)) = true
  · rw [if_pos q] at h ⊢
    rw [bindL_some h, if_pos rfl, pullD_some () (by rfl) (by rfl)]
  · rw [if_neg q] at h ⊢
    rw [bindL_some h, if_neg (by decide), if_pos rfl, pullD_some (9 : Int) (by rfl) (by rfl)]
theorem ord1 (a b : Int) : m_64 [.list 1 [iD a, iD b]] = some (iD (if a ≤ b then 0 else 9)) := by
  have := inOrder_eq [(a, b)] (by simp)
  refine this.trans ?_
  congr 3
  unfold ordE
  simp [List.range', ta, va]
theorem within_eq (n lo hi : Int) : m_24 [iD n, iD lo, iD hi] = some (.one (.bool (decide (lo ≤ n ∧ n ≤ hi)))) := by
  rw [m_24_eq]
  unfold within_M
  by_cases h : lo ≤ n
  · rw [if_pos h]; simp [h]
  · rw [if_neg h]; simp [h]
/-! ### Rounded -/
def flW (n d : Int) : Int := if n.tmod d < 0 then IntKind.i64.wrap (IntKind.i64.wrap (n.tdiv d) - 1) else IntKind.i64.wrap (n.tdiv d)
def ceW (n d : Int) : Int := IntKind.i64.wrap (0 - flW (IntKind.i64.wrap (0 - n)) d)
theorem rdown_eq (n : Int) {d : Int} (hd : d ≠ 0) : m_67 [iD n, iD d] = some (iD (flW n d)) := by
  rw [m_67_eq]
  unfold rdown_M flW
  rw [guardP_pos hd]
  split <;> rfl
theorem floor_eq (n : Int) {d : Int} (hd : d ≠ 0) : m_65 [iD n, iD d] = some (iD (flW n d)) := by
  rw [m_65_eq]
  unfold floor_M flW
  rw [guardP_pos hd]
  split <;> rfl
theorem rup_eq (n : Int) {d : Int} (hd : d ≠ 0) : m_68 [iD n, iD d] = some (iD (ceW n d)) := by
  rw [m_68_eq]
  unfold rup_M ceW
  rw [rdown_eq _ hd, pullI]
theorem ceil_eq (n : Int) {d : Int} (hd : d ≠ 0) : m_66 [iD n, iD d] = some (iD (ceW n d)) := by
  rw [m_66_eq]
  unfold ceil_M ceW
  rw [floor_eq _ hd, pullI]
theorem rounded_eq (lo hi : Int) {d : Int} (hd : d ≠ 0) : m_62 [iD lo, iD hi, iD d] = some (.agg [iD (flW lo d), iD (ceW hi d)]) := by
  rw [m_62_eq]
  unfold rounded_M
  rw [rdown_eq _ hd, pullI, rup_eq _ hd, pullI]
/-! ### Figures -/
theorem fv2 (x y : Int) : firstV [2, x, y] = 2 := rfl
theorem fv02 (y : Int) : firstV [0, 2, y] = 2 := rfl
theorem fv00 (y : Int) : firstV [0, 0, y] = y := by
  unfold firstV firstV firstV
  simp only [if_true]
  split
  · rename_i h; rw [h]; rfl
  · rfl
/-! ### Times -/
end Go.Proofs.Ytjjbacbjdilhmaa
/- Quotients, resistances. -/
namespace Go.Proofs.Ytjjbacbjdilhmaa
open Go.Ev Go.RowKit
set_option maxRecDepth 100000
/-! ### Divisors -/
/-! ### Ranges -/
theorem gv2 (x : Int) : firstV [2, x] = 2 := rfl
theorem gv0 (x : Int) : firstV [0, x] = x := by
  unfold firstV firstV
  simp only [if_true]
  split
  · rename_i h; rw [h]; rfl
  · rfl
theorem n2 : ((2 : Int) ≠ 0) = True := by decide
theorem n0 : ((0 : Int) ≠ 0) = False := by decide
theorem rs1 (a b c d : Int) : ratioOf_M_s1 a b c d = some (.tup [.agg [iD 0, iD 0, iD 0, iD 0], iD 2]) := by
  unfold ratioOf_M_s1
  simp only [ord1, f2, pullI, gv2, n2, if_true, ite_self]
theorem rs2 (a b c d : Int) : ratioOf_M_s2 a b c d = some (.tup [.agg [iD 0, iD 0, iD 0, iD 0], iD 2]) := by
  unfold ratioOf_M_s2
  simp only [ord1, f2, pullI, gv2, n2, if_true, ite_self]
/-! ### Resistances -/
end Go.Proofs.Ytjjbacbjdilhmaa
/- Losses. -/
namespace Go.Proofs.Ytjjbacbjdilhmaa
open Go.Ev Go.RowKit
set_option maxRecDepth 100000
theorem wm9 : IntKind.i64.wrap ((0 : Int) - 1000000000) = -1000000000 := by decide
theorem wm5 : IntKind.i64.wrap ((0 : Int) - 100000) = -100000 := by decide
def lp (a b c : Int) : Int := IntKind.i64.wrap (IntKind.i64.wrap (a * 1000000) - IntKind.i64.wrap (b * c))
theorem lossParts_eq (a b c : Int) : m_78 [iD a, iD b, iD c] = some (iD (lp a b c)) := by
  rw [m_78_eq]
  rfl
def minP (a b c d : Int) : Int := if lp a b d < lp a b c then lp a b d else lp a b c
def maxP (a b c d : Int) : Int := if lp a b d > lp a b c then lp a b d else lp a b c
def lossE (a b c d : Int) : Int := if 0 ≤ a ∧ a ≤ 1000000000 ∧ -1000000000 ≤ b ∧ b ≤ 1000000000 ∧ -100000 ≤ c ∧ c ≤ 100000 ∧ -100000 ≤ d ∧ d ≤ 100000 then (if c ≤ d then 0 else 9) else 2
def lossD (a b c d : Int) : D := if lossE a b c d = 0 then .tup [.agg [iD (flW (minP a b c d) 1000000), iD (ceW (maxP a b c d) 1000000)], iD 0] else .tup [.agg [iD 0, iD 0], iD (lossE a b c d)]
theorem lossD2 {a b c d : Int} (h : ¬ (0 ≤ a ∧ a ≤ 1000000000 ∧ -1000000000 ≤ b ∧ b ≤ 1000000000 ∧ -100000 ≤ c ∧ c ≤ 100000 ∧ -100000 ≤ d ∧ d ≤ 100000)) : lossD a b c d = .tup [.agg [iD 0, iD 0], iD 2] := by
  unfold lossD lossE
  rw [if_neg h, if_neg (show ¬ (2 : Int) = 0 by decide)]
theorem ls0 (a b c d : Int) : lossOf_M_s0 a b c d = some (.tup [.agg [iD 0, iD 0], iD 2]) := by
  unfold lossOf_M_s0
  simp only [ord1, f2, f3, pullI, gv2, fv2, fv02, n2, if_true, ite_self]
theorem ls1 (a b c d : Int) : lossOf_M_s1 a b c d = some (.tup [.agg [iD 0, iD 0], iD 2]) := by
  unfold lossOf_M_s1
  simp only [ord1, f2, f3, pullI, gv2, fv2, fv02, n2, if_true, ite_self]
theorem ls2 (a b c d : Int) : lossOf_M_s2 a b c d = some (.tup [.agg [iD 0, iD 0], iD 2]) := by
  unfold lossOf_M_s2
  simp only [ord1, f2, f3, pullI, gv2, fv2, fv02, n2, if_true, ite_self]
theorem ls3 (a b c d : Int) : lossOf_M_s3 a b c d = some (.tup [.agg [iD 0, iD 0], iD 2]) := by
  unfold lossOf_M_s3
  simp only [ord1, f2, f3, pullI, gv2, fv2, fv02, n2, if_true, ite_self]
theorem ls4 (a b c d : Int) : lossOf_M_s4 a b c d = some (.tup [.agg [iD 0, iD 0], iD 2]) := by
  unfold lossOf_M_s4
  simp only [ord1, f2, f3, pullI, gv2, fv2, fv02, n2, if_true, ite_self]
theorem lossOf_eq (a b c d : Int) : m_36 [iD a, iD b, .agg [iD c, iD d]] = some (lossD a b c d) := by
  rw [m_36_eq]
  unfold lossOf_M
  rw [wm9]
  simp only [ls0, ls1, ls2, ls3, ls4, ite_self]
  by_cases h1 : a < 0
  · rw [if_pos h1, lossD2 (by omega)]
  rw [if_neg h1]
  by_cases h2 : a > 1000000000
  · rw [if_pos h2, lossD2 (by omega)]
  rw [if_neg h2]
  by_cases h3 : b < -1000000000
  · rw [if_pos h3, lossD2 (by omega)]
  rw [if_neg h3]
  unfold lossOf_M_s5
  rw [wm5]
  simp only [ord1, f2, f3, pullI, gv2, gv0, fv2, fv02, fv00, n2, if_true, ite_self]
  by_cases h4 : b > 1000000000
  · rw [if_pos h4, lossD2 (by omega)]
  rw [if_neg h4]
  by_cases q0 : c < -100000
  · rw [if_pos q0, lossD2 (by omega)]
  rw [if_neg q0]
  by_cases q1 : c > 100000
  · rw [if_pos q1, lossD2 (by omega)]
  rw [if_neg q1]
  by_cases q2 : d < -100000
  · rw [if_pos q2, lossD2 (by omega)]
  rw [if_neg q2]
  by_cases q3 : d > 100000
  · rw [if_pos q3, lossD2 (by omega)]
  rw [if_neg q3]
  have e1 : lossE a b c d = if c ≤ d then 0 else 9 := by unfold lossE; rw [if_pos (by omega)]
  unfold lossD
  rw [e1]
  by_cases o : c ≤ d
  · rw [if_pos o, if_neg (show ¬ ((0 : Int) ≠ 0) by decide), if_pos rfl, lossParts_eq, pullI, lossParts_eq, pullI, rounded_eq _ _ (by decide)]
    rw [pullD_some (flW (minP a b c d) 1000000, ceW (maxP a b c d) 1000000) (by rfl) (by rfl)]
  · rw [if_neg o, if_pos (show (9 : Int) ≠ 0 by decide), if_neg (show ¬ (9 : Int) = 0 by decide)]
theorem lossR_eq (a b c d : Int) : m_37 [iD a, iD b, .agg [iD c, iD d]] = some (lossD a b c d) := by
  rw [m_37_eq]
  unfold lossR_M
  simp only [within_eq, pullB, decide_eq_false_iff_not]
  by_cases h1 : ¬ (0 ≤ a ∧ a ≤ 1000000000)
  · rw [if_pos h1, lossD2 (by omega)]
  rw [if_neg h1]
  by_cases h2 : ¬ (-1000000000 ≤ b ∧ b ≤ 1000000000)
  · rw [if_pos h2, lossD2 (by omega)]
  rw [if_neg h2]
  by_cases h3 : ¬ (-100000 ≤ c ∧ c ≤ 100000)
  · rw [if_pos h3, lossD2 (by omega)]
  rw [if_neg h3]
  by_cases h4 : ¬ (-100000 ≤ d ∧ d ≤ 100000)
  · rw [if_pos h4, lossD2 (by omega)]
  rw [if_neg h4]
  have e1 : lossE a b c d = if c ≤ d then 0 else 9 := by unfold lossE; rw [if_pos (by omega)]
  unfold lossD
  rw [e1]
  by_cases o : c ≤ d
  · rw [if_neg (show ¬ c > d by omega), if_pos o, if_pos rfl, floor_eq _ (by decide), pullI, ceil_eq _ (by decide), pullI]
    rfl
  · rw [if_pos (show c > d by omega), if_neg o, if_neg (show ¬ (9 : Int) = 0 by decide)]
theorem fl_whole {a : Int} (h1 : -1000000000 ≤ a) (h2 : a ≤ 1000000000) : flW (a * 1000000) 1000000 = a := by
  unfold flW
  rw [Int.mul_tmod_left, if_neg (by decide), Int.mul_tdiv_cancel _ (by decide), wrapJ _ (by omega) (by omega)]
theorem law7_eq (a b c d : Int) : m_7 [iD a, iD b, .agg [iD c, iD d]] = some (.one (.bool true)) := by
  rw [m_7_eq]
  unfold law7_M
  rw [m_9_eq, pullB, if_neg (by decide), lossOf_eq, lossR_eq]
  have hs : ∃ p q : Int, lossD a b c d = .tup [.agg [iD p, iD q], iD (lossE a b c d)] := by
    unfold lossD
    split
    · rename_i h; rw [h]; exact ⟨_, _, rfl⟩
    · exact ⟨_, _, rfl⟩
  obtain ⟨p, q, hs⟩ := hs
  rw [pullD_some (p, q, lossE a b c d) (by rw [hs]) (by rfl)]
  dsimp only
  rw [pullD_some (p, q, lossE a b c d) (by rw [hs]) (by rfl)]
  dsimp only
  rw [if_neg (by simp), if_neg (by simp)]
  by_cases h : lossE a b c d = 0
  · have hr : 0 ≤ a ∧ a ≤ 1000000000 ∧ -1000000000 ≤ b ∧ b ≤ 1000000000 := by
      unfold lossE at h
      split at h
      · rename_i g; omega
      · cases h
    have e0 : lossE a b 0 0 = 0 := by unfold lossE; rw [if_pos (by omega), if_pos (by omega)]
    have e1 : lp a b 0 = a * 1000000 := by
      unfold lp
      rw [Int.mul_zero, wrapJ 0 (by decide) (by decide), wrapJ (a * 1000000) (by omega) (by omega), Int.sub_zero, wrapJ _ (by omega) (by omega)]
    have e2 : minP a b 0 0 = a * 1000000 := by unfold minP; rw [if_neg (by omega), e1]
    have e3 : maxP a b 0 0 = a * 1000000 := by unfold maxP; rw [if_neg (by omega), e1]
    have e4 : ceW (a * 1000000) 1000000 = a := by
      unfold ceW
      rw [show 0 - a * 1000000 = (-a) * 1000000 by omega, wrapJ ((-a) * 1000000) (by omega) (by omega), fl_whole (by omega) (by omega), wrapJ _ (by omega) (by omega)]
      omega
    have hl : m_36 [iD a, iD b, .agg [iD 0, iD 0]] = some (.tup [.agg [iD a, iD a], iD 0]) := by
      rw [lossOf_eq]
      unfold lossD
      rw [if_pos e0, e2, e3, e4, fl_whole (by omega) (by omega)]
    rw [if_neg (by omega), hl, pullD_some (a, a, (0 : Int)) (by rfl) (by rfl)]
    simp
  · rw [if_pos h]
theorem law7_con (a b c d : Int) : Con 7 [iD a, iD b, .agg [iD c, iD d]] (.one (.bool true)) := m_7_ok (law7_eq a b c d)
end Go.Proofs.Ytjjbacbjdilhmaa
/- WaveLosses: what the runs give, for every argument. -/
namespace Go.Proofs.Ytjjbacbjdilhmaa.waveLosses
open Go.ChangeShapes Go.WideShapes Go.ChangeAt Go.RowKit Go.Joins Go.Ev
set_option maxRecDepth 100000 in
/-- WHAT THE RUNS GIVE, FOR EVERY ARGUMENT AND EVERY WORLD THAT HOLDS THE TABLES. -/
theorem contract (H : Type) (enc : TypeId × Value → H) (W : World) (base : Nat) (args : Array Value) (ds gs : List (DataW H)) (before : List MemPlace)
    (hval : ∀ (j : Nat) t v, Try.f7.params[j]? = some t → args[j]? = some v → Value.okWide Try.prog W .any base t v)
    (hW : DataW.Whole enc Try.prog Try.f7.params.toList Rows.waveLossesSpec.vars false W args.toList ds gs before) (hL : laidMetH Try.prog Rows.waveLossesRow.laid W) :
    Calls Try.prog 7 args W fun e W' => ∃ v, e = .returned v ∧ Rows.waveLossesSpec.post enc Try.prog Try.f7 false true false false W args v W' := by
  have hW' := hW
  have hlt := hW.lt
  obtain ⟨p, q, hA0, hV, rfl, hfz, hnd⟩ := hW
  have hA : DataW.TrodAll enc Try.prog W 0 (fun _ => true) true Try.f7.params.toList args.toList ds p := hA0
  rw [Try.params7] at hA hval
  obtain ⟨v0, vs0, d0, ds0, p0, q0, hargs, rfl, rfl, h0, r0⟩ := trodAll_cons hA
  obtain ⟨v1, vs1, d1, ds1, p1, q1, rfl, rfl, rfl, h1, r1⟩ := trodAll_cons r0
  obtain ⟨v2, vs2, d2, ds2, p2, q2, rfl, rfl, rfl, h2, r2⟩ := trodAll_cons r1
  obtain ⟨rfl, rfl, rfl⟩ := trodAll_nil r2
  obtain rfl : args = #[v0, v1, v2] := by cases args; simp_all
  obtain ⟨rfl, rfl⟩ := trodVars_none hV
  obtain ⟨e0, o0, k0⟩ := open_cell (c := .int .i64) 8 (by kernel_rfl) (by kernel_rfl) (by kernel_rfl) (hval 0 3 v0 rfl rfl) h0
  obtain ⟨a, rfl, -⟩ := int_of o0
  obtain ⟨e1, o1, k1⟩ := open_cell (c := .int .i64) 8 (by kernel_rfl) (by kernel_rfl) (by kernel_rfl) (hval 1 3 v1 rfl rfl) h1
  obtain ⟨b, rfl, -⟩ := int_of o1
  obtain ⟨e2, o2, k2⟩ := open_agg (ls := [.int .i64, .int .i64]) 8 (by kernel_rfl) (by kernel_rfl) (by kernel_rfl) (hval 2 48 v2 rfl rfl) h2
  obtain ⟨c, d, rfl⟩ := ints2_of o2
  have hr : RpL (fun _ => True) W [.one (.int .i64 a), .one (.int .i64 b), .agg [.one (.int .i64 c), .one (.int .i64 d)]] [v0, v1, v2] := by
    simp only [RpL]
    exact ⟨v0, _, rfl, k0, ⟨v1, _, rfl, k1, ⟨v2, _, rfl, k2, rfl⟩⟩⟩
  refine (law7_con a b c d W (fun _ => True) _ tabs0 hr).mono fun e W' ⟨v, he, hv, hg⟩ => ?_
  simp only [Rp] at hv
  subst he
  subst hv
  have hlaid : laidOutB Try.prog = true := by kernel_rfl
  exact ⟨_, rfl, post_below (pa := (p0 ++ (p1 ++ (p2 ++ [])))) (pv := []) hW' (fun _ _ _ => trodAll_cons_mk (shut_bool Try.underlying4 _) trodAll_mk0) (fun sp hsp => by
    rw [Try.params7]
    exact trodAll_cons_mk (stays hlaid (by kernel_rfl) (of_decide_eq_true (by kernel_rfl)) h0 hg (fun x hx => hlt x (by simp only [List.mem_append]; left; left; exact hx)) (fun x hx => hsp x (by simp only [List.mem_append]; left; left; exact hx))) (trodAll_cons_mk (stays hlaid (by kernel_rfl) (of_decide_eq_true (by kernel_rfl)) h1 hg (fun x hx => hlt x (by simp only [List.mem_append]; left; right; left; exact hx)) (fun x hx => hsp x (by simp only [List.mem_append]; left; right; left; exact hx))) (trodAll_cons_mk (stays hlaid (by kernel_rfl) (of_decide_eq_true (by kernel_rfl)) h2 hg (fun x hx => hlt x (by simp only [List.mem_append]; left; right; right; left; exact hx)) (fun x hx => hsp x (by simp only [List.mem_append]; left; right; right; left; exact hx))) (trodAll_mk0)))) (fun _ _ => rfl) rfl
    hg (ok_one (by kernel_rfl) rfl (okWide_bool_mk Try.underlying4 _))⟩
end Go.Proofs.Ytjjbacbjdilhmaa.waveLosses
/- WaveLosses: closed facts of the witness. -/
namespace Go.Proofs.Ytjjbacbjdilhmaa.waveLosses
open Go.ChangeShapes Go.WideShapes Go.ChangeAt Go.RowKit Go.Joins
/-- THE WITNESS's ARGUMENTS. -/
noncomputable def args0 : Array Value := #[.int .i64 0, .int .i64 0, .agg #[.int .i64 0, .int .i64 0]]
/-- A WORLD FOR THE WITNESS: the heap that the program's own initialisers leave. -/
noncomputable def start (os : Os) : World := World.doorLaid Try.prog 400 os
theorem laid_met (os : Os) : laidMet Try.prog Rows.waveLossesRow.laid ((start os).forCall (fun _ _ => 0) ⟨#[], args0, []⟩).memory := ⟨[], rfl, List.nodup_nil, fun _ _ h => by cases h⟩
theorem reads (os : Os) {H : Type} (enc : TypeId × Value → H) : ∃ places, DataW.whole enc Try.prog ((start os).forCall (fun _ _ => 0) ⟨#[], args0, []⟩).memory Try.f7.params.toList Rows.waveLossesSpec.vars false args0.toList 8 = some ([.lit (.int .i64 0), .lit (.int .i64 0), .agg [.lit (.int .i64 0), .lit (.int .i64 0)]], [], places) :=
  ⟨[], by kernel_rfl⟩
theorem vB (os : Os) : ((start os).forCall (fun _ _ => 0) ⟨#[], args0, []⟩).variablesB Try.prog = true := by kernel_rfl
theorem rB (os : Os) : (((start os).forCall (fun _ _ => 0) ⟨#[], args0, []⟩).heap.toList.drop Try.prog.globals.size).take ((begin Try.prog (fun _ _ => 0) default).world.heap.size - Try.prog.globals.size) = (begin Try.prog (fun _ _ => 0) default).world.heap.toList.drop Try.prog.globals.size := by kernel_rfl
theorem oB (os : Os) : Input.okWideB Try.prog ((start os).forCall (fun _ _ => 0) ⟨#[], args0, []⟩) 7 ⟨#[], args0, []⟩ = true := by kernel_rfl
theorem hB (os : Os) : (start os).os = os := by kernel_rfl
end Go.Proofs.Ytjjbacbjdilhmaa.waveLosses
/- For any powers and phase errors, valid or not, the law WaveLosses of the program answers true, and its arguments read as they did. CONDITIONS: none. -/
namespace Go.Proofs.Ytjjbacbjdilhmaa.waveLosses
open Go.ChangeShapes Go.WideShapes Go.ChangeAt Go.RowKit Go.Joins
set_option maxRecDepth 100000 in
theorem lifted (os : Os) (started : os.Started) (H : Type) (enc : TypeId × Value → H) (F : Stop.Interp) :
    ReturnsInHanded {} Try.checked os 7 .any ((OpenSpec.ofChange Rows.waveLossesSpec).preRow enc Try.prog Try.f7 Rows.waveLossesRow.domain false Rows.waveLossesRow.laid) (((OpenSpec.ofChange Rows.waveLossesSpec).at F).post enc Try.prog Try.f7 false true false false) := by
  obtain ⟨places, hx⟩ := reads os enc
  refine returnsInHanded_of_row (C := Try.checked) (s := OpenSpec.ofChange Rows.waveLossesSpec) own started (by kernel_rfl) Try.func7
    (witness_row_at (enc := enc) (C := Try.checked) false (start os) args0 (hB os) (vB os) (rB os) (oB os)
      (OpenSpec.preRow_of_cond 8 hx (by kernel_rfl) (fun k hk => by cases hk) (by kernel_rfl) (laid_met os))) ?_
  intro W base args ds gs before hval hW _ _ _ hL _ _
  exact contract H enc W base args ds gs before hval hW hL
theorem said : Rows.WaveLossesSaid :=
  OpenClaim.holds_of_cond 7 Try.f7 rfl rfl rfl rfl rfl rfl rfl ⟨rfl, rfl, rfl, rfl, rfl⟩ rfl rfl rfl rfl rfl (by kernel_rfl) Try.func7 (by kernel_rfl)
    (of_decide_eq_true (by kernel_rfl)) (by unfold Func.isWrapper; first | (rw [if_pos (by decide +kernel)]; kernel_rfl) | (rw [if_neg (by decide +kernel)]; exact ⟨rfl, rfl⟩))
    (fun os started H enc _ F => by rw [OpenClaim.pre_eq_preRow]; exact lifted os started H enc F)
end Go.Proofs.Ytjjbacbjdilhmaa.waveLosses
