import Derived.Test.YtfdehaafbkhclaaProg
import Derived.KernelRfl
import Derived.Test.YtfdehaafbkhclaaTC
import Derived.Test.YtfdehaafbkhclaaRows
import Derived.Test.YtfdehaafbkhclaaTA
import Derived.ProofKit
import Derived.OpenShut
import Derived.LaidMore
import Derived.Lib.SmallJoins
import Derived.Deep.DeepHandedRow
import Derived.Lib.LaidTab
set_option linter.unusedVariables false
set_option linter.unusedSimpArgs false
set_option linter.unusedSectionVars false
set_option linter.unnecessarySimpa false
/- The program of the seat, as runs on values known in part see it. -/
namespace Go.Proofs.Ytfdehaafbkhclaa
open Go.Ev Go.RowKit
set_option maxRecDepth 100000
noncomputable section
def gtab : List (List Value) := []
/-- Appends whose outcome is shut at once. -/
def SHUT : List (Nat × Nat) := [(37, 3000171), (37, 2000037)]
def BAD : List Nat := []
def bodyAt (g : Nat) : Bool := match listGet Try.prog.funcs.toList g with
  | some fn => fn.body.isSome
  | none => false
/-- Calls are contracts but those of I; all sites are open or none; loops as told. -/
def ctxS (op : Bool) (I : List Nat) (sp : List LSpec) : Ctx := ⟨Try.prog, tabOf gtab, fun f t => match Nat.blt t 2000000 with | true => op | false => hasP SHUT f t, fun g => !hasN I g && bodyAt g, fun g => !hasN BAD g, lpOf sp⟩
def ctx (I : List Nat) (sp : List LSpec) : Ctx := ctxS true I sp
/-- Calls are entered but those of K. -/
def ctxK (S : List (Nat × Nat)) (K : List Nat) (sp : List LSpec) : Ctx := ⟨Try.prog, tabOf gtab, hasP S, fun g => hasN K g && bodyAt g, fun g => !hasN BAD g, lpOf sp⟩
abbrev Tabs (w : World) : Prop := TabsOf gtab w
def Con (g : FuncId) (ds : List D) (r : D) : Prop := CallOK (ctx [] []) Tabs g ds r
def allK : List Go.Ev.Ask → Prop
  | [] => True
  | q :: qs => AskOK (ctx [] []) Tabs q ∧ allK qs
theorem allK_mem : ∀ {l : List Go.Ev.Ask}, allK l → ∀ q ∈ l, AskOK (ctx [] []) Tabs q
  | [], _, p, h => by cases h
  | q :: l, hq, p, h => by
    rcases List.mem_cons.1 h with rfl | h
    · exact hq.1
    · exact allK_mem hq.2 p h
def fineAt (g : Nat) : Bool := match listGet Try.prog.funcs.toList g with
  | some fn => match fn.body with
    | some c => okCode c
    | none => true
  | none => true
def nameAt (g : Nat) : Bool := match listGet Try.prog.funcs.toList g with
  | some fn => !(fn.name == "runtime.NumGoroutine")
  | none => true
theorem count : Try.prog.funcs.toList.length = 84 := by kernel_rfl
theorem mixed : Try.prog.follows .mixedOrders = true := by kernel_rfl
theorem namesOk : (List.range 84).all nameAt = true := by kernel_rfl
theorem fineOk : (List.range 84).all (fun g => hasN BAD g || fineAt g) = true := by kernel_rfl
theorem in_range {g : FuncId} {fn : Func} (hg : Try.prog.funcs[g]? = some fn) : g < 84 := by
  rw [← count]
  rcases Nat.lt_or_ge g Try.prog.funcs.toList.length with h | h
  · exact h
  · rw [← Array.getElem?_toList, List.getElem?_eq_none h] at hg; cases hg
theorem good_of {C : Ctx} (h1 : C.P = Try.prog) (h2 : C.tab = tabOf gtab) (h3 : ∀ g, C.con g = true → bodyAt g = true) (h4 : C.fine = fun g => !hasN BAD g) : Good' C Tabs := by
  obtain ⟨P, tab, sym, con, fine, lp⟩ := C
  simp only at h1 h2 h3 h4
  subst h1; subst h2; subst h4
  exact {
    mixed := mixed
    names := fun g fn hg => by
      have := List.all_eq_true.1 namesOk g (List.mem_range.2 (in_range hg))
      unfold nameAt at this
      have hg' : Try.prog.funcs[g]? = some fn := hg
      rw [listGet_eq, Array.getElem?_toList, hg'] at this
      simpa using this
    code := fun g fn c hf hg hc => by
      have := List.all_eq_true.1 fineOk g (List.mem_range.2 (in_range hg))
      have hf' : (!hasN BAD g) = true := hf
      have hb : hasN BAD g = false := by simpa using hf'
      rw [hb, Bool.false_or] at this
      unfold fineAt at this
      have hg' : Try.prog.funcs[g]? = some fn := hg
      rw [listGet_eq, Array.getElem?_toList, hg'] at this
      simp only [hc] at this
      exact this
    tab := fun w h => h.tab
    stable := fun w w' h hb => h.below hb
    con := fun g hg => by
      have := h3 g hg
      unfold bodyAt at this
      split at this
      · rename_i fn hfn
        rw [listGet_eq, Array.getElem?_toList] at hfn
        exact ⟨fn, hfn, this⟩
      · cases this }
theorem good (op : Bool) (I : List Nat) (sp : List LSpec) : Good' (ctxS op I sp) Tabs := good_of rfl rfl (fun g h => by
  have h : (!hasN I g && bodyAt g) = true := h
  simp only [Bool.and_eq_true] at h
  exact h.2) rfl
theorem goodK (S : List (Nat × Nat)) (K : List Nat) (sp : List LSpec) : Good' (ctxK S K sp) Tabs := good_of rfl rfl (fun g h => by
  have h : (hasN K g && bodyAt g) = true := h
  simp only [Bool.and_eq_true] at h
  exact h.2) rfl
theorem asked_as {C C' : Ctx} (h : C.P = C'.P) : ∀ {q : Go.Ev.Ask}, AskOK C Tabs q → AskOK C' Tabs q := by
  intro q hq
  cases q with
  | call g ds r =>
    intro w A vs hw hv
    have := hq w A vs hw hv
    rwa [h] at this
  | loop c s x t low =>
    intro w0 hw hs
    have := hq w0 hw hs
    unfold CodeOK at this ⊢
    rw [← h]
    exact this
theorem loopin_as {C C' : Ctx} (h : C.P = C'.P) {c : Code} {E : List AV × AHeap} {base : Nat} {fr : AFrame} {x : LExit} {ds : List D} (k : LoopIn C Tabs c E base fr x ds) : LoopIn C' Tabs c E base fr x ds := fun ora ora' vals vals' =>
  asked_as (q := .loop _ _ _ _ _) h (k ora ora' vals vals')
abbrev LoopC (c : Code) (E : List AV × AHeap) (base : Nat) (fr : AFrame) (x : LExit) (ds : List D) : Prop := LoopIn (ctx [] []) Tabs c E base fr x ds
/-- A contract, by a run. -/
theorem con_of {op : Bool} {I : List Nat} {sp : List LSpec} {n : Nat} {g : FuncId} {ds : List D} {ora : List Bool} {res : List D} {r : D} {conds : List (Bool × Bool)} {cls : List Go.Ev.Ask}
    (h : okOut (run (ctxS op I sp) n (.enter g (avOfL 0 ds).1) ⟨[], (avOfL 0 ds).2.1, (avOfL 0 ds).2.2, ora, ⟨res, noFrame⟩⟩) = some (r, conds, cls)) (hc : allC conds) (hk : allK cls) : Con g ds r := fun w A vs hw hv =>
  calls3 (good op I sp) h hc (fun q hq => asked_as rfl (allK_mem hk q hq)) w A vs hw hv
theorem con_ofK {S : List (Nat × Nat)} {K : List Nat} {sp : List LSpec} {n : Nat} {g : FuncId} {ds : List D} {ora : List Bool} {res : List D} {r : D} {conds : List (Bool × Bool)} {cls : List Go.Ev.Ask}
    (h : okOut (run (ctxK S K sp) n (.enter g (avOfL 0 ds).1) ⟨[], (avOfL 0 ds).2.1, (avOfL 0 ds).2.2, ora, ⟨res, noFrame⟩⟩) = some (r, conds, cls)) (hc : allC conds) (hk : allK cls) : Con g ds r := fun w A vs hw hv =>
  calls3 (goodK S K sp) h hc (fun q hq => asked_as rfl (allK_mem hk q hq)) w A vs hw hv
theorem con_val {g : FuncId} {ds : List D} {r r' : D} (h : Con g ds r) (e : r = r') : Con g ds r' := e ▸ h
theorem con_arg {g : FuncId} {ds ds' : List D} {r : D} (h : Con g ds r) (e : ds = ds') : Con g ds' r := e ▸ h
/-- One round of a loop, by a run. -/
theorem step_of {I : List Nat} {sp : List LSpec} {l : LoopAt} {fuel : Nat} {ora : List Bool} {vals : List D} {ns : List Go.Ev.Loc} {S1 S2 S2' : List AV × AHeap} {x : AX} {conds : List (Bool × Bool)} {calls : List Go.Ev.Ask}
    (r : Option Out) (hr : r = run (ctx I sp) fuel (.code l.f l.c) ⟨S1.1, S1.2, l.nx, ora, ⟨vals, l.fr⟩⟩) (h1 : r = some (outOf r))
    (h2 : ((outOf r).x, (outOf r).st.res.fr, (outOf r).log, (outOf r).st.tmps) = (x, l.fr, ⟨conds, calls⟩, AV.renL (qOf l.base ns ((outOf r).st.tmps, (outOf r).st.heap)) (aOf l.base ns ((outOf r).st.tmps, (outOf r).st.heap)) S2'.1))
    (h3 : S2'.2.map (fun e => hget (outOf r).st.heap (qOf l.base ns ((outOf r).st.tmps, (outOf r).st.heap) e.1)) = S2'.2.map (fun e => some (⟨AV.renL (qOf l.base ns ((outOf r).st.tmps, (outOf r).st.heap)) (aOf l.base ns ((outOf r).st.tmps, (outOf r).st.heap)) e.2.cells, e.2.opn, e.2.kind⟩ : ABlock)))
    (h4 : (namesIn l.nx S2'.2 && distinctBy (qOf l.base ns ((outOf r).st.tmps, (outOf r).st.heap)) S2'.2 && aboveBy l.low l.base (qOf l.base ns ((outOf r).st.tmps, (outOf r).st.heap)) S2'.2) = true)
    (h5 : (AV.okL l.nx S1.1 && Nat.ble l.low (outOf r).low) = true) (h6 : (List.range l.low).map (hget S2'.2) = (List.range l.low).map (hget S1.2)) (hS : S2' = S2) (hc : allC conds) (hk : allK calls) :
    Step (ctx I sp) Tabs l S1 S2 x := mk_step r hr h1 h2 h3 h4 h5 h6 hS hc fun q hq => asked_as rfl (allK_mem hk q hq)
end
end Go.Proofs.Ytfdehaafbkhclaa
/- What plain statements need. -/
namespace Go.Proofs.Ytfdehaafbkhclaa
open Go.ChangeShapes Go.WideShapes Go.ChangeAt Go.RowKit Go.Joins Go.Ev
theorem own : ownKnob Try.prog.godebug = none := by kernel_rfl
theorem tabs0 {W : World} : Tabs W := ⟨Nat.zero_le _, fun g L hL => by cases hL⟩
end Go.Proofs.Ytfdehaafbkhclaa
/- Running the program's functions on values that are known in part: models of functions, their loops by steps. -/
namespace Go.Ev
open Go.RowKit
noncomputable section
abbrev iD (x : Int) : D := .one (.int .i64 x)
/-- How a round ends: at its end, by which head; or at an exit. -/
inductive Rd where
  | next (q : Nat) (ds : List D)
  | out (j : Nat) (ds : List D)
/-! ### Parts of values -/
def Value.pi : Value → Int
  | .int _ x => x
  | _ => 0
def Value.pb : Value → Bool
  | .bool x => x
  | _ => false
def Value.ps : Value → ByteArray
  | .string x => x
  | _ => ⟨#[]⟩
def D.vv : D → Value
  | .one v => v
  | _ => undef
def D.vi (d : D) : Int := Value.pi d.vv
def D.vb (d : D) : Bool := Value.pb d.vv
def D.vs (d : D) : ByteArray := Value.ps d.vv
def D.ln : D → Nat
  | .list k _ => k
  | _ => 0
def D.lc : D → List D
  | .list _ cs => cs
  | _ => []
def nthD : List D → Nat → D
  | [], _ => .tup []
  | d :: _, 0 => d
  | _ :: ds, n + 1 => nthD ds n
def D.at : D → Nat → D
  | .agg cs, n => nthD cs n
  | .tup cs, n => nthD cs n
  | _, _ => .tup []
/-! ### Events -/
open Classical in
def guardP {α : Type} (P : Prop) (o : Option α) : Option α := if P then o else none
theorem guardP_elim {α : Type} {P : Prop} {o : Option α} {r : α} (h : guardP P o = some r) : P ∧ o = some r := by
  unfold guardP at h
  split at h
  · exact ⟨by assumption, h⟩
  · cases h
theorem guardP_pos {α : Type} {P : Prop} {o : Option α} (h : P) : guardP P o = o := if_pos h
open Classical in
def pullD {α β : Type} (o : Option D) (proj : D → α) (pat : α → D) (k : α → Option β) : Option β := match o with
  | some d => if pat (proj d) = d then k (proj d) else none
  | none => none
theorem pullD_elim {α β : Type} {o : Option D} {proj : D → α} {pat : α → D} {k : α → Option β} {r : β} (h : pullD o proj pat k = some r) : ∃ a, o = some (pat a) ∧ k a = some r := by
  unfold pullD at h
  split at h
  · split at h
    · rename_i d hd
      exact ⟨proj d, by rw [hd], h⟩
    · cases h
  · cases h
theorem pullD_some {α β : Type} {o : Option D} {proj : D → α} {pat : α → D} {k : α → Option β} (a : α) (h : o = some (pat a)) (e : proj (pat a) = a) : pullD o proj pat k = k a := by
  subst h
  unfold pullD
  simp only [e, if_true]
def readD (L : List D) (off size : Nat) (g : Bool) : Option D := match g with
  | false => L[off]?
  | true => if ((L.drop off).take size).length = size ∧ 0 < size then some (.agg ((L.drop off).take size)) else none
theorem readD_elim {L : List D} {off size : Nat} {g : Bool} {d : D} (h : readD L off size g = some d) : readsAs L off size g d := by
  unfold readD at h
  cases g with
  | false => exact h
  | true =>
    simp only at h
    split at h
    · rename_i hl
      cases h
      exact ⟨_, rfl, hl.1, hl.2, rfl⟩
    · cases h
def bindL {β : Type} (o : Option Rd) (k : Nat → List D → Option β) : Option β := match o with
  | some (.out j ds) => k j ds
  | _ => none
theorem bindL_elim {β : Type} {o : Option Rd} {k : Nat → List D → Option β} {r : β} (h : bindL o k = some r) : ∃ j ds, o = some (.out j ds) ∧ k j ds = some r := by
  unfold bindL at h
  split at h
  · exact ⟨_, _, rfl, h⟩
  · cases h
theorem bindL_some {β : Type} {o : Option Rd} {k : Nat → List D → Option β} {j : Nat} {ds : List D} (h : o = some (.out j ds)) : bindL o k = k j ds := by
  subst h; rfl
theorem tup_inj {a b : List D} (h : some (D.tup a) = some (D.tup b)) : a = b := by
  injection h with h; injection h
/-! ### Loops -/
def iterR (S : Rd → Option Rd) : Nat → Rd → Option Rd
  | _, .out j ds => some (.out j ds)
  | 0, .next _ _ => none
  | n + 1, .next q ds => match S (.next q ds) with
    | some s => iterR S n s
    | none => none
theorem iterR_mono {S : Rd → Option Rd} : ∀ {n m : Nat} {s o : Rd}, iterR S n s = some o → n ≤ m → iterR S m s = some o
  | n, m, .out j ds, o, h, _ => by
    cases n <;> cases m <;> exact h
  | 0, _, .next q ds, o, h, _ => by cases h
  | n + 1, 0, .next q ds, o, h, hm => by omega
  | n + 1, m + 1, .next q ds, o, h, hm => by
    unfold iterR at h ⊢
    split at h
    · rename_i s hs
      exact iterR_mono h (by omega)
    · cases h
open Classical in
/-- Where a loop ends, if it does. -/
def runR (S : Rd → Option Rd) (s : Rd) : Option Rd := if h : ∃ o, ∃ n, iterR S n s = some o then some h.choose else none
theorem runR_iff {S : Rd → Option Rd} {s o : Rd} : runR S s = some o ↔ ∃ n, iterR S n s = some o := by
  unfold runR
  constructor
  · intro h
    split at h
    · rename_i hx
      cases h
      exact hx.choose_spec
    · cases h
  · rintro ⟨n, h⟩
    have hx : ∃ o, ∃ n, iterR S n s = some o := ⟨o, n, h⟩
    rw [dif_pos hx]
    obtain ⟨m, hm⟩ := hx.choose_spec
    have h1 := iterR_mono h (Nat.le_max_left n m)
    have h2 := iterR_mono hm (Nat.le_max_right n m)
    rw [h1] at h2
    exact h2.symm
theorem runR_out {S : Rd → Option Rd} {j : Nat} {ds : List D} : runR S (.out j ds) = some (.out j ds) := runR_iff.2 ⟨0, rfl⟩
theorem runR_next {S : Rd → Option Rd} {q : Nat} {ds : List D} {s : Rd} (h : S (.next q ds) = some s) : runR S (.next q ds) = runR S s := by
  cases hr : runR S s with
  | some o =>
    obtain ⟨n, hn⟩ := runR_iff.1 hr
    refine runR_iff.2 ⟨n + 1, ?_⟩
    unfold iterR; rw [h]; exact hn
  | none =>
    cases hq : runR S (.next q ds) with
    | none => rfl
    | some o =>
      obtain ⟨n, hn⟩ := runR_iff.1 hq
      cases n with
      | zero => cases hn
      | succ n =>
        unfold iterR at hn; rw [h] at hn
        rw [runR_iff.2 ⟨n, hn⟩] at hr; cases hr
def EndOK (nx low : Nat) (gs : Rd → Option GS) : Rd → Prop
  | .out j ds => AV.okL nx (stateOf (gs (.out j ds))).1 = true ∧ (nxtOf (gs (.out j ds)), lowGS (gs (.out j ds))) = (nx, low)
  | _ => True
theorem runs_of {C : Ctx} {G : World → Prop} (hg : Good' C G) {l : LoopAt} (hl : l.OK) {gs : Rd → Option GS} {ax : Rd → AX} {S : Rd → Option Rd} (hn : ∀ q ds, ax (.next q ds) = .normal) (hx : ∀ j ds, isVal (ax (.out j ds)) = false ∧ ax (.out j ds) ≠ .normal)
    (hs : ∀ s s', S s = some s' → Step C G l (stateOf (gs s)) (stateOf (gs s')) (ax s') ∧ EndOK l.nx l.low gs s') : ∀ (n : Nat) (q : Nat) (ds : List D) (j : Nat) (es : List D), iterR S n (.next q ds) = some (.out j es) →
      Runs C G l (stateOf (gs (.next q ds))) (stateOf (gs (.out j es))) (ax (.out j es)) ∧ EndOK l.nx l.low gs (.out j es)
  | 0, q, ds, j, es, h => by cases h
  | n + 1, q, ds, j, es, h => by
    unfold iterR at h
    split at h
    · rename_i s hs1
      obtain ⟨h1, h2⟩ := hs _ _ hs1
      cases s with
      | next q' ds' =>
        rw [hn] at h1
        obtain ⟨h3, h4⟩ := runs_of hg hl hn hx hs n q' ds' j es h
        exact ⟨Step.more hg hl h1 h3, h4⟩
      | out j' es' =>
        have e : some (Rd.out j' es') = some (.out j es) := by cases n <;> exact h
        cases e
        exact ⟨Step.runs hg hl h1 (hx _ _) h2.1, h2⟩
    · cases h
theorem runs_of' {C : Ctx} {G : World → Prop} (hg : Good' C G) {l : LoopAt} (hl : l.OK) {gs : Rd → Option GS} {ax : Rd → AX} {S : Rd → Option Rd} (hn : ∀ q ds, ax (.next q ds) = .normal) (hx : ∀ j ds, isVal (ax (.out j ds)) = false ∧ ax (.out j ds) ≠ .normal)
    (hs : ∀ s s', S s = some s' → Step C G l (stateOf (gs s)) (stateOf (gs s')) (ax s') ∧ EndOK l.nx l.low gs s') {q : Nat} {ds : List D} {j : Nat} {es : List D} (h : runR S (.next q ds) = some (.out j es)) :
      Runs C G l (stateOf (gs (.next q ds))) (stateOf (gs (.out j es))) (ax (.out j es)) ∧ (nxtOf (gs (.out j es)), lowGS (gs (.out j es))) = (l.nx, l.low) := by
  obtain ⟨n, hn'⟩ := runR_iff.1 h
  obtain ⟨h1, h2⟩ := runs_of hg hl hn hx hs n q ds j es hn'
  exact ⟨h1, h2.2⟩
theorem axOf_end (o : Option Nat) : isVal (axOf o) = false ∧ axOf o ≠ .normal := by
  cases o <;> exact ⟨rfl, by simp [axOf]⟩
end
end Go.Ev
/- Models of functions: what helps to compute with them. -/
namespace Go.Ev
open Go.RowKit
noncomputable section
theorem runR_scan {S : Rd → Option Rd} (q : Nat → Nat) (ds : Nat → List D) {a b : Nat} (hab : a ≤ b) (h : ∀ i, a ≤ i → i < b → S (.next (q i) (ds i)) = some (.next (q (i + 1)) (ds (i + 1)))) : runR S (.next (q a) (ds a)) = runR S (.next (q b) (ds b)) := by
  have key : ∀ m i, a ≤ i → i + m = b → runR S (.next (q i) (ds i)) = runR S (.next (q b) (ds b)) := by
    intro m
    induction m with
    | zero => intro i _ hi; have : i = b := by omega
              subst this; rfl
    | succ m ih => intro i hs hi; rw [runR_next (h i hs (by omega)), ih (i + 1) (by omega) (by omega)]
  exact key (b - a) a (Nat.le_refl _) (by omega)
theorem runR_exit {S : Rd → Option Rd} {q : Nat} {ds : List D} {j : Nat} {es : List D} (h : S (.next q ds) = some (.out j es)) : runR S (.next q ds) = some (.out j es) := by
  rw [runR_next h, runR_out]
open Classical in
end
end Go.Ev
/- Runs inside models: what is asked, with its proofs. -/
namespace Go.Proofs.Ytfdehaafbkhclaa
open Go.Ev Go.RowKit
set_option maxRecDepth 100000
noncomputable section
/-- A truth that is asked, and why it is so. -/
structure PC where
  c : Bool
  q : Bool
  h : c = q
abbrev PC.p (x : PC) : Bool × Bool := (x.c, x.q)
def pairsC : List PC → List (Bool × Bool)
  | [] => []
  | x :: xs => (x.c, x.q) :: pairsC xs
theorem pairsC_ok : ∀ xs : List PC, allC (pairsC xs)
  | [] => trivial
  | x :: xs => ⟨x.h, pairsC_ok xs⟩
abbrev c_T : PC := ⟨true, true, rfl⟩
abbrev c_F : PC := ⟨false, false, rfl⟩
abbrev c_d {p : Prop} [Decidable p] (h : p) : PC := ⟨decide p, true, decide_eq_true h⟩
abbrev c_n {p : Prop} [Decidable p] (h : ¬ p) : PC := ⟨decide p, false, decide_eq_false h⟩
abbrev c_f {p : Prop} (h : p) : PC := ⟨fact p, true, fact_mk h⟩
abbrev c_b {α : Type} [BEq α] [LawfulBEq α] {a b : α} (h : a ≠ b) : PC := ⟨a != b, true, bne_iff_ne.2 h⟩
abbrev c_bn {α : Type} [BEq α] [LawfulBEq α] {a b : α} (h : a = b) : PC := ⟨a != b, false, bne_eq_false_iff_eq.2 h⟩
abbrev c_e {α : Type} [BEq α] [LawfulBEq α] {a b : α} (h : a = b) : PC := ⟨a == b, true, beq_iff_eq.2 h⟩
abbrev c_en {α : Type} [BEq α] [LawfulBEq α] {a b : α} (h : a ≠ b) : PC := ⟨a == b, false, beq_eq_false_iff_ne.2 h⟩
abbrev c_q {c q : Bool} (h : c = q) : PC := ⟨c, q, h⟩
abbrev c_no {c : Bool} (h : c = false) : PC := ⟨!c, true, by rw [h]; rfl⟩
abbrev c_nn {c : Bool} (h : c = true) : PC := ⟨!c, false, by rw [h]; rfl⟩
abbrev c_le (n : Nat) : PC := ⟨fact (n + 1 ≤ n + 1), true, fact_mk (Nat.le_refl _)⟩
def bT : Nat → List Bool → List Bool
  | 0, l => l
  | n + 1, l => true :: bT n l
def bF : Nat → List Bool → List Bool
  | 0, l => l
  | n + 1, l => false :: bF n l
/-- What is asked of calls and loops, and why it is so. -/
structure PK where
  q : Go.Ev.Ask
  h : AskOK (ctx [] []) Tabs q
def asksK : List PK → List Go.Ev.Ask
  | [] => []
  | x :: xs => x.q :: asksK xs
theorem asksK_ok : ∀ xs : List PK, allK (asksK xs)
  | [] => trivial
  | x :: xs => ⟨x.h, asksK_ok xs⟩
abbrev k_c {g : FuncId} {ds : List D} {r : D} (h : Con g ds r) : PK := ⟨.call g ds r, h⟩
abbrev k_l {c : Code} {E : List AV × AHeap} {base : Nat} {x : LExit} {ds : List D} (h : LoopC c E base noFrame x ds) (ora : List Bool) (vals vals' : List D) : PK := ⟨loopAsk c E base noFrame x ds ora vals vals', h _ _ _ _⟩
theorem con_pc {op : Bool} {I : List Nat} {sp : List LSpec} (n : Nat) {g : FuncId} {ds : List D} {r : D} (ora : List Bool) (res : List D) (pcs : List PC) (pks : List PK)
    (h : okOut (run (ctxS op I sp) n (.enter g (avOfL 0 ds).1) ⟨[], (avOfL 0 ds).2.1, (avOfL 0 ds).2.2, ora, ⟨res, noFrame⟩⟩) = some (r, pairsC pcs, asksK pks)) : Con g ds r :=
  con_of h (pairsC_ok pcs) (asksK_ok pks)
theorem step_pc {I : List Nat} {sp : List LSpec} {l : LoopAt} {S1 : List AV × AHeap} {g : Option GS} {x : AX} (fuel : Nat) (ora : List Bool) (vals : List D) (pcs : List PC) (pks : List PK)
    (r : Option Out) (hr : r = run (ctx I sp) fuel (.code l.f l.c) ⟨S1.1, S1.2, l.nx, ora, ⟨vals, l.fr⟩⟩) (h1 : r = some (outOf r))
    (h2 : ((outOf r).x, (outOf r).st.res.fr, (outOf r).log, (outOf r).st.tmps) = (x, l.fr, ⟨pairsC pcs, asksK pks⟩, AV.renL (qOf l.base (nsOf g) ((outOf r).st.tmps, (outOf r).st.heap)) (aOf l.base (nsOf g) ((outOf r).st.tmps, (outOf r).st.heap)) (stateOf g).1))
    (h3 : (stateOf g).2.map (fun e => hget (outOf r).st.heap (qOf l.base (nsOf g) ((outOf r).st.tmps, (outOf r).st.heap) e.1)) = (stateOf g).2.map (fun e => some (⟨AV.renL (qOf l.base (nsOf g) ((outOf r).st.tmps, (outOf r).st.heap)) (aOf l.base (nsOf g) ((outOf r).st.tmps, (outOf r).st.heap)) e.2.cells, e.2.opn, e.2.kind⟩ : ABlock)))
    (h4 : (namesIn l.nx (stateOf g).2 && distinctBy (qOf l.base (nsOf g) ((outOf r).st.tmps, (outOf r).st.heap)) (stateOf g).2 && aboveBy l.low l.base (qOf l.base (nsOf g) ((outOf r).st.tmps, (outOf r).st.heap)) (stateOf g).2) = true)
    (h5 : (AV.okL l.nx S1.1 && Nat.ble l.low (outOf r).low) = true) (h6 : (List.range l.low).map (hget (stateOf g).2) = (List.range l.low).map (hget S1.2)) : Step (ctx I sp) Tabs l S1 (stateOf g) x :=
  step_of r hr h1 h2 h3 h4 h5 h6 rfl (pairsC_ok pcs) (asksK_ok pks)
end
end Go.Proofs.Ytfdehaafbkhclaa
/- Whole numbers as lists of digits to the base 10^9, and as values in depth. -/
namespace Go.Ev
open Go.RowKit
abbrev lD (l : List Int) : D := .list l.length (l.map iD)
def Dig (l : List Int) : Prop := ∀ d ∈ l, 0 ≤ d ∧ d < (1000000000 : Int)
def Trim (l : List Int) : Prop := ∀ h : l ≠ [], l.getLast h ≠ 0
theorem Dig.cons {d : Int} {l : List Int} (h : Dig (d :: l)) : (0 ≤ d ∧ d < (1000000000 : Int)) ∧ Dig l := ⟨h d List.mem_cons_self, fun x hx => h x (List.mem_cons_of_mem _ hx)⟩
theorem Dig.nil : Dig [] := fun _ h => by cases h
theorem Dig.append {a b : List Int} (ha : Dig a) (hb : Dig b) : Dig (a ++ b) := fun x hx => by
  rcases List.mem_append.1 hx with h | h
  · exact ha x h
  · exact hb x h
theorem Dig.one {d : Int} (h0 : 0 ≤ d) (h1 : d < (1000000000 : Int)) : Dig [d] := fun x hx => by simp at hx; subst hx; exact ⟨h0, h1⟩
theorem Dig.take {l : List Int} (h : Dig l) (n : Nat) : Dig (l.take n) := fun x hx => h x (List.mem_of_mem_take hx)
theorem Dig.drop {l : List Int} (h : Dig l) (n : Nat) : Dig (l.drop n) := fun x hx => h x (List.mem_of_mem_drop hx)
theorem Trim.cons {d : Int} {l : List Int} (h : Trim (d :: l)) : Trim l := fun hl => by
  have := h (by simp)
  rwa [List.getLast_cons hl] at this
/-- How many digits are kept where zeros at the end are cut off. -/
def keep : List Int → Nat
  | [] => 0
  | d :: l => if keep l = 0 ∧ d = 0 then 0 else keep l + 1
theorem Dig.at {a : List Int} (h : Dig a) (i : Nat) : 0 ≤ a[i]?.getD 0 ∧ a[i]?.getD 0 < (1000000000 : Int) := by
  by_cases hi : i < a.length
  · rw [List.getElem?_eq_getElem hi]; exact h _ (List.getElem_mem hi)
  · rw [List.getElem?_eq_none (by omega)]; decide
theorem pullI {β : Type} (x : Int) (k : Int → Option β) : pullD (some (.one (.int .i64 x))) (fun d => D.vi d) (fun r => .one (.int .i64 r)) k = k x := pullD_some x rfl rfl
theorem pullB {β : Type} (x : Bool) (k : Bool → Option β) : pullD (some (.one (.bool x))) (fun d => D.vb d) (fun r => .one (.bool r)) k = k x := pullD_some x rfl rfl
theorem cellD_int (x : Int) : ∀ u, u ∈ [dCell (.int .i64 x)] → cellD u := by
  intro u hu
  simp at hu
  subst hu
  rfl
theorem grow_list (l : List Int) (x : Int) : D.list (l.length + (0 + 1)) (List.append (List.take (l.length * 1) (l.map iD)) [dCell (.int .i64 x)]) = lD (l ++ [x]) := by
  have : List.take (l.length * 1) (l.map iD) = l.map iD := List.take_of_length_le (by simp)
  rw [this]
  show D.list (l.length + 1) (l.map iD ++ [iD x]) = _
  simp [lD]
theorem Dig.set {l : List Int} (h : Dig l) (p : Nat) {x : Int} (h0 : 0 ≤ x) (h1 : x < 1000000000) : Dig (l.set p x) := fun y hy => by
  rcases List.mem_or_eq_of_mem_set hy with hy | rfl
  · exact h y hy
  · exact ⟨h0, h1⟩
theorem set_list (o : List Int) (p : Nat) (x : Int) (h : p < o.length) : List.append (List.take (0 + p * 1) (o.map iD) ++ [dCell (.int .i64 x)]) (List.drop (0 + p * 1 + [dCell (.int .i64 x)].length) (o.map iD)) = (o.set p x).map iD := by
  show List.take (0 + p * 1) (o.map iD) ++ [iD x] ++ List.drop (0 + p * 1 + 1) (o.map iD) = _
  rw [Nat.zero_add, Nat.mul_one, List.map_set, List.set_eq_take_append_cons_drop, if_pos (by simpa using h)]
  simp
theorem zeros_list (n : Nat) : List.map dCell (List.replicate n (Value.int .i64 (0 : Int)).cells.toList).flatten = (List.replicate n (0 : Int)).map iD := by
  induction n with
  | zero => rfl
  | succ n ih =>
    rw [List.replicate_succ, List.flatten_cons, List.map_append, ih, List.replicate_succ, List.map_cons]
    rfl
theorem readW {l : List Int} {i : Nat} {v : Int} (h : l[i]? = some v) : readD (l.map iD) ((i : Int).toNat * 1) 1 false = some (iD v) := by
  unfold readD
  simp [h]
end Go.Ev
/- Lists told by place: tables, sums of the first, and how a program builds them. -/
namespace Go.Ev
open Go.RowKit
/-- The numbers f 0, .., f (n - 1). -/
def tab (n : Nat) (f : Nat → Int) : List Int := (List.range n).map f
/-- The number at a place, 0 behind the end. -/
def at' (l : List Int) (i : Nat) : Int := l[i]?.getD 0
theorem tab_len (n : Nat) (f : Nat → Int) : (tab n f).length = n := by simp [tab]
theorem tab_get {n i : Nat} (f : Nat → Int) (h : i < n) : (tab n f)[i]? = some (f i) := by
  unfold tab; rw [List.getElem?_map, List.getElem?_range h]; rfl
theorem tab_at {n i : Nat} (f : Nat → Int) (h : i < n) : at' (tab n f) i = f i := by unfold at'; rw [tab_get f h]; rfl
theorem tab_succ (n : Nat) (f : Nat → Int) : tab (n + 1) f = tab n f ++ [f n] := by
  unfold tab; rw [List.range_succ, List.map_append]; rfl
theorem tab_congr {n : Nat} {f g : Nat → Int} (h : ∀ i, i < n → f i = g i) : tab n f = tab n g := by
  unfold tab; exact List.map_congr_left fun i hi => h i (List.mem_range.1 hi)
theorem at_get {l : List Int} {i : Nat} (h : i < l.length) : l[i]? = some (at' l i) := by
  unfold at'; rw [List.getElem?_eq_getElem h]; rfl
theorem at_mem {l : List Int} {i : Nat} (h : i < l.length) : at' l i ∈ l := by
  have := at_get h
  exact List.mem_of_getElem? this
theorem tab_of (l : List Int) : tab l.length (at' l) = l := by
  apply List.ext_getElem?
  intro i
  by_cases h : i < l.length
  · rw [tab_get _ h, at_get h]
  · rw [List.getElem?_eq_none (by rw [tab_len]; omega), List.getElem?_eq_none (by omega)]
theorem eq_tab {l : List Int} {n : Nat} (h : l.length = n) : l = tab n (at' l) := by subst h; exact (tab_of l).symm
theorem tab_set {n p : Nat} {f : Nat → Int} {x : Int} : (tab n f).set p x = tab n (fun j => if j = p then x else f j) := by
  apply List.ext_getElem?
  intro i
  by_cases h : i < n
  · rw [tab_get _ h, List.getElem?_set]
    split
    · rename_i e; subst e
      rw [if_pos rfl, if_pos (by rw [tab_len]; exact h)]
    · rename_i e
      rw [if_neg (fun k => e k.symm), tab_get _ h]
  · rw [List.getElem?_eq_none (by rw [List.length_set, tab_len]; omega), List.getElem?_eq_none (by rw [tab_len]; omega)]
theorem tab_zeros (n : Nat) : List.replicate n (0 : Int) = tab n fun _ => 0 := by
  apply List.ext_getElem?
  intro i
  by_cases h : i < n
  · rw [tab_get _ h, List.getElem?_replicate, if_pos h]
  · rw [List.getElem?_eq_none (by simp; omega), List.getElem?_eq_none (by rw [tab_len]; omega)]
/-- The sum of the first numbers. -/
def sumTo (f : Nat → Int) : Nat → Int
  | 0 => 0
  | k + 1 => sumTo f k + f k
theorem sumTo_congr {f g : Nat → Int} : ∀ {k : Nat}, (∀ i, i < k → f i = g i) → sumTo f k = sumTo g k
  | 0, _ => rfl
  | k + 1, h => by
    unfold sumTo
    rw [sumTo_congr fun i hi => h i (by omega), h k (by omega)]
theorem mulB {x y A B : Int} (h1 : -A ≤ x) (h2 : x ≤ A) (h3 : -B ≤ y) (h4 : y ≤ B) : -(A * B) ≤ x * y ∧ x * y ≤ A * B := by
  have hA : 0 ≤ A := by omega
  have hB : 0 ≤ B := by omega
  have e1 : 0 ≤ (A - x) * (B - y) := Int.mul_nonneg (by omega) (by omega)
  have e2 : 0 ≤ (A + x) * (B + y) := Int.mul_nonneg (by omega) (by omega)
  have e3 : 0 ≤ (A - x) * (B + y) := Int.mul_nonneg (by omega) (by omega)
  have e4 : 0 ≤ (A + x) * (B - y) := Int.mul_nonneg (by omega) (by omega)
  have f1 : (A - x) * (B - y) = A * B - A * y - x * B + x * y := by grind
  have f2 : (A + x) * (B + y) = A * B + A * y + x * B + x * y := by grind
  have f3 : (A - x) * (B + y) = A * B + A * y - x * B - x * y := by grind
  have f4 : (A + x) * (B - y) = A * B - A * y + x * B - x * y := by grind
  omega
theorem wrapJ (x : Int) (h1 : -9223372036854775808 ≤ x) (h2 : x < 9223372036854775808) : IntKind.i64.wrap x = x := by
  unfold IntKind.wrap
  show (if (true && _) then _ else _) = _
  simp only [Bool.true_and, decide_eq_true_eq]
  show (if x % 18446744073709551616 ≥ 9223372036854775808 then x % 18446744073709551616 - 18446744073709551616 else x % 18446744073709551616) = x
  split <;> omega
theorem readT {n i : Nat} (f : Nat → Int) (h : i < n) : readD ((tab n f).map iD) ((i : Int).toNat * 1) 1 false = some (iD (f i)) := readW (tab_get f h)
theorem readA {l : List Int} {i : Nat} (h : i < l.length) : readD (l.map iD) ((i : Int).toNat * 1) 1 false = some (iD (at' l i)) := readW (at_get h)
theorem readN {l : List Int} {i : Nat} (h : i < l.length) : readD (l.map iD) (i * 1) 1 false = some (iD (at' l i)) := readA h
theorem readM0 {n i : Nat} (f : Nat → Int) (h : i < n) : readD ((tab n f).map iD) (0 + i * 1) 1 false = some (iD (f i)) := by rw [Nat.zero_add]; exact readT f h
theorem natI {i : Nat} (h : i < 1000000000000000) : IntKind.i64.wrap ((i : Int) + 1) = ((i + 1 : Nat) : Int) := by rw [wrapJ _ (by omega) (by omega)]; omega
theorem cells_int (l : List Int) : ∀ u : D, u ∈ l.map iD → cellD u := by
  intro u hu
  obtain ⟨x, -, rfl⟩ := List.mem_map.1 hu
  rfl
theorem splice_list (o : List Int) (p : Nat) (x : Int) (h : p < o.length) : splice (o.map iD) (0 + p * 1) [dCell (.int .i64 x)] = (o.set p x).map iD := set_list o p x h
theorem zerosD (n : Nat) : manyZeros (Value.int .i64 (0 : Int)).cells.toList n = (tab n fun _ => 0).map iD := by
  unfold manyZeros
  rw [zeros_list, tab_zeros]
theorem consD (n : Nat) (x : Int) (h : 0 < n) : iD x :: List.drop 1 ((tab n fun _ => 0).map iD) = (tab n fun j => if j = 0 then x else 0).map iD := by
  rw [← tab_set (f := fun _ => 0) (p := 0), List.set_eq_take_append_cons_drop, if_pos (by rw [tab_len]; exact h)]
  simp
/-- All numbers lie between two. -/
def allIn (lo hi : Int) (l : List Int) : Bool := l.all fun x => decide (lo ≤ x ∧ x ≤ hi)
theorem allIn_at {lo hi : Int} {l : List Int} (h : allIn lo hi l = true) {i : Nat} (hi' : i < l.length) : lo ≤ at' l i ∧ at' l i ≤ hi := by
  have := List.all_eq_true.1 h _ (at_mem hi')
  simpa using this
/-- A loop that looks for a number that is not. -/
theorem scanIn (l : List Int) (lo hi : Int) (S : Rd → Option Rd) (bad : Rd) (hb : ∀ q ds, bad ≠ .next q ds) (hs : ∀ i, i < l.length → S (.next 0 [iD (i : Int)]) = if lo ≤ at' l i ∧ at' l i ≤ hi then some (.next 0 [iD ((i + 1 : Nat) : Int)]) else some bad)
    (he : S (.next 0 [iD (l.length : Int)]) = some (.out 0 [])) : runR S (.next 0 [iD 0]) = if allIn lo hi l = true then some (.out 0 []) else some bad := by
  have key : ∀ m i, i + m = l.length → runR S (.next 0 [iD (i : Int)]) = if allIn lo hi (l.drop i) = true then some (.out 0 []) else some bad := by
    intro m
    induction m with
    | zero =>
      intro i hi
      have : i = l.length := by omega
      subst this
      rw [runR_exit he, List.drop_of_length_le (Nat.le_refl _)]
      rfl
    | succ m ih =>
      intro i hi'
      have hlt : i < l.length := by omega
      have hd : l.drop i = at' l i :: l.drop (i + 1) := by
        rw [List.drop_eq_getElem_cons hlt]
        congr 1
        unfold at'
        rw [List.getElem?_eq_getElem hlt]; rfl
      have e : allIn lo hi (l.drop i) = (decide (lo ≤ at' l i ∧ at' l i ≤ hi) && allIn lo hi (l.drop (i + 1))) := by
        rw [hd]; rfl
      have h1 := hs i hlt
      by_cases hq : lo ≤ at' l i ∧ at' l i ≤ hi
      · rw [if_pos hq] at h1
        rw [runR_next h1, ih (i + 1) (by omega), e, decide_eq_true hq, Bool.true_and]
      · rw [if_neg hq] at h1
        rw [e, decide_eq_false hq, Bool.false_and, if_neg (by decide)]
        cases bad with
        | next q ds => exact absurd rfl (hb q ds)
        | out j ds => exact runR_exit h1
  have := key l.length 0 (by omega)
  rw [List.drop_zero, Int.natCast_zero] at this
  exact this
theorem tdiv_bound {N s B : Int} (h1 : -B ≤ N) (h2 : N ≤ B) : -B ≤ N.tdiv s ∧ N.tdiv s ≤ B := by
  have := Int.natAbs_tdiv_le_natAbs N s
  omega
end Go.Ev
namespace Go.Proofs.Ytfdehaafbkhclaa
open Go.Ev Go.RowKit
set_option maxRecDepth 100000
set_option maxHeartbeats 8000000
set_option linter.all false
noncomputable section
def firstOf_x2_0 : LExit := ⟨some 0, [], (2 :: (4 :: (List.range' 7 8)))⟩
def firstOf_x2_1 : LExit := ⟨none, [.val 2], (4 :: (List.range' 7 8))⟩
def firstOf_sp : List LSpec := [⟨35, 2, [firstOf_x2_0, firstOf_x2_1]⟩]
def firstOf_L2_E (k : Nat) (c : List D)  : List AV × AHeap := ([.dsl 0, .pure (.tuple #[]), .pure (.int .i64 (0 : Int)), .pure (.tuple #[]), .pure (.tuple #[]), .dsl 0, .pure (.int .i64 (k : Int)), .pure (.int .i64 (0 : Int)), .pure (.tuple #[]), .pure (.tuple #[]), .pure (.tuple #[]), .pure (.tuple #[]), .pure (.tuple #[]), .pure (.tuple #[]), .pure (.tuple #[])], [(0, { cells := [], opn := none, kind := .deep k c })])
def firstOf_L2_A : LoopAt := ⟨35, loopAt Try.prog 35 0, 1, 11, 1, noFrame⟩
theorem firstOf_L2_ok : (firstOf_L2_A).OK := ⟨by show 1 ≤ 11; decide, by show 1 ≤ 1; decide, by kernel_rfl, rfl⟩
def firstOf_L2_gs (k : Nat) (c : List D)  : Go.Ev.Rd → Option GS
  | .next 0 ds => ghost [.val 7] (2 :: (4 :: (List.range' 8 7))) (firstOf_L2_E k c).1 (firstOf_L2_E k c).2 1 ds
  | .out 0 ds => ghost firstOf_x2_0.live firstOf_x2_0.junk (firstOf_L2_E k c).1 (firstOf_L2_E k c).2 1 ds
  | .out 1 ds => ghost firstOf_x2_1.live firstOf_x2_1.junk (firstOf_L2_E k c).1 (firstOf_L2_E k c).2 1 ds
  | _ => none
def firstOf_L2_ex : Nat → Option Nat
  | 0 => firstOf_x2_0.ex
  | 1 => firstOf_x2_1.ex
  | _ => none
def firstOf_L2_ax : Go.Ev.Rd → AX
  | .next _ _ => .normal
  | .out j _ => axOf (firstOf_L2_ex j)
def firstOf_L2_S0 (k : Nat) (c : List D)  (ds : List D) : Option Go.Ev.Rd := pullD (α := Int) (some (.tup ds)) (fun d => ((D.vi (D.at d 0)))) (fun s7 => .tup [iD s7]) fun s7 => ((if s7 < (k : Int) then guardP ((0 : Int) ≤ s7 ∧ s7.toNat < k) (pullD (α := Int) (readD c (s7.toNat * 1) 1 false) (fun d => ((D.vi d))) (fun v0 => iD v0) fun v0 => ((if v0 ≠ (0 : Int) then some (.out 1 [iD v0]) else some (.next 0 [iD (IntKind.i64.wrap (s7 + (1 : Int)))])))) else some (.out 0 [])))
def firstOf_L2_S (k : Nat) (c : List D)  : Go.Ev.Rd → Option Go.Ev.Rd
  | .next 0 ds => firstOf_L2_S0 k c ds
  | _ => none
theorem firstOf_L2_S_ok (k : Nat) (c : List D)  : ∀ s_ t_, firstOf_L2_S k c s_ = some t_ → Step (ctx [35] firstOf_sp) Tabs firstOf_L2_A (stateOf (firstOf_L2_gs k c s_)) (stateOf (firstOf_L2_gs k c t_)) (firstOf_L2_ax t_) ∧ EndOK firstOf_L2_A.nx firstOf_L2_A.low (firstOf_L2_gs k c) t_
  | .next 0 ds, t_, h => by
    have h_ : firstOf_L2_S0 k c ds = some t_ := h
    clear h
    unfold firstOf_L2_S0 at h_
    obtain ⟨s7, e0, h0⟩ := pullD_elim h_
    clear h_
    obtain rfl := tup_inj e0
    by_cases b1_ : s7 < (k : Int)
    · have h2_ := (if_pos b1_).symm.trans h0
      obtain ⟨f3_, h4_⟩ := guardP_elim h2_
      obtain ⟨v0, f5_, h6_⟩ := pullD_elim h4_
      replace f5_ := readD_elim f5_
      by_cases b7_ : v0 ≠ (0 : Int)
      · have h8_ := (if_pos b7_).symm.trans h6_
        obtain rfl := Option.some.inj h8_
        exact ⟨step_pc 3000 (bT 2 []) [iD v0] [c_d b1_, c_f f3_, c_f f5_, c_b b7_] [] _ rfl (by kernel_rfl) (by kernel_rfl) (by kernel_rfl) (by kernel_rfl) (by kernel_rfl) (by kernel_rfl), by kernel_rfl, by kernel_rfl⟩
      have h8_ := (if_neg b7_).symm.trans h6_
      have b9_ : v0 = (0 : Int) := by first | exact b7_ | simpa using b7_
      obtain rfl := Option.some.inj h8_
      exact ⟨step_pc 3000 (bT 1 (bF 1 [])) [iD v0] [c_d b1_, c_f f3_, c_f f5_, c_bn b9_] [] _ rfl (by kernel_rfl) (by kernel_rfl) (by kernel_rfl) (by kernel_rfl) (by kernel_rfl) (by kernel_rfl), trivial⟩
    have h2_ := (if_neg b1_).symm.trans h0
    obtain rfl := Option.some.inj h2_
    exact ⟨step_pc 3000 (bF 1 []) [] [c_n b1_] [] _ rfl (by kernel_rfl) (by kernel_rfl) (by kernel_rfl) (by kernel_rfl) (by kernel_rfl) (by kernel_rfl), by kernel_rfl, by kernel_rfl⟩
  | .next (_ + 1) _, _, h => by cases h
  | .out _ _, _, h => by cases h
theorem firstOf_L2_go (k : Nat) (c : List D)  {q : Nat} {ds : List D} {j : Nat} {es : List D} (h : runR (firstOf_L2_S k c) (.next q ds) = some (.out j es)) : Runs (ctx [35] firstOf_sp) Tabs firstOf_L2_A (stateOf (firstOf_L2_gs k c (.next q ds))) (stateOf (firstOf_L2_gs k c (.out j es))) (firstOf_L2_ax (.out j es)) ∧ (nxtOf (firstOf_L2_gs k c (.out j es)), lowGS (firstOf_L2_gs k c (.out j es))) = (firstOf_L2_A.nx, firstOf_L2_A.low) :=
  runs_of' (good true _ _) firstOf_L2_ok (ax := firstOf_L2_ax) (fun _ _ => rfl) (fun _ _ => axOf_end _) (firstOf_L2_S_ok k c) h
theorem firstOf_L2_in0 (k : Nat) (c : List D)  {es : List D} (h : runR (firstOf_L2_S k c) (.next 0 [iD ((0 : Int))]) = some (.out 0 es)) : LoopC (loopAt Try.prog 35 0) (firstOf_L2_E k c) 1 noFrame firstOf_x2_0 es :=
  have r := firstOf_L2_go k c h
  loopin_as rfl (loop_in (l := firstOf_L2_A) (E := (firstOf_L2_E k c)) (S := stateOf (firstOf_L2_gs k c (.next 0 [iD ((0 : Int))]))) (ns := nsOf (firstOf_L2_gs k c (.next 0 [iD ((0 : Int))]))) firstOf_L2_ok r.1 r.2 (by kernel_rfl) (by kernel_rfl) (by kernel_rfl) (by kernel_rfl))
theorem firstOf_L2_in1 (k : Nat) (c : List D)  {es : List D} (h : runR (firstOf_L2_S k c) (.next 0 [iD ((0 : Int))]) = some (.out 1 es)) : LoopC (loopAt Try.prog 35 0) (firstOf_L2_E k c) 1 noFrame firstOf_x2_1 es :=
  have r := firstOf_L2_go k c h
  loopin_as rfl (loop_in (l := firstOf_L2_A) (E := (firstOf_L2_E k c)) (S := stateOf (firstOf_L2_gs k c (.next 0 [iD ((0 : Int))]))) (ns := nsOf (firstOf_L2_gs k c (.next 0 [iD ((0 : Int))]))) firstOf_L2_ok r.1 r.2 (by kernel_rfl) (by kernel_rfl) (by kernel_rfl) (by kernel_rfl))
def firstOf_M (k : Nat) (c : List D) : Option D := bindL (runR (firstOf_L2_S k c) (.next 0 [iD ((0 : Int))])) fun j ds => (if j = 0 then pullD (some (.tup ds)) (fun _ => ()) (fun _ => .tup []) fun _ => (some (iD (0 : Int))) else if j = 1 then pullD (α := Int) (some (.tup ds)) (fun d => ((D.vi (D.at d 0)))) (fun l0 => .tup [iD l0]) fun l0 => (some (iD l0)) else none)
theorem firstOf_M_ok (k : Nat) (c : List D) {r : D} (h : firstOf_M k c = some r) : Con 35 [.list k c] r := by
  unfold firstOf_M at h
  obtain ⟨j, ds, e1_, h2_⟩ := bindL_elim h
  by_cases j3_ : j = 0
  · have h6_ := (if_pos j3_).symm.trans h2_
    clear h2_
    subst j3_
    obtain ⟨⟨⟩, e4_, h7_⟩ := pullD_elim h6_
    clear h6_
    obtain rfl := tup_inj e4_
    have k5_ := firstOf_L2_in0 k c e1_
    obtain rfl := Option.some.inj h7_
    exact con_pc (op := true) (I := [35]) (sp := firstOf_sp) 3000 [] [.tup [iD (Int.ofNat 0)]] [] [k_l k5_ [] [.tup [iD (Int.ofNat 0)]] []] (by kernel_rfl)
  have h8_ := (if_neg j3_).symm.trans h2_
  clear h2_
  by_cases j9_ : j = 1
  · have h12_ := (if_pos j9_).symm.trans h8_
    clear h8_
    subst j9_
    obtain ⟨l0, e10_, h13_⟩ := pullD_elim h12_
    clear h12_
    obtain rfl := tup_inj e10_
    have k11_ := firstOf_L2_in1 k c e1_
    obtain rfl := Option.some.inj h13_
    exact con_pc (op := true) (I := [35]) (sp := firstOf_sp) 3000 [] [.tup [iD (Int.ofNat 1), iD l0]] [] [k_l k11_ [] [.tup [iD (Int.ofNat 1), iD l0]] []] (by kernel_rfl)
  have h14_ := (if_neg j9_).symm.trans h8_
  clear h8_
  cases h14_
def m_35 (ds : List D) : Option D := pullD (α := Nat × (List D)) (some (.tup ds)) (fun d => ((D.ln (D.at d 0)), (D.lc (D.at d 0)))) (fun (k, c) => .tup [.list k c]) fun (k, c) => firstOf_M k c
theorem m_35_ok {ds : List D} {r : D} (h : m_35 ds = some r) : Con 35 ds r := by
  unfold m_35 at h
  obtain ⟨⟨k, c⟩, e0, h0⟩ := pullD_elim h
  obtain rfl := tup_inj e0
  exact firstOf_M_ok k c h0
theorem m_35_eq (k : Nat) (c : List D) : m_35 [.list k c] = firstOf_M k c := pullD_some (k, c) rfl rfl
def chkCount_sp : List LSpec := []
def chkCount_M (n lo hi : Int) : Option D := (if n < lo then some (iD (10 : Int)) else (if n > hi then some (iD (8 : Int)) else some (iD (0 : Int))))
theorem chkCount_M_ok (n lo hi : Int) {r : D} (h : chkCount_M n lo hi = some r) : Con 38 [iD n, iD lo, iD hi] r := by
  unfold chkCount_M at h
  by_cases b1_ : n < lo
  · have h2_ := (if_pos b1_).symm.trans h
    obtain rfl := Option.some.inj h2_
    exact con_pc (op := true) (I := [38]) (sp := chkCount_sp) 3000 (bT 1 []) [] [c_d b1_] [] (by kernel_rfl)
  have h2_ := (if_neg b1_).symm.trans h
  by_cases b3_ : n > hi
  · have h4_ := (if_pos b3_).symm.trans h2_
    obtain rfl := Option.some.inj h4_
    exact con_pc (op := true) (I := [38]) (sp := chkCount_sp) 3000 (bF 1 (bT 1 [])) [] [c_n b1_, c_d b3_] [] (by kernel_rfl)
  have h4_ := (if_neg b3_).symm.trans h2_
  obtain rfl := Option.some.inj h4_
  exact con_pc (op := true) (I := [38]) (sp := chkCount_sp) 3000 (bF 2 []) [] [c_n b1_, c_n b3_] [] (by kernel_rfl)
def m_38 (ds : List D) : Option D := pullD (α := Int × Int × Int) (some (.tup ds)) (fun d => ((D.vi (D.at d 0)), (D.vi (D.at d 1)), (D.vi (D.at d 2)))) (fun (n, lo, hi) => .tup [iD n, iD lo, iD hi]) fun (n, lo, hi) => chkCount_M n lo hi
theorem m_38_ok {ds : List D} {r : D} (h : m_38 ds = some r) : Con 38 ds r := by
  unfold m_38 at h
  obtain ⟨⟨n, lo, hi⟩, e0, h0⟩ := pullD_elim h
  obtain rfl := tup_inj e0
  exact chkCount_M_ok n lo hi h0
theorem m_38_eq (n lo hi : Int) : m_38 [iD n, iD lo, iD hi] = chkCount_M n lo hi := pullD_some (n, lo, hi) rfl rfl
def within_sp : List LSpec := []
def within_M (n lo hi : Int) : Option D := (if lo ≤ n then some (.one (.bool (decide (n ≤ hi)))) else some (.one (.bool false)))
theorem within_M_ok (n lo hi : Int) {r : D} (h : within_M n lo hi = some r) : Con 24 [iD n, iD lo, iD hi] r := by
  unfold within_M at h
  by_cases b1_ : lo ≤ n
  · have h2_ := (if_pos b1_).symm.trans h
    obtain rfl := Option.some.inj h2_
    exact con_pc (op := true) (I := [24]) (sp := within_sp) 3000 (bT 4 []) [] [c_d b1_, c_d b1_, c_d b1_, c_d b1_] [] (by kernel_rfl)
  have h2_ := (if_neg b1_).symm.trans h
  obtain rfl := Option.some.inj h2_
  exact con_pc (op := true) (I := [24]) (sp := within_sp) 3000 (bF 4 []) [] [c_n b1_, c_n b1_, c_n b1_, c_n b1_] [] (by kernel_rfl)
def m_24 (ds : List D) : Option D := pullD (α := Int × Int × Int) (some (.tup ds)) (fun d => ((D.vi (D.at d 0)), (D.vi (D.at d 1)), (D.vi (D.at d 2)))) (fun (n, lo, hi) => .tup [iD n, iD lo, iD hi]) fun (n, lo, hi) => within_M n lo hi
theorem m_24_ok {ds : List D} {r : D} (h : m_24 ds = some r) : Con 24 ds r := by
  unfold m_24 at h
  obtain ⟨⟨n, lo, hi⟩, e0, h0⟩ := pullD_elim h
  obtain rfl := tup_inj e0
  exact within_M_ok n lo hi h0
theorem m_24_eq (n lo hi : Int) : m_24 [iD n, iD lo, iD hi] = within_M n lo hi := pullD_some (n, lo, hi) rfl rfl
def chkLine_x56_2_0 : LExit := ⟨some 0, [], (4 :: (6 :: (List.range' 9 13)))⟩
def chkLine_x56_2_1 : LExit := ⟨none, [.val 4], (6 :: (List.range' 9 13))⟩
def chkLine_sp : List LSpec := [⟨56, 2, [chkLine_x56_2_0, chkLine_x56_2_1]⟩]
def chkLine_L56_2_E (ky : Nat) (cy : List D) (er : Bool)  : List AV × AHeap := ([.dsl 0, .ptr 2 0, .ptr 3 0, .pure (.tuple #[]), .pure (.int .i64 (0 : Int)), .pure (.tuple #[]), .pure (.tuple #[]), .dsl 0, .pure (.int .i64 (ky : Int)), .pure (.int .i64 (0 : Int)), .pure (.tuple #[]), .pure (.tuple #[]), .pure (.tuple #[]), .pure (.tuple #[]), .pure (.tuple #[]), .pure (.tuple #[]), .pure (.tuple #[]), .pure (.tuple #[]), .pure (.tuple #[]), .pure (.tuple #[]), .pure (.tuple #[]), .pure (.tuple #[])], [(3, { cells := [.pure (.int .i64 (20 : Int))], opn := none, kind := .cells }), (2, { cells := [.pure (.int .i64 (1 : Int))], opn := none, kind := .cells }), (1, { cells := [.dsl 0, .pure (.bool er)], opn := none, kind := .cells }), (0, { cells := [], opn := none, kind := .deep ky cy })])
def chkLine_L56_2_A : LoopAt := ⟨56, loopAt Try.prog 56 0, 4, 19, 4, noFrame⟩
theorem chkLine_L56_2_ok : (chkLine_L56_2_A).OK := ⟨by show 4 ≤ 19; decide, by show 4 ≤ 4; decide, by kernel_rfl, rfl⟩
def chkLine_L56_2_gs (ky : Nat) (cy : List D) (er : Bool)  : Go.Ev.Rd → Option GS
  | .next 0 ds => ghost [.val 9] (4 :: (6 :: (List.range' 10 12))) (chkLine_L56_2_E ky cy er).1 (chkLine_L56_2_E ky cy er).2 4 ds
  | .out 0 ds => ghost chkLine_x56_2_0.live chkLine_x56_2_0.junk (chkLine_L56_2_E ky cy er).1 (chkLine_L56_2_E ky cy er).2 4 ds
  | .out 1 ds => ghost chkLine_x56_2_1.live chkLine_x56_2_1.junk (chkLine_L56_2_E ky cy er).1 (chkLine_L56_2_E ky cy er).2 4 ds
  | _ => none
def chkLine_L56_2_ex : Nat → Option Nat
  | 0 => chkLine_x56_2_0.ex
  | 1 => chkLine_x56_2_1.ex
  | _ => none
def chkLine_L56_2_ax : Go.Ev.Rd → AX
  | .next _ _ => .normal
  | .out j _ => axOf (chkLine_L56_2_ex j)
def chkLine_L56_2_S0 (ky : Nat) (cy : List D) (er : Bool)  (ds : List D) : Option Go.Ev.Rd := pullD (α := Int) (some (.tup ds)) (fun d => ((D.vi (D.at d 0)))) (fun s9 => .tup [iD s9]) fun s9 => ((if s9 < (ky : Int) then guardP ((0 : Int) ≤ s9 ∧ s9.toNat < ky) (pullD (α := Int) (readD cy (s9.toNat * 1) 1 false) (fun d => ((D.vi d))) (fun v0 => iD v0) fun v0 => ((if v0 < (1 : Int) then some (.out 1 [iD (2 : Int)]) else (if v0 > (20 : Int) then some (.out 1 [iD (2 : Int)]) else some (.next 0 [iD (IntKind.i64.wrap (s9 + (1 : Int)))]))))) else some (.out 0 [])))
def chkLine_L56_2_S (ky : Nat) (cy : List D) (er : Bool)  : Go.Ev.Rd → Option Go.Ev.Rd
  | .next 0 ds => chkLine_L56_2_S0 ky cy er ds
  | _ => none
theorem chkLine_L56_2_S_ok (ky : Nat) (cy : List D) (er : Bool)  : ∀ s_ t_, chkLine_L56_2_S ky cy er s_ = some t_ → Step (ctx [14, 39, 56] chkLine_sp) Tabs chkLine_L56_2_A (stateOf (chkLine_L56_2_gs ky cy er s_)) (stateOf (chkLine_L56_2_gs ky cy er t_)) (chkLine_L56_2_ax t_) ∧ EndOK chkLine_L56_2_A.nx chkLine_L56_2_A.low (chkLine_L56_2_gs ky cy er) t_
  | .next 0 ds, t_, h => by
    have h_ : chkLine_L56_2_S0 ky cy er ds = some t_ := h
    clear h
    unfold chkLine_L56_2_S0 at h_
    obtain ⟨s9, e0, h0⟩ := pullD_elim h_
    clear h_
    obtain rfl := tup_inj e0
    by_cases b1_ : s9 < (ky : Int)
    · have h2_ := (if_pos b1_).symm.trans h0
      obtain ⟨f3_, h4_⟩ := guardP_elim h2_
      obtain ⟨v0, f5_, h6_⟩ := pullD_elim h4_
      replace f5_ := readD_elim f5_
      by_cases b7_ : v0 < (1 : Int)
      · have h8_ := (if_pos b7_).symm.trans h6_
        obtain rfl := Option.some.inj h8_
        exact ⟨step_pc 3000 (bT 6 []) [iD v0] [c_d b1_, c_f f3_, c_f f5_, c_d b7_, c_d b7_, c_d b7_, c_d b7_, c_T] [] _ rfl (by kernel_rfl) (by kernel_rfl) (by kernel_rfl) (by kernel_rfl) (by kernel_rfl) (by kernel_rfl), by kernel_rfl, by kernel_rfl⟩
      have h8_ := (if_neg b7_).symm.trans h6_
      by_cases b9_ : v0 > (20 : Int)
      · have h10_ := (if_pos b9_).symm.trans h8_
        obtain rfl := Option.some.inj h10_
        exact ⟨step_pc 3000 (bT 1 (bF 4 (bT 1 []))) [iD v0] [c_d b1_, c_f f3_, c_f f5_, c_n b7_, c_n b7_, c_n b7_, c_n b7_, c_d b9_] [] _ rfl (by kernel_rfl) (by kernel_rfl) (by kernel_rfl) (by kernel_rfl) (by kernel_rfl) (by kernel_rfl), by kernel_rfl, by kernel_rfl⟩
      have h10_ := (if_neg b9_).symm.trans h8_
      obtain rfl := Option.some.inj h10_
      exact ⟨step_pc 3000 (bT 1 (bF 5 [])) [iD v0] [c_d b1_, c_f f3_, c_f f5_, c_n b7_, c_n b7_, c_n b7_, c_n b7_, c_n b9_] [] _ rfl (by kernel_rfl) (by kernel_rfl) (by kernel_rfl) (by kernel_rfl) (by kernel_rfl) (by kernel_rfl), trivial⟩
    have h2_ := (if_neg b1_).symm.trans h0
    obtain rfl := Option.some.inj h2_
    exact ⟨step_pc 3000 (bF 1 []) [] [c_n b1_] [] _ rfl (by kernel_rfl) (by kernel_rfl) (by kernel_rfl) (by kernel_rfl) (by kernel_rfl) (by kernel_rfl), by kernel_rfl, by kernel_rfl⟩
  | .next (_ + 1) _, _, h => by cases h
  | .out _ _, _, h => by cases h
theorem chkLine_L56_2_go (ky : Nat) (cy : List D) (er : Bool)  {q : Nat} {ds : List D} {j : Nat} {es : List D} (h : runR (chkLine_L56_2_S ky cy er) (.next q ds) = some (.out j es)) : Runs (ctx [14, 39, 56] chkLine_sp) Tabs chkLine_L56_2_A (stateOf (chkLine_L56_2_gs ky cy er (.next q ds))) (stateOf (chkLine_L56_2_gs ky cy er (.out j es))) (chkLine_L56_2_ax (.out j es)) ∧ (nxtOf (chkLine_L56_2_gs ky cy er (.out j es)), lowGS (chkLine_L56_2_gs ky cy er (.out j es))) = (chkLine_L56_2_A.nx, chkLine_L56_2_A.low) :=
  runs_of' (good true _ _) chkLine_L56_2_ok (ax := chkLine_L56_2_ax) (fun _ _ => rfl) (fun _ _ => axOf_end _) (chkLine_L56_2_S_ok ky cy er) h
theorem chkLine_L56_2_in0 (ky : Nat) (cy : List D) (er : Bool)  {es : List D} (h : runR (chkLine_L56_2_S ky cy er) (.next 0 [iD ((0 : Int))]) = some (.out 0 es)) : LoopC (loopAt Try.prog 56 0) (chkLine_L56_2_E ky cy er) 4 noFrame chkLine_x56_2_0 es :=
  have r := chkLine_L56_2_go ky cy er h
  loopin_as rfl (loop_in (l := chkLine_L56_2_A) (E := (chkLine_L56_2_E ky cy er)) (S := stateOf (chkLine_L56_2_gs ky cy er (.next 0 [iD ((0 : Int))]))) (ns := nsOf (chkLine_L56_2_gs ky cy er (.next 0 [iD ((0 : Int))]))) chkLine_L56_2_ok r.1 r.2 (by kernel_rfl) (by kernel_rfl) (by kernel_rfl) (by kernel_rfl))
theorem chkLine_L56_2_in1 (ky : Nat) (cy : List D) (er : Bool)  {es : List D} (h : runR (chkLine_L56_2_S ky cy er) (.next 0 [iD ((0 : Int))]) = some (.out 1 es)) : LoopC (loopAt Try.prog 56 0) (chkLine_L56_2_E ky cy er) 4 noFrame chkLine_x56_2_1 es :=
  have r := chkLine_L56_2_go ky cy er h
  loopin_as rfl (loop_in (l := chkLine_L56_2_A) (E := (chkLine_L56_2_E ky cy er)) (S := stateOf (chkLine_L56_2_gs ky cy er (.next 0 [iD ((0 : Int))]))) (ns := nsOf (chkLine_L56_2_gs ky cy er (.next 0 [iD ((0 : Int))]))) chkLine_L56_2_ok r.1 r.2 (by kernel_rfl) (by kernel_rfl) (by kernel_rfl) (by kernel_rfl))
def chkLine_M (ky : Nat) (cy : List D) (er : Bool) : Option D := pullD (α := Int) (m_38 [iD (ky : Int), iD (1 : Int), iD (10 : Int)]) (fun d => ((D.vi d))) (fun r0 => iD r0) fun r0 => (bindL (runR (chkLine_L56_2_S ky cy er) (.next 0 [iD ((0 : Int))])) fun j ds => (if j = 0 then pullD (some (.tup ds)) (fun _ => ()) (fun _ => .tup []) fun _ => (pullD (α := Int) (m_35 [.list 2 [iD r0, iD (0 : Int)]]) (fun d => ((D.vi d))) (fun r1 => iD r1) fun r1 => (some (iD r1))) else if j = 1 then pullD (α := Int) (some (.tup ds)) (fun d => ((D.vi (D.at d 0)))) (fun l2 => .tup [iD l2]) fun l2 => (pullD (α := Int) (m_35 [.list 2 [iD r0, iD l2]]) (fun d => ((D.vi d))) (fun r3 => iD r3) fun r3 => (some (iD r3))) else none))
theorem chkLine_M_ok (ky : Nat) (cy : List D) (er : Bool) {r : D} (h : chkLine_M ky cy er = some r) : Con 14 [.agg [.list ky cy, .one (.bool er)]] r := by
  unfold chkLine_M at h
  obtain ⟨r0, f1_, h2_⟩ := pullD_elim h
  replace f1_ := m_38_ok f1_
  obtain ⟨j, ds, e3_, h4_⟩ := bindL_elim h2_
  by_cases j5_ : j = 0
  · have h8_ := (if_pos j5_).symm.trans h4_
    clear h4_
    subst j5_
    obtain ⟨⟨⟩, e6_, h9_⟩ := pullD_elim h8_
    clear h8_
    obtain rfl := tup_inj e6_
    have k7_ := chkLine_L56_2_in0 ky cy er e3_
    obtain ⟨r1, f10_, h11_⟩ := pullD_elim h9_
    replace f10_ := m_35_ok f10_
    obtain rfl := Option.some.inj h11_
    exact con_pc (op := true) (I := [14, 39, 56]) (sp := chkLine_sp) 3000 [] [iD r0, .tup [iD (Int.ofNat 0)], iD r1] [c_le 1] [k_c f1_, k_l k7_ [] [.tup [iD (Int.ofNat 0)], iD r1] [iD r1], k_c f10_] (by kernel_rfl)
  have h12_ := (if_neg j5_).symm.trans h4_
  clear h4_
  by_cases j13_ : j = 1
  · have h16_ := (if_pos j13_).symm.trans h12_
    clear h12_
    subst j13_
    obtain ⟨l2, e14_, h17_⟩ := pullD_elim h16_
    clear h16_
    obtain rfl := tup_inj e14_
    have k15_ := chkLine_L56_2_in1 ky cy er e3_
    obtain ⟨r3, f18_, h19_⟩ := pullD_elim h17_
    replace f18_ := m_35_ok f18_
    obtain rfl := Option.some.inj h19_
    exact con_pc (op := true) (I := [14, 39, 56]) (sp := chkLine_sp) 3000 [] [iD r0, .tup [iD (Int.ofNat 1), iD l2], iD r3] [c_le 1] [k_c f1_, k_l k15_ [] [.tup [iD (Int.ofNat 1), iD l2], iD r3] [iD r3], k_c f18_] (by kernel_rfl)
  have h20_ := (if_neg j13_).symm.trans h12_
  clear h12_
  cases h20_
def m_14 (ds : List D) : Option D := pullD (α := Nat × (List D) × Bool) (some (.tup ds)) (fun d => ((D.ln (D.at (D.at d 0) 0)), (D.lc (D.at (D.at d 0) 0)), (D.vb (D.at (D.at d 0) 1)))) (fun (ky, cy, er) => .tup [.agg [.list ky cy, .one (.bool er)]]) fun (ky, cy, er) => chkLine_M ky cy er
theorem m_14_ok {ds : List D} {r : D} (h : m_14 ds = some r) : Con 14 ds r := by
  unfold m_14 at h
  obtain ⟨⟨ky, cy, er⟩, e0, h0⟩ := pullD_elim h
  obtain rfl := tup_inj e0
  exact chkLine_M_ok ky cy er h0
theorem m_14_eq (ky : Nat) (cy : List D) (er : Bool) : m_14 [.agg [.list ky cy, .one (.bool er)]] = chkLine_M ky cy er := pullD_some (ky, cy, er) rfl rfl
def chkState_x56_2_0 : LExit := ⟨some 0, [], (4 :: (6 :: (List.range' 9 13)))⟩
def chkState_x56_2_1 : LExit := ⟨none, [.val 4], (6 :: (List.range' 9 13))⟩
def chkState_sp : List LSpec := [⟨56, 2, [chkState_x56_2_0, chkState_x56_2_1]⟩]
def chkState_L56_2_1_E (ka : Nat) (ca : List D) (kb : Nat) (cb : List D) (n : Int)  : List AV × AHeap := ([.dsl 1, .ptr 3 0, .ptr 4 0, .pure (.tuple #[]), .pure (.int .i64 (0 : Int)), .pure (.tuple #[]), .pure (.tuple #[]), .dsl 1, .pure (.int .i64 (kb : Int)), .pure (.int .i64 (0 : Int)), .pure (.tuple #[]), .pure (.tuple #[]), .pure (.tuple #[]), .pure (.tuple #[]), .pure (.tuple #[]), .pure (.tuple #[]), .pure (.tuple #[]), .pure (.tuple #[]), .pure (.tuple #[]), .pure (.tuple #[]), .pure (.tuple #[]), .pure (.tuple #[])], [(4, { cells := [.pure (.int .i64 (1000000 : Int))], opn := none, kind := .cells }), (3, { cells := [.pure (.int .i64 (-1000000 : Int))], opn := none, kind := .cells }), (2, { cells := [.dsl 0, .dsl 1], opn := none, kind := .cells }), (1, { cells := [], opn := none, kind := .deep kb cb }), (0, { cells := [], opn := none, kind := .deep ka ca })])
def chkState_L56_2_1_A : LoopAt := ⟨56, loopAt Try.prog 56 0, 20, 35, 20, noFrame⟩
theorem chkState_L56_2_1_ok : (chkState_L56_2_1_A).OK := ⟨by show 20 ≤ 35; decide, by show 20 ≤ 20; decide, by kernel_rfl, rfl⟩
def chkState_L56_2_1_gs (ka : Nat) (ca : List D) (kb : Nat) (cb : List D) (n : Int)  : Go.Ev.Rd → Option GS
  | .next 0 ds => ghost [.val 9] (4 :: (6 :: (List.range' 10 12))) (chkState_L56_2_1_E ka ca kb cb n).1 (chkState_L56_2_1_E ka ca kb cb n).2 20 ds
  | .out 0 ds => ghost chkState_x56_2_0.live chkState_x56_2_0.junk (chkState_L56_2_1_E ka ca kb cb n).1 (chkState_L56_2_1_E ka ca kb cb n).2 20 ds
  | .out 1 ds => ghost chkState_x56_2_1.live chkState_x56_2_1.junk (chkState_L56_2_1_E ka ca kb cb n).1 (chkState_L56_2_1_E ka ca kb cb n).2 20 ds
  | _ => none
def chkState_L56_2_1_ex : Nat → Option Nat
  | 0 => chkState_x56_2_0.ex
  | 1 => chkState_x56_2_1.ex
  | _ => none
def chkState_L56_2_1_ax : Go.Ev.Rd → AX
  | .next _ _ => .normal
  | .out j _ => axOf (chkState_L56_2_1_ex j)
def chkState_L56_2_1_S0 (ka : Nat) (ca : List D) (kb : Nat) (cb : List D) (n : Int)  (ds : List D) : Option Go.Ev.Rd := pullD (α := Int) (some (.tup ds)) (fun d => ((D.vi (D.at d 0)))) (fun s9 => .tup [iD s9]) fun s9 => ((if s9 < (kb : Int) then guardP ((0 : Int) ≤ s9 ∧ s9.toNat < kb) (pullD (α := Int) (readD cb (s9.toNat * 1) 1 false) (fun d => ((D.vi d))) (fun v0 => iD v0) fun v0 => ((if v0 < (-1000000 : Int) then some (.out 1 [iD (2 : Int)]) else (if v0 > (1000000 : Int) then some (.out 1 [iD (2 : Int)]) else some (.next 0 [iD (IntKind.i64.wrap (s9 + (1 : Int)))]))))) else some (.out 0 [])))
def chkState_L56_2_1_S (ka : Nat) (ca : List D) (kb : Nat) (cb : List D) (n : Int)  : Go.Ev.Rd → Option Go.Ev.Rd
  | .next 0 ds => chkState_L56_2_1_S0 ka ca kb cb n ds
  | _ => none
theorem chkState_L56_2_1_S_ok (ka : Nat) (ca : List D) (kb : Nat) (cb : List D) (n : Int)  : ∀ s_ t_, chkState_L56_2_1_S ka ca kb cb n s_ = some t_ → Step (ctx [34, 36, 39, 56] chkState_sp) Tabs chkState_L56_2_1_A (stateOf (chkState_L56_2_1_gs ka ca kb cb n s_)) (stateOf (chkState_L56_2_1_gs ka ca kb cb n t_)) (chkState_L56_2_1_ax t_) ∧ EndOK chkState_L56_2_1_A.nx chkState_L56_2_1_A.low (chkState_L56_2_1_gs ka ca kb cb n) t_
  | .next 0 ds, t_, h => by
    have h_ : chkState_L56_2_1_S0 ka ca kb cb n ds = some t_ := h
    clear h
    unfold chkState_L56_2_1_S0 at h_
    obtain ⟨s9, e0, h0⟩ := pullD_elim h_
    clear h_
    obtain rfl := tup_inj e0
    by_cases b1_ : s9 < (kb : Int)
    · have h2_ := (if_pos b1_).symm.trans h0
      obtain ⟨f3_, h4_⟩ := guardP_elim h2_
      obtain ⟨v0, f5_, h6_⟩ := pullD_elim h4_
      replace f5_ := readD_elim f5_
      by_cases b7_ : v0 < (-1000000 : Int)
      · have h8_ := (if_pos b7_).symm.trans h6_
        obtain rfl := Option.some.inj h8_
        exact ⟨step_pc 3000 (bT 6 []) [iD v0] [c_d b1_, c_f f3_, c_f f5_, c_d b7_, c_d b7_, c_d b7_, c_d b7_, c_T] [] _ rfl (by kernel_rfl) (by kernel_rfl) (by kernel_rfl) (by kernel_rfl) (by kernel_rfl) (by kernel_rfl), by kernel_rfl, by kernel_rfl⟩
      have h8_ := (if_neg b7_).symm.trans h6_
      by_cases b9_ : v0 > (1000000 : Int)
      · have h10_ := (if_pos b9_).symm.trans h8_
        obtain rfl := Option.some.inj h10_
        exact ⟨step_pc 3000 (bT 1 (bF 4 (bT 1 []))) [iD v0] [c_d b1_, c_f f3_, c_f f5_, c_n b7_, c_n b7_, c_n b7_, c_n b7_, c_d b9_] [] _ rfl (by kernel_rfl) (by kernel_rfl) (by kernel_rfl) (by kernel_rfl) (by kernel_rfl) (by kernel_rfl), by kernel_rfl, by kernel_rfl⟩
      have h10_ := (if_neg b9_).symm.trans h8_
      obtain rfl := Option.some.inj h10_
      exact ⟨step_pc 3000 (bT 1 (bF 5 [])) [iD v0] [c_d b1_, c_f f3_, c_f f5_, c_n b7_, c_n b7_, c_n b7_, c_n b7_, c_n b9_] [] _ rfl (by kernel_rfl) (by kernel_rfl) (by kernel_rfl) (by kernel_rfl) (by kernel_rfl) (by kernel_rfl), trivial⟩
    have h2_ := (if_neg b1_).symm.trans h0
    obtain rfl := Option.some.inj h2_
    exact ⟨step_pc 3000 (bF 1 []) [] [c_n b1_] [] _ rfl (by kernel_rfl) (by kernel_rfl) (by kernel_rfl) (by kernel_rfl) (by kernel_rfl) (by kernel_rfl), by kernel_rfl, by kernel_rfl⟩
  | .next (_ + 1) _, _, h => by cases h
  | .out _ _, _, h => by cases h
theorem chkState_L56_2_1_go (ka : Nat) (ca : List D) (kb : Nat) (cb : List D) (n : Int)  {q : Nat} {ds : List D} {j : Nat} {es : List D} (h : runR (chkState_L56_2_1_S ka ca kb cb n) (.next q ds) = some (.out j es)) : Runs (ctx [34, 36, 39, 56] chkState_sp) Tabs chkState_L56_2_1_A (stateOf (chkState_L56_2_1_gs ka ca kb cb n (.next q ds))) (stateOf (chkState_L56_2_1_gs ka ca kb cb n (.out j es))) (chkState_L56_2_1_ax (.out j es)) ∧ (nxtOf (chkState_L56_2_1_gs ka ca kb cb n (.out j es)), lowGS (chkState_L56_2_1_gs ka ca kb cb n (.out j es))) = (chkState_L56_2_1_A.nx, chkState_L56_2_1_A.low) :=
  runs_of' (good true _ _) chkState_L56_2_1_ok (ax := chkState_L56_2_1_ax) (fun _ _ => rfl) (fun _ _ => axOf_end _) (chkState_L56_2_1_S_ok ka ca kb cb n) h
theorem chkState_L56_2_1_in0 (ka : Nat) (ca : List D) (kb : Nat) (cb : List D) (n : Int)  {es : List D} (h : runR (chkState_L56_2_1_S ka ca kb cb n) (.next 0 [iD ((0 : Int))]) = some (.out 0 es)) : LoopC (loopAt Try.prog 56 0) (chkState_L56_2_1_E ka ca kb cb n) 20 noFrame chkState_x56_2_0 es :=
  have r := chkState_L56_2_1_go ka ca kb cb n h
  loopin_as rfl (loop_in (l := chkState_L56_2_1_A) (E := (chkState_L56_2_1_E ka ca kb cb n)) (S := stateOf (chkState_L56_2_1_gs ka ca kb cb n (.next 0 [iD ((0 : Int))]))) (ns := nsOf (chkState_L56_2_1_gs ka ca kb cb n (.next 0 [iD ((0 : Int))]))) chkState_L56_2_1_ok r.1 r.2 (by kernel_rfl) (by kernel_rfl) (by kernel_rfl) (by kernel_rfl))
theorem chkState_L56_2_1_in1 (ka : Nat) (ca : List D) (kb : Nat) (cb : List D) (n : Int)  {es : List D} (h : runR (chkState_L56_2_1_S ka ca kb cb n) (.next 0 [iD ((0 : Int))]) = some (.out 1 es)) : LoopC (loopAt Try.prog 56 0) (chkState_L56_2_1_E ka ca kb cb n) 20 noFrame chkState_x56_2_1 es :=
  have r := chkState_L56_2_1_go ka ca kb cb n h
  loopin_as rfl (loop_in (l := chkState_L56_2_1_A) (E := (chkState_L56_2_1_E ka ca kb cb n)) (S := stateOf (chkState_L56_2_1_gs ka ca kb cb n (.next 0 [iD ((0 : Int))]))) (ns := nsOf (chkState_L56_2_1_gs ka ca kb cb n (.next 0 [iD ((0 : Int))]))) chkState_L56_2_1_ok r.1 r.2 (by kernel_rfl) (by kernel_rfl) (by kernel_rfl) (by kernel_rfl))
def chkState_L56_2_E (ka : Nat) (ca : List D) (kb : Nat) (cb : List D) (n : Int)  : List AV × AHeap := ([.dsl 0, .ptr 3 0, .ptr 4 0, .pure (.tuple #[]), .pure (.int .i64 (0 : Int)), .pure (.tuple #[]), .pure (.tuple #[]), .dsl 0, .pure (.int .i64 (ka : Int)), .pure (.int .i64 (0 : Int)), .pure (.tuple #[]), .pure (.tuple #[]), .pure (.tuple #[]), .pure (.tuple #[]), .pure (.tuple #[]), .pure (.tuple #[]), .pure (.tuple #[]), .pure (.tuple #[]), .pure (.tuple #[]), .pure (.tuple #[]), .pure (.tuple #[]), .pure (.tuple #[])], [(4, { cells := [.pure (.int .i64 (1000000 : Int))], opn := none, kind := .cells }), (3, { cells := [.pure (.int .i64 (-1000000 : Int))], opn := none, kind := .cells }), (2, { cells := [.dsl 0, .dsl 1], opn := none, kind := .cells }), (1, { cells := [], opn := none, kind := .deep kb cb }), (0, { cells := [], opn := none, kind := .deep ka ca })])
def chkState_L56_2_A : LoopAt := ⟨56, loopAt Try.prog 56 0, 5, 20, 5, noFrame⟩
theorem chkState_L56_2_ok : (chkState_L56_2_A).OK := ⟨by show 5 ≤ 20; decide, by show 5 ≤ 5; decide, by kernel_rfl, rfl⟩
def chkState_L56_2_gs (ka : Nat) (ca : List D) (kb : Nat) (cb : List D) (n : Int)  : Go.Ev.Rd → Option GS
  | .next 0 ds => ghost [.val 9] (4 :: (6 :: (List.range' 10 12))) (chkState_L56_2_E ka ca kb cb n).1 (chkState_L56_2_E ka ca kb cb n).2 5 ds
  | .out 0 ds => ghost chkState_x56_2_0.live chkState_x56_2_0.junk (chkState_L56_2_E ka ca kb cb n).1 (chkState_L56_2_E ka ca kb cb n).2 5 ds
  | .out 1 ds => ghost chkState_x56_2_1.live chkState_x56_2_1.junk (chkState_L56_2_E ka ca kb cb n).1 (chkState_L56_2_E ka ca kb cb n).2 5 ds
  | _ => none
def chkState_L56_2_ex : Nat → Option Nat
  | 0 => chkState_x56_2_0.ex
  | 1 => chkState_x56_2_1.ex
  | _ => none
def chkState_L56_2_ax : Go.Ev.Rd → AX
  | .next _ _ => .normal
  | .out j _ => axOf (chkState_L56_2_ex j)
def chkState_L56_2_S0 (ka : Nat) (ca : List D) (kb : Nat) (cb : List D) (n : Int)  (ds : List D) : Option Go.Ev.Rd := pullD (α := Int) (some (.tup ds)) (fun d => ((D.vi (D.at d 0)))) (fun s9 => .tup [iD s9]) fun s9 => ((if s9 < (ka : Int) then guardP ((0 : Int) ≤ s9 ∧ s9.toNat < ka) (pullD (α := Int) (readD ca (s9.toNat * 1) 1 false) (fun d => ((D.vi d))) (fun v0 => iD v0) fun v0 => ((if v0 < (-1000000 : Int) then some (.out 1 [iD (2 : Int)]) else (if v0 > (1000000 : Int) then some (.out 1 [iD (2 : Int)]) else some (.next 0 [iD (IntKind.i64.wrap (s9 + (1 : Int)))]))))) else some (.out 0 [])))
def chkState_L56_2_S (ka : Nat) (ca : List D) (kb : Nat) (cb : List D) (n : Int)  : Go.Ev.Rd → Option Go.Ev.Rd
  | .next 0 ds => chkState_L56_2_S0 ka ca kb cb n ds
  | _ => none
theorem chkState_L56_2_S_ok (ka : Nat) (ca : List D) (kb : Nat) (cb : List D) (n : Int)  : ∀ s_ t_, chkState_L56_2_S ka ca kb cb n s_ = some t_ → Step (ctx [34, 36, 39, 56] chkState_sp) Tabs chkState_L56_2_A (stateOf (chkState_L56_2_gs ka ca kb cb n s_)) (stateOf (chkState_L56_2_gs ka ca kb cb n t_)) (chkState_L56_2_ax t_) ∧ EndOK chkState_L56_2_A.nx chkState_L56_2_A.low (chkState_L56_2_gs ka ca kb cb n) t_
  | .next 0 ds, t_, h => by
    have h_ : chkState_L56_2_S0 ka ca kb cb n ds = some t_ := h
    clear h
    unfold chkState_L56_2_S0 at h_
    obtain ⟨s9, e0, h0⟩ := pullD_elim h_
    clear h_
    obtain rfl := tup_inj e0
    by_cases b1_ : s9 < (ka : Int)
    · have h2_ := (if_pos b1_).symm.trans h0
      obtain ⟨f3_, h4_⟩ := guardP_elim h2_
      obtain ⟨v0, f5_, h6_⟩ := pullD_elim h4_
      replace f5_ := readD_elim f5_
      by_cases b7_ : v0 < (-1000000 : Int)
      · have h8_ := (if_pos b7_).symm.trans h6_
        obtain rfl := Option.some.inj h8_
        exact ⟨step_pc 3000 (bT 6 []) [iD v0] [c_d b1_, c_f f3_, c_f f5_, c_d b7_, c_d b7_, c_d b7_, c_d b7_, c_T] [] _ rfl (by kernel_rfl) (by kernel_rfl) (by kernel_rfl) (by kernel_rfl) (by kernel_rfl) (by kernel_rfl), by kernel_rfl, by kernel_rfl⟩
      have h8_ := (if_neg b7_).symm.trans h6_
      by_cases b9_ : v0 > (1000000 : Int)
      · have h10_ := (if_pos b9_).symm.trans h8_
        obtain rfl := Option.some.inj h10_
        exact ⟨step_pc 3000 (bT 1 (bF 4 (bT 1 []))) [iD v0] [c_d b1_, c_f f3_, c_f f5_, c_n b7_, c_n b7_, c_n b7_, c_n b7_, c_d b9_] [] _ rfl (by kernel_rfl) (by kernel_rfl) (by kernel_rfl) (by kernel_rfl) (by kernel_rfl) (by kernel_rfl), by kernel_rfl, by kernel_rfl⟩
      have h10_ := (if_neg b9_).symm.trans h8_
      obtain rfl := Option.some.inj h10_
      exact ⟨step_pc 3000 (bT 1 (bF 5 [])) [iD v0] [c_d b1_, c_f f3_, c_f f5_, c_n b7_, c_n b7_, c_n b7_, c_n b7_, c_n b9_] [] _ rfl (by kernel_rfl) (by kernel_rfl) (by kernel_rfl) (by kernel_rfl) (by kernel_rfl) (by kernel_rfl), trivial⟩
    have h2_ := (if_neg b1_).symm.trans h0
    obtain rfl := Option.some.inj h2_
    exact ⟨step_pc 3000 (bF 1 []) [] [c_n b1_] [] _ rfl (by kernel_rfl) (by kernel_rfl) (by kernel_rfl) (by kernel_rfl) (by kernel_rfl) (by kernel_rfl), by kernel_rfl, by kernel_rfl⟩
  | .next (_ + 1) _, _, h => by cases h
  | .out _ _, _, h => by cases h
theorem chkState_L56_2_go (ka : Nat) (ca : List D) (kb : Nat) (cb : List D) (n : Int)  {q : Nat} {ds : List D} {j : Nat} {es : List D} (h : runR (chkState_L56_2_S ka ca kb cb n) (.next q ds) = some (.out j es)) : Runs (ctx [34, 36, 39, 56] chkState_sp) Tabs chkState_L56_2_A (stateOf (chkState_L56_2_gs ka ca kb cb n (.next q ds))) (stateOf (chkState_L56_2_gs ka ca kb cb n (.out j es))) (chkState_L56_2_ax (.out j es)) ∧ (nxtOf (chkState_L56_2_gs ka ca kb cb n (.out j es)), lowGS (chkState_L56_2_gs ka ca kb cb n (.out j es))) = (chkState_L56_2_A.nx, chkState_L56_2_A.low) :=
  runs_of' (good true _ _) chkState_L56_2_ok (ax := chkState_L56_2_ax) (fun _ _ => rfl) (fun _ _ => axOf_end _) (chkState_L56_2_S_ok ka ca kb cb n) h
theorem chkState_L56_2_in0 (ka : Nat) (ca : List D) (kb : Nat) (cb : List D) (n : Int)  {es : List D} (h : runR (chkState_L56_2_S ka ca kb cb n) (.next 0 [iD ((0 : Int))]) = some (.out 0 es)) : LoopC (loopAt Try.prog 56 0) (chkState_L56_2_E ka ca kb cb n) 5 noFrame chkState_x56_2_0 es :=
  have r := chkState_L56_2_go ka ca kb cb n h
  loopin_as rfl (loop_in (l := chkState_L56_2_A) (E := (chkState_L56_2_E ka ca kb cb n)) (S := stateOf (chkState_L56_2_gs ka ca kb cb n (.next 0 [iD ((0 : Int))]))) (ns := nsOf (chkState_L56_2_gs ka ca kb cb n (.next 0 [iD ((0 : Int))]))) chkState_L56_2_ok r.1 r.2 (by kernel_rfl) (by kernel_rfl) (by kernel_rfl) (by kernel_rfl))
theorem chkState_L56_2_in1 (ka : Nat) (ca : List D) (kb : Nat) (cb : List D) (n : Int)  {es : List D} (h : runR (chkState_L56_2_S ka ca kb cb n) (.next 0 [iD ((0 : Int))]) = some (.out 1 es)) : LoopC (loopAt Try.prog 56 0) (chkState_L56_2_E ka ca kb cb n) 5 noFrame chkState_x56_2_1 es :=
  have r := chkState_L56_2_go ka ca kb cb n h
  loopin_as rfl (loop_in (l := chkState_L56_2_A) (E := (chkState_L56_2_E ka ca kb cb n)) (S := stateOf (chkState_L56_2_gs ka ca kb cb n (.next 0 [iD ((0 : Int))]))) (ns := nsOf (chkState_L56_2_gs ka ca kb cb n (.next 0 [iD ((0 : Int))]))) chkState_L56_2_ok r.1 r.2 (by kernel_rfl) (by kernel_rfl) (by kernel_rfl) (by kernel_rfl))
def chkState_M (ka : Nat) (ca : List D) (kb : Nat) (cb : List D) (n : Int) : Option D := (if (ka : Int) ≠ n then some (iD (10 : Int)) else (if (kb : Int) ≠ n then some (iD (10 : Int)) else bindL (runR (chkState_L56_2_S ka ca kb cb n) (.next 0 [iD ((0 : Int))])) fun j ds => (if j = 0 then pullD (some (.tup ds)) (fun _ => ()) (fun _ => .tup []) fun _ => (bindL (runR (chkState_L56_2_1_S ka ca kb cb n) (.next 0 [iD ((0 : Int))])) fun j ds => (if j = 0 then pullD (some (.tup ds)) (fun _ => ()) (fun _ => .tup []) fun _ => (pullD (α := Int) (m_35 [.list 2 [iD (0 : Int), iD (0 : Int)]]) (fun d => ((D.vi d))) (fun r0 => iD r0) fun r0 => (some (iD r0))) else if j = 1 then pullD (α := Int) (some (.tup ds)) (fun d => ((D.vi (D.at d 0)))) (fun l1 => .tup [iD l1]) fun l1 => (pullD (α := Int) (m_35 [.list 2 [iD (0 : Int), iD l1]]) (fun d => ((D.vi d))) (fun r2 => iD r2) fun r2 => (some (iD r2))) else none)) else if j = 1 then pullD (α := Int) (some (.tup ds)) (fun d => ((D.vi (D.at d 0)))) (fun l3 => .tup [iD l3]) fun l3 => (bindL (runR (chkState_L56_2_1_S ka ca kb cb n) (.next 0 [iD ((0 : Int))])) fun j ds => (if j = 0 then pullD (some (.tup ds)) (fun _ => ()) (fun _ => .tup []) fun _ => (pullD (α := Int) (m_35 [.list 2 [iD l3, iD (0 : Int)]]) (fun d => ((D.vi d))) (fun r4 => iD r4) fun r4 => (some (iD r4))) else if j = 1 then pullD (α := Int) (some (.tup ds)) (fun d => ((D.vi (D.at d 0)))) (fun l5 => .tup [iD l5]) fun l5 => (pullD (α := Int) (m_35 [.list 2 [iD l3, iD l5]]) (fun d => ((D.vi d))) (fun r6 => iD r6) fun r6 => (some (iD r6))) else none)) else none)))
theorem chkState_M_ok (ka : Nat) (ca : List D) (kb : Nat) (cb : List D) (n : Int) {r : D} (h : chkState_M ka ca kb cb n = some r) : Con 34 [.agg [.list ka ca, .list kb cb], iD n] r := by
  unfold chkState_M at h
  by_cases b1_ : (ka : Int) ≠ n
  · have h2_ := (if_pos b1_).symm.trans h
    obtain rfl := Option.some.inj h2_
    exact con_pc (op := true) (I := [34, 36, 39, 56]) (sp := chkState_sp) 3000 (bT 7 []) [] [c_b b1_, c_b b1_, c_b b1_, c_b b1_, c_b b1_, c_b b1_, c_T] [] (by kernel_rfl)
  have h2_ := (if_neg b1_).symm.trans h
  have b3_ : (ka : Int) = n := by first | exact b1_ | simpa using b1_
  by_cases b4_ : (kb : Int) ≠ n
  · have h5_ := (if_pos b4_).symm.trans h2_
    obtain rfl := Option.some.inj h5_
    exact con_pc (op := true) (I := [34, 36, 39, 56]) (sp := chkState_sp) 3000 (bF 6 (bT 1 [])) [] [c_bn b3_, c_bn b3_, c_bn b3_, c_bn b3_, c_bn b3_, c_bn b3_, c_b b4_] [] (by kernel_rfl)
  have h5_ := (if_neg b4_).symm.trans h2_
  have b6_ : (kb : Int) = n := by first | exact b4_ | simpa using b4_
  obtain ⟨j, ds, e7_, h8_⟩ := bindL_elim h5_
  by_cases j9_ : j = 0
  · have h12_ := (if_pos j9_).symm.trans h8_
    clear h8_
    subst j9_
    obtain ⟨⟨⟩, e10_, h13_⟩ := pullD_elim h12_
    clear h12_
    obtain rfl := tup_inj e10_
    have k11_ := chkState_L56_2_in0 ka ca kb cb n e7_
    obtain ⟨j, ds, e14_, h15_⟩ := bindL_elim h13_
    by_cases j16_ : j = 0
    · have h19_ := (if_pos j16_).symm.trans h15_
      clear h15_
      subst j16_
      obtain ⟨⟨⟩, e17_, h20_⟩ := pullD_elim h19_
      clear h19_
      obtain rfl := tup_inj e17_
      have k18_ := chkState_L56_2_1_in0 ka ca kb cb n e14_
      obtain ⟨r0, f21_, h22_⟩ := pullD_elim h20_
      replace f21_ := m_35_ok f21_
      obtain rfl := Option.some.inj h22_
      exact con_pc (op := true) (I := [34, 36, 39, 56]) (sp := chkState_sp) 3000 (bF 7 []) [.tup [iD (Int.ofNat 0)], .tup [iD (Int.ofNat 0)], iD r0] [c_bn b3_, c_bn b3_, c_bn b3_, c_bn b3_, c_bn b3_, c_bn b3_, c_bn b6_, c_le 1] [k_l k11_ [] [.tup [iD (Int.ofNat 0)], .tup [iD (Int.ofNat 0)], iD r0] [.tup [iD (Int.ofNat 0)], iD r0], k_l k18_ [] [.tup [iD (Int.ofNat 0)], iD r0] [iD r0], k_c f21_] (by kernel_rfl)
    have h23_ := (if_neg j16_).symm.trans h15_
    clear h15_
    by_cases j24_ : j = 1
    · have h27_ := (if_pos j24_).symm.trans h23_
      clear h23_
      subst j24_
      obtain ⟨l1, e25_, h28_⟩ := pullD_elim h27_
      clear h27_
      obtain rfl := tup_inj e25_
      have k26_ := chkState_L56_2_1_in1 ka ca kb cb n e14_
      obtain ⟨r2, f29_, h30_⟩ := pullD_elim h28_
      replace f29_ := m_35_ok f29_
      obtain rfl := Option.some.inj h30_
      exact con_pc (op := true) (I := [34, 36, 39, 56]) (sp := chkState_sp) 3000 (bF 7 []) [.tup [iD (Int.ofNat 0)], .tup [iD (Int.ofNat 1), iD l1], iD r2] [c_bn b3_, c_bn b3_, c_bn b3_, c_bn b3_, c_bn b3_, c_bn b3_, c_bn b6_, c_le 1] [k_l k11_ [] [.tup [iD (Int.ofNat 0)], .tup [iD (Int.ofNat 1), iD l1], iD r2] [.tup [iD (Int.ofNat 1), iD l1], iD r2], k_l k26_ [] [.tup [iD (Int.ofNat 1), iD l1], iD r2] [iD r2], k_c f29_] (by kernel_rfl)
    have h31_ := (if_neg j24_).symm.trans h23_
    clear h23_
    cases h31_
  have h32_ := (if_neg j9_).symm.trans h8_
  clear h8_
  by_cases j33_ : j = 1
  · have h36_ := (if_pos j33_).symm.trans h32_
    clear h32_
    subst j33_
    obtain ⟨l3, e34_, h37_⟩ := pullD_elim h36_
    clear h36_
    obtain rfl := tup_inj e34_
    have k35_ := chkState_L56_2_in1 ka ca kb cb n e7_
    obtain ⟨j, ds, e38_, h39_⟩ := bindL_elim h37_
    by_cases j40_ : j = 0
    · have h43_ := (if_pos j40_).symm.trans h39_
      clear h39_
      subst j40_
      obtain ⟨⟨⟩, e41_, h44_⟩ := pullD_elim h43_
      clear h43_
      obtain rfl := tup_inj e41_
      have k42_ := chkState_L56_2_1_in0 ka ca kb cb n e38_
      obtain ⟨r4, f45_, h46_⟩ := pullD_elim h44_
      replace f45_ := m_35_ok f45_
      obtain rfl := Option.some.inj h46_
      exact con_pc (op := true) (I := [34, 36, 39, 56]) (sp := chkState_sp) 3000 (bF 7 []) [.tup [iD (Int.ofNat 1), iD l3], .tup [iD (Int.ofNat 0)], iD r4] [c_bn b3_, c_bn b3_, c_bn b3_, c_bn b3_, c_bn b3_, c_bn b3_, c_bn b6_, c_le 1] [k_l k35_ [] [.tup [iD (Int.ofNat 1), iD l3], .tup [iD (Int.ofNat 0)], iD r4] [.tup [iD (Int.ofNat 0)], iD r4], k_l k42_ [] [.tup [iD (Int.ofNat 0)], iD r4] [iD r4], k_c f45_] (by kernel_rfl)
    have h47_ := (if_neg j40_).symm.trans h39_
    clear h39_
    by_cases j48_ : j = 1
    · have h51_ := (if_pos j48_).symm.trans h47_
      clear h47_
      subst j48_
      obtain ⟨l5, e49_, h52_⟩ := pullD_elim h51_
      clear h51_
      obtain rfl := tup_inj e49_
      have k50_ := chkState_L56_2_1_in1 ka ca kb cb n e38_
      obtain ⟨r6, f53_, h54_⟩ := pullD_elim h52_
      replace f53_ := m_35_ok f53_
      obtain rfl := Option.some.inj h54_
      exact con_pc (op := true) (I := [34, 36, 39, 56]) (sp := chkState_sp) 3000 (bF 7 []) [.tup [iD (Int.ofNat 1), iD l3], .tup [iD (Int.ofNat 1), iD l5], iD r6] [c_bn b3_, c_bn b3_, c_bn b3_, c_bn b3_, c_bn b3_, c_bn b3_, c_bn b6_, c_le 1] [k_l k35_ [] [.tup [iD (Int.ofNat 1), iD l3], .tup [iD (Int.ofNat 1), iD l5], iD r6] [.tup [iD (Int.ofNat 1), iD l5], iD r6], k_l k50_ [] [.tup [iD (Int.ofNat 1), iD l5], iD r6] [iD r6], k_c f53_] (by kernel_rfl)
    have h55_ := (if_neg j48_).symm.trans h47_
    clear h47_
    cases h55_
  have h56_ := (if_neg j33_).symm.trans h32_
  clear h32_
  cases h56_
def m_34 (ds : List D) : Option D := pullD (α := Nat × (List D) × Nat × (List D) × Int) (some (.tup ds)) (fun d => ((D.ln (D.at (D.at d 0) 0)), (D.lc (D.at (D.at d 0) 0)), (D.ln (D.at (D.at d 0) 1)), (D.lc (D.at (D.at d 0) 1)), (D.vi (D.at d 1)))) (fun (ka, ca, kb, cb, n) => .tup [.agg [.list ka ca, .list kb cb], iD n]) fun (ka, ca, kb, cb, n) => chkState_M ka ca kb cb n
theorem m_34_ok {ds : List D} {r : D} (h : m_34 ds = some r) : Con 34 ds r := by
  unfold m_34 at h
  obtain ⟨⟨ka, ca, kb, cb, n⟩, e0, h0⟩ := pullD_elim h
  obtain rfl := tup_inj e0
  exact chkState_M_ok ka ca kb cb n h0
theorem m_34_eq (ka : Nat) (ca : List D) (kb : Nat) (cb : List D) (n : Int) : m_34 [.agg [.list ka ca, .list kb cb], iD n] = chkState_M ka ca kb cb n := pullD_some (ka, ca, kb, cb, n) rfl rfl
def reflected_sp : List LSpec := []
def reflected_M (ky : Nat) (cy : List D) (er : Bool) (n : Int) : Option D := (if (er) = true then some (iD (IntKind.i64.wrap ((0 : Int) - n))) else some (iD n))
theorem reflected_M_ok (ky : Nat) (cy : List D) (er : Bool) (n : Int) {r : D} (h : reflected_M ky cy er n = some r) : Con 55 [.agg [.list ky cy, .one (.bool er)], iD n] r := by
  unfold reflected_M at h
  by_cases b1_ : (er) = true
  · have h2_ := (if_pos b1_).symm.trans h
    obtain rfl := Option.some.inj h2_
    exact con_pc (op := true) (I := [55]) (sp := reflected_sp) 3000 (bT 1 []) [] [c_q b1_] [] (by kernel_rfl)
  have h2_ := (if_neg b1_).symm.trans h
  have b3_ : (er) = false := by first | exact b1_ | simpa using b1_
  obtain rfl := Option.some.inj h2_
  exact con_pc (op := true) (I := [55]) (sp := reflected_sp) 3000 (bF 1 []) [] [c_q b3_] [] (by kernel_rfl)
def m_55 (ds : List D) : Option D := pullD (α := Nat × (List D) × Bool × Int) (some (.tup ds)) (fun d => ((D.ln (D.at (D.at d 0) 0)), (D.lc (D.at (D.at d 0) 0)), (D.vb (D.at (D.at d 0) 1)), (D.vi (D.at d 1)))) (fun (ky, cy, er, n) => .tup [.agg [.list ky cy, .one (.bool er)], iD n]) fun (ky, cy, er, n) => reflected_M ky cy er n
theorem m_55_ok {ds : List D} {r : D} (h : m_55 ds = some r) : Con 55 ds r := by
  unfold m_55 at h
  obtain ⟨⟨ky, cy, er, n⟩, e0, h0⟩ := pullD_elim h
  obtain rfl := tup_inj e0
  exact reflected_M_ok ky cy er n h0
theorem m_55_eq (ky : Nat) (cy : List D) (er : Bool) (n : Int) : m_55 [.agg [.list ky cy, .one (.bool er)], iD n] = reflected_M ky cy er n := pullD_some (ky, cy, er, n) rfl rfl
def after_x7_0 : LExit := ⟨some 0, [.grow 13 1, .cmade 12 0, .cmade 12 1], (14 :: (15 :: (List.range' 39 109)))⟩
def after_sp : List LSpec := [⟨37, 7, [after_x7_0]⟩]
def after_L7_E (ky : Nat) (cy : List D) (er : Bool) (ka : Nat) (ca : List D) (kb : Nat) (cb : List D) (src : Int) (x0 : Int) : List AV × AHeap := ([.agg [.dsl 0, .pure (.bool er)], .agg [.dsl 1, .dsl 2], .pure (.int .i64 src), .ptr 3 0, .ptr 4 0, .pure (.tuple #[]), .ptr 5 0, .pure (.slice none 0 0), .dsl 0, .dsl 1, .dsl 2, .pure (.int .i64 (IntKind.i64.wrap ((ky : Int) - (1 : Int)))), .ptr 9 0, .bslx 11 0 1 0, .pure (.tuple #[]), .pure (.tuple #[]), .ptr 3 0, .dsl 0, .ptr 4 0, .dsl 1, .ptr 4 1, .dsl 2, .dsl 0, .pure (.int .i64 (ky : Int)), .pure (.int .i64 (IntKind.i64.wrap ((ky : Int) - (1 : Int)))), .dsl 0, .pure (.int .i64 (ky : Int)), .agg [.bsl 7 0 ((ky : Int)).toNat ((ky : Int)).toNat, .bsl 8 0 ((ky : Int)).toNat ((ky : Int)).toNat], .ptr 9 0, .bsl 7 0 ((ky : Int)).toNat ((ky : Int)).toNat, .pure (.int .i64 src), .dsl 2, .dptr 2 0, .pure (.int .i64 x0), .pure (.int .i64 (IntKind.i64.wrap (src - x0))), .bptr 7 0, .pure (.int .i64 src), .bslx 11 0 1 0, .pure (.int .i64 (IntKind.i64.wrap ((ky : Int) - (1 : Int)))), .pure (.int .i64 (0 : Int)), .pure (.tuple #[]), .pure (.tuple #[]), .pure (.tuple #[]), .pure (.tuple #[]), .pure (.tuple #[]), .pure (.tuple #[]), .pure (.tuple #[]), .pure (.tuple #[]), .pure (.tuple #[]), .pure (.tuple #[]), .pure (.tuple #[]), .pure (.tuple #[]), .pure (.tuple #[]), .pure (.tuple #[]), .pure (.tuple #[]), .pure (.tuple #[]), .pure (.tuple #[]), .pure (.tuple #[]), .pure (.tuple #[]), .pure (.tuple #[]), .pure (.tuple #[]), .pure (.tuple #[]), .pure (.tuple #[]), .pure (.tuple #[]), .pure (.tuple #[]), .pure (.tuple #[]), .pure (.tuple #[]), .pure (.tuple #[]), .pure (.tuple #[]), .pure (.tuple #[]), .pure (.tuple #[]), .pure (.tuple #[]), .pure (.tuple #[]), .pure (.tuple #[]), .pure (.tuple #[]), .pure (.tuple #[]), .pure (.tuple #[]), .pure (.tuple #[]), .pure (.tuple #[]), .pure (.tuple #[]), .pure (.tuple #[]), .pure (.tuple #[]), .pure (.tuple #[]), .pure (.tuple #[]), .pure (.tuple #[]), .pure (.tuple #[]), .pure (.tuple #[]), .pure (.tuple #[]), .pure (.tuple #[]), .pure (.tuple #[]), .pure (.tuple #[]), .pure (.tuple #[]), .pure (.tuple #[]), .pure (.tuple #[]), .pure (.tuple #[]), .pure (.tuple #[]), .pure (.tuple #[]), .pure (.tuple #[]), .pure (.tuple #[]), .pure (.tuple #[]), .pure (.tuple #[]), .pure (.tuple #[]), .pure (.tuple #[]), .pure (.tuple #[]), .pure (.tuple #[]), .pure (.tuple #[]), .pure (.tuple #[]), .pure (.tuple #[]), .pure (.tuple #[]), .pure (.tuple #[]), .pure (.tuple #[]), .pure (.tuple #[]), .pure (.tuple #[]), .pure (.tuple #[]), .pure (.tuple #[]), .pure (.tuple #[]), .pure (.tuple #[]), .pure (.tuple #[]), .pure (.tuple #[]), .pure (.tuple #[]), .pure (.tuple #[]), .pure (.tuple #[]), .pure (.tuple #[]), .pure (.tuple #[]), .pure (.tuple #[]), .pure (.tuple #[]), .pure (.tuple #[]), .pure (.tuple #[]), .pure (.tuple #[]), .pure (.tuple #[]), .pure (.tuple #[]), .pure (.tuple #[]), .pure (.tuple #[]), .pure (.tuple #[]), .pure (.tuple #[]), .pure (.tuple #[]), .pure (.tuple #[]), .pure (.tuple #[]), .pure (.tuple #[]), .pure (.tuple #[]), .pure (.tuple #[]), .pure (.tuple #[]), .pure (.tuple #[]), .pure (.tuple #[]), .pure (.tuple #[]), .pure (.tuple #[]), .pure (.tuple #[]), .pure (.tuple #[]), .pure (.tuple #[]), .pure (.tuple #[]), .pure (.tuple #[]), .pure (.tuple #[]), .pure (.tuple #[]), .pure (.tuple #[]), .pure (.tuple #[]), .pure (.tuple #[]), .pure (.tuple #[]), .pure (.tuple #[]), .pure (.tuple #[]), .pure (.tuple #[]), .pure (.tuple #[]), .pure (.tuple #[]), .pure (.tuple #[]), .pure (.tuple #[]), .pure (.tuple #[]), .pure (.tuple #[]), .pure (.tuple #[]), .pure (.tuple #[]), .pure (.tuple #[]), .pure (.tuple #[]), .pure (.tuple #[]), .pure (.tuple #[])], [(11, { cells := [], opn := some 1, kind := .big [iD src] }), (9, { cells := [.bsl 7 0 ((ky : Int)).toNat ((ky : Int)).toNat, .bsl 8 0 ((ky : Int)).toNat ((ky : Int)).toNat], opn := none, kind := .cells }), (7, { cells := [], opn := none, kind := .big (iD (IntKind.i64.wrap (src - x0)) :: (List.drop 1 (manyZeros (Value.int .i64 (0 : Int)).cells.toList ((ky : Int)).toNat))) }), (8, { cells := [], opn := none, kind := .big (List.map dCell (List.replicate ((ky : Int)).toNat (Value.int .i64 (0 : Int)).cells.toList).flatten) }), (6, { cells := [.bsl 7 0 ((ky : Int)).toNat ((ky : Int)).toNat, .bsl 8 0 ((ky : Int)).toNat ((ky : Int)).toNat], opn := none, kind := .cells }), (5, { cells := [.pure (.slice none 0 0), .pure (.slice none 0 0)], opn := none, kind := .cells }), (4, { cells := [.dsl 1, .dsl 2], opn := none, kind := .cells }), (3, { cells := [.dsl 0, .pure (.bool er)], opn := none, kind := .cells }), (2, { cells := [], opn := none, kind := .deep kb cb }), (1, { cells := [], opn := none, kind := .deep ka ca }), (0, { cells := [], opn := none, kind := .deep ky cy })])
def after_L7_A : LoopAt := ⟨37, loopAt Try.prog 37 0, 12, 126, 7, noFrame⟩
theorem after_L7_ok : (after_L7_A).OK := ⟨by show 12 ≤ 126; decide, by show 7 ≤ 12; decide, by kernel_rfl, rfl⟩
def after_L7_gs (ky : Nat) (cy : List D) (er : Bool) (ka : Nat) (ca : List D) (kb : Nat) (cb : List D) (src : Int) (x0 : Int) : Go.Ev.Rd → Option GS
  | .next 0 ds => ghost [.grow 13 1, .val 39, .cmade 12 0, .cmade 12 1] (14 :: (15 :: (List.range' 40 108))) (after_L7_E ky cy er ka ca kb cb src x0).1 (after_L7_E ky cy er ka ca kb cb src x0).2 12 ds
  | .out 0 ds => ghost after_x7_0.live after_x7_0.junk (after_L7_E ky cy er ka ca kb cb src x0).1 (after_L7_E ky cy er ka ca kb cb src x0).2 12 ds
  | _ => none
def after_L7_ex : Nat → Option Nat
  | 0 => after_x7_0.ex
  | _ => none
def after_L7_ax : Go.Ev.Rd → AX
  | .next _ _ => .normal
  | .out j _ => axOf (after_L7_ex j)
def after_L7_S0 (ky : Nat) (cy : List D) (er : Bool) (ka : Nat) (ca : List D) (kb : Nat) (cb : List D) (src : Int) (x0 : Int) (ds : List D) : Option Go.Ev.Rd := pullD (α := Nat × (List D) × Int × Nat × (List D) × Nat × (List D)) (some (.tup ds)) (fun d => ((D.ln (D.at d 0)), (D.lc (D.at d 0)), (D.vi (D.at d 1)), (D.ln (D.at d 2)), (D.lc (D.at d 2)), (D.ln (D.at d 3)), (D.lc (D.at d 3)))) (fun (s13n, s13c, s39, s12_0n, s12_0c, s12_1n, s12_1c) => .tup [.list s13n s13c, iD s39, .list s12_0n s12_0c, .list s12_1n s12_1c]) fun (s13n, s13c, s39, s12_0n, s12_0c, s12_1n, s12_1c) => ((if s39 < IntKind.i64.wrap ((ky : Int) - (1 : Int)) then guardP ((0 : Int) ≤ s39 ∧ s39.toNat < ky) (pullD (α := Int) (readD cy (s39.toNat * 1) 1 false) (fun d => ((D.vi d))) (fun v0 => iD v0) fun v0 => (guardP ((0 : Int) ≤ IntKind.i64.wrap (s39 + (1 : Int)) ∧ (IntKind.i64.wrap (s39 + (1 : Int))).toNat < ky) (pullD (α := Int) (readD cy ((IntKind.i64.wrap (s39 + (1 : Int))).toNat * 1) 1 false) (fun d => ((D.vi d))) (fun v1 => iD v1) fun v1 => (guardP ((0 : Int) ≤ s39 ∧ s39.toNat < ka) (pullD (α := Int) (readD ca (s39.toNat * 1) 1 false) (fun d => ((D.vi d))) (fun v2 => iD v2) fun v2 => (pullD (α := Int) (readD cy (s39.toNat * 1) 1 false) (fun d => ((D.vi d))) (fun v3 => iD v3) fun v3 => (pullD (α := Int) (readD cy ((IntKind.i64.wrap (s39 + (1 : Int))).toNat * 1) 1 false) (fun d => ((D.vi d))) (fun v4 => iD v4) fun v4 => (guardP ((0 : Int) ≤ IntKind.i64.wrap (s39 + (1 : Int)) ∧ (IntKind.i64.wrap (s39 + (1 : Int))).toNat < kb) (pullD (α := Int) (readD cb ((IntKind.i64.wrap (s39 + (1 : Int))).toNat * 1) 1 false) (fun d => ((D.vi d))) (fun v5 => iD v5) fun v5 => (pullD (α := Int) (readD cy ((IntKind.i64.wrap (s39 + (1 : Int))).toNat * 1) 1 false) (fun d => ((D.vi d))) (fun v6 => iD v6) fun v6 => (guardP (IntKind.i64.wrap (v0 + v1) ≠ (0 : Int)) (guardP ((0 : Int) ≤ s39 ∧ s39.toNat < ((ky : Int)).toNat) (guardP (0 + s39.toNat * 1 + 1 ≤ s12_1c.length ∧ ∀ (u : D), u ∈ [dCell (.int .i64 (IntKind.i64.wrap ((IntKind.i64.wrap (IntKind.i64.wrap (v2 * IntKind.i64.wrap (v3 - v4)) + IntKind.i64.wrap (IntKind.i64.wrap ((2 : Int) * v5) * v6))).tdiv (IntKind.i64.wrap (v0 + v1)))))] → cellD u) (pullD (α := Int) (readD cb ((IntKind.i64.wrap (s39 + (1 : Int))).toNat * 1) 1 false) (fun d => ((D.vi d))) (fun v7 => iD v7) fun v7 => (pullD (α := Int) (readD cy ((IntKind.i64.wrap (s39 + (1 : Int))).toNat * 1) 1 false) (fun d => ((D.vi d))) (fun v8 => iD v8) fun v8 => (pullD (α := Int) (readD cy (s39.toNat * 1) 1 false) (fun d => ((D.vi d))) (fun v9 => iD v9) fun v9 => (pullD (α := Int) (readD ca (s39.toNat * 1) 1 false) (fun d => ((D.vi d))) (fun v10 => iD v10) fun v10 => (pullD (α := Int) (readD cy (s39.toNat * 1) 1 false) (fun d => ((D.vi d))) (fun v11 => iD v11) fun v11 => (guardP ((0 : Int) ≤ IntKind.i64.wrap (s39 + (1 : Int)) ∧ (IntKind.i64.wrap (s39 + (1 : Int))).toNat < ((ky : Int)).toNat) (guardP (0 + (IntKind.i64.wrap (s39 + (1 : Int))).toNat * 1 + 1 ≤ s12_0c.length ∧ ∀ (u : D), u ∈ [dCell (.int .i64 (IntKind.i64.wrap ((IntKind.i64.wrap (IntKind.i64.wrap (v7 * IntKind.i64.wrap (v8 - v9)) + IntKind.i64.wrap (IntKind.i64.wrap ((2 : Int) * v10) * v11))).tdiv (IntKind.i64.wrap (v0 + v1)))))] → cellD u) (pullD (α := Int) (readD ca (s39.toNat * 1) 1 false) (fun d => ((D.vi d))) (fun v12 => iD v12) fun v12 => (pullD (α := Int) (readD cy (s39.toNat * 1) 1 false) (fun d => ((D.vi d))) (fun v13 => iD v13) fun v13 => (pullD (α := Int) (readD cb ((IntKind.i64.wrap (s39 + (1 : Int))).toNat * 1) 1 false) (fun d => ((D.vi d))) (fun v14 => iD v14) fun v14 => (pullD (α := Int) (readD cy ((IntKind.i64.wrap (s39 + (1 : Int))).toNat * 1) 1 false) (fun d => ((D.vi d))) (fun v15 => iD v15) fun v15 => (guardP ((∀ (u : D), u ∈ [dCell (.int .i64 (IntKind.i64.wrap ((IntKind.i64.wrap ((2 : Int) * IntKind.i64.wrap (IntKind.i64.wrap (v12 * v13) + IntKind.i64.wrap (v14 * v15)))).tdiv (IntKind.i64.wrap (v0 + v1)))))] → cellD u) ∧ s13n * 1 ≤ s13c.length ∧ (s13n + (0 + 1)) * 8 ≤ 140737488355328 ∧ s13n + (0 + 1) ≤ 4611686018427387904) (some (.next 0 [.list (s13n + (0 + 1)) (List.append (List.take (s13n * 1) s13c) [dCell (.int .i64 (IntKind.i64.wrap ((IntKind.i64.wrap ((2 : Int) * IntKind.i64.wrap (IntKind.i64.wrap (v12 * v13) + IntKind.i64.wrap (v14 * v15)))).tdiv (IntKind.i64.wrap (v0 + v1)))))]), iD (IntKind.i64.wrap (s39 + (1 : Int))), .list ((ky : Int)).toNat (List.append (List.take (0 + (IntKind.i64.wrap (s39 + (1 : Int))).toNat * 1) s12_0c ++ [dCell (.int .i64 (IntKind.i64.wrap ((IntKind.i64.wrap (IntKind.i64.wrap (v7 * IntKind.i64.wrap (v8 - v9)) + IntKind.i64.wrap (IntKind.i64.wrap ((2 : Int) * v10) * v11))).tdiv (IntKind.i64.wrap (v0 + v1)))))]) (List.drop (0 + (IntKind.i64.wrap (s39 + (1 : Int))).toNat * 1 + [dCell (.int .i64 (IntKind.i64.wrap ((IntKind.i64.wrap (IntKind.i64.wrap (v7 * IntKind.i64.wrap (v8 - v9)) + IntKind.i64.wrap (IntKind.i64.wrap ((2 : Int) * v10) * v11))).tdiv (IntKind.i64.wrap (v0 + v1)))))].length) s12_0c)), .list ((ky : Int)).toNat (List.append (List.take (0 + s39.toNat * 1) s12_1c ++ [dCell (.int .i64 (IntKind.i64.wrap ((IntKind.i64.wrap (IntKind.i64.wrap (v2 * IntKind.i64.wrap (v3 - v4)) + IntKind.i64.wrap (IntKind.i64.wrap ((2 : Int) * v5) * v6))).tdiv (IntKind.i64.wrap (v0 + v1)))))]) (List.drop (0 + s39.toNat * 1 + [dCell (.int .i64 (IntKind.i64.wrap ((IntKind.i64.wrap (IntKind.i64.wrap (v2 * IntKind.i64.wrap (v3 - v4)) + IntKind.i64.wrap (IntKind.i64.wrap ((2 : Int) * v5) * v6))).tdiv (IntKind.i64.wrap (v0 + v1)))))].length) s12_1c))]))))))))))))))))))))))))))) else some (.out 0 [.list s13n s13c, .list ((ky : Int)).toNat s12_0c, .list ((ky : Int)).toNat s12_1c])))
def after_L7_S (ky : Nat) (cy : List D) (er : Bool) (ka : Nat) (ca : List D) (kb : Nat) (cb : List D) (src : Int) (x0 : Int) : Go.Ev.Rd → Option Go.Ev.Rd
  | .next 0 ds => after_L7_S0 ky cy er ka ca kb cb src x0 ds
  | _ => none
theorem after_L7_S_ok (ky : Nat) (cy : List D) (er : Bool) (ka : Nat) (ca : List D) (kb : Nat) (cb : List D) (src : Int) (x0 : Int) : ∀ s_ t_, after_L7_S ky cy er ka ca kb cb src x0 s_ = some t_ → Step (ctx [37, 33] after_sp) Tabs after_L7_A (stateOf (after_L7_gs ky cy er ka ca kb cb src x0 s_)) (stateOf (after_L7_gs ky cy er ka ca kb cb src x0 t_)) (after_L7_ax t_) ∧ EndOK after_L7_A.nx after_L7_A.low (after_L7_gs ky cy er ka ca kb cb src x0) t_
  | .next 0 ds, t_, h => by
    have h_ : after_L7_S0 ky cy er ka ca kb cb src x0 ds = some t_ := h
    clear h
    unfold after_L7_S0 at h_
    obtain ⟨⟨s13n, s13c, s39, s12_0n, s12_0c, s12_1n, s12_1c⟩, e0, h0⟩ := pullD_elim h_
    clear h_
    obtain rfl := tup_inj e0
    by_cases b1_ : s39 < IntKind.i64.wrap ((ky : Int) - (1 : Int))
    · have h2_ := (if_pos b1_).symm.trans h0
      obtain ⟨f3_, h4_⟩ := guardP_elim h2_
      obtain ⟨v0, f5_, h6_⟩ := pullD_elim h4_
      replace f5_ := readD_elim f5_
      obtain ⟨f7_, h8_⟩ := guardP_elim h6_
      obtain ⟨v1, f9_, h10_⟩ := pullD_elim h8_
      replace f9_ := readD_elim f9_
      obtain ⟨f11_, h12_⟩ := guardP_elim h10_
      obtain ⟨v2, f13_, h14_⟩ := pullD_elim h12_
      replace f13_ := readD_elim f13_
      obtain ⟨v3, f15_, h16_⟩ := pullD_elim h14_
      replace f15_ := readD_elim f15_
      obtain ⟨v4, f17_, h18_⟩ := pullD_elim h16_
      replace f17_ := readD_elim f17_
      obtain ⟨f19_, h20_⟩ := guardP_elim h18_
      obtain ⟨v5, f21_, h22_⟩ := pullD_elim h20_
      replace f21_ := readD_elim f21_
      obtain ⟨v6, f23_, h24_⟩ := pullD_elim h22_
      replace f23_ := readD_elim f23_
      obtain ⟨f25_, h26_⟩ := guardP_elim h24_
      obtain ⟨f27_, h28_⟩ := guardP_elim h26_
      obtain ⟨f29_, h30_⟩ := guardP_elim h28_
      obtain ⟨v7, f31_, h32_⟩ := pullD_elim h30_
      replace f31_ := readD_elim f31_
      obtain ⟨v8, f33_, h34_⟩ := pullD_elim h32_
      replace f33_ := readD_elim f33_
      obtain ⟨v9, f35_, h36_⟩ := pullD_elim h34_
      replace f35_ := readD_elim f35_
      obtain ⟨v10, f37_, h38_⟩ := pullD_elim h36_
      replace f37_ := readD_elim f37_
      obtain ⟨v11, f39_, h40_⟩ := pullD_elim h38_
      replace f39_ := readD_elim f39_
      obtain ⟨f41_, h42_⟩ := guardP_elim h40_
      obtain ⟨f43_, h44_⟩ := guardP_elim h42_
      obtain ⟨v12, f45_, h46_⟩ := pullD_elim h44_
      replace f45_ := readD_elim f45_
      obtain ⟨v13, f47_, h48_⟩ := pullD_elim h46_
      replace f47_ := readD_elim f47_
      obtain ⟨v14, f49_, h50_⟩ := pullD_elim h48_
      replace f49_ := readD_elim f49_
      obtain ⟨v15, f51_, h52_⟩ := pullD_elim h50_
      replace f51_ := readD_elim f51_
      obtain ⟨f53_, h54_⟩ := guardP_elim h52_
      obtain rfl := Option.some.inj h54_
      exact ⟨step_pc 3000 (bT 1 []) [iD v0, iD v1, iD v2, iD v3, iD v4, iD v5, iD v6, iD v7, iD v8, iD v9, iD v10, iD v11, iD v12, iD v13, iD v14, iD v15] [c_d b1_, c_f f3_, c_f f5_, c_f f7_, c_f f9_, c_f f11_, c_f f13_, c_f f3_, c_f f15_, c_f f7_, c_f f17_, c_f f19_, c_f f21_, c_f f7_, c_f f23_, c_en f25_, c_f f27_, c_f f29_, c_f f19_, c_f f31_, c_f f7_, c_f f33_, c_f f3_, c_f f35_, c_f f11_, c_f f37_, c_f f3_, c_f f39_, c_en f25_, c_f f41_, c_f f43_, c_f f11_, c_f f45_, c_f f3_, c_f f47_, c_f f19_, c_f f49_, c_f f7_, c_f f51_, c_en f25_, c_f f53_] [] _ rfl (by kernel_rfl) (by kernel_rfl) (by kernel_rfl) (by kernel_rfl) (by kernel_rfl) (by kernel_rfl), trivial⟩
    have h2_ := (if_neg b1_).symm.trans h0
    obtain rfl := Option.some.inj h2_
    exact ⟨step_pc 3000 (bF 1 []) [] [c_n b1_] [] _ rfl (by kernel_rfl) (by kernel_rfl) (by kernel_rfl) (by kernel_rfl) (by kernel_rfl) (by kernel_rfl), by kernel_rfl, by kernel_rfl⟩
  | .next (_ + 1) _, _, h => by cases h
  | .out _ _, _, h => by cases h
theorem after_L7_go (ky : Nat) (cy : List D) (er : Bool) (ka : Nat) (ca : List D) (kb : Nat) (cb : List D) (src : Int) (x0 : Int) {q : Nat} {ds : List D} {j : Nat} {es : List D} (h : runR (after_L7_S ky cy er ka ca kb cb src x0) (.next q ds) = some (.out j es)) : Runs (ctx [37, 33] after_sp) Tabs after_L7_A (stateOf (after_L7_gs ky cy er ka ca kb cb src x0 (.next q ds))) (stateOf (after_L7_gs ky cy er ka ca kb cb src x0 (.out j es))) (after_L7_ax (.out j es)) ∧ (nxtOf (after_L7_gs ky cy er ka ca kb cb src x0 (.out j es)), lowGS (after_L7_gs ky cy er ka ca kb cb src x0 (.out j es))) = (after_L7_A.nx, after_L7_A.low) :=
  runs_of' (good true _ _) after_L7_ok (ax := after_L7_ax) (fun _ _ => rfl) (fun _ _ => axOf_end _) (after_L7_S_ok ky cy er ka ca kb cb src x0) h
theorem after_L7_in0 (ky : Nat) (cy : List D) (er : Bool) (ka : Nat) (ca : List D) (kb : Nat) (cb : List D) (src : Int) (x0 : Int) {es : List D} (h : runR (after_L7_S ky cy er ka ca kb cb src x0) (.next 0 [.list (1) ([iD src]), iD ((0 : Int)), .list (((ky : Int)).toNat) ((iD (IntKind.i64.wrap (src - x0)) :: (List.drop 1 (manyZeros (Value.int .i64 (0 : Int)).cells.toList ((ky : Int)).toNat)))), .list (((ky : Int)).toNat) ((List.map dCell (List.replicate ((ky : Int)).toNat (Value.int .i64 (0 : Int)).cells.toList).flatten))]) = some (.out 0 es)) : LoopC (loopAt Try.prog 37 0) (after_L7_E ky cy er ka ca kb cb src x0) 12 noFrame after_x7_0 es :=
  have r := after_L7_go ky cy er ka ca kb cb src x0 h
  loopin_as rfl (loop_in (l := after_L7_A) (E := (after_L7_E ky cy er ka ca kb cb src x0)) (S := stateOf (after_L7_gs ky cy er ka ca kb cb src x0 (.next 0 [.list (1) ([iD src]), iD ((0 : Int)), .list (((ky : Int)).toNat) ((iD (IntKind.i64.wrap (src - x0)) :: (List.drop 1 (manyZeros (Value.int .i64 (0 : Int)).cells.toList ((ky : Int)).toNat)))), .list (((ky : Int)).toNat) ((List.map dCell (List.replicate ((ky : Int)).toNat (Value.int .i64 (0 : Int)).cells.toList).flatten))]))) (ns := nsOf (after_L7_gs ky cy er ka ca kb cb src x0 (.next 0 [.list (1) ([iD src]), iD ((0 : Int)), .list (((ky : Int)).toNat) ((iD (IntKind.i64.wrap (src - x0)) :: (List.drop 1 (manyZeros (Value.int .i64 (0 : Int)).cells.toList ((ky : Int)).toNat)))), .list (((ky : Int)).toNat) ((List.map dCell (List.replicate ((ky : Int)).toNat (Value.int .i64 (0 : Int)).cells.toList).flatten))]))) after_L7_ok r.1 r.2 (by kernel_rfl) (by kernel_rfl) (by kernel_rfl) (by kernel_rfl))
def after_M (ky : Nat) (cy : List D) (er : Bool) (ka : Nat) (ca : List D) (kb : Nat) (cb : List D) (src : Int) : Option D := guardP ((0 : Int) ≤ (ky : Int) ∧ (ky : Int) ≤ (ky : Int) ∧ 8 * ((ky : Int)).toNat ≤ 140737488355328 ∧ ((ky : Int)).toNat ≤ 140737488355328) (guardP ((0 : Int) ≤ (0 : Int) ∧ Int.toNat (0 : Int) < kb) (pullD (α := Int) (readD cb (Int.toNat (0 : Int) * 1) 1 false) (fun d => ((D.vi d))) (fun v0 => iD v0) fun v0 => (guardP ((0 : Int) ≤ (0 : Int) ∧ Int.toNat (0 : Int) < ((ky : Int)).toNat) (guardP (0 + Int.toNat (0 : Int) * 1 + 1 ≤ (manyZeros (Value.int .i64 (0 : Int)).cells.toList ((ky : Int)).toNat).length ∧ ∀ (u : D), u ∈ [dCell (.int .i64 (IntKind.i64.wrap (src - v0)))] → cellD u) (guardP ((0 : Int) ≤ IntKind.i64.wrap ((ky : Int) - (1 : Int)) ∧ (IntKind.i64.wrap ((ky : Int) - (1 : Int))).toNat < ka) (bindL (runR (after_L7_S ky cy er ka ca kb cb src v0) (.next 0 [.list (1) ([iD src]), iD ((0 : Int)), .list (((ky : Int)).toNat) ((iD (IntKind.i64.wrap (src - v0)) :: (List.drop 1 (manyZeros (Value.int .i64 (0 : Int)).cells.toList ((ky : Int)).toNat)))), .list (((ky : Int)).toNat) ((List.map dCell (List.replicate ((ky : Int)).toNat (Value.int .i64 (0 : Int)).cells.toList).flatten))])) fun j ds => (if j = 0 then pullD (α := Nat × (List D) × Nat × (List D) × Nat × (List D)) (some (.tup ds)) (fun d => ((D.ln (D.at d 0)), (D.lc (D.at d 0)), (D.ln (D.at d 1)), (D.lc (D.at d 1)), (D.ln (D.at d 2)), (D.lc (D.at d 2)))) (fun (k1, c2, k3, c4, k5, c6) => .tup [.list k1 c2, .list k3 c4, .list k5 c6]) fun (k1, c2, k3, c4, k5, c6) => (pullD (α := Int) (readD ca ((IntKind.i64.wrap ((ky : Int) - (1 : Int))).toNat * 1) 1 false) (fun d => ((D.vi d))) (fun v7 => iD v7) fun v7 => (guardP ((0 : Int) ≤ IntKind.i64.wrap ((ky : Int) - (1 : Int)) ∧ (IntKind.i64.wrap ((ky : Int) - (1 : Int))).toNat < ((ky : Int)).toNat) (pullD (α := Int) (m_55 [.agg [.list ky cy, .one (.bool er)], iD v7]) (fun d => ((D.vi d))) (fun r8 => iD r8) fun r8 => (guardP (0 + (IntKind.i64.wrap ((ky : Int) - (1 : Int))).toNat * 1 + 1 ≤ c6.length ∧ ∀ (u : D), u ∈ [dCell (.int .i64 r8)] → cellD u) (pullD (α := Int) (readD ca ((IntKind.i64.wrap ((ky : Int) - (1 : Int))).toNat * 1) 1 false) (fun d => ((D.vi d))) (fun v9 => iD v9) fun v9 => (pullD (α := Int) (readD (splice c6 (0 + (IntKind.i64.wrap ((ky : Int) - (1 : Int))).toNat * 1) [dCell (.int .i64 r8)]) (0 + (IntKind.i64.wrap ((ky : Int) - (1 : Int))).toNat * 1) 1 false) (fun d => ((D.vi d))) (fun v10 => iD v10) fun v10 => (guardP ((∀ (u : D), u ∈ [dCell (.int .i64 (IntKind.i64.wrap (v9 + v10)))] → cellD u) ∧ k1 * 1 ≤ c2.length ∧ (k1 + (0 + 1)) * 8 ≤ 140737488355328 ∧ k1 + (0 + 1) ≤ 4611686018427387904) (guardP (((ky : Int)).toNat ≤ ((ky : Int)).toNat) (guardP ((0 + (k1 + (0 + 1))) * 1 ≤ (List.take (k1 * 1) c2 ++ [dCell (.int .i64 (IntKind.i64.wrap (v9 + v10)))]).length ∧ 0 < 1) (some (.tup [.agg [.list ((ky : Int)).toNat c4, .list ((ky : Int)).toNat (List.append (List.take (0 + (IntKind.i64.wrap ((ky : Int) - (1 : Int))).toNat * 1) c6 ++ [dCell (.int .i64 r8)]) (List.drop (0 + (IntKind.i64.wrap ((ky : Int) - (1 : Int))).toNat * 1 + [dCell (.int .i64 r8)].length) c6))], .list (k1 + (0 + 1)) (List.append (List.take (k1 * 1) c2) [dCell (.int .i64 (IntKind.i64.wrap (v9 + v10)))])]))))))))))) else none)))))))
theorem after_M_ok (ky : Nat) (cy : List D) (er : Bool) (ka : Nat) (ca : List D) (kb : Nat) (cb : List D) (src : Int) {r : D} (h : after_M ky cy er ka ca kb cb src = some r) : Con 37 [.agg [.list ky cy, .one (.bool er)], .agg [.list ka ca, .list kb cb], iD src] r := by
  unfold after_M at h
  obtain ⟨f1_, h2_⟩ := guardP_elim h
  obtain ⟨f3_, h4_⟩ := guardP_elim h2_
  obtain ⟨v0, f5_, h6_⟩ := pullD_elim h4_
  replace f5_ := readD_elim f5_
  obtain ⟨f7_, h8_⟩ := guardP_elim h6_
  obtain ⟨f9_, h10_⟩ := guardP_elim h8_
  obtain ⟨f11_, h12_⟩ := guardP_elim h10_
  obtain ⟨j, ds, e13_, h14_⟩ := bindL_elim h12_
  by_cases j15_ : j = 0
  · have h18_ := (if_pos j15_).symm.trans h14_
    clear h14_
    subst j15_
    obtain ⟨⟨k1, c2, k3, c4, k5, c6⟩, e16_, h19_⟩ := pullD_elim h18_
    clear h18_
    obtain rfl := tup_inj e16_
    have k17_ := after_L7_in0 ky cy er ka ca kb cb src v0 e13_
    obtain ⟨v7, f20_, h21_⟩ := pullD_elim h19_
    replace f20_ := readD_elim f20_
    obtain ⟨f22_, h23_⟩ := guardP_elim h21_
    obtain ⟨r8, f24_, h25_⟩ := pullD_elim h23_
    replace f24_ := m_55_ok f24_
    obtain ⟨f26_, h27_⟩ := guardP_elim h25_
    obtain ⟨v9, f28_, h29_⟩ := pullD_elim h27_
    replace f28_ := readD_elim f28_
    obtain ⟨v10, f30_, h31_⟩ := pullD_elim h29_
    replace f30_ := readD_elim f30_
    obtain ⟨f32_, h33_⟩ := guardP_elim h31_
    obtain ⟨f34_, h35_⟩ := guardP_elim h33_
    obtain ⟨f36_, h37_⟩ := guardP_elim h35_
    obtain rfl := Option.some.inj h37_
    exact con_pc (op := true) (I := [37, 33]) (sp := after_sp) 3000 [] [iD v0, .tup [iD (Int.ofNat 0), .list k1 c2, .list k3 c4, .list k5 c6], iD v7, iD r8, iD v9, iD v10] [c_f f1_, c_f f1_, c_f f3_, c_f f5_, c_f f7_, c_f f9_, c_f f11_, c_f f20_, c_f f22_, c_f f26_, c_f f11_, c_f f28_, c_f f22_, c_f f30_, c_f f32_, c_f f34_, c_f f34_, c_f f36_] [k_l k17_ [] [.tup [iD (Int.ofNat 0), .list k1 c2, .list k3 c4, .list k5 c6], iD v7, iD r8, iD v9, iD v10] [iD v7, iD r8, iD v9, iD v10], k_c f24_] (by kernel_rfl)
  have h38_ := (if_neg j15_).symm.trans h14_
  clear h14_
  cases h38_
def m_37 (ds : List D) : Option D := pullD (α := Nat × (List D) × Bool × Nat × (List D) × Nat × (List D) × Int) (some (.tup ds)) (fun d => ((D.ln (D.at (D.at d 0) 0)), (D.lc (D.at (D.at d 0) 0)), (D.vb (D.at (D.at d 0) 1)), (D.ln (D.at (D.at d 1) 0)), (D.lc (D.at (D.at d 1) 0)), (D.ln (D.at (D.at d 1) 1)), (D.lc (D.at (D.at d 1) 1)), (D.vi (D.at d 2)))) (fun (ky, cy, er, ka, ca, kb, cb, src) => .tup [.agg [.list ky cy, .one (.bool er)], .agg [.list ka ca, .list kb cb], iD src]) fun (ky, cy, er, ka, ca, kb, cb, src) => after_M ky cy er ka ca kb cb src
theorem m_37_ok {ds : List D} {r : D} (h : m_37 ds = some r) : Con 37 ds r := by
  unfold m_37 at h
  obtain ⟨⟨ky, cy, er, ka, ca, kb, cb, src⟩, e0, h0⟩ := pullD_elim h
  obtain rfl := tup_inj e0
  exact after_M_ok ky cy er ka ca kb cb src h0
theorem m_37_eq (ky : Nat) (cy : List D) (er : Bool) (ka : Nat) (ca : List D) (kb : Nat) (cb : List D) (src : Int) : m_37 [.agg [.list ky cy, .one (.bool er)], .agg [.list ka ca, .list kb cb], iD src] = after_M ky cy er ka ca kb cb src := pullD_some (ky, cy, er, ka, ca, kb, cb, src) rfl rfl
def step_sp : List LSpec := []
def step_M (ky : Nat) (cy : List D) (er : Bool) (ka : Nat) (ca : List D) (kb : Nat) (cb : List D) (src : Int) : Option D := pullD (α := Int) (m_34 [.agg [.list ka ca, .list kb cb], iD (ky : Int)]) (fun d => ((D.vi d))) (fun r0 => iD r0) fun r0 => (pullD (α := Int) (m_14 [.agg [.list ky cy, .one (.bool er)]]) (fun d => ((D.vi d))) (fun r1 => iD r1) fun r1 => ((if src < IntKind.i64.wrap ((0 : Int) - (1000000 : Int)) then pullD (α := Int) (m_35 [.list 3 [iD r1, iD r0, iD (2 : Int)]]) (fun d => ((D.vi d))) (fun r2 => iD r2) fun r2 => ((if r2 ≠ (0 : Int) then some (.tup [.agg [.list 0 [], .list 0 []], .list 0 [], iD r2]) else pullD (α := Nat × (List D) × Nat × (List D) × Nat × (List D)) (m_37 [.agg [.list ky cy, .one (.bool er)], .agg [.list ka ca, .list kb cb], iD src]) (fun d => ((D.ln (D.at (D.at d 0) 0)), (D.lc (D.at (D.at d 0) 0)), (D.ln (D.at (D.at d 0) 1)), (D.lc (D.at (D.at d 0) 1)), (D.ln (D.at d 1)), (D.lc (D.at d 1)))) (fun (k3, c4, k5, c6, k7, c8) => .tup [.agg [.list k3 c4, .list k5 c6], .list k7 c8]) fun (k3, c4, k5, c6, k7, c8) => (pullD (α := Int) (m_34 [.agg [.list k3 c4, .list k5 c6], iD (ky : Int)]) (fun d => ((D.vi d))) (fun r9 => iD r9) fun r9 => ((if r9 ≠ (0 : Int) then some (.tup [.agg [.list 0 [], .list 0 []], .list 0 [], iD (22 : Int)]) else some (.tup [.agg [.list k3 c4, .list k5 c6], .list k7 c8, iD (0 : Int)])))))) else (if src > (1000000 : Int) then pullD (α := Int) (m_35 [.list 3 [iD r1, iD r0, iD (2 : Int)]]) (fun d => ((D.vi d))) (fun r10 => iD r10) fun r10 => ((if r10 ≠ (0 : Int) then some (.tup [.agg [.list 0 [], .list 0 []], .list 0 [], iD r10]) else pullD (α := Nat × (List D) × Nat × (List D) × Nat × (List D)) (m_37 [.agg [.list ky cy, .one (.bool er)], .agg [.list ka ca, .list kb cb], iD src]) (fun d => ((D.ln (D.at (D.at d 0) 0)), (D.lc (D.at (D.at d 0) 0)), (D.ln (D.at (D.at d 0) 1)), (D.lc (D.at (D.at d 0) 1)), (D.ln (D.at d 1)), (D.lc (D.at d 1)))) (fun (k11, c12, k13, c14, k15, c16) => .tup [.agg [.list k11 c12, .list k13 c14], .list k15 c16]) fun (k11, c12, k13, c14, k15, c16) => (pullD (α := Int) (m_34 [.agg [.list k11 c12, .list k13 c14], iD (ky : Int)]) (fun d => ((D.vi d))) (fun r17 => iD r17) fun r17 => ((if r17 ≠ (0 : Int) then some (.tup [.agg [.list 0 [], .list 0 []], .list 0 [], iD (22 : Int)]) else some (.tup [.agg [.list k11 c12, .list k13 c14], .list k15 c16, iD (0 : Int)])))))) else pullD (α := Int) (m_35 [.list 3 [iD r1, iD r0, iD (0 : Int)]]) (fun d => ((D.vi d))) (fun r18 => iD r18) fun r18 => ((if r18 ≠ (0 : Int) then some (.tup [.agg [.list 0 [], .list 0 []], .list 0 [], iD r18]) else pullD (α := Nat × (List D) × Nat × (List D) × Nat × (List D)) (m_37 [.agg [.list ky cy, .one (.bool er)], .agg [.list ka ca, .list kb cb], iD src]) (fun d => ((D.ln (D.at (D.at d 0) 0)), (D.lc (D.at (D.at d 0) 0)), (D.ln (D.at (D.at d 0) 1)), (D.lc (D.at (D.at d 0) 1)), (D.ln (D.at d 1)), (D.lc (D.at d 1)))) (fun (k19, c20, k21, c22, k23, c24) => .tup [.agg [.list k19 c20, .list k21 c22], .list k23 c24]) fun (k19, c20, k21, c22, k23, c24) => (pullD (α := Int) (m_34 [.agg [.list k19 c20, .list k21 c22], iD (ky : Int)]) (fun d => ((D.vi d))) (fun r25 => iD r25) fun r25 => ((if r25 ≠ (0 : Int) then some (.tup [.agg [.list 0 [], .list 0 []], .list 0 [], iD (22 : Int)]) else some (.tup [.agg [.list k19 c20, .list k21 c22], .list k23 c24, iD (0 : Int)]))))))))))
theorem step_M_ok (ky : Nat) (cy : List D) (er : Bool) (ka : Nat) (ca : List D) (kb : Nat) (cb : List D) (src : Int) {r : D} (h : step_M ky cy er ka ca kb cb src = some r) : Con 10 [.agg [.list ky cy, .one (.bool er)], .agg [.list ka ca, .list kb cb], iD src] r := by
  unfold step_M at h
  obtain ⟨r0, f1_, h2_⟩ := pullD_elim h
  replace f1_ := m_34_ok f1_
  obtain ⟨r1, f3_, h4_⟩ := pullD_elim h2_
  replace f3_ := m_14_ok f3_
  by_cases b5_ : src < IntKind.i64.wrap ((0 : Int) - (1000000 : Int))
  · have h6_ := (if_pos b5_).symm.trans h4_
    obtain ⟨r2, f7_, h8_⟩ := pullD_elim h6_
    replace f7_ := m_35_ok f7_
    by_cases b9_ : r2 ≠ (0 : Int)
    · have h10_ := (if_pos b9_).symm.trans h8_
      obtain rfl := Option.some.inj h10_
      exact con_pc (op := true) (I := [10, 36, 39, 56]) (sp := step_sp) 3000 (bT 7 []) [iD r0, iD r1, iD r2] [c_T, c_d b5_, c_d b5_, c_d b5_, c_d b5_, c_T, c_le 2, c_b b9_] [k_c f1_, k_c f3_, k_c f7_] (by kernel_rfl)
    have h10_ := (if_neg b9_).symm.trans h8_
    have b11_ : r2 = (0 : Int) := by first | exact b9_ | simpa using b9_
    obtain ⟨⟨k3, c4, k5, c6, k7, c8⟩, f12_, h13_⟩ := pullD_elim h10_
    replace f12_ := m_37_ok f12_
    obtain ⟨r9, f14_, h15_⟩ := pullD_elim h13_
    replace f14_ := m_34_ok f14_
    by_cases b16_ : r9 ≠ (0 : Int)
    · have h17_ := (if_pos b16_).symm.trans h15_
      obtain rfl := Option.some.inj h17_
      exact con_pc (op := true) (I := [10, 36, 39, 56]) (sp := step_sp) 3000 (bT 6 (bF 1 (bT 1 []))) [iD r0, iD r1, iD r2, .tup [.agg [.list k3 c4, .list k5 c6], .list k7 c8], iD r9] [c_T, c_d b5_, c_d b5_, c_d b5_, c_d b5_, c_T, c_le 2, c_bn b11_, c_b b16_] [k_c f1_, k_c f3_, k_c f7_, k_c f12_, k_c f14_] (by kernel_rfl)
    have h17_ := (if_neg b16_).symm.trans h15_
    have b18_ : r9 = (0 : Int) := by first | exact b16_ | simpa using b16_
    obtain rfl := Option.some.inj h17_
    exact con_pc (op := true) (I := [10, 36, 39, 56]) (sp := step_sp) 3000 (bT 6 (bF 2 [])) [iD r0, iD r1, iD r2, .tup [.agg [.list k3 c4, .list k5 c6], .list k7 c8], iD r9] [c_T, c_d b5_, c_d b5_, c_d b5_, c_d b5_, c_T, c_le 2, c_bn b11_, c_bn b18_] [k_c f1_, k_c f3_, k_c f7_, k_c f12_, k_c f14_] (by kernel_rfl)
  have h6_ := (if_neg b5_).symm.trans h4_
  by_cases b19_ : src > (1000000 : Int)
  · have h20_ := (if_pos b19_).symm.trans h6_
    obtain ⟨r10, f21_, h22_⟩ := pullD_elim h20_
    replace f21_ := m_35_ok f21_
    by_cases b23_ : r10 ≠ (0 : Int)
    · have h24_ := (if_pos b23_).symm.trans h22_
      obtain rfl := Option.some.inj h24_
      exact con_pc (op := true) (I := [10, 36, 39, 56]) (sp := step_sp) 3000 (bT 1 (bF 4 (bT 2 []))) [iD r0, iD r1, iD r10] [c_T, c_n b5_, c_n b5_, c_n b5_, c_n b5_, c_d b19_, c_le 2, c_b b23_] [k_c f1_, k_c f3_, k_c f21_] (by kernel_rfl)
    have h24_ := (if_neg b23_).symm.trans h22_
    have b25_ : r10 = (0 : Int) := by first | exact b23_ | simpa using b23_
    obtain ⟨⟨k11, c12, k13, c14, k15, c16⟩, f26_, h27_⟩ := pullD_elim h24_
    replace f26_ := m_37_ok f26_
    obtain ⟨r17, f28_, h29_⟩ := pullD_elim h27_
    replace f28_ := m_34_ok f28_
    by_cases b30_ : r17 ≠ (0 : Int)
    · have h31_ := (if_pos b30_).symm.trans h29_
      obtain rfl := Option.some.inj h31_
      exact con_pc (op := true) (I := [10, 36, 39, 56]) (sp := step_sp) 3000 (bT 1 (bF 4 (bT 1 (bF 1 (bT 1 []))))) [iD r0, iD r1, iD r10, .tup [.agg [.list k11 c12, .list k13 c14], .list k15 c16], iD r17] [c_T, c_n b5_, c_n b5_, c_n b5_, c_n b5_, c_d b19_, c_le 2, c_bn b25_, c_b b30_] [k_c f1_, k_c f3_, k_c f21_, k_c f26_, k_c f28_] (by kernel_rfl)
    have h31_ := (if_neg b30_).symm.trans h29_
    have b32_ : r17 = (0 : Int) := by first | exact b30_ | simpa using b30_
    obtain rfl := Option.some.inj h31_
    exact con_pc (op := true) (I := [10, 36, 39, 56]) (sp := step_sp) 3000 (bT 1 (bF 4 (bT 1 (bF 2 [])))) [iD r0, iD r1, iD r10, .tup [.agg [.list k11 c12, .list k13 c14], .list k15 c16], iD r17] [c_T, c_n b5_, c_n b5_, c_n b5_, c_n b5_, c_d b19_, c_le 2, c_bn b25_, c_bn b32_] [k_c f1_, k_c f3_, k_c f21_, k_c f26_, k_c f28_] (by kernel_rfl)
  have h20_ := (if_neg b19_).symm.trans h6_
  obtain ⟨r18, f33_, h34_⟩ := pullD_elim h20_
  replace f33_ := m_35_ok f33_
  by_cases b35_ : r18 ≠ (0 : Int)
  · have h36_ := (if_pos b35_).symm.trans h34_
    obtain rfl := Option.some.inj h36_
    exact con_pc (op := true) (I := [10, 36, 39, 56]) (sp := step_sp) 3000 (bT 1 (bF 6 (bT 1 []))) [iD r0, iD r1, iD r18] [c_T, c_n b5_, c_n b5_, c_n b5_, c_n b5_, c_n b19_, c_F, c_le 2, c_b b35_] [k_c f1_, k_c f3_, k_c f33_] (by kernel_rfl)
  have h36_ := (if_neg b35_).symm.trans h34_
  have b37_ : r18 = (0 : Int) := by first | exact b35_ | simpa using b35_
  obtain ⟨⟨k19, c20, k21, c22, k23, c24⟩, f38_, h39_⟩ := pullD_elim h36_
  replace f38_ := m_37_ok f38_
  obtain ⟨r25, f40_, h41_⟩ := pullD_elim h39_
  replace f40_ := m_34_ok f40_
  by_cases b42_ : r25 ≠ (0 : Int)
  · have h43_ := (if_pos b42_).symm.trans h41_
    obtain rfl := Option.some.inj h43_
    exact con_pc (op := true) (I := [10, 36, 39, 56]) (sp := step_sp) 3000 (bT 1 (bF 7 (bT 1 []))) [iD r0, iD r1, iD r18, .tup [.agg [.list k19 c20, .list k21 c22], .list k23 c24], iD r25] [c_T, c_n b5_, c_n b5_, c_n b5_, c_n b5_, c_n b19_, c_F, c_le 2, c_bn b37_, c_b b42_] [k_c f1_, k_c f3_, k_c f33_, k_c f38_, k_c f40_] (by kernel_rfl)
  have h43_ := (if_neg b42_).symm.trans h41_
  have b44_ : r25 = (0 : Int) := by first | exact b42_ | simpa using b42_
  obtain rfl := Option.some.inj h43_
  exact con_pc (op := true) (I := [10, 36, 39, 56]) (sp := step_sp) 3000 (bT 1 (bF 8 [])) [iD r0, iD r1, iD r18, .tup [.agg [.list k19 c20, .list k21 c22], .list k23 c24], iD r25] [c_T, c_n b5_, c_n b5_, c_n b5_, c_n b5_, c_n b19_, c_F, c_le 2, c_bn b37_, c_bn b44_] [k_c f1_, k_c f3_, k_c f33_, k_c f38_, k_c f40_] (by kernel_rfl)
def m_10 (ds : List D) : Option D := pullD (α := Nat × (List D) × Bool × Nat × (List D) × Nat × (List D) × Int) (some (.tup ds)) (fun d => ((D.ln (D.at (D.at d 0) 0)), (D.lc (D.at (D.at d 0) 0)), (D.vb (D.at (D.at d 0) 1)), (D.ln (D.at (D.at d 1) 0)), (D.lc (D.at (D.at d 1) 0)), (D.ln (D.at (D.at d 1) 1)), (D.lc (D.at (D.at d 1) 1)), (D.vi (D.at d 2)))) (fun (ky, cy, er, ka, ca, kb, cb, src) => .tup [.agg [.list ky cy, .one (.bool er)], .agg [.list ka ca, .list kb cb], iD src]) fun (ky, cy, er, ka, ca, kb, cb, src) => step_M ky cy er ka ca kb cb src
theorem m_10_ok {ds : List D} {r : D} (h : m_10 ds = some r) : Con 10 ds r := by
  unfold m_10 at h
  obtain ⟨⟨ky, cy, er, ka, ca, kb, cb, src⟩, e0, h0⟩ := pullD_elim h
  obtain rfl := tup_inj e0
  exact step_M_ok ky cy er ka ca kb cb src h0
theorem m_10_eq (ky : Nat) (cy : List D) (er : Bool) (ka : Nat) (ca : List D) (kb : Nat) (cb : List D) (src : Int) : m_10 [.agg [.list ky cy, .one (.bool er)], .agg [.list ka ca, .list kb cb], iD src] = step_M ky cy er ka ca kb cb src := pullD_some (ky, cy, er, ka, ca, kb, cb, src) rfl rfl
def energyOf_x6_0 : LExit := ⟨some 0, [.val 7], (8 :: (9 :: (List.range' 25 33)))⟩
def energyOf_sp : List LSpec := [⟨12, 6, [energyOf_x6_0]⟩]
def energyOf_L6_E (ky : Nat) (cy : List D) (er : Bool) (ka : Nat) (ca : List D) (kb : Nat) (cb : List D) (x0 : Int) (x1 : Int) (x2 : Int) : List AV × AHeap := ([.agg [.dsl 0, .pure (.bool er)], .agg [.dsl 1, .dsl 2], .ptr 3 0, .ptr 4 0, .pure (.int .i64 (0 : Int)), .pure (.int .i64 (0 : Int)), .pure (.int .i64 x2), .pure (.int .i64 (0 : Int)), .pure (.tuple #[]), .pure (.tuple #[]), .agg [.dsl 0, .pure (.bool er)], .pure (.int .i64 x0), .agg [.dsl 1, .dsl 2], .ptr 3 0, .dsl 0, .pure (.int .i64 (ky : Int)), .pure (.int .i64 x1), .sl 5 0 2 2, .pure (.int .i64 x2), .pure (.int .i64 x2), .pure (.bool (x2 != (0 : Int))), .pure (.tuple #[]), .ptr 3 0, .dsl 0, .pure (.int .i64 (ky : Int)), .pure (.int .i64 (0 : Int)), .pure (.tuple #[]), .pure (.tuple #[]), .pure (.tuple #[]), .pure (.tuple #[]), .pure (.tuple #[]), .pure (.tuple #[]), .pure (.tuple #[]), .pure (.tuple #[]), .pure (.tuple #[]), .pure (.tuple #[]), .pure (.tuple #[]), .pure (.tuple #[]), .pure (.tuple #[]), .pure (.tuple #[]), .pure (.tuple #[]), .pure (.tuple #[]), .pure (.tuple #[]), .pure (.tuple #[]), .pure (.tuple #[]), .pure (.tuple #[]), .pure (.tuple #[]), .pure (.tuple #[]), .pure (.tuple #[]), .pure (.tuple #[]), .pure (.tuple #[]), .pure (.tuple #[]), .pure (.tuple #[]), .pure (.tuple #[]), .pure (.tuple #[]), .pure (.tuple #[]), .pure (.tuple #[]), .pure (.tuple #[]), .pure (.tuple #[])], [(5, { cells := [.pure (.int .i64 x0), .pure (.int .i64 x1)], opn := none, kind := .cells }), (4, { cells := [.dsl 1, .dsl 2], opn := none, kind := .cells }), (3, { cells := [.dsl 0, .pure (.bool er)], opn := none, kind := .cells }), (2, { cells := [], opn := none, kind := .deep kb cb }), (1, { cells := [], opn := none, kind := .deep ka ca }), (0, { cells := [], opn := none, kind := .deep ky cy })])
def energyOf_L6_A : LoopAt := ⟨12, loopAt Try.prog 12 0, 6, 42, 6, noFrame⟩
theorem energyOf_L6_ok : (energyOf_L6_A).OK := ⟨by show 6 ≤ 42; decide, by show 6 ≤ 6; decide, by kernel_rfl, rfl⟩
def energyOf_L6_gs (ky : Nat) (cy : List D) (er : Bool) (ka : Nat) (ca : List D) (kb : Nat) (cb : List D) (x0 : Int) (x1 : Int) (x2 : Int) : Go.Ev.Rd → Option GS
  | .next 0 ds => ghost [.val 7, .val 25] (8 :: (9 :: (List.range' 26 32))) (energyOf_L6_E ky cy er ka ca kb cb x0 x1 x2).1 (energyOf_L6_E ky cy er ka ca kb cb x0 x1 x2).2 6 ds
  | .out 0 ds => ghost energyOf_x6_0.live energyOf_x6_0.junk (energyOf_L6_E ky cy er ka ca kb cb x0 x1 x2).1 (energyOf_L6_E ky cy er ka ca kb cb x0 x1 x2).2 6 ds
  | _ => none
def energyOf_L6_ex : Nat → Option Nat
  | 0 => energyOf_x6_0.ex
  | _ => none
def energyOf_L6_ax : Go.Ev.Rd → AX
  | .next _ _ => .normal
  | .out j _ => axOf (energyOf_L6_ex j)
def energyOf_L6_S0 (ky : Nat) (cy : List D) (er : Bool) (ka : Nat) (ca : List D) (kb : Nat) (cb : List D) (x0 : Int) (x1 : Int) (x2 : Int) (ds : List D) : Option Go.Ev.Rd := pullD (α := Int × Int) (some (.tup ds)) (fun d => ((D.vi (D.at d 0)), (D.vi (D.at d 1)))) (fun (s7, s25) => .tup [iD s7, iD s25]) fun (s7, s25) => ((if s25 < (ky : Int) then guardP ((0 : Int) ≤ s25 ∧ s25.toNat < ky) (pullD (α := Int) (readD cy (s25.toNat * 1) 1 false) (fun d => ((D.vi d))) (fun v0 => iD v0) fun v0 => (guardP ((0 : Int) ≤ s25 ∧ s25.toNat < ka) (pullD (α := Int) (readD ca (s25.toNat * 1) 1 false) (fun d => ((D.vi d))) (fun v1 => iD v1) fun v1 => (pullD (α := Int) (readD ca (s25.toNat * 1) 1 false) (fun d => ((D.vi d))) (fun v2 => iD v2) fun v2 => (guardP ((0 : Int) ≤ s25 ∧ s25.toNat < kb) (pullD (α := Int) (readD cb (s25.toNat * 1) 1 false) (fun d => ((D.vi d))) (fun v3 => iD v3) fun v3 => (pullD (α := Int) (readD cb (s25.toNat * 1) 1 false) (fun d => ((D.vi d))) (fun v4 => iD v4) fun v4 => (some (.next 0 [iD (IntKind.i64.wrap (s7 + IntKind.i64.wrap (v0 * IntKind.i64.wrap (IntKind.i64.wrap (v1 * v2) + IntKind.i64.wrap (v3 * v4))))), iD (IntKind.i64.wrap (s25 + (1 : Int)))]))))))))) else some (.out 0 [iD s7])))
def energyOf_L6_S (ky : Nat) (cy : List D) (er : Bool) (ka : Nat) (ca : List D) (kb : Nat) (cb : List D) (x0 : Int) (x1 : Int) (x2 : Int) : Go.Ev.Rd → Option Go.Ev.Rd
  | .next 0 ds => energyOf_L6_S0 ky cy er ka ca kb cb x0 x1 x2 ds
  | _ => none
theorem energyOf_L6_S_ok (ky : Nat) (cy : List D) (er : Bool) (ka : Nat) (ca : List D) (kb : Nat) (cb : List D) (x0 : Int) (x1 : Int) (x2 : Int) : ∀ s_ t_, energyOf_L6_S ky cy er ka ca kb cb x0 x1 x2 s_ = some t_ → Step (ctx [12] energyOf_sp) Tabs energyOf_L6_A (stateOf (energyOf_L6_gs ky cy er ka ca kb cb x0 x1 x2 s_)) (stateOf (energyOf_L6_gs ky cy er ka ca kb cb x0 x1 x2 t_)) (energyOf_L6_ax t_) ∧ EndOK energyOf_L6_A.nx energyOf_L6_A.low (energyOf_L6_gs ky cy er ka ca kb cb x0 x1 x2) t_
  | .next 0 ds, t_, h => by
    have h_ : energyOf_L6_S0 ky cy er ka ca kb cb x0 x1 x2 ds = some t_ := h
    clear h
    unfold energyOf_L6_S0 at h_
    obtain ⟨⟨s7, s25⟩, e0, h0⟩ := pullD_elim h_
    clear h_
    obtain rfl := tup_inj e0
    by_cases b1_ : s25 < (ky : Int)
    · have h2_ := (if_pos b1_).symm.trans h0
      obtain ⟨f3_, h4_⟩ := guardP_elim h2_
      obtain ⟨v0, f5_, h6_⟩ := pullD_elim h4_
      replace f5_ := readD_elim f5_
      obtain ⟨f7_, h8_⟩ := guardP_elim h6_
      obtain ⟨v1, f9_, h10_⟩ := pullD_elim h8_
      replace f9_ := readD_elim f9_
      obtain ⟨v2, f11_, h12_⟩ := pullD_elim h10_
      replace f11_ := readD_elim f11_
      obtain ⟨f13_, h14_⟩ := guardP_elim h12_
      obtain ⟨v3, f15_, h16_⟩ := pullD_elim h14_
      replace f15_ := readD_elim f15_
      obtain ⟨v4, f17_, h18_⟩ := pullD_elim h16_
      replace f17_ := readD_elim f17_
      obtain rfl := Option.some.inj h18_
      exact ⟨step_pc 3000 (bT 1 []) [iD v0, iD v1, iD v2, iD v3, iD v4] [c_d b1_, c_f f3_, c_f f5_, c_f f7_, c_f f9_, c_f f7_, c_f f11_, c_f f13_, c_f f15_, c_f f13_, c_f f17_] [] _ rfl (by kernel_rfl) (by kernel_rfl) (by kernel_rfl) (by kernel_rfl) (by kernel_rfl) (by kernel_rfl), trivial⟩
    have h2_ := (if_neg b1_).symm.trans h0
    obtain rfl := Option.some.inj h2_
    exact ⟨step_pc 3000 (bF 1 []) [] [c_n b1_] [] _ rfl (by kernel_rfl) (by kernel_rfl) (by kernel_rfl) (by kernel_rfl) (by kernel_rfl) (by kernel_rfl), by kernel_rfl, by kernel_rfl⟩
  | .next (_ + 1) _, _, h => by cases h
  | .out _ _, _, h => by cases h
theorem energyOf_L6_go (ky : Nat) (cy : List D) (er : Bool) (ka : Nat) (ca : List D) (kb : Nat) (cb : List D) (x0 : Int) (x1 : Int) (x2 : Int) {q : Nat} {ds : List D} {j : Nat} {es : List D} (h : runR (energyOf_L6_S ky cy er ka ca kb cb x0 x1 x2) (.next q ds) = some (.out j es)) : Runs (ctx [12] energyOf_sp) Tabs energyOf_L6_A (stateOf (energyOf_L6_gs ky cy er ka ca kb cb x0 x1 x2 (.next q ds))) (stateOf (energyOf_L6_gs ky cy er ka ca kb cb x0 x1 x2 (.out j es))) (energyOf_L6_ax (.out j es)) ∧ (nxtOf (energyOf_L6_gs ky cy er ka ca kb cb x0 x1 x2 (.out j es)), lowGS (energyOf_L6_gs ky cy er ka ca kb cb x0 x1 x2 (.out j es))) = (energyOf_L6_A.nx, energyOf_L6_A.low) :=
  runs_of' (good true _ _) energyOf_L6_ok (ax := energyOf_L6_ax) (fun _ _ => rfl) (fun _ _ => axOf_end _) (energyOf_L6_S_ok ky cy er ka ca kb cb x0 x1 x2) h
theorem energyOf_L6_in0 (ky : Nat) (cy : List D) (er : Bool) (ka : Nat) (ca : List D) (kb : Nat) (cb : List D) (x0 : Int) (x1 : Int) (x2 : Int) {es : List D} (h : runR (energyOf_L6_S ky cy er ka ca kb cb x0 x1 x2) (.next 0 [iD ((0 : Int)), iD ((0 : Int))]) = some (.out 0 es)) : LoopC (loopAt Try.prog 12 0) (energyOf_L6_E ky cy er ka ca kb cb x0 x1 x2) 6 noFrame energyOf_x6_0 es :=
  have r := energyOf_L6_go ky cy er ka ca kb cb x0 x1 x2 h
  loopin_as rfl (loop_in (l := energyOf_L6_A) (E := (energyOf_L6_E ky cy er ka ca kb cb x0 x1 x2)) (S := stateOf (energyOf_L6_gs ky cy er ka ca kb cb x0 x1 x2 (.next 0 [iD ((0 : Int)), iD ((0 : Int))]))) (ns := nsOf (energyOf_L6_gs ky cy er ka ca kb cb x0 x1 x2 (.next 0 [iD ((0 : Int)), iD ((0 : Int))]))) energyOf_L6_ok r.1 r.2 (by kernel_rfl) (by kernel_rfl) (by kernel_rfl) (by kernel_rfl))
def energyOf_M (ky : Nat) (cy : List D) (er : Bool) (ka : Nat) (ca : List D) (kb : Nat) (cb : List D) : Option D := pullD (α := Int) (m_14 [.agg [.list ky cy, .one (.bool er)]]) (fun d => ((D.vi d))) (fun r0 => iD r0) fun r0 => (pullD (α := Int) (m_34 [.agg [.list ka ca, .list kb cb], iD (ky : Int)]) (fun d => ((D.vi d))) (fun r1 => iD r1) fun r1 => (pullD (α := Int) (m_35 [.list 2 [iD r0, iD r1]]) (fun d => ((D.vi d))) (fun r2 => iD r2) fun r2 => ((if r2 ≠ (0 : Int) then some (.tup [iD (0 : Int), iD r2]) else bindL (runR (energyOf_L6_S ky cy er ka ca kb cb r0 r1 r2) (.next 0 [iD ((0 : Int)), iD ((0 : Int))])) fun j ds => (if j = 0 then pullD (α := Int) (some (.tup ds)) (fun d => ((D.vi (D.at d 0)))) (fun l3 => .tup [iD l3]) fun l3 => (some (.tup [iD l3, iD (0 : Int)])) else none)))))
theorem energyOf_M_ok (ky : Nat) (cy : List D) (er : Bool) (ka : Nat) (ca : List D) (kb : Nat) (cb : List D) {r : D} (h : energyOf_M ky cy er ka ca kb cb = some r) : Con 12 [.agg [.list ky cy, .one (.bool er)], .agg [.list ka ca, .list kb cb]] r := by
  unfold energyOf_M at h
  obtain ⟨r0, f1_, h2_⟩ := pullD_elim h
  replace f1_ := m_14_ok f1_
  obtain ⟨r1, f3_, h4_⟩ := pullD_elim h2_
  replace f3_ := m_34_ok f3_
  obtain ⟨r2, f5_, h6_⟩ := pullD_elim h4_
  replace f5_ := m_35_ok f5_
  by_cases b7_ : r2 ≠ (0 : Int)
  · have h8_ := (if_pos b7_).symm.trans h6_
    obtain rfl := Option.some.inj h8_
    exact con_pc (op := true) (I := [12]) (sp := energyOf_sp) 3000 (bT 1 []) [iD r0, iD r1, iD r2] [c_le 1, c_b b7_] [k_c f1_, k_c f3_, k_c f5_] (by kernel_rfl)
  have h8_ := (if_neg b7_).symm.trans h6_
  have b9_ : r2 = (0 : Int) := by first | exact b7_ | simpa using b7_
  obtain ⟨j, ds, e10_, h11_⟩ := bindL_elim h8_
  by_cases j12_ : j = 0
  · have h15_ := (if_pos j12_).symm.trans h11_
    clear h11_
    subst j12_
    obtain ⟨l3, e13_, h16_⟩ := pullD_elim h15_
    clear h15_
    obtain rfl := tup_inj e13_
    have k14_ := energyOf_L6_in0 ky cy er ka ca kb cb r0 r1 r2 e10_
    obtain rfl := Option.some.inj h16_
    exact con_pc (op := true) (I := [12]) (sp := energyOf_sp) 3000 (bF 1 []) [iD r0, iD r1, iD r2, .tup [iD (Int.ofNat 0), iD l3]] [c_le 1, c_bn b9_] [k_c f1_, k_c f3_, k_c f5_, k_l k14_ [] [.tup [iD (Int.ofNat 0), iD l3]] []] (by kernel_rfl)
  have h17_ := (if_neg j12_).symm.trans h11_
  clear h11_
  cases h17_
def m_12 (ds : List D) : Option D := pullD (α := Nat × (List D) × Bool × Nat × (List D) × Nat × (List D)) (some (.tup ds)) (fun d => ((D.ln (D.at (D.at d 0) 0)), (D.lc (D.at (D.at d 0) 0)), (D.vb (D.at (D.at d 0) 1)), (D.ln (D.at (D.at d 1) 0)), (D.lc (D.at (D.at d 1) 0)), (D.ln (D.at (D.at d 1) 1)), (D.lc (D.at (D.at d 1) 1)))) (fun (ky, cy, er, ka, ca, kb, cb) => .tup [.agg [.list ky cy, .one (.bool er)], .agg [.list ka ca, .list kb cb]]) fun (ky, cy, er, ka, ca, kb, cb) => energyOf_M ky cy er ka ca kb cb
theorem m_12_ok {ds : List D} {r : D} (h : m_12 ds = some r) : Con 12 ds r := by
  unfold m_12 at h
  obtain ⟨⟨ky, cy, er, ka, ca, kb, cb⟩, e0, h0⟩ := pullD_elim h
  obtain rfl := tup_inj e0
  exact energyOf_M_ok ky cy er ka ca kb cb h0
theorem m_12_eq (ky : Nat) (cy : List D) (er : Bool) (ka : Nat) (ca : List D) (kb : Nat) (cb : List D) : m_12 [.agg [.list ky cy, .one (.bool er)], .agg [.list ka ca, .list kb cb]] = energyOf_M ky cy er ka ca kb cb := pullD_some (ky, cy, er, ka, ca, kb, cb) rfl rfl
end
end Go.Proofs.Ytfdehaafbkhclaa
namespace Go.Proofs.Ytfdehaafbkhclaa
open Go.Ev Go.RowKit
set_option maxRecDepth 100000
set_option maxHeartbeats 8000000
set_option linter.all false
noncomputable section
def lineErr_x6_0 : LExit := ⟨some 0, [], (2 :: (3 :: (List.range' 12 14)))⟩
def lineErr_x6_1 : LExit := ⟨none, [.val 2], (3 :: (List.range' 12 14))⟩
def lineErr_sp : List LSpec := [⟨13, 6, [lineErr_x6_0, lineErr_x6_1]⟩]
def lineErr_L6_E (ky : Nat) (cy : List D) (er : Bool)  : List AV × AHeap := ([.agg [.dsl 0, .pure (.bool er)], .ptr 1 0, .pure (.int .i64 (0 : Int)), .pure (.int .i64 (0 : Int)), .ptr 1 0, .dsl 0, .pure (.int .i64 (ky : Int)), .pure (.bool ((ky : Int) == (0 : Int))), .ptr 1 0, .dsl 0, .pure (.int .i64 (ky : Int)), .pure (.bool (decide ((ky : Int) > (10 : Int)))), .pure (.tuple #[]), .pure (.tuple #[]), .pure (.tuple #[]), .pure (.tuple #[]), .pure (.tuple #[]), .pure (.tuple #[]), .pure (.tuple #[]), .pure (.tuple #[]), .pure (.tuple #[]), .pure (.tuple #[]), .pure (.tuple #[]), .pure (.tuple #[]), .pure (.tuple #[]), .pure (.tuple #[])], [(1, { cells := [.dsl 0, .pure (.bool er)], opn := none, kind := .cells }), (0, { cells := [], opn := none, kind := .deep ky cy })])
def lineErr_L6_A : LoopAt := ⟨13, loopAt Try.prog 13 0, 2, 18, 2, noFrame⟩
theorem lineErr_L6_ok : (lineErr_L6_A).OK := ⟨by show 2 ≤ 18; decide, by show 2 ≤ 2; decide, by kernel_rfl, rfl⟩
def lineErr_L6_gs (ky : Nat) (cy : List D) (er : Bool)  : Go.Ev.Rd → Option GS
  | .next 0 ds => ghost [.val 3] (2 :: (List.range' 12 14)) (lineErr_L6_E ky cy er).1 (lineErr_L6_E ky cy er).2 2 ds
  | .out 0 ds => ghost lineErr_x6_0.live lineErr_x6_0.junk (lineErr_L6_E ky cy er).1 (lineErr_L6_E ky cy er).2 2 ds
  | .out 1 ds => ghost lineErr_x6_1.live lineErr_x6_1.junk (lineErr_L6_E ky cy er).1 (lineErr_L6_E ky cy er).2 2 ds
  | _ => none
def lineErr_L6_ex : Nat → Option Nat
  | 0 => lineErr_x6_0.ex
  | 1 => lineErr_x6_1.ex
  | _ => none
def lineErr_L6_ax : Go.Ev.Rd → AX
  | .next _ _ => .normal
  | .out j _ => axOf (lineErr_L6_ex j)
def lineErr_L6_S0 (ky : Nat) (cy : List D) (er : Bool)  (ds : List D) : Option Go.Ev.Rd := pullD (α := Int) (some (.tup ds)) (fun d => ((D.vi (D.at d 0)))) (fun s3 => .tup [iD s3]) fun s3 => ((if s3 < (ky : Int) then guardP ((0 : Int) ≤ s3 ∧ s3.toNat < ky) (pullD (α := Int) (readD cy (s3.toNat * 1) 1 false) (fun d => ((D.vi d))) (fun v0 => iD v0) fun v0 => (pullD (α := Bool) (m_24 [iD v0, iD (1 : Int), iD (20 : Int)]) (fun d => ((D.vb d))) (fun r1 => .one (.bool r1)) fun r1 => ((if r1 = false then some (.out 1 [iD (2 : Int)]) else some (.next 0 [iD (IntKind.i64.wrap (s3 + (1 : Int)))]))))) else some (.out 0 [])))
def lineErr_L6_S (ky : Nat) (cy : List D) (er : Bool)  : Go.Ev.Rd → Option Go.Ev.Rd
  | .next 0 ds => lineErr_L6_S0 ky cy er ds
  | _ => none
theorem lineErr_L6_S_ok (ky : Nat) (cy : List D) (er : Bool)  : ∀ s_ t_, lineErr_L6_S ky cy er s_ = some t_ → Step (ctx [13] lineErr_sp) Tabs lineErr_L6_A (stateOf (lineErr_L6_gs ky cy er s_)) (stateOf (lineErr_L6_gs ky cy er t_)) (lineErr_L6_ax t_) ∧ EndOK lineErr_L6_A.nx lineErr_L6_A.low (lineErr_L6_gs ky cy er) t_
  | .next 0 ds, t_, h => by
    have h_ : lineErr_L6_S0 ky cy er ds = some t_ := h
    clear h
    unfold lineErr_L6_S0 at h_
    obtain ⟨s3, e0, h0⟩ := pullD_elim h_
    clear h_
    obtain rfl := tup_inj e0
    by_cases b1_ : s3 < (ky : Int)
    · have h2_ := (if_pos b1_).symm.trans h0
      obtain ⟨f3_, h4_⟩ := guardP_elim h2_
      obtain ⟨v0, f5_, h6_⟩ := pullD_elim h4_
      replace f5_ := readD_elim f5_
      obtain ⟨r1, f7_, h8_⟩ := pullD_elim h6_
      replace f7_ := m_24_ok f7_
      by_cases b9_ : r1 = false
      · have h10_ := (if_pos b9_).symm.trans h8_
        obtain rfl := Option.some.inj h10_
        exact ⟨step_pc 3000 (bT 2 []) [iD v0, .one (.bool r1)] [c_d b1_, c_f f3_, c_f f5_, c_no b9_] [k_c f7_] _ rfl (by kernel_rfl) (by kernel_rfl) (by kernel_rfl) (by kernel_rfl) (by kernel_rfl) (by kernel_rfl), by kernel_rfl, by kernel_rfl⟩
      have h10_ := (if_neg b9_).symm.trans h8_
      have b11_ : r1 = true := by first | exact b9_ | simpa using b9_
      obtain rfl := Option.some.inj h10_
      exact ⟨step_pc 3000 (bT 1 (bF 1 [])) [iD v0, .one (.bool r1)] [c_d b1_, c_f f3_, c_f f5_, c_nn b11_] [k_c f7_] _ rfl (by kernel_rfl) (by kernel_rfl) (by kernel_rfl) (by kernel_rfl) (by kernel_rfl) (by kernel_rfl), trivial⟩
    have h2_ := (if_neg b1_).symm.trans h0
    obtain rfl := Option.some.inj h2_
    exact ⟨step_pc 3000 (bF 1 []) [] [c_n b1_] [] _ rfl (by kernel_rfl) (by kernel_rfl) (by kernel_rfl) (by kernel_rfl) (by kernel_rfl) (by kernel_rfl), by kernel_rfl, by kernel_rfl⟩
  | .next (_ + 1) _, _, h => by cases h
  | .out _ _, _, h => by cases h
theorem lineErr_L6_go (ky : Nat) (cy : List D) (er : Bool)  {q : Nat} {ds : List D} {j : Nat} {es : List D} (h : runR (lineErr_L6_S ky cy er) (.next q ds) = some (.out j es)) : Runs (ctx [13] lineErr_sp) Tabs lineErr_L6_A (stateOf (lineErr_L6_gs ky cy er (.next q ds))) (stateOf (lineErr_L6_gs ky cy er (.out j es))) (lineErr_L6_ax (.out j es)) ∧ (nxtOf (lineErr_L6_gs ky cy er (.out j es)), lowGS (lineErr_L6_gs ky cy er (.out j es))) = (lineErr_L6_A.nx, lineErr_L6_A.low) :=
  runs_of' (good true _ _) lineErr_L6_ok (ax := lineErr_L6_ax) (fun _ _ => rfl) (fun _ _ => axOf_end _) (lineErr_L6_S_ok ky cy er) h
theorem lineErr_L6_in0 (ky : Nat) (cy : List D) (er : Bool)  {es : List D} (h : runR (lineErr_L6_S ky cy er) (.next 0 [iD ((0 : Int))]) = some (.out 0 es)) : LoopC (loopAt Try.prog 13 0) (lineErr_L6_E ky cy er) 2 noFrame lineErr_x6_0 es :=
  have r := lineErr_L6_go ky cy er h
  loopin_as rfl (loop_in (l := lineErr_L6_A) (E := (lineErr_L6_E ky cy er)) (S := stateOf (lineErr_L6_gs ky cy er (.next 0 [iD ((0 : Int))]))) (ns := nsOf (lineErr_L6_gs ky cy er (.next 0 [iD ((0 : Int))]))) lineErr_L6_ok r.1 r.2 (by kernel_rfl) (by kernel_rfl) (by kernel_rfl) (by kernel_rfl))
theorem lineErr_L6_in1 (ky : Nat) (cy : List D) (er : Bool)  {es : List D} (h : runR (lineErr_L6_S ky cy er) (.next 0 [iD ((0 : Int))]) = some (.out 1 es)) : LoopC (loopAt Try.prog 13 0) (lineErr_L6_E ky cy er) 2 noFrame lineErr_x6_1 es :=
  have r := lineErr_L6_go ky cy er h
  loopin_as rfl (loop_in (l := lineErr_L6_A) (E := (lineErr_L6_E ky cy er)) (S := stateOf (lineErr_L6_gs ky cy er (.next 0 [iD ((0 : Int))]))) (ns := nsOf (lineErr_L6_gs ky cy er (.next 0 [iD ((0 : Int))]))) lineErr_L6_ok r.1 r.2 (by kernel_rfl) (by kernel_rfl) (by kernel_rfl) (by kernel_rfl))
def lineErr_M (ky : Nat) (cy : List D) (er : Bool) : Option D := (if (ky : Int) = (0 : Int) then some (iD (10 : Int)) else (if (ky : Int) > (10 : Int) then some (iD (8 : Int)) else bindL (runR (lineErr_L6_S ky cy er) (.next 0 [iD ((0 : Int))])) fun j ds => (if j = 0 then pullD (some (.tup ds)) (fun _ => ()) (fun _ => .tup []) fun _ => (some (iD (0 : Int))) else if j = 1 then pullD (α := Int) (some (.tup ds)) (fun d => ((D.vi (D.at d 0)))) (fun l0 => .tup [iD l0]) fun l0 => (some (iD l0)) else none)))
theorem lineErr_M_ok (ky : Nat) (cy : List D) (er : Bool) {r : D} (h : lineErr_M ky cy er = some r) : Con 13 [.agg [.list ky cy, .one (.bool er)]] r := by
  unfold lineErr_M at h
  by_cases b1_ : (ky : Int) = (0 : Int)
  · have h2_ := (if_pos b1_).symm.trans h
    obtain rfl := Option.some.inj h2_
    exact con_pc (op := true) (I := [13]) (sp := lineErr_sp) 3000 (bT 1 []) [] [c_e b1_] [] (by kernel_rfl)
  have h2_ := (if_neg b1_).symm.trans h
  have b3_ : (ky : Int) ≠ (0 : Int) := by first | exact b1_ | simpa using b1_
  by_cases b4_ : (ky : Int) > (10 : Int)
  · have h5_ := (if_pos b4_).symm.trans h2_
    obtain rfl := Option.some.inj h5_
    exact con_pc (op := true) (I := [13]) (sp := lineErr_sp) 3000 (bF 1 (bT 1 [])) [] [c_en b3_, c_d b4_] [] (by kernel_rfl)
  have h5_ := (if_neg b4_).symm.trans h2_
  obtain ⟨j, ds, e6_, h7_⟩ := bindL_elim h5_
  by_cases j8_ : j = 0
  · have h11_ := (if_pos j8_).symm.trans h7_
    clear h7_
    subst j8_
    obtain ⟨⟨⟩, e9_, h12_⟩ := pullD_elim h11_
    clear h11_
    obtain rfl := tup_inj e9_
    have k10_ := lineErr_L6_in0 ky cy er e6_
    obtain rfl := Option.some.inj h12_
    exact con_pc (op := true) (I := [13]) (sp := lineErr_sp) 3000 (bF 2 []) [.tup [iD (Int.ofNat 0)]] [c_en b3_, c_n b4_] [k_l k10_ [] [.tup [iD (Int.ofNat 0)]] []] (by kernel_rfl)
  have h13_ := (if_neg j8_).symm.trans h7_
  clear h7_
  by_cases j14_ : j = 1
  · have h17_ := (if_pos j14_).symm.trans h13_
    clear h13_
    subst j14_
    obtain ⟨l0, e15_, h18_⟩ := pullD_elim h17_
    clear h17_
    obtain rfl := tup_inj e15_
    have k16_ := lineErr_L6_in1 ky cy er e6_
    obtain rfl := Option.some.inj h18_
    exact con_pc (op := true) (I := [13]) (sp := lineErr_sp) 3000 (bF 2 []) [.tup [iD (Int.ofNat 1), iD l0]] [c_en b3_, c_n b4_] [k_l k16_ [] [.tup [iD (Int.ofNat 1), iD l0]] []] (by kernel_rfl)
  have h19_ := (if_neg j14_).symm.trans h13_
  clear h13_
  cases h19_
def m_13 (ds : List D) : Option D := pullD (α := Nat × (List D) × Bool) (some (.tup ds)) (fun d => ((D.ln (D.at (D.at d 0) 0)), (D.lc (D.at (D.at d 0) 0)), (D.vb (D.at (D.at d 0) 1)))) (fun (ky, cy, er) => .tup [.agg [.list ky cy, .one (.bool er)]]) fun (ky, cy, er) => lineErr_M ky cy er
theorem m_13_ok {ds : List D} {r : D} (h : m_13 ds = some r) : Con 13 ds r := by
  unfold m_13 at h
  obtain ⟨⟨ky, cy, er⟩, e0, h0⟩ := pullD_elim h
  obtain rfl := tup_inj e0
  exact lineErr_M_ok ky cy er h0
theorem m_13_eq (ky : Nat) (cy : List D) (er : Bool) : m_13 [.agg [.list ky cy, .one (.bool er)]] = lineErr_M ky cy er := pullD_some (ky, cy, er) rfl rfl
def wavesErr_x2_0 : LExit := ⟨some 0, [], (List.range' 2 14)⟩
def wavesErr_x2_1 : LExit := ⟨none, [.val 2], (List.range' 3 13)⟩
def wavesErr_sp : List LSpec := [⟨40, 2, [wavesErr_x2_0, wavesErr_x2_1]⟩]
def wavesErr_L2_E (k : Nat) (c : List D)  : List AV × AHeap := ([.dsl 0, .pure (.tuple #[]), .pure (.int .i64 (0 : Int)), .pure (.int .i64 (0 : Int)), .pure (.tuple #[]), .pure (.tuple #[]), .pure (.tuple #[]), .pure (.tuple #[]), .pure (.tuple #[]), .pure (.tuple #[]), .pure (.tuple #[]), .pure (.tuple #[]), .pure (.tuple #[]), .pure (.tuple #[]), .pure (.tuple #[]), .pure (.tuple #[])], [(0, { cells := [], opn := none, kind := .deep k c })])
def wavesErr_L2_A : LoopAt := ⟨40, loopAt Try.prog 40 0, 1, 15, 1, noFrame⟩
theorem wavesErr_L2_ok : (wavesErr_L2_A).OK := ⟨by show 1 ≤ 15; decide, by show 1 ≤ 1; decide, by kernel_rfl, rfl⟩
def wavesErr_L2_gs (k : Nat) (c : List D)  : Go.Ev.Rd → Option GS
  | .next 0 ds => ghost [.val 3] (2 :: (List.range' 4 12)) (wavesErr_L2_E k c).1 (wavesErr_L2_E k c).2 1 ds
  | .out 0 ds => ghost wavesErr_x2_0.live wavesErr_x2_0.junk (wavesErr_L2_E k c).1 (wavesErr_L2_E k c).2 1 ds
  | .out 1 ds => ghost wavesErr_x2_1.live wavesErr_x2_1.junk (wavesErr_L2_E k c).1 (wavesErr_L2_E k c).2 1 ds
  | _ => none
def wavesErr_L2_ex : Nat → Option Nat
  | 0 => wavesErr_x2_0.ex
  | 1 => wavesErr_x2_1.ex
  | _ => none
def wavesErr_L2_ax : Go.Ev.Rd → AX
  | .next _ _ => .normal
  | .out j _ => axOf (wavesErr_L2_ex j)
def wavesErr_L2_S0 (k : Nat) (c : List D)  (ds : List D) : Option Go.Ev.Rd := pullD (α := Int) (some (.tup ds)) (fun d => ((D.vi (D.at d 0)))) (fun s3 => .tup [iD s3]) fun s3 => ((if s3 < (k : Int) then guardP ((0 : Int) ≤ s3 ∧ s3.toNat < k) (pullD (α := Int) (readD c (s3.toNat * 1) 1 false) (fun d => ((D.vi d))) (fun v0 => iD v0) fun v0 => (pullD (α := Bool) (m_24 [iD v0, iD (-1000000 : Int), iD (1000000 : Int)]) (fun d => ((D.vb d))) (fun r1 => .one (.bool r1)) fun r1 => ((if r1 = false then some (.out 1 [iD (2 : Int)]) else some (.next 0 [iD (IntKind.i64.wrap (s3 + (1 : Int)))]))))) else some (.out 0 [])))
def wavesErr_L2_S (k : Nat) (c : List D)  : Go.Ev.Rd → Option Go.Ev.Rd
  | .next 0 ds => wavesErr_L2_S0 k c ds
  | _ => none
theorem wavesErr_L2_S_ok (k : Nat) (c : List D)  : ∀ s_ t_, wavesErr_L2_S k c s_ = some t_ → Step (ctx [40] wavesErr_sp) Tabs wavesErr_L2_A (stateOf (wavesErr_L2_gs k c s_)) (stateOf (wavesErr_L2_gs k c t_)) (wavesErr_L2_ax t_) ∧ EndOK wavesErr_L2_A.nx wavesErr_L2_A.low (wavesErr_L2_gs k c) t_
  | .next 0 ds, t_, h => by
    have h_ : wavesErr_L2_S0 k c ds = some t_ := h
    clear h
    unfold wavesErr_L2_S0 at h_
    obtain ⟨s3, e0, h0⟩ := pullD_elim h_
    clear h_
    obtain rfl := tup_inj e0
    by_cases b1_ : s3 < (k : Int)
    · have h2_ := (if_pos b1_).symm.trans h0
      obtain ⟨f3_, h4_⟩ := guardP_elim h2_
      obtain ⟨v0, f5_, h6_⟩ := pullD_elim h4_
      replace f5_ := readD_elim f5_
      obtain ⟨r1, f7_, h8_⟩ := pullD_elim h6_
      replace f7_ := m_24_ok f7_
      by_cases b9_ : r1 = false
      · have h10_ := (if_pos b9_).symm.trans h8_
        obtain rfl := Option.some.inj h10_
        exact ⟨step_pc 3000 (bT 2 []) [iD v0, .one (.bool r1)] [c_d b1_, c_f f3_, c_f f5_, c_no b9_] [k_c f7_] _ rfl (by kernel_rfl) (by kernel_rfl) (by kernel_rfl) (by kernel_rfl) (by kernel_rfl) (by kernel_rfl), by kernel_rfl, by kernel_rfl⟩
      have h10_ := (if_neg b9_).symm.trans h8_
      have b11_ : r1 = true := by first | exact b9_ | simpa using b9_
      obtain rfl := Option.some.inj h10_
      exact ⟨step_pc 3000 (bT 1 (bF 1 [])) [iD v0, .one (.bool r1)] [c_d b1_, c_f f3_, c_f f5_, c_nn b11_] [k_c f7_] _ rfl (by kernel_rfl) (by kernel_rfl) (by kernel_rfl) (by kernel_rfl) (by kernel_rfl) (by kernel_rfl), trivial⟩
    have h2_ := (if_neg b1_).symm.trans h0
    obtain rfl := Option.some.inj h2_
    exact ⟨step_pc 3000 (bF 1 []) [] [c_n b1_] [] _ rfl (by kernel_rfl) (by kernel_rfl) (by kernel_rfl) (by kernel_rfl) (by kernel_rfl) (by kernel_rfl), by kernel_rfl, by kernel_rfl⟩
  | .next (_ + 1) _, _, h => by cases h
  | .out _ _, _, h => by cases h
theorem wavesErr_L2_go (k : Nat) (c : List D)  {q : Nat} {ds : List D} {j : Nat} {es : List D} (h : runR (wavesErr_L2_S k c) (.next q ds) = some (.out j es)) : Runs (ctx [40] wavesErr_sp) Tabs wavesErr_L2_A (stateOf (wavesErr_L2_gs k c (.next q ds))) (stateOf (wavesErr_L2_gs k c (.out j es))) (wavesErr_L2_ax (.out j es)) ∧ (nxtOf (wavesErr_L2_gs k c (.out j es)), lowGS (wavesErr_L2_gs k c (.out j es))) = (wavesErr_L2_A.nx, wavesErr_L2_A.low) :=
  runs_of' (good true _ _) wavesErr_L2_ok (ax := wavesErr_L2_ax) (fun _ _ => rfl) (fun _ _ => axOf_end _) (wavesErr_L2_S_ok k c) h
theorem wavesErr_L2_in0 (k : Nat) (c : List D)  {es : List D} (h : runR (wavesErr_L2_S k c) (.next 0 [iD ((0 : Int))]) = some (.out 0 es)) : LoopC (loopAt Try.prog 40 0) (wavesErr_L2_E k c) 1 noFrame wavesErr_x2_0 es :=
  have r := wavesErr_L2_go k c h
  loopin_as rfl (loop_in (l := wavesErr_L2_A) (E := (wavesErr_L2_E k c)) (S := stateOf (wavesErr_L2_gs k c (.next 0 [iD ((0 : Int))]))) (ns := nsOf (wavesErr_L2_gs k c (.next 0 [iD ((0 : Int))]))) wavesErr_L2_ok r.1 r.2 (by kernel_rfl) (by kernel_rfl) (by kernel_rfl) (by kernel_rfl))
theorem wavesErr_L2_in1 (k : Nat) (c : List D)  {es : List D} (h : runR (wavesErr_L2_S k c) (.next 0 [iD ((0 : Int))]) = some (.out 1 es)) : LoopC (loopAt Try.prog 40 0) (wavesErr_L2_E k c) 1 noFrame wavesErr_x2_1 es :=
  have r := wavesErr_L2_go k c h
  loopin_as rfl (loop_in (l := wavesErr_L2_A) (E := (wavesErr_L2_E k c)) (S := stateOf (wavesErr_L2_gs k c (.next 0 [iD ((0 : Int))]))) (ns := nsOf (wavesErr_L2_gs k c (.next 0 [iD ((0 : Int))]))) wavesErr_L2_ok r.1 r.2 (by kernel_rfl) (by kernel_rfl) (by kernel_rfl) (by kernel_rfl))
def wavesErr_M (k : Nat) (c : List D) : Option D := bindL (runR (wavesErr_L2_S k c) (.next 0 [iD ((0 : Int))])) fun j ds => (if j = 0 then pullD (some (.tup ds)) (fun _ => ()) (fun _ => .tup []) fun _ => (some (iD (0 : Int))) else if j = 1 then pullD (α := Int) (some (.tup ds)) (fun d => ((D.vi (D.at d 0)))) (fun l0 => .tup [iD l0]) fun l0 => (some (iD l0)) else none)
theorem wavesErr_M_ok (k : Nat) (c : List D) {r : D} (h : wavesErr_M k c = some r) : Con 40 [.list k c] r := by
  unfold wavesErr_M at h
  obtain ⟨j, ds, e1_, h2_⟩ := bindL_elim h
  by_cases j3_ : j = 0
  · have h6_ := (if_pos j3_).symm.trans h2_
    clear h2_
    subst j3_
    obtain ⟨⟨⟩, e4_, h7_⟩ := pullD_elim h6_
    clear h6_
    obtain rfl := tup_inj e4_
    have k5_ := wavesErr_L2_in0 k c e1_
    obtain rfl := Option.some.inj h7_
    exact con_pc (op := true) (I := [40]) (sp := wavesErr_sp) 3000 [] [.tup [iD (Int.ofNat 0)]] [] [k_l k5_ [] [.tup [iD (Int.ofNat 0)]] []] (by kernel_rfl)
  have h8_ := (if_neg j3_).symm.trans h2_
  clear h2_
  by_cases j9_ : j = 1
  · have h12_ := (if_pos j9_).symm.trans h8_
    clear h8_
    subst j9_
    obtain ⟨l0, e10_, h13_⟩ := pullD_elim h12_
    clear h12_
    obtain rfl := tup_inj e10_
    have k11_ := wavesErr_L2_in1 k c e1_
    obtain rfl := Option.some.inj h13_
    exact con_pc (op := true) (I := [40]) (sp := wavesErr_sp) 3000 [] [.tup [iD (Int.ofNat 1), iD l0]] [] [k_l k11_ [] [.tup [iD (Int.ofNat 1), iD l0]] []] (by kernel_rfl)
  have h14_ := (if_neg j9_).symm.trans h8_
  clear h8_
  cases h14_
def m_40 (ds : List D) : Option D := pullD (α := Nat × (List D)) (some (.tup ds)) (fun d => ((D.ln (D.at d 0)), (D.lc (D.at d 0)))) (fun (k, c) => .tup [.list k c]) fun (k, c) => wavesErr_M k c
theorem m_40_ok {ds : List D} {r : D} (h : m_40 ds = some r) : Con 40 ds r := by
  unfold m_40 at h
  obtain ⟨⟨k, c⟩, e0, h0⟩ := pullD_elim h
  obtain rfl := tup_inj e0
  exact wavesErr_M_ok k c h0
theorem m_40_eq (k : Nat) (c : List D) : m_40 [.list k c] = wavesErr_M k c := pullD_some (k, c) rfl rfl
def stateErr_sp : List LSpec := []
def stateErr_M (ky : Nat) (cy : List D) (er : Bool) (ka : Nat) (ca : List D) (kb : Nat) (cb : List D) : Option D := pullD (α := Int) (m_13 [.agg [.list ky cy, .one (.bool er)]]) (fun d => ((D.vi d))) (fun r0 => iD r0) fun r0 => ((if r0 ≠ (0 : Int) then some (iD r0) else (if (ka : Int) ≠ (ky : Int) then some (iD (10 : Int)) else (if (kb : Int) ≠ (ky : Int) then some (iD (10 : Int)) else pullD (α := Int) (m_40 [.list ka ca]) (fun d => ((D.vi d))) (fun r1 => iD r1) fun r1 => ((if r1 ≠ (0 : Int) then some (iD r1) else pullD (α := Int) (m_40 [.list kb cb]) (fun d => ((D.vi d))) (fun r2 => iD r2) fun r2 => (some (iD r2))))))))
theorem stateErr_M_ok (ky : Nat) (cy : List D) (er : Bool) (ka : Nat) (ca : List D) (kb : Nat) (cb : List D) {r : D} (h : stateErr_M ky cy er ka ca kb cb = some r) : Con 17 [.agg [.list ky cy, .one (.bool er)], .agg [.list ka ca, .list kb cb]] r := by
  unfold stateErr_M at h
  obtain ⟨r0, f1_, h2_⟩ := pullD_elim h
  replace f1_ := m_13_ok f1_
  by_cases b3_ : r0 ≠ (0 : Int)
  · have h4_ := (if_pos b3_).symm.trans h2_
    obtain rfl := Option.some.inj h4_
    exact con_pc (op := true) (I := [17]) (sp := stateErr_sp) 3000 (bT 1 []) [iD r0] [c_b b3_] [k_c f1_] (by kernel_rfl)
  have h4_ := (if_neg b3_).symm.trans h2_
  have b5_ : r0 = (0 : Int) := by first | exact b3_ | simpa using b3_
  by_cases b6_ : (ka : Int) ≠ (ky : Int)
  · have h7_ := (if_pos b6_).symm.trans h4_
    obtain rfl := Option.some.inj h7_
    exact con_pc (op := true) (I := [17]) (sp := stateErr_sp) 3000 (bF 1 (bT 9 [])) [iD r0] [c_bn b5_, c_b b6_, c_b b6_, c_b b6_, c_b b6_, c_b b6_, c_b b6_, c_b b6_, c_b b6_, c_T] [k_c f1_] (by kernel_rfl)
  have h7_ := (if_neg b6_).symm.trans h4_
  have b8_ : (ka : Int) = (ky : Int) := by first | exact b6_ | simpa using b6_
  by_cases b9_ : (kb : Int) ≠ (ky : Int)
  · have h10_ := (if_pos b9_).symm.trans h7_
    obtain rfl := Option.some.inj h10_
    exact con_pc (op := true) (I := [17]) (sp := stateErr_sp) 3000 (bF 9 (bT 1 [])) [iD r0] [c_bn b5_, c_bn b8_, c_bn b8_, c_bn b8_, c_bn b8_, c_bn b8_, c_bn b8_, c_bn b8_, c_bn b8_, c_b b9_] [k_c f1_] (by kernel_rfl)
  have h10_ := (if_neg b9_).symm.trans h7_
  have b11_ : (kb : Int) = (ky : Int) := by first | exact b9_ | simpa using b9_
  obtain ⟨r1, f12_, h13_⟩ := pullD_elim h10_
  replace f12_ := m_40_ok f12_
  by_cases b14_ : r1 ≠ (0 : Int)
  · have h15_ := (if_pos b14_).symm.trans h13_
    obtain rfl := Option.some.inj h15_
    exact con_pc (op := true) (I := [17]) (sp := stateErr_sp) 3000 (bF 10 (bT 1 [])) [iD r0, iD r1] [c_bn b5_, c_bn b8_, c_bn b8_, c_bn b8_, c_bn b8_, c_bn b8_, c_bn b8_, c_bn b8_, c_bn b8_, c_bn b11_, c_b b14_] [k_c f1_, k_c f12_] (by kernel_rfl)
  have h15_ := (if_neg b14_).symm.trans h13_
  have b16_ : r1 = (0 : Int) := by first | exact b14_ | simpa using b14_
  obtain ⟨r2, f17_, h18_⟩ := pullD_elim h15_
  replace f17_ := m_40_ok f17_
  obtain rfl := Option.some.inj h18_
  exact con_pc (op := true) (I := [17]) (sp := stateErr_sp) 3000 (bF 11 []) [iD r0, iD r1, iD r2] [c_bn b5_, c_bn b8_, c_bn b8_, c_bn b8_, c_bn b8_, c_bn b8_, c_bn b8_, c_bn b8_, c_bn b8_, c_bn b11_, c_bn b16_] [k_c f1_, k_c f12_, k_c f17_] (by kernel_rfl)
def m_17 (ds : List D) : Option D := pullD (α := Nat × (List D) × Bool × Nat × (List D) × Nat × (List D)) (some (.tup ds)) (fun d => ((D.ln (D.at (D.at d 0) 0)), (D.lc (D.at (D.at d 0) 0)), (D.vb (D.at (D.at d 0) 1)), (D.ln (D.at (D.at d 1) 0)), (D.lc (D.at (D.at d 1) 0)), (D.ln (D.at (D.at d 1) 1)), (D.lc (D.at (D.at d 1) 1)))) (fun (ky, cy, er, ka, ca, kb, cb) => .tup [.agg [.list ky cy, .one (.bool er)], .agg [.list ka ca, .list kb cb]]) fun (ky, cy, er, ka, ca, kb, cb) => stateErr_M ky cy er ka ca kb cb
theorem m_17_ok {ds : List D} {r : D} (h : m_17 ds = some r) : Con 17 ds r := by
  unfold m_17 at h
  obtain ⟨⟨ky, cy, er, ka, ca, kb, cb⟩, e0, h0⟩ := pullD_elim h
  obtain rfl := tup_inj e0
  exact stateErr_M_ok ky cy er ka ca kb cb h0
theorem m_17_eq (ky : Nat) (cy : List D) (er : Bool) (ka : Nat) (ca : List D) (kb : Nat) (cb : List D) : m_17 [.agg [.list ky cy, .one (.bool er)], .agg [.list ka ca, .list kb cb]] = stateErr_M ky cy er ka ca kb cb := pullD_some (ky, cy, er, ka, ca, kb, cb) rfl rfl
def ints_x4_0 : LExit := ⟨some 0, [], (4 :: (5 :: (List.range' 11 15)))⟩
def ints_x4_1 : LExit := ⟨none, [.val 4], (5 :: (List.range' 11 15))⟩
def ints_sp : List LSpec := [⟨19, 4, [ints_x4_0, ints_x4_1]⟩]
def ints_L4_E (ka : Nat) (ca : List D) (kb : Nat) (cb : List D)  : List AV × AHeap := ([.dsl 0, .dsl 1, .pure (.tuple #[]), .pure (.tuple #[]), .pure (.bool false), .pure (.int .i64 (0 : Int)), .dsl 0, .pure (.int .i64 (ka : Int)), .dsl 1, .pure (.int .i64 (kb : Int)), .pure (.bool ((ka : Int) != (kb : Int))), .pure (.tuple #[]), .pure (.tuple #[]), .pure (.tuple #[]), .pure (.tuple #[]), .pure (.tuple #[]), .pure (.tuple #[]), .pure (.tuple #[]), .pure (.tuple #[]), .pure (.tuple #[]), .pure (.tuple #[]), .pure (.tuple #[]), .pure (.tuple #[]), .pure (.tuple #[]), .pure (.tuple #[]), .pure (.tuple #[])], [(1, { cells := [], opn := none, kind := .deep kb cb }), (0, { cells := [], opn := none, kind := .deep ka ca })])
def ints_L4_A : LoopAt := ⟨19, loopAt Try.prog 19 0, 2, 19, 2, noFrame⟩
theorem ints_L4_ok : (ints_L4_A).OK := ⟨by show 2 ≤ 19; decide, by show 2 ≤ 2; decide, by kernel_rfl, rfl⟩
def ints_L4_gs (ka : Nat) (ca : List D) (kb : Nat) (cb : List D)  : Go.Ev.Rd → Option GS
  | .next 0 ds => ghost [.val 5] (4 :: (List.range' 11 15)) (ints_L4_E ka ca kb cb).1 (ints_L4_E ka ca kb cb).2 2 ds
  | .out 0 ds => ghost ints_x4_0.live ints_x4_0.junk (ints_L4_E ka ca kb cb).1 (ints_L4_E ka ca kb cb).2 2 ds
  | .out 1 ds => ghost ints_x4_1.live ints_x4_1.junk (ints_L4_E ka ca kb cb).1 (ints_L4_E ka ca kb cb).2 2 ds
  | _ => none
def ints_L4_ex : Nat → Option Nat
  | 0 => ints_x4_0.ex
  | 1 => ints_x4_1.ex
  | _ => none
def ints_L4_ax : Go.Ev.Rd → AX
  | .next _ _ => .normal
  | .out j _ => axOf (ints_L4_ex j)
def ints_L4_S0 (ka : Nat) (ca : List D) (kb : Nat) (cb : List D)  (ds : List D) : Option Go.Ev.Rd := pullD (α := Int) (some (.tup ds)) (fun d => ((D.vi (D.at d 0)))) (fun s5 => .tup [iD s5]) fun s5 => ((if s5 < (ka : Int) then guardP ((0 : Int) ≤ s5 ∧ s5.toNat < ka) (pullD (α := Int) (readD ca (s5.toNat * 1) 1 false) (fun d => ((D.vi d))) (fun v0 => iD v0) fun v0 => (guardP ((0 : Int) ≤ s5 ∧ s5.toNat < kb) (pullD (α := Int) (readD cb (s5.toNat * 1) 1 false) (fun d => ((D.vi d))) (fun v1 => iD v1) fun v1 => ((if v0 ≠ v1 then some (.out 1 [.one (.bool false)]) else some (.next 0 [iD (IntKind.i64.wrap (s5 + (1 : Int)))])))))) else some (.out 0 [])))
def ints_L4_S (ka : Nat) (ca : List D) (kb : Nat) (cb : List D)  : Go.Ev.Rd → Option Go.Ev.Rd
  | .next 0 ds => ints_L4_S0 ka ca kb cb ds
  | _ => none
theorem ints_L4_S_ok (ka : Nat) (ca : List D) (kb : Nat) (cb : List D)  : ∀ s_ t_, ints_L4_S ka ca kb cb s_ = some t_ → Step (ctx [19] ints_sp) Tabs ints_L4_A (stateOf (ints_L4_gs ka ca kb cb s_)) (stateOf (ints_L4_gs ka ca kb cb t_)) (ints_L4_ax t_) ∧ EndOK ints_L4_A.nx ints_L4_A.low (ints_L4_gs ka ca kb cb) t_
  | .next 0 ds, t_, h => by
    have h_ : ints_L4_S0 ka ca kb cb ds = some t_ := h
    clear h
    unfold ints_L4_S0 at h_
    obtain ⟨s5, e0, h0⟩ := pullD_elim h_
    clear h_
    obtain rfl := tup_inj e0
    by_cases b1_ : s5 < (ka : Int)
    · have h2_ := (if_pos b1_).symm.trans h0
      obtain ⟨f3_, h4_⟩ := guardP_elim h2_
      obtain ⟨v0, f5_, h6_⟩ := pullD_elim h4_
      replace f5_ := readD_elim f5_
      obtain ⟨f7_, h8_⟩ := guardP_elim h6_
      obtain ⟨v1, f9_, h10_⟩ := pullD_elim h8_
      replace f9_ := readD_elim f9_
      by_cases b11_ : v0 ≠ v1
      · have h12_ := (if_pos b11_).symm.trans h10_
        obtain rfl := Option.some.inj h12_
        exact ⟨step_pc 3000 (bT 2 []) [iD v0, iD v1] [c_d b1_, c_f f3_, c_f f5_, c_f f7_, c_f f9_, c_b b11_] [] _ rfl (by kernel_rfl) (by kernel_rfl) (by kernel_rfl) (by kernel_rfl) (by kernel_rfl) (by kernel_rfl), by kernel_rfl, by kernel_rfl⟩
      have h12_ := (if_neg b11_).symm.trans h10_
      have b13_ : v0 = v1 := by first | exact b11_ | simpa using b11_
      obtain rfl := Option.some.inj h12_
      exact ⟨step_pc 3000 (bT 1 (bF 1 [])) [iD v0, iD v1] [c_d b1_, c_f f3_, c_f f5_, c_f f7_, c_f f9_, c_bn b13_] [] _ rfl (by kernel_rfl) (by kernel_rfl) (by kernel_rfl) (by kernel_rfl) (by kernel_rfl) (by kernel_rfl), trivial⟩
    have h2_ := (if_neg b1_).symm.trans h0
    obtain rfl := Option.some.inj h2_
    exact ⟨step_pc 3000 (bF 1 []) [] [c_n b1_] [] _ rfl (by kernel_rfl) (by kernel_rfl) (by kernel_rfl) (by kernel_rfl) (by kernel_rfl) (by kernel_rfl), by kernel_rfl, by kernel_rfl⟩
  | .next (_ + 1) _, _, h => by cases h
  | .out _ _, _, h => by cases h
theorem ints_L4_go (ka : Nat) (ca : List D) (kb : Nat) (cb : List D)  {q : Nat} {ds : List D} {j : Nat} {es : List D} (h : runR (ints_L4_S ka ca kb cb) (.next q ds) = some (.out j es)) : Runs (ctx [19] ints_sp) Tabs ints_L4_A (stateOf (ints_L4_gs ka ca kb cb (.next q ds))) (stateOf (ints_L4_gs ka ca kb cb (.out j es))) (ints_L4_ax (.out j es)) ∧ (nxtOf (ints_L4_gs ka ca kb cb (.out j es)), lowGS (ints_L4_gs ka ca kb cb (.out j es))) = (ints_L4_A.nx, ints_L4_A.low) :=
  runs_of' (good true _ _) ints_L4_ok (ax := ints_L4_ax) (fun _ _ => rfl) (fun _ _ => axOf_end _) (ints_L4_S_ok ka ca kb cb) h
theorem ints_L4_in0 (ka : Nat) (ca : List D) (kb : Nat) (cb : List D)  {es : List D} (h : runR (ints_L4_S ka ca kb cb) (.next 0 [iD ((0 : Int))]) = some (.out 0 es)) : LoopC (loopAt Try.prog 19 0) (ints_L4_E ka ca kb cb) 2 noFrame ints_x4_0 es :=
  have r := ints_L4_go ka ca kb cb h
  loopin_as rfl (loop_in (l := ints_L4_A) (E := (ints_L4_E ka ca kb cb)) (S := stateOf (ints_L4_gs ka ca kb cb (.next 0 [iD ((0 : Int))]))) (ns := nsOf (ints_L4_gs ka ca kb cb (.next 0 [iD ((0 : Int))]))) ints_L4_ok r.1 r.2 (by kernel_rfl) (by kernel_rfl) (by kernel_rfl) (by kernel_rfl))
theorem ints_L4_in1 (ka : Nat) (ca : List D) (kb : Nat) (cb : List D)  {es : List D} (h : runR (ints_L4_S ka ca kb cb) (.next 0 [iD ((0 : Int))]) = some (.out 1 es)) : LoopC (loopAt Try.prog 19 0) (ints_L4_E ka ca kb cb) 2 noFrame ints_x4_1 es :=
  have r := ints_L4_go ka ca kb cb h
  loopin_as rfl (loop_in (l := ints_L4_A) (E := (ints_L4_E ka ca kb cb)) (S := stateOf (ints_L4_gs ka ca kb cb (.next 0 [iD ((0 : Int))]))) (ns := nsOf (ints_L4_gs ka ca kb cb (.next 0 [iD ((0 : Int))]))) ints_L4_ok r.1 r.2 (by kernel_rfl) (by kernel_rfl) (by kernel_rfl) (by kernel_rfl))
def ints_M (ka : Nat) (ca : List D) (kb : Nat) (cb : List D) : Option D := (if (ka : Int) ≠ (kb : Int) then some (.one (.bool false)) else bindL (runR (ints_L4_S ka ca kb cb) (.next 0 [iD ((0 : Int))])) fun j ds => (if j = 0 then pullD (some (.tup ds)) (fun _ => ()) (fun _ => .tup []) fun _ => (some (.one (.bool true))) else if j = 1 then pullD (α := Bool) (some (.tup ds)) (fun d => ((D.vb (D.at d 0)))) (fun l0 => .tup [.one (.bool l0)]) fun l0 => (some (.one (.bool l0))) else none))
theorem ints_M_ok (ka : Nat) (ca : List D) (kb : Nat) (cb : List D) {r : D} (h : ints_M ka ca kb cb = some r) : Con 19 [.list ka ca, .list kb cb] r := by
  unfold ints_M at h
  by_cases b1_ : (ka : Int) ≠ (kb : Int)
  · have h2_ := (if_pos b1_).symm.trans h
    obtain rfl := Option.some.inj h2_
    exact con_pc (op := true) (I := [19]) (sp := ints_sp) 3000 (bT 1 []) [] [c_b b1_] [] (by kernel_rfl)
  have h2_ := (if_neg b1_).symm.trans h
  have b3_ : (ka : Int) = (kb : Int) := by first | exact b1_ | simpa using b1_
  obtain ⟨j, ds, e4_, h5_⟩ := bindL_elim h2_
  by_cases j6_ : j = 0
  · have h9_ := (if_pos j6_).symm.trans h5_
    clear h5_
    subst j6_
    obtain ⟨⟨⟩, e7_, h10_⟩ := pullD_elim h9_
    clear h9_
    obtain rfl := tup_inj e7_
    have k8_ := ints_L4_in0 ka ca kb cb e4_
    obtain rfl := Option.some.inj h10_
    exact con_pc (op := true) (I := [19]) (sp := ints_sp) 3000 (bF 1 []) [.tup [iD (Int.ofNat 0)]] [c_bn b3_] [k_l k8_ [] [.tup [iD (Int.ofNat 0)]] []] (by kernel_rfl)
  have h11_ := (if_neg j6_).symm.trans h5_
  clear h5_
  by_cases j12_ : j = 1
  · have h15_ := (if_pos j12_).symm.trans h11_
    clear h11_
    subst j12_
    obtain ⟨l0, e13_, h16_⟩ := pullD_elim h15_
    clear h15_
    obtain rfl := tup_inj e13_
    have k14_ := ints_L4_in1 ka ca kb cb e4_
    obtain rfl := Option.some.inj h16_
    exact con_pc (op := true) (I := [19]) (sp := ints_sp) 3000 (bF 1 []) [.tup [iD (Int.ofNat 1), .one (.bool l0)]] [c_bn b3_] [k_l k14_ [] [.tup [iD (Int.ofNat 1), .one (.bool l0)]] []] (by kernel_rfl)
  have h17_ := (if_neg j12_).symm.trans h11_
  clear h11_
  cases h17_
def m_19 (ds : List D) : Option D := pullD (α := Nat × (List D) × Nat × (List D)) (some (.tup ds)) (fun d => ((D.ln (D.at d 0)), (D.lc (D.at d 0)), (D.ln (D.at d 1)), (D.lc (D.at d 1)))) (fun (ka, ca, kb, cb) => .tup [.list ka ca, .list kb cb]) fun (ka, ca, kb, cb) => ints_M ka ca kb cb
theorem m_19_ok {ds : List D} {r : D} (h : m_19 ds = some r) : Con 19 ds r := by
  unfold m_19 at h
  obtain ⟨⟨ka, ca, kb, cb⟩, e0, h0⟩ := pullD_elim h
  obtain rfl := tup_inj e0
  exact ints_M_ok ka ca kb cb h0
theorem m_19_eq (ka : Nat) (ca : List D) (kb : Nat) (cb : List D) : m_19 [.list ka ca, .list kb cb] = ints_M ka ca kb cb := pullD_some (ka, ca, kb, cb) rfl rfl
def sameState_sp : List LSpec := []
def sameState_M (ka : Nat) (ca : List D) (kb : Nat) (cb : List D) (kc : Nat) (cc : List D) (kd : Nat) (cd : List D) : Option D := pullD (α := Bool) (m_19 [.list ka ca, .list kc cc]) (fun d => ((D.vb d))) (fun r0 => .one (.bool r0)) fun r0 => ((if (r0) = true then pullD (α := Bool) (m_19 [.list kb cb, .list kd cd]) (fun d => ((D.vb d))) (fun r1 => .one (.bool r1)) fun r1 => (some (.one (.bool r1))) else some (.one (.bool false))))
theorem sameState_M_ok (ka : Nat) (ca : List D) (kb : Nat) (cb : List D) (kc : Nat) (cc : List D) (kd : Nat) (cd : List D) {r : D} (h : sameState_M ka ca kb cb kc cc kd cd = some r) : Con 15 [.agg [.list ka ca, .list kb cb], .agg [.list kc cc, .list kd cd]] r := by
  unfold sameState_M at h
  obtain ⟨r0, f1_, h2_⟩ := pullD_elim h
  replace f1_ := m_19_ok f1_
  by_cases b3_ : (r0) = true
  · have h4_ := (if_pos b3_).symm.trans h2_
    obtain ⟨r1, f5_, h6_⟩ := pullD_elim h4_
    replace f5_ := m_19_ok f5_
    obtain rfl := Option.some.inj h6_
    exact con_pc (op := true) (I := [15]) (sp := sameState_sp) 3000 (bT 6 []) [.one (.bool r0), .one (.bool r1)] [c_q b3_, c_q b3_, c_q b3_, c_q b3_, c_q b3_, c_q b3_] [k_c f1_, k_c f5_] (by kernel_rfl)
  have h4_ := (if_neg b3_).symm.trans h2_
  have b7_ : (r0) = false := by first | exact b3_ | simpa using b3_
  obtain rfl := Option.some.inj h4_
  exact con_pc (op := true) (I := [15]) (sp := sameState_sp) 3000 (bF 6 []) [.one (.bool r0)] [c_q b7_, c_q b7_, c_q b7_, c_q b7_, c_q b7_, c_q b7_] [k_c f1_] (by kernel_rfl)
def m_15 (ds : List D) : Option D := pullD (α := Nat × (List D) × Nat × (List D) × Nat × (List D) × Nat × (List D)) (some (.tup ds)) (fun d => ((D.ln (D.at (D.at d 0) 0)), (D.lc (D.at (D.at d 0) 0)), (D.ln (D.at (D.at d 0) 1)), (D.lc (D.at (D.at d 0) 1)), (D.ln (D.at (D.at d 1) 0)), (D.lc (D.at (D.at d 1) 0)), (D.ln (D.at (D.at d 1) 1)), (D.lc (D.at (D.at d 1) 1)))) (fun (ka, ca, kb, cb, kc, cc, kd, cd) => .tup [.agg [.list ka ca, .list kb cb], .agg [.list kc cc, .list kd cd]]) fun (ka, ca, kb, cb, kc, cc, kd, cd) => sameState_M ka ca kb cb kc cc kd cd
theorem m_15_ok {ds : List D} {r : D} (h : m_15 ds = some r) : Con 15 ds r := by
  unfold m_15 at h
  obtain ⟨⟨ka, ca, kb, cb, kc, cc, kd, cd⟩, e0, h0⟩ := pullD_elim h
  obtain rfl := tup_inj e0
  exact sameState_M_ok ka ca kb cb kc cc kd cd h0
theorem m_15_eq (ka : Nat) (ca : List D) (kb : Nat) (cb : List D) (kc : Nat) (cc : List D) (kd : Nat) (cd : List D) : m_15 [.agg [.list ka ca, .list kb cb], .agg [.list kc cc, .list kd cd]] = sameState_M ka ca kb cb kc cc kd cd := pullD_some (ka, ca, kb, cb, kc, cc, kd, cd) rfl rfl
def copyInts_sp : List LSpec := []
def copyInts_M (k : Nat) (c : List D) : Option D := guardP ((∀ (u : D), u ∈ c → cellD u) ∧ 0 ≤ 0 ∧ (0 + k) * 8 ≤ 140737488355328 ∧ 0 + k ≤ 4611686018427387904) (guardP (c.length = k * 1) (guardP ((0 + (0 + k)) * 1 ≤ (List.take (0 * 1) [] ++ c).length ∧ 0 < 1) (some (.list (0 + k) c))))
theorem copyInts_M_ok (k : Nat) (c : List D) {r : D} (h : copyInts_M k c = some r) : Con 22 [.list k c] r := by
  unfold copyInts_M at h
  obtain ⟨f1_, h2_⟩ := guardP_elim h
  obtain ⟨f3_, h4_⟩ := guardP_elim h2_
  obtain ⟨f5_, h6_⟩ := guardP_elim h4_
  obtain rfl := Option.some.inj h6_
  exact con_pc (op := true) (I := [22]) (sp := copyInts_sp) 3000 [] [] [c_f f1_, c_f f3_, c_f f5_] [] (by kernel_rfl)
def m_22 (ds : List D) : Option D := pullD (α := Nat × (List D)) (some (.tup ds)) (fun d => ((D.ln (D.at d 0)), (D.lc (D.at d 0)))) (fun (k, c) => .tup [.list k c]) fun (k, c) => copyInts_M k c
theorem m_22_ok {ds : List D} {r : D} (h : m_22 ds = some r) : Con 22 ds r := by
  unfold m_22 at h
  obtain ⟨⟨k, c⟩, e0, h0⟩ := pullD_elim h
  obtain rfl := tup_inj e0
  exact copyInts_M_ok k c h0
theorem m_22_eq (k : Nat) (c : List D) : m_22 [.list k c] = copyInts_M k c := pullD_some (k, c) rfl rfl
def copyLine_sp : List LSpec := []
def copyLine_M (ky : Nat) (cy : List D) (er : Bool) : Option D := pullD (α := Nat × (List D)) (m_22 [.list ky cy]) (fun d => ((D.ln d), (D.lc d))) (fun (k0, c1) => .list k0 c1) fun (k0, c1) => (some (.agg [.list k0 c1, .one (.bool er)]))
theorem copyLine_M_ok (ky : Nat) (cy : List D) (er : Bool) {r : D} (h : copyLine_M ky cy er = some r) : Con 9 [.agg [.list ky cy, .one (.bool er)]] r := by
  unfold copyLine_M at h
  obtain ⟨⟨k0, c1⟩, f1_, h2_⟩ := pullD_elim h
  replace f1_ := m_22_ok f1_
  obtain rfl := Option.some.inj h2_
  exact con_pc (op := true) (I := [9]) (sp := copyLine_sp) 3000 [] [.list k0 c1] [] [k_c f1_] (by kernel_rfl)
def m_9 (ds : List D) : Option D := pullD (α := Nat × (List D) × Bool) (some (.tup ds)) (fun d => ((D.ln (D.at (D.at d 0) 0)), (D.lc (D.at (D.at d 0) 0)), (D.vb (D.at (D.at d 0) 1)))) (fun (ky, cy, er) => .tup [.agg [.list ky cy, .one (.bool er)]]) fun (ky, cy, er) => copyLine_M ky cy er
theorem m_9_ok {ds : List D} {r : D} (h : m_9 ds = some r) : Con 9 ds r := by
  unfold m_9 at h
  obtain ⟨⟨ky, cy, er⟩, e0, h0⟩ := pullD_elim h
  obtain rfl := tup_inj e0
  exact copyLine_M_ok ky cy er h0
theorem m_9_eq (ky : Nat) (cy : List D) (er : Bool) : m_9 [.agg [.list ky cy, .one (.bool er)]] = copyLine_M ky cy er := pullD_some (ky, cy, er) rfl rfl
def copyState_sp : List LSpec := []
def copyState_M (ka : Nat) (ca : List D) (kb : Nat) (cb : List D) : Option D := pullD (α := Nat × (List D)) (m_22 [.list ka ca]) (fun d => ((D.ln d), (D.lc d))) (fun (k0, c1) => .list k0 c1) fun (k0, c1) => (pullD (α := Nat × (List D)) (m_22 [.list kb cb]) (fun d => ((D.ln d), (D.lc d))) (fun (k2, c3) => .list k2 c3) fun (k2, c3) => (some (.agg [.list k0 c1, .list k2 c3])))
theorem copyState_M_ok (ka : Nat) (ca : List D) (kb : Nat) (cb : List D) {r : D} (h : copyState_M ka ca kb cb = some r) : Con 11 [.agg [.list ka ca, .list kb cb]] r := by
  unfold copyState_M at h
  obtain ⟨⟨k0, c1⟩, f1_, h2_⟩ := pullD_elim h
  replace f1_ := m_22_ok f1_
  obtain ⟨⟨k2, c3⟩, f3_, h4_⟩ := pullD_elim h2_
  replace f3_ := m_22_ok f3_
  obtain rfl := Option.some.inj h4_
  exact con_pc (op := true) (I := [11]) (sp := copyState_sp) 3000 [] [.list k0 c1, .list k2 c3] [] [k_c f1_, k_c f3_] (by kernel_rfl)
def m_11 (ds : List D) : Option D := pullD (α := Nat × (List D) × Nat × (List D)) (some (.tup ds)) (fun d => ((D.ln (D.at (D.at d 0) 0)), (D.lc (D.at (D.at d 0) 0)), (D.ln (D.at (D.at d 0) 1)), (D.lc (D.at (D.at d 0) 1)))) (fun (ka, ca, kb, cb) => .tup [.agg [.list ka ca, .list kb cb]]) fun (ka, ca, kb, cb) => copyState_M ka ca kb cb
theorem m_11_ok {ds : List D} {r : D} (h : m_11 ds = some r) : Con 11 ds r := by
  unfold m_11 at h
  obtain ⟨⟨ka, ca, kb, cb⟩, e0, h0⟩ := pullD_elim h
  obtain rfl := tup_inj e0
  exact copyState_M_ok ka ca kb cb h0
theorem m_11_eq (ka : Nat) (ca : List D) (kb : Nat) (cb : List D) : m_11 [.agg [.list ka ca, .list kb cb]] = copyState_M ka ca kb cb := pullD_some (ka, ca, kb, cb) rfl rfl
def few_sp : List LSpec := []
def few_M (ky : Nat) (cy : List D) (er : Bool) : Option D := some (.one (.bool (decide ((ky : Int) ≤ (12 : Int)))))
theorem few_M_ok (ky : Nat) (cy : List D) (er : Bool) {r : D} (h : few_M ky cy er = some r) : Con 7 [.agg [.list ky cy, .one (.bool er)]] r := by
  unfold few_M at h
  obtain rfl := Option.some.inj h
  exact con_pc (op := true) (I := [7]) (sp := few_sp) 3000 [] [] [] [] (by kernel_rfl)
def m_7 (ds : List D) : Option D := pullD (α := Nat × (List D) × Bool) (some (.tup ds)) (fun d => ((D.ln (D.at (D.at d 0) 0)), (D.lc (D.at (D.at d 0) 0)), (D.vb (D.at (D.at d 0) 1)))) (fun (ky, cy, er) => .tup [.agg [.list ky cy, .one (.bool er)]]) fun (ky, cy, er) => few_M ky cy er
theorem m_7_ok {ds : List D} {r : D} (h : m_7 ds = some r) : Con 7 ds r := by
  unfold m_7 at h
  obtain ⟨⟨ky, cy, er⟩, e0, h0⟩ := pullD_elim h
  obtain rfl := tup_inj e0
  exact few_M_ok ky cy er h0
theorem m_7_eq (ky : Nat) (cy : List D) (er : Bool) : m_7 [.agg [.list ky cy, .one (.bool er)]] = few_M ky cy er := pullD_some (ky, cy, er) rfl rfl
end
end Go.Proofs.Ytfdehaafbkhclaa
/- Lines and states: what is checked. -/
namespace Go.Proofs.Ytfdehaafbkhclaa
open Go.Ev Go.RowKit
set_option maxRecDepth 100000
abbrev lnD (y : List Int) (er : Bool) : D := .agg [lD y, .one (.bool er)]
abbrev stD (a b : List Int) : D := .agg [lD a, lD b]
theorem within_eq (n lo hi : Int) : m_24 [iD n, iD lo, iD hi] = some (.one (.bool (decide (lo ≤ n ∧ n ≤ hi)))) := by
  rw [m_24_eq]
  unfold within_M
  by_cases h : lo ≤ n
  · rw [if_pos h]; simp [h]
  · rw [if_neg h]; simp [h]
theorem first_eq (l : List Int) (hl : l.length ≤ 1000) : m_35 [lD l] = some (iD ((l.find? fun x => x != 0).getD 0)) := by
  rw [m_35_eq]
  unfold firstOf_M
  have key : ∀ m i, i + m = l.length → runR (firstOf_L2_S l.length (l.map iD)) (.next 0 [iD (i : Int)]) = (match (l.drop i).find? (fun x => x != 0) with | some x => some (.out 1 [iD x]) | none => some (.out 0 [])) := by
    intro m
    induction m with
    | zero =>
      intro i hi
      rw [List.drop_of_length_le (by omega)]
      refine runR_exit ?_
      show firstOf_L2_S0 l.length (l.map iD) _ = _
      unfold firstOf_L2_S0
      rw [pullD_some (i : Int) (by rfl) (by rfl), if_neg (by omega)]
    | succ m ih =>
      intro i hi
      have hlt : i < l.length := by omega
      have hd : l.drop i = at' l i :: l.drop (i + 1) := by
        rw [List.drop_eq_getElem_cons hlt]
        congr 1
        unfold at'
        rw [List.getElem?_eq_getElem hlt]; rfl
      rw [hd, List.find?_cons]
      have hst : firstOf_L2_S l.length (l.map iD) (.next 0 [iD (i : Int)]) = if at' l i ≠ 0 then some (.out 1 [iD (at' l i)]) else some (.next 0 [iD ((i + 1 : Nat) : Int)]) := by
        show firstOf_L2_S0 l.length (l.map iD) _ = _
        unfold firstOf_L2_S0
        rw [pullD_some (i : Int) (by rfl) (by rfl), if_pos (by omega), guardP_pos (by omega), readA hlt, pullD_some (at' l i) (by rfl) (by rfl), natI (by omega)]
      by_cases h0 : at' l i = 0
      · rw [if_neg (by simpa using h0)] at hst
        rw [runR_next hst, ih (i + 1) (by omega), show (at' l i != 0) = false by simp [h0]]
      · rw [if_pos h0] at hst
        rw [runR_exit hst, show (at' l i != 0) = true by simp [h0]]
  have h := key l.length 0 (by omega)
  rw [List.drop_zero, Int.natCast_zero] at h
  cases hf : l.find? (fun x => x != 0) with
  | none =>
    rw [hf] at h
    rw [bindL_some (j := 0) (ds := []) h, if_pos rfl, pullD_some () (by rfl) (by rfl)]
    rfl
  | some x =>
    rw [hf] at h
    rw [bindL_some (j := 1) (ds := [iD x]) h, if_neg (by decide), if_pos rfl, pullD_some x (by rfl) (by rfl)]
    rfl
def lineE (y : List Int) : Int := if y.length = 0 then 10 else if 10 < y.length then 8 else if allIn 1 20 y = true then 0 else 2
def wavE (l : List Int) : Int := if allIn (-1000000) 1000000 l = true then 0 else 2
def ckE (a b : List Int) (n : Nat) : Int := if a.length ≠ n then 10 else if b.length ≠ n then 10 else if wavE a ≠ 0 then wavE a else wavE b
def stE (y a b : List Int) : Int := if lineE y ≠ 0 then lineE y else ckE a b y.length
theorem lineErr_eq (y : List Int) (er : Bool) : m_13 [lnD y er] = some (iD (lineE y)) := by
  rw [m_13_eq]
  unfold lineErr_M lineE
  by_cases h0 : y.length = 0
  · rw [if_pos (by omega), if_pos h0]
  rw [if_neg (by omega), if_neg h0]
  by_cases h1 : 10 < y.length
  · rw [if_pos (by omega), if_pos h1]
  rw [if_neg (by omega), if_neg h1]
  have h := scanIn y 1 20 (lineErr_L6_S y.length (y.map iD) er) (.out 1 [iD 2]) (fun _ _ e => by cases e) (fun i hi => by
    show lineErr_L6_S0 y.length (y.map iD) er _ = _
    unfold lineErr_L6_S0
    rw [pullD_some (i : Int) (by rfl) (by rfl), if_pos (by omega), guardP_pos (by omega), readA hi, pullD_some (at' y i) (by rfl) (by rfl), within_eq, pullB, natI (by omega)]
    by_cases q : 1 ≤ at' y i ∧ at' y i ≤ 20
    · rw [if_neg (by simp [q]), if_pos q]
    · rw [if_pos (by simpa using q), if_neg q]) (by
    show lineErr_L6_S0 y.length (y.map iD) er _ = _
    unfold lineErr_L6_S0
    rw [pullD_some (y.length : Int) (by rfl) (by rfl), if_neg (by omega)])
  by_cases q : allIn 1 20 y = true
  · rw [if_pos q] at h
    rw [if_pos q, bindL_some h, if_pos rfl, pullD_some () (by rfl) (by rfl)]
  · rw [if_neg q] at h
    rw [if_neg q, bindL_some h, if_neg (by decide), if_pos rfl, pullD_some (2 : Int) (by rfl) (by rfl)]
theorem chkCount_eq (n : Nat) : m_38 [iD (n : Int), iD 1, iD 10] = some (iD (if n = 0 then 10 else if 10 < n then 8 else 0)) := by
  rw [m_38_eq]
  unfold chkCount_M
  by_cases h0 : n = 0
  · rw [if_pos (by omega), if_pos h0]
  rw [if_neg (by omega), if_neg h0]
  by_cases h1 : 10 < n
  · rw [if_pos (by omega), if_pos h1]
  · rw [if_neg (by omega), if_neg h1]
theorem first2 (x y : Int) : m_35 [.list 2 [iD x, iD y]] = some (iD (if x ≠ 0 then x else y)) := by
  rw [show [D.list 2 [iD x, iD y]] = [lD [x, y]] from rfl, first_eq _ (by simp)]
  by_cases h : x = 0
  · subst h
    by_cases h2 : y = 0
    · subst h2; rfl
    · simp [h2]
  · simp [h]
theorem first3 (x y z : Int) : m_35 [.list 3 [iD x, iD y, iD z]] = some (iD (if x ≠ 0 then x else if y ≠ 0 then y else z)) := by
  rw [show [D.list 3 [iD x, iD y, iD z]] = [lD [x, y, z]] from rfl, first_eq _ (by simp)]
  by_cases h : x = 0
  · subst h
    by_cases h2 : y = 0
    · subst h2
      by_cases h3 : z = 0
      · subst h3; rfl
      · simp [h3]
    · simp [h2]
  · simp [h]
theorem pickE (p q : Prop) [Decidable p] [Decidable q] (z : Int) : (if (if p then (10 : Int) else if q then 8 else 0) ≠ 0 then (if p then (10 : Int) else if q then 8 else 0) else z) = if p then 10 else if q then 8 else z := by
  by_cases hp : p <;> by_cases hq : q <;> simp [hp, hq]
theorem chkLine_eq (y : List Int) (er : Bool) (hl : y.length ≤ 1000) : m_14 [lnD y er] = some (iD (lineE y)) := by
  rw [m_14_eq]
  unfold chkLine_M
  rw [chkCount_eq, pullI]
  have h := scanIn y 1 20 (chkLine_L56_2_S y.length (y.map iD) er) (.out 1 [iD 2]) (fun _ _ e => by cases e) (fun i hi => by
    show chkLine_L56_2_S0 y.length (y.map iD) er _ = _
    unfold chkLine_L56_2_S0
    rw [pullD_some (i : Int) (by rfl) (by rfl), if_pos (by omega), guardP_pos (by omega), readA hi, pullD_some (at' y i) (by rfl) (by rfl), natI (by omega)]
    by_cases q : 1 ≤ at' y i ∧ at' y i ≤ 20
    · rw [if_neg (by omega), if_neg (by omega), if_pos q]
    · rw [if_neg q]
      by_cases q1 : at' y i < 1
      · rw [if_pos q1]
      · rw [if_neg q1, if_pos (by omega)]) (by
    show chkLine_L56_2_S0 y.length (y.map iD) er _ = _
    unfold chkLine_L56_2_S0
    rw [pullD_some (y.length : Int) (by rfl) (by rfl), if_neg (by omega)])
  unfold lineE
  by_cases q : allIn 1 20 y = true
  · rw [if_pos q] at h
    rw [if_pos q, bindL_some h, if_pos rfl, pullD_some () (by rfl) (by rfl), first2, pullI]
    rw [pickE]
  · rw [if_neg q] at h
    rw [if_neg q, bindL_some h, if_neg (by decide), if_pos rfl, pullD_some (2 : Int) (by rfl) (by rfl), first2, pullI]
    rw [pickE]
theorem wavesErr_eq (l : List Int) (hl : l.length ≤ 1000) : m_40 [lD l] = some (iD (wavE l)) := by
  rw [m_40_eq]
  unfold wavesErr_M wavE
  have h := scanIn l (-1000000) 1000000 (wavesErr_L2_S l.length (l.map iD)) (.out 1 [iD 2]) (fun _ _ e => by cases e) (fun i hi => by
    show wavesErr_L2_S0 l.length (l.map iD) _ = _
    unfold wavesErr_L2_S0
    rw [pullD_some (i : Int) (by rfl) (by rfl), if_pos (by omega), guardP_pos (by omega), readA hi, pullD_some (at' l i) (by rfl) (by rfl), within_eq, pullB, natI (by omega)]
    by_cases q : -1000000 ≤ at' l i ∧ at' l i ≤ 1000000
    · rw [if_neg (by simp [q]), if_pos q]
    · rw [if_pos (by simpa using q), if_neg q]) (by
    show wavesErr_L2_S0 l.length (l.map iD) _ = _
    unfold wavesErr_L2_S0
    rw [pullD_some (l.length : Int) (by rfl) (by rfl), if_neg (by omega)])
  by_cases q : allIn (-1000000) 1000000 l = true
  · rw [if_pos q] at h
    rw [if_pos q, bindL_some h, if_pos rfl, pullD_some () (by rfl) (by rfl)]
  · rw [if_neg q] at h
    rw [if_neg q, bindL_some h, if_neg (by decide), if_pos rfl, pullD_some (2 : Int) (by rfl) (by rfl)]
theorem waves_go (l : List Int) (hl : l.length ≤ 1000) (kk : Nat) (cc : List D) (n : Int) (S : Rd → Option Rd) (hS : ∀ ds, S (.next 0 ds) = chkState_L56_2_S0 l.length (l.map iD) kk cc n ds) : runR S (.next 0 [iD 0]) = if allIn (-1000000) 1000000 l = true then some (.out 0 []) else some (.out 1 [iD 2]) :=
  scanIn l (-1000000) 1000000 S (.out 1 [iD 2]) (fun _ _ e => by cases e) (fun i hi => by
    rw [hS]
    unfold chkState_L56_2_S0
    rw [pullD_some (i : Int) (by rfl) (by rfl), if_pos (by omega), guardP_pos (by omega), readA hi, pullD_some (at' l i) (by rfl) (by rfl), natI (by omega)]
    by_cases q : -1000000 ≤ at' l i ∧ at' l i ≤ 1000000
    · rw [if_neg (by omega), if_neg (by omega), if_pos q]
    · rw [if_neg q]
      by_cases q1 : at' l i < -1000000
      · rw [if_pos q1]
      · rw [if_neg q1, if_pos (by omega)]) (by
    rw [hS]
    unfold chkState_L56_2_S0
    rw [pullD_some (l.length : Int) (by rfl) (by rfl), if_neg (by omega)])
theorem chkState_eq (a b : List Int) (n : Nat) (ha : a.length ≤ 1000) (hb : b.length ≤ 1000) : m_34 [stD a b, iD (n : Int)] = some (iD (ckE a b n)) := by
  rw [m_34_eq]
  unfold chkState_M ckE
  by_cases h0 : a.length ≠ n
  · rw [if_pos (by omega), if_pos h0]
  rw [if_neg (by omega), if_neg h0]
  by_cases h1 : b.length ≠ n
  · rw [if_pos (by omega), if_pos h1]
  rw [if_neg (by omega), if_neg h1]
  have g1 := waves_go a ha b.length (b.map iD) n (chkState_L56_2_S a.length (a.map iD) b.length (b.map iD) n) fun _ => rfl
  have g2 := waves_go b hb a.length (a.map iD) n (chkState_L56_2_1_S a.length (a.map iD) b.length (b.map iD) n) fun _ => rfl
  unfold wavE
  by_cases q : allIn (-1000000) 1000000 a = true
  · rw [if_pos q] at g1
    rw [bindL_some g1, if_pos rfl, pullD_some () (by rfl) (by rfl), if_pos q, if_neg (by decide)]
    by_cases p : allIn (-1000000) 1000000 b = true
    · rw [if_pos p] at g2
      rw [bindL_some g2, if_pos rfl, pullD_some () (by rfl) (by rfl), first2, pullI, if_pos p, if_neg (by decide)]
    · rw [if_neg p] at g2
      rw [bindL_some g2, if_neg (by decide), if_pos rfl, pullD_some (2 : Int) (by rfl) (by rfl), first2, pullI, if_neg p, if_neg (by decide)]
  · rw [if_neg q] at g1
    rw [bindL_some g1, if_neg (by decide), if_pos rfl, pullD_some (2 : Int) (by rfl) (by rfl), if_neg q, if_pos (by decide)]
    by_cases p : allIn (-1000000) 1000000 b = true
    · rw [if_pos p] at g2
      rw [bindL_some g2, if_pos rfl, pullD_some () (by rfl) (by rfl), first2, pullI, if_pos (by decide)]
    · rw [if_neg p] at g2
      rw [bindL_some g2, if_neg (by decide), if_pos rfl, pullD_some (2 : Int) (by rfl) (by rfl), first2, pullI, if_pos (by decide)]
theorem stateErr_eq (y a b : List Int) (er : Bool) (ha : a.length ≤ 1000) (hb : b.length ≤ 1000) : m_17 [lnD y er, stD a b] = some (iD (stE y a b)) := by
  rw [m_17_eq]
  unfold stateErr_M stE ckE
  rw [show [D.agg [D.list y.length (y.map iD), D.one (.bool er)]] = [lnD y er] from rfl, lineErr_eq, pullI]
  by_cases h0 : lineE y ≠ 0
  · rw [if_pos h0, if_pos h0]
  rw [if_neg h0, if_neg h0]
  by_cases h1 : a.length ≠ y.length
  · rw [if_pos (by omega), if_pos h1]
  rw [if_neg (by omega), if_neg h1]
  by_cases h2 : b.length ≠ y.length
  · rw [if_pos (by omega), if_pos h2]
  rw [if_neg (by omega), if_neg h2, show [D.list a.length (a.map iD)] = [lD a] from rfl, wavesErr_eq a ha, pullI]
  by_cases h3 : wavE a ≠ 0
  · rw [if_pos h3, if_pos h3]
  · rw [if_neg h3, if_neg h3, show [D.list b.length (b.map iD)] = [lD b] from rfl, wavesErr_eq b hb, pullI]
/-! Copies, equal lists, states without waves. -/
theorem copyInts_eq (l : List Int) (hl : l.length ≤ 1000) : m_22 [lD l] = some (lD l) := by
  rw [m_22_eq]
  unfold copyInts_M
  rw [guardP_pos ⟨cells_int l, Nat.le_refl _, by omega, by omega⟩, guardP_pos (by simp), guardP_pos ⟨by simp, by omega⟩, Nat.zero_add]
theorem copyLine_eq (y : List Int) (er : Bool) (hl : y.length ≤ 1000) : m_9 [lnD y er] = some (lnD y er) := by
  rw [m_9_eq]
  unfold copyLine_M
  rw [show [D.list y.length (y.map iD)] = [lD y] from rfl, copyInts_eq y hl, pullD_some (y.length, y.map iD) (by rfl) (by rfl)]
theorem copyState_eq (a b : List Int) (ha : a.length ≤ 1000) (hb : b.length ≤ 1000) : m_11 [stD a b] = some (stD a b) := by
  rw [m_11_eq]
  unfold copyState_M
  rw [show [D.list a.length (a.map iD)] = [lD a] from rfl, copyInts_eq a ha, pullD_some (a.length, a.map iD) (by rfl) (by rfl)]
  dsimp only
  rw [show [D.list b.length (b.map iD)] = [lD b] from rfl, copyInts_eq b hb, pullD_some (b.length, b.map iD) (by rfl) (by rfl)]
theorem ints_same (l : List Int) (hl : l.length ≤ 1000) : m_19 [lD l, lD l] = some (.one (.bool true)) := by
  rw [m_19_eq]
  unfold ints_M
  rw [if_neg (by simp)]
  have h1 : runR (ints_L4_S l.length (l.map iD) l.length (l.map iD)) (.next 0 [iD 0]) = _ := runR_scan (S := ints_L4_S l.length (l.map iD) l.length (l.map iD)) (fun _ => 0) (fun i => [iD (i : Int)]) (Nat.zero_le l.length) (fun i _ hi => by
    show ints_L4_S0 l.length (l.map iD) l.length (l.map iD) _ = _
    unfold ints_L4_S0
    rw [pullD_some (i : Int) (by rfl) (by rfl), if_pos (by omega), guardP_pos (by omega), readA hi, pullD_some (at' l i) (by rfl) (by rfl), guardP_pos (by omega), pullD_some (at' l i) (by rfl) (by rfl), if_neg (by simp), natI (by omega)])
  have h2 : runR (ints_L4_S l.length (l.map iD) l.length (l.map iD)) (.next 0 [iD (l.length : Int)]) = some (.out 0 []) := runR_exit (by
    show ints_L4_S0 l.length (l.map iD) l.length (l.map iD) _ = _
    unfold ints_L4_S0
    rw [pullD_some (l.length : Int) (by rfl) (by rfl), if_neg (by omega)])
  rw [bindL_some (h1.trans h2), if_pos rfl, pullD_some () (by rfl) (by rfl)]
theorem same_eq (a b : List Int) (ha : a.length ≤ 1000) (hb : b.length ≤ 1000) : m_15 [stD a b, stD a b] = some (.one (.bool true)) := by
  rw [m_15_eq]
  unfold sameState_M
  rw [show [D.list a.length (a.map iD), D.list a.length (a.map iD)] = [lD a, lD a] from rfl, ints_same a ha, pullB, if_pos rfl, show [D.list b.length (b.map iD), D.list b.length (b.map iD)] = [lD b, lD b] from rfl, ints_same b hb, pullB]
abbrev zs (n : Nat) : List Int := tab n fun _ => 0
theorem few_eq (y : List Int) (er : Bool) : m_7 [lnD y er] = some (.one (.bool (decide ((y.length : Int) ≤ 12)))) := by
  rw [m_7_eq]; rfl
/-! The energy. -/
def enW (y a b : List Int) : Nat → Int
  | 0 => 0
  | k + 1 => IntKind.i64.wrap (enW y a b k + IntKind.i64.wrap (at' y k * IntKind.i64.wrap (IntKind.i64.wrap (at' a k * at' a k) + IntKind.i64.wrap (at' b k * at' b k))))
theorem ckE_len {a b : List Int} {n : Nat} (h : ckE a b n = 0) : a.length = n ∧ b.length = n ∧ allIn (-1000000) 1000000 a = true ∧ allIn (-1000000) 1000000 b = true := by
  unfold ckE wavE at h
  by_cases h0 : a.length ≠ n
  · rw [if_pos h0] at h; cases h
  rw [if_neg h0] at h
  by_cases h1 : b.length ≠ n
  · rw [if_pos h1] at h; cases h
  rw [if_neg h1] at h
  by_cases h2 : allIn (-1000000) 1000000 a = true
  · rw [if_pos h2, if_neg (by decide)] at h
    by_cases h3 : allIn (-1000000) 1000000 b = true
    · exact ⟨by omega, by omega, h2, h3⟩
    · rw [if_neg h3] at h; cases h
  · rw [if_neg h2, if_pos (by decide)] at h; cases h
theorem stE_len {y a b : List Int} (h : stE y a b = 0) : lineE y = 0 ∧ ckE a b y.length = 0 := by
  unfold stE at h
  by_cases h0 : lineE y ≠ 0
  · rw [if_pos h0] at h; exact absurd h h0
  · rw [if_neg h0] at h; exact ⟨by omega, h⟩
theorem energyOf_eq (y a b : List Int) (er : Bool) (hl : y.length ≤ 1000) (ha : a.length ≤ 1000) (hb : b.length ≤ 1000) : m_12 [lnD y er, stD a b] = some (.tup [iD (if stE y a b ≠ 0 then 0 else enW y a b y.length), iD (stE y a b)]) := by
  rw [m_12_eq]
  unfold energyOf_M
  rw [show [D.agg [D.list y.length (y.map iD), D.one (.bool er)]] = [lnD y er] from rfl, chkLine_eq y er hl, pullI, show [D.agg [D.list a.length (a.map iD), D.list b.length (b.map iD)], iD (y.length : Int)] = [stD a b, iD (y.length : Int)] from rfl, chkState_eq a b _ ha hb, pullI, first2, pullI]
  rw [show (if lineE y ≠ 0 then lineE y else ckE a b y.length) = stE y a b from rfl]
  by_cases h0 : stE y a b ≠ 0
  · rw [if_pos h0, if_pos h0]
  rw [if_neg h0, if_neg h0]
  obtain ⟨e1, e2⟩ := stE_len (y := y) (a := a) (b := b) (by omega)
  obtain ⟨la, lb, -, -⟩ := ckE_len e2
  have h1 : runR (energyOf_L6_S y.length (y.map iD) er a.length (a.map iD) b.length (b.map iD) (lineE y) (ckE a b y.length) (stE y a b)) (.next 0 [iD 0, iD 0]) = _ := runR_scan (S := energyOf_L6_S y.length (y.map iD) er a.length (a.map iD) b.length (b.map iD) (lineE y) (ckE a b y.length) (stE y a b)) (fun _ => 0) (fun i => [iD (enW y a b i), iD (i : Int)]) (Nat.zero_le y.length) (fun i _ hi => by
    show energyOf_L6_S0 y.length (y.map iD) er a.length (a.map iD) b.length (b.map iD) (lineE y) (ckE a b y.length) (stE y a b) _ = _
    unfold energyOf_L6_S0
    rw [pullD_some (enW y a b i, (i : Int)) (by rfl) (by rfl)]
    dsimp only
    rw [if_pos (by omega), guardP_pos (by omega), readA hi, pullD_some (at' y i) (by rfl) (by rfl), guardP_pos (by omega), readA (by omega), pullD_some (at' a i) (by rfl) (by rfl), pullD_some (at' a i) (by rfl) (by rfl), guardP_pos (by omega), readA (by omega), pullD_some (at' b i) (by rfl) (by rfl), pullD_some (at' b i) (by rfl) (by rfl), natI (by omega)]
    rfl)
  have h2 : runR (energyOf_L6_S y.length (y.map iD) er a.length (a.map iD) b.length (b.map iD) (lineE y) (ckE a b y.length) (stE y a b)) (.next 0 [iD (enW y a b y.length), iD (y.length : Int)]) = some (.out 0 [iD (enW y a b y.length)]) := runR_exit (by
    show energyOf_L6_S0 y.length (y.map iD) er a.length (a.map iD) b.length (b.map iD) (lineE y) (ckE a b y.length) (stE y a b) _ = _
    unfold energyOf_L6_S0
    rw [pullD_some (enW y a b y.length, (y.length : Int)) (by rfl) (by rfl)]
    dsimp only
    rw [if_neg (by omega)])
  have h3 : stE y a b = 0 := by omega
  rw [bindL_some (h1.trans h2), if_pos rfl, pullD_some (enW y a b y.length) (by rfl) (by rfl), h3]
end Go.Proofs.Ytfdehaafbkhclaa
/- Lines and states, as arguments. -/
namespace Go.Proofs.Ytfdehaafbkhclaa
open Go.Ev Go.RowKit
theorem list_of {α : Type} {es : List CT} {enc : α → List D} (he : ∀ r, okDs es r → ∃ a, r = enc a) {d : D} (h : okD (.sl es) d) : ∃ ys : List α, d = .list ys.length (ys.map enc).flatten ∧ ys.length ≤ maxLen := by
  simp only [okD] at h
  obtain ⟨rows, rfl, hl, hr⟩ := h
  have : ∀ rows : List (List D), (∀ r ∈ rows, okDs es r) → ∃ ys : List α, rows = ys.map enc := by
    intro rows
    induction rows with
    | nil => intro _; exact ⟨[], rfl⟩
    | cons r rs ih =>
      intro h
      obtain ⟨a, rfl⟩ := he r (h r (by simp))
      obtain ⟨ys, rfl⟩ := ih fun q hq => h q (by simp [hq])
      exact ⟨a :: ys, rfl⟩
  obtain ⟨ys, rfl⟩ := this rows hr
  exact ⟨ys, by rw [List.length_map], by rwa [List.length_map] at hl⟩
theorem single_flat {α : Type} (f : α → D) : ∀ l : List α, (l.map fun x => [f x]).flatten = l.map f
  | [] => rfl
  | a :: l => by simp only [List.map_cons, List.flatten_cons, single_flat f l]; rfl
theorem ints_of {d : D} (h : okD (.sl [.int .i64]) d) : ∃ l : List Int, d = lD l := by
  obtain ⟨l, rfl, -⟩ := list_of (enc := fun x : Int => [iD x]) (fun r hr => by
    simp only [okDs, okD] at hr
    obtain ⟨_, _, rfl, ⟨x, rfl, -⟩, rfl⟩ := hr
    exact ⟨x, rfl⟩) h
  exact ⟨l, by rw [single_flat]⟩
theorem state_of {ds : List D} (h : okDs [.sl [.int .i64], .sl [.int .i64]] ds) : ∃ a b : List Int, ds = [lD a, lD b] := by
  rw [okDs] at h
  obtain ⟨d, t, rfl, h1, h2⟩ := h
  rw [okDs] at h2
  obtain ⟨e, t, rfl, h3, h4⟩ := h2
  simp only [okDs] at h4
  subst h4
  obtain ⟨a, rfl⟩ := ints_of h1
  obtain ⟨b, rfl⟩ := ints_of h3
  exact ⟨a, b, rfl⟩
theorem line_of {ds : List D} (h : okDs [.sl [.int .i64], .bool] ds) : ∃ (y : List Int) (er : Bool), ds = [lD y, .one (.bool er)] := by
  rw [okDs] at h
  obtain ⟨d, t, rfl, h1, h2⟩ := h
  simp only [okDs, okD] at h2
  obtain ⟨_, _, rfl, ⟨er, rfl⟩, rfl⟩ := h2
  obtain ⟨y, rfl⟩ := ints_of h1
  exact ⟨y, er, rfl⟩
theorem int_of {k : IntKind} {d : D} (h : okD (.int k) d) : ∃ x, d = .one (.int k x) ∧ (Lit.int k x).wf = true := by
  simp only [okD] at h
  exact h
end Go.Proofs.Ytfdehaafbkhclaa
/- Lines and states: a step. -/
namespace Go.Proofs.Ytfdehaafbkhclaa
open Go.Ev Go.RowKit
set_option maxRecDepth 100000
/-- A valid state of a valid line. -/
structure Ok (y a b : List Int) : Prop where
  pos : 0 < y.length
  le : y.length ≤ 10
  la : a.length = y.length
  lb : b.length = y.length
  ry : ∀ i, i < y.length → 1 ≤ at' y i ∧ at' y i ≤ 20
  ra : ∀ i, i < y.length → -1000000 ≤ at' a i ∧ at' a i ≤ 1000000
  rb : ∀ i, i < y.length → -1000000 ≤ at' b i ∧ at' b i ≤ 1000000
theorem ok_of {y a b : List Int} (h : stE y a b = 0) : Ok y a b := by
  obtain ⟨e1, e2⟩ := stE_len h
  obtain ⟨la, lb, wa, wb⟩ := ckE_len e2
  unfold lineE at e1
  by_cases h0 : y.length = 0
  · rw [if_pos h0] at e1; cases e1
  rw [if_neg h0] at e1
  by_cases h1 : 10 < y.length
  · rw [if_pos h1] at e1; cases e1
  rw [if_neg h1] at e1
  by_cases h2 : allIn 1 20 y = true
  · exact ⟨by omega, by omega, la, lb, fun i hi => allIn_at h2 hi, fun i hi => allIn_at wa (by omega), fun i hi => allIn_at wb (by omega)⟩
  · rw [if_neg h2] at e1; cases e1
def sm (y : List Int) (i : Nat) : Int := at' y i + at' y (i + 1)
def bkN (y a b : List Int) (i : Nat) : Int := at' a i * (at' y i - at' y (i + 1)) + 2 * at' b (i + 1) * at' y (i + 1)
def fwN (y a b : List Int) (i : Nat) : Int := at' b (i + 1) * (at' y (i + 1) - at' y i) + 2 * at' a i * at' y i
def vN (y a b : List Int) (i : Nat) : Int := 2 * (at' a i * at' y i + at' b (i + 1) * at' y (i + 1))
def refl (a : List Int) (er : Bool) (n : Nat) : Int := if er = true then -at' a (n - 1) else at' a (n - 1)
def fwF (y a b : List Int) (src : Int) (j : Nat) : Int := if j = 0 then src - at' b 0 else (fwN y a b (j - 1)).tdiv (sm y (j - 1))
def bkF (y a b : List Int) (er : Bool) (n j : Nat) : Int := if j < n - 1 then (bkN y a b j).tdiv (sm y j) else refl a er n
def vF (y a b : List Int) (src : Int) (er : Bool) (n j : Nat) : Int := if j = 0 then src else if j < n then (vN y a b (j - 1)).tdiv (sm y (j - 1)) else at' a (n - 1) + refl a er n
section
variable {y a b : List Int}
structure Bnd (y a b : List Int) (i : Nat) : Prop where
  s : 2 ≤ sm y i ∧ sm y i ≤ 40
  d : -20 ≤ at' y i - at' y (i + 1) ∧ at' y i - at' y (i + 1) ≤ 20
  p1 : -20000000 ≤ at' a i * (at' y i - at' y (i + 1)) ∧ at' a i * (at' y i - at' y (i + 1)) ≤ 20000000
  p2 : -40000000 ≤ 2 * at' b (i + 1) * at' y (i + 1) ∧ 2 * at' b (i + 1) * at' y (i + 1) ≤ 40000000
  p3 : -20000000 ≤ at' b (i + 1) * (at' y (i + 1) - at' y i) ∧ at' b (i + 1) * (at' y (i + 1) - at' y i) ≤ 20000000
  p4 : -40000000 ≤ 2 * at' a i * at' y i ∧ 2 * at' a i * at' y i ≤ 40000000
  p5 : -20000000 ≤ at' a i * at' y i ∧ at' a i * at' y i ≤ 20000000
  p6 : -20000000 ≤ at' b (i + 1) * at' y (i + 1) ∧ at' b (i + 1) * at' y (i + 1) ≤ 20000000
theorem bnd (h : Ok y a b) {i : Nat} (hi : i + 1 < y.length) : Bnd y a b i := by
  have y1 := h.ry i (by omega)
  have y2 := h.ry (i + 1) hi
  have a1 := h.ra i (by omega)
  have b2 := h.rb (i + 1) hi
  have m1 := mulB (x := at' a i) (y := at' y i - at' y (i + 1)) (A := 1000000) (B := 20) (by omega) (by omega) (by omega) (by omega)
  have m2 := mulB (x := 2 * at' b (i + 1)) (y := at' y (i + 1)) (A := 2000000) (B := 20) (by omega) (by omega) (by omega) (by omega)
  have m3 := mulB (x := at' b (i + 1)) (y := at' y (i + 1) - at' y i) (A := 1000000) (B := 20) (by omega) (by omega) (by omega) (by omega)
  have m4 := mulB (x := 2 * at' a i) (y := at' y i) (A := 2000000) (B := 20) (by omega) (by omega) (by omega) (by omega)
  have m5 := mulB (x := at' a i) (y := at' y i) (A := 1000000) (B := 20) (by omega) (by omega) (by omega) (by omega)
  have m6 := mulB (x := at' b (i + 1)) (y := at' y (i + 1)) (A := 1000000) (B := 20) (by omega) (by omega) (by omega) (by omega)
  unfold sm at *
  exact ⟨by unfold sm; omega, by omega, by omega, by omega, by omega, by omega, by omega, by omega⟩
theorem wr {x : Int} (h : -1000000000000 ≤ x ∧ x ≤ 1000000000000) : IntKind.i64.wrap x = x := wrapJ x (by omega) (by omega)
theorem wraps (h : Ok y a b) {i : Nat} (hi : i + 1 < y.length) :
    IntKind.i64.wrap (at' y i + at' y (i + 1)) = sm y i ∧
    IntKind.i64.wrap (IntKind.i64.wrap (at' a i * IntKind.i64.wrap (at' y i - at' y (i + 1))) + IntKind.i64.wrap (IntKind.i64.wrap (2 * at' b (i + 1)) * at' y (i + 1))) = bkN y a b i ∧
    IntKind.i64.wrap (IntKind.i64.wrap (at' b (i + 1) * IntKind.i64.wrap (at' y (i + 1) - at' y i)) + IntKind.i64.wrap (IntKind.i64.wrap (2 * at' a i) * at' y i)) = fwN y a b i ∧
    IntKind.i64.wrap (2 * IntKind.i64.wrap (IntKind.i64.wrap (at' a i * at' y i) + IntKind.i64.wrap (at' b (i + 1) * at' y (i + 1)))) = vN y a b i := by
  have q := bnd h hi
  have a1 := h.ra i (by omega)
  have b2 := h.rb (i + 1) hi
  obtain ⟨s, d, p1, p2, p3, p4, p5, p6⟩ := q
  refine ⟨wr (by unfold sm at s; omega), ?_, ?_, ?_⟩
  · rw [wr (x := at' y i - at' y (i + 1)) (by omega), wr (x := 2 * at' b (i + 1)) (by omega), wr (x := at' a i * (at' y i - at' y (i + 1))) (by omega), wr (x := 2 * at' b (i + 1) * at' y (i + 1)) (by omega), wr (by omega)]; rfl
  · rw [wr (x := at' y (i + 1) - at' y i) (by omega), wr (x := 2 * at' a i) (by omega), wr (x := at' b (i + 1) * (at' y (i + 1) - at' y i)) (by omega), wr (x := 2 * at' a i * at' y i) (by omega), wr (by omega)]; rfl
  · rw [wr (x := at' a i * at' y i) (by omega), wr (x := at' b (i + 1) * at' y (i + 1)) (by omega), wr (x := at' a i * at' y i + at' b (i + 1) * at' y (i + 1)) (by omega), wr (by omega)]; rfl
theorem nums (h : Ok y a b) {i : Nat} (hi : i + 1 < y.length) : (-100000000 ≤ bkN y a b i ∧ bkN y a b i ≤ 100000000) ∧ (-100000000 ≤ fwN y a b i ∧ fwN y a b i ≤ 100000000) ∧ (-100000000 ≤ vN y a b i ∧ vN y a b i ≤ 100000000) ∧ 2 ≤ sm y i ∧ sm y i ≤ 40 := by
  obtain ⟨s, d, p1, p2, p3, p4, p5, p6⟩ := bnd h hi
  unfold bkN fwN vN
  omega
theorem quo {N : Int} {y : List Int} {i : Nat} (hN : -100000000 ≤ N ∧ N ≤ 100000000) : IntKind.i64.wrap (N.tdiv (sm y i)) = N.tdiv (sm y i) := by
  have := tdiv_bound (s := sm y i) hN.1 hN.2
  exact wr (by omega)
/-- Tables that grow by a place. -/
theorem set_fw (n i : Nat) (src : Int) : ((tab n fun j => if j = 0 then src - at' b 0 else if j ≤ i then (fwN y a b (j - 1)).tdiv (sm y (j - 1)) else 0).set (i + 1) ((fwN y a b i).tdiv (sm y i))) = tab n fun j => if j = 0 then src - at' b 0 else if j ≤ i + 1 then (fwN y a b (j - 1)).tdiv (sm y (j - 1)) else 0 := by
  rw [tab_set]
  refine tab_congr fun j _ => ?_
  by_cases h : j = i + 1
  · subst h; simp
  · simp only [h, if_false]
    by_cases h0 : j = 0
    · simp [h0]
    · simp only [h0, if_false]
      by_cases h1 : j ≤ i
      · rw [if_pos h1, if_pos (by omega)]
      · rw [if_neg h1, if_neg (by omega)]
theorem set_bk (n i : Nat) : ((tab n fun j => if j < i then (bkN y a b j).tdiv (sm y j) else 0).set i ((bkN y a b i).tdiv (sm y i))) = tab n fun j => if j < i + 1 then (bkN y a b j).tdiv (sm y j) else 0 := by
  rw [tab_set]
  refine tab_congr fun j _ => ?_
  by_cases h : j = i
  · subst h; simp
  · simp only [h, if_false]
    by_cases h1 : j < i
    · rw [if_pos h1, if_pos (by omega)]
    · rw [if_neg h1, if_neg (by omega)]
theorem fw_end (n : Nat) (hn : 0 < n) (src : Int) : (tab n fun j => if j = 0 then src - at' b 0 else if j ≤ n - 1 then (fwN y a b (j - 1)).tdiv (sm y (j - 1)) else 0) = tab n (fwF y a b src) := tab_congr fun j hj => by
  unfold fwF
  by_cases h0 : j = 0
  · rw [if_pos h0, if_pos h0]
  · rw [if_neg h0, if_neg h0, if_pos (by omega)]
theorem bk_end (n : Nat) (hn : 0 < n) (er : Bool) : (tab n fun j => if j < n - 1 then (bkN y a b j).tdiv (sm y j) else 0).set (n - 1) (refl a er n) = tab n (bkF y a b er n) := by
  rw [tab_set]
  refine tab_congr fun j hj => ?_
  unfold bkF
  by_cases h : j = n - 1
  · rw [if_pos h, if_neg (by omega)]
  · rw [if_neg h, if_pos (by omega), if_pos (by omega)]
abbrev fwT (n i : Nat) (y a b : List Int) (src : Int) : List Int := tab n fun j => if j = 0 then src - at' b 0 else if j ≤ i then (fwN y a b (j - 1)).tdiv (sm y (j - 1)) else 0
abbrev bkT (n i : Nat) (y a b : List Int) : List Int := tab n fun j => if j < i then (bkN y a b j).tdiv (sm y j) else 0
abbrev gvT (i : Nat) (y a b : List Int) (src : Int) : List Int := tab i fun j => if j = 0 then src else (vN y a b (j - 1)).tdiv (sm y (j - 1))
theorem fw_fin (n : Nat) (hn : 0 < n) (src : Int) : fwT n (n - 1) y a b src = tab n (fwF y a b src) := fw_end n hn src
theorem after_go (h : Ok y a b) (er : Bool) (src x0 : Int) : runR (after_L7_S y.length (y.map iD) er a.length (a.map iD) b.length (b.map iD) src x0) (.next 0 [lD (gvT 1 y a b src), iD 0, .list y.length ((fwT y.length 0 y a b src).map iD), .list y.length ((bkT y.length 0 y a b).map iD)]) =
    some (.out 0 [lD (gvT y.length y a b src), .list y.length ((fwT y.length (y.length - 1) y a b src).map iD), .list y.length ((bkT y.length (y.length - 1) y a b).map iD)]) := by
  have hp := h.pos
  have hle := h.le
  have la := h.la
  have lb := h.lb
  have em : IntKind.i64.wrap ((y.length : Int) - 1) = ((y.length - 1 : Nat) : Int) := by rw [wr (by omega)]; omega
  have h1 : runR (after_L7_S y.length (y.map iD) er a.length (a.map iD) b.length (b.map iD) src x0) (.next 0 [lD (gvT 1 y a b src), iD 0, .list y.length ((fwT y.length 0 y a b src).map iD), .list y.length ((bkT y.length 0 y a b).map iD)]) = _ :=
    runR_scan (S := after_L7_S y.length (y.map iD) er a.length (a.map iD) b.length (b.map iD) src x0) (fun _ => 0) (fun i => [lD (gvT (i + 1) y a b src), iD (i : Int), .list y.length ((fwT y.length i y a b src).map iD), .list y.length ((bkT y.length i y a b).map iD)]) (Nat.zero_le (y.length - 1)) (fun i _ hi => by
    obtain ⟨w1, w2, w3, w4⟩ := wraps h (i := i) (by omega)
    obtain ⟨n1, n2, n3, n4, n5⟩ := nums h (i := i) (by omega)
    show after_L7_S0 y.length (y.map iD) er a.length (a.map iD) b.length (b.map iD) src x0 _ = _
    unfold after_L7_S0
    rw [pullD_some ((gvT (i + 1) y a b src).length, (gvT (i + 1) y a b src).map iD, (i : Int), y.length, (fwT y.length i y a b src).map iD, y.length, (bkT y.length i y a b).map iD) (by rfl) (by rfl)]
    dsimp only
    have e2 : IntKind.i64.wrap ((i : Int) + 1) = ((i + 1 : Nat) : Int) := natI (by omega)
    simp only [e2, em, Int.toNat_natCast]
    rw [if_pos (by omega), guardP_pos (by omega), readN (by omega), pullD_some (at' y i) (by rfl) (by rfl), guardP_pos (by omega), readN (by omega), pullD_some (at' y (i + 1)) (by rfl) (by rfl), guardP_pos (by omega), readN (by omega), pullD_some (at' a i) (by rfl) (by rfl), pullD_some (at' y i) (by rfl) (by rfl), pullD_some (at' y (i + 1)) (by rfl) (by rfl), guardP_pos (by omega), readN (by omega), pullD_some (at' b (i + 1)) (by rfl) (by rfl), pullD_some (at' y (i + 1)) (by rfl) (by rfl)]
    simp only [w1, w2, quo n1]
    rw [guardP_pos (by omega), guardP_pos (by omega), guardP_pos ⟨by simp only [List.length_map, tab_len]; omega, cellD_int _⟩, pullD_some (at' b (i + 1)) (by rfl) (by rfl), pullD_some (at' y (i + 1)) (by rfl) (by rfl), pullD_some (at' y i) (by rfl) (by rfl), pullD_some (at' a i) (by rfl) (by rfl), pullD_some (at' y i) (by rfl) (by rfl)]
    simp only [w3, quo n2]
    rw [guardP_pos (by omega), guardP_pos ⟨by simp only [List.length_map, tab_len]; omega, cellD_int _⟩, pullD_some (at' a i) (by rfl) (by rfl), pullD_some (at' y i) (by rfl) (by rfl), pullD_some (at' b (i + 1)) (by rfl) (by rfl), pullD_some (at' y (i + 1)) (by rfl) (by rfl)]
    simp only [w4, quo n3]
    rw [guardP_pos ⟨cellD_int _, by simp, by simp only [tab_len]; omega, by simp only [tab_len]; omega⟩, grow_list, set_list _ _ _ (by rw [tab_len]; omega), set_list _ _ _ (by rw [tab_len]; omega), set_fw, set_bk]
    have e5 : gvT (i + 1) y a b src ++ [(vN y a b i).tdiv (sm y i)] = gvT (i + 1 + 1) y a b src := by
      show tab (i + 1) _ ++ _ = tab (i + 1 + 1) _
      rw [tab_succ (i + 1)]
      simp
    rw [e5])
  have hm : y.length - 1 + 1 = y.length := by omega
  have h2 : runR (after_L7_S y.length (y.map iD) er a.length (a.map iD) b.length (b.map iD) src x0) (.next 0 [lD (gvT (y.length - 1 + 1) y a b src), iD ((y.length - 1 : Nat) : Int), .list y.length ((fwT y.length (y.length - 1) y a b src).map iD), .list y.length ((bkT y.length (y.length - 1) y a b).map iD)]) =
      some (.out 0 [lD (gvT y.length y a b src), .list y.length ((fwT y.length (y.length - 1) y a b src).map iD), .list y.length ((bkT y.length (y.length - 1) y a b).map iD)]) := runR_exit (by
    show after_L7_S0 y.length (y.map iD) er a.length (a.map iD) b.length (b.map iD) src x0 _ = _
    unfold after_L7_S0
    rw [hm, pullD_some ((gvT y.length y a b src).length, (gvT y.length y a b src).map iD, ((y.length - 1 : Nat) : Int), y.length, (fwT y.length (y.length - 1) y a b src).map iD, y.length, (bkT y.length (y.length - 1) y a b).map iD) (by rfl) (by rfl)]
    dsimp only
    rw [em, if_neg (by omega), Int.toNat_natCast])
  exact h1.trans h2
theorem reflected_eq (y : List Int) (er : Bool) (n : Nat) (h : -1000000 ≤ at' a (n - 1) ∧ at' a (n - 1) ≤ 1000000) : m_55 [lnD y er, iD (at' a (n - 1))] = some (iD (refl a er n)) := by
  rw [m_55_eq]
  unfold reflected_M refl
  cases er with
  | true => rw [if_pos rfl, if_pos rfl, Int.zero_sub, wr (by omega)]
  | false => rw [if_neg (by decide), if_neg (by decide)]
theorem refl_bound {er : Bool} {n : Nat} (h : -1000000 ≤ at' a (n - 1) ∧ at' a (n - 1) ≤ 1000000) : -1000000 ≤ refl a er n ∧ refl a er n ≤ 1000000 := by
  unfold refl
  split <;> omega
theorem after_eq (h : Ok y a b) (er : Bool) {src : Int} (hs : -1000000 ≤ src ∧ src ≤ 1000000) : m_37 [lnD y er, stD a b, iD src] = some (.tup [stD (tab y.length (fwF y a b src)) (tab y.length (bkF y a b er y.length)), lD (tab (y.length + 1) (vF y a b src er y.length))]) := by
  have hp := h.pos
  have hle := h.le
  have la := h.la
  have lb := h.lb
  have b0 := h.rb 0 hp
  have an := h.ra (y.length - 1) (by omega)
  have rb := refl_bound (a := a) (er := er) (n := y.length) an
  have em : IntKind.i64.wrap ((y.length : Int) - 1) = ((y.length - 1 : Nat) : Int) := by rw [wr (by omega)]; omega
  rw [m_37_eq]
  unfold after_M
  simp only [em, Int.toNat_natCast]
  rw [guardP_pos ⟨by omega, by omega, by omega, by omega⟩, guardP_pos ⟨by omega, by show 0 < _; omega⟩, show Int.toNat 0 * 1 = 0 * 1 from rfl, readN (by omega), pullD_some (at' b 0) (by rfl) (by rfl), zerosD, guardP_pos ⟨by omega, by show 0 < _; omega⟩, guardP_pos ⟨by simp only [List.length_map, tab_len]; show 0 + 0 * 1 + 1 ≤ _; omega, cellD_int _⟩, guardP_pos ⟨by omega, by omega⟩, wr (x := src - at' b 0) (by omega), consD _ _ hp, zeros_list, tab_zeros]
  have f0 : (tab y.length fun j => if j = 0 then src - at' b 0 else 0) = fwT y.length 0 y a b src := tab_congr fun j _ => by
    by_cases q : j = 0
    · rw [if_pos q, if_pos q]
    · rw [if_neg q, if_neg q, if_neg (by omega)]
  have g0 : (tab y.length fun _ => (0 : Int)) = bkT y.length 0 y a b := tab_congr fun j _ => by rw [if_neg (by omega)]
  rw [f0, g0]
  have hgo := after_go h er src (at' b 0)
  rw [show D.list 1 [iD src] = lD (gvT 1 y a b src) from rfl, bindL_some hgo, if_pos rfl, pullD_some ((gvT y.length y a b src).length, (gvT y.length y a b src).map iD, y.length, (fwT y.length (y.length - 1) y a b src).map iD, y.length, (bkT y.length (y.length - 1) y a b).map iD) (by rfl) (by rfl)]
  dsimp only
  rw [readN (by omega), pullD_some (at' a (y.length - 1)) (by rfl) (by rfl), guardP_pos ⟨by omega, by omega⟩, show [D.agg [D.list y.length (y.map iD), D.one (.bool er)], iD (at' a (y.length - 1))] = [lnD y er, iD (at' a (y.length - 1))] from rfl, reflected_eq y er y.length an, pullI, guardP_pos ⟨by simp only [List.length_map, tab_len]; omega, cellD_int _⟩, pullD_some (at' a (y.length - 1)) (by rfl) (by rfl), splice_list _ _ _ (by rw [tab_len]; omega), bk_end _ hp, readM0 _ (by omega), pullD_some (bkF y a b er y.length (y.length - 1)) (by rfl) (by rfl)]
  have e1 : bkF y a b er y.length (y.length - 1) = refl a er y.length := by unfold bkF; rw [if_neg (by omega)]
  rw [e1, wr (x := at' a (y.length - 1) + refl a er y.length) (by omega), guardP_pos ⟨cellD_int _, by simp, by simp only [tab_len]; omega, by simp only [tab_len]; omega⟩, guardP_pos (Nat.le_refl _), guardP_pos ⟨by simp only [List.length_append, List.length_take, List.length_map, tab_len, List.length_cons, List.length_nil]; omega, by omega⟩, grow_list, set_list _ _ _ (by rw [tab_len]; omega), bk_end _ hp, fw_fin _ hp]
  have e2 : gvT y.length y a b src ++ [at' a (y.length - 1) + refl a er y.length] = tab (y.length + 1) (vF y a b src er y.length) := by
    rw [tab_succ]
    have e3 : vF y a b src er y.length y.length = at' a (y.length - 1) + refl a er y.length := by unfold vF; rw [if_neg (by omega), if_neg (by omega)]
    rw [e3]
    congr 1
    refine tab_congr fun j hj => ?_
    unfold vF
    by_cases q : j = 0
    · rw [if_pos q, if_pos q]
    · rw [if_neg q, if_neg q, if_pos hj]
  rw [e2]
  simp only [stD, lD, tab_len]
abbrev noSt (e : Int) : D := .tup [stD [] [], lD [], iD e]
def stepV (y a b : List Int) (er : Bool) (src : Int) : D :=
  if wavE (tab y.length (fwF y a b src)) ≠ 0 then noSt 22 else if wavE (tab y.length (bkF y a b er y.length)) ≠ 0 then noSt 22 else .tup [stD (tab y.length (fwF y a b src)) (tab y.length (bkF y a b er y.length)), lD (tab (y.length + 1) (vF y a b src er y.length)), iD 0]
theorem step_eq (y a b : List Int) (er : Bool) (src : Int) (hl : y.length ≤ 1000) (ha : a.length ≤ 1000) (hb : b.length ≤ 1000) : m_10 [lnD y er, stD a b, iD src] = some (if stE y a b ≠ 0 then noSt (stE y a b) else if -1000000 ≤ src ∧ src ≤ 1000000 then stepV y a b er src else noSt 2) := by
  rw [m_10_eq]
  unfold step_M
  have em : IntKind.i64.wrap ((0 : Int) - 1000000) = -1000000 := wr (x := (0 : Int) - 1000000) (by decide)
  have foldS : ∀ n : Nat, [D.agg [D.list a.length (a.map iD), D.list b.length (b.map iD)], iD (n : Int)] = [stD a b, iD (n : Int)] := fun _ => rfl
  rw [foldS, chkState_eq a b _ ha hb, pullI, show [D.agg [D.list y.length (y.map iD), D.one (.bool er)]] = [lnD y er] from rfl, chkLine_eq y er hl, pullI, em]
  have e3 : ∀ z : Int, (if lineE y ≠ 0 then lineE y else if ckE a b y.length ≠ 0 then ckE a b y.length else z) = if stE y a b ≠ 0 then stE y a b else z := fun z => by
    unfold stE
    by_cases q : lineE y ≠ 0
    · simp [q]
    · simp only [q, if_false]
  have rest : stE y a b ≠ 0 ∨ stE y a b = 0 := by omega
  by_cases q1 : src < -1000000
  · rw [if_pos q1, first3, pullI, e3]
    rcases rest with q | q
    · rw [if_pos q, if_pos q, if_pos q]; rfl
    · have hq : ¬ (stE y a b ≠ 0) := by omega
      have hs : ¬ (-1000000 ≤ src ∧ src ≤ 1000000) := by omega
      simp only [if_neg hq, if_neg hs]
      rw [if_pos (show (2 : Int) ≠ 0 by decide)]
      rfl
  rw [if_neg q1]
  by_cases q2 : src > 1000000
  · rw [if_pos q2, first3, pullI, e3]
    rcases rest with q | q
    · rw [if_pos q, if_pos q, if_pos q]; rfl
    · have hq : ¬ (stE y a b ≠ 0) := by omega
      have hs : ¬ (-1000000 ≤ src ∧ src ≤ 1000000) := by omega
      simp only [if_neg hq, if_neg hs]
      rw [if_pos (show (2 : Int) ≠ 0 by decide)]
      rfl
  rw [if_neg q2, first3, pullI, e3]
  rcases rest with q | q
  · rw [if_pos q, if_pos q, if_pos q]; rfl
  have hq : ¬ (stE y a b ≠ 0) := by omega
  have hs : -1000000 ≤ src ∧ src ≤ 1000000 := by omega
  simp only [if_neg hq, if_pos hs]
  rw [if_neg (show ¬ ((0 : Int) ≠ 0) by decide)]
  have h := ok_of q
  have hp := h.pos
  have hle := h.le
  rw [show [D.agg [D.list y.length (y.map iD), D.one (.bool er)], D.agg [D.list a.length (a.map iD), D.list b.length (b.map iD)], iD src] = [lnD y er, stD a b, iD src] from rfl, after_eq h er (by omega), pullD_some ((tab y.length (fwF y a b src)).length, (tab y.length (fwF y a b src)).map iD, (tab y.length (bkF y a b er y.length)).length, (tab y.length (bkF y a b er y.length)).map iD, (tab (y.length + 1) (vF y a b src er y.length)).length, (tab (y.length + 1) (vF y a b src er y.length)).map iD) (by rfl) (by rfl)]
  dsimp only
  rw [show [D.agg [D.list (tab y.length (fwF y a b src)).length ((tab y.length (fwF y a b src)).map iD), D.list (tab y.length (bkF y a b er y.length)).length ((tab y.length (bkF y a b er y.length)).map iD)], iD (y.length : Int)] = [stD (tab y.length (fwF y a b src)) (tab y.length (bkF y a b er y.length)), iD (y.length : Int)] from rfl, chkState_eq _ _ _ (by rw [tab_len]; omega) (by rw [tab_len]; omega), pullI]
  have ec : ckE (tab y.length (fwF y a b src)) (tab y.length (bkF y a b er y.length)) y.length = if wavE (tab y.length (fwF y a b src)) ≠ 0 then wavE (tab y.length (fwF y a b src)) else wavE (tab y.length (bkF y a b er y.length)) := by
    unfold ckE
    rw [if_neg (by simp [tab_len]), if_neg (by simp [tab_len])]
  unfold stepV
  by_cases p : wavE (tab y.length (fwF y a b src)) ≠ 0
  · rw [if_pos p] at ec
    rw [ec, if_pos p, if_pos p]; rfl
  rw [if_neg p] at ec
  rw [ec, if_neg p]
  by_cases p2 : wavE (tab y.length (bkF y a b er y.length)) ≠ 0
  · rw [if_pos p2, if_pos p2]; rfl
  · rw [if_neg p2, if_neg p2]
end
end Go.Proofs.Ytfdehaafbkhclaa
/- The stage's examples hold. -/
namespace Go.Proofs.Ytfdehaafbkhclaa
open Go.Ev Go.RowKit
set_option maxRecDepth 100000
noncomputable section
theorem aw_all : Con 6 [] (.one (.bool true)) :=
  con_ofK (S := [(37, 3000171)]) (K := []) (sp := []) (n := 60000) (ora := []) (res := []) (conds := [(false, false), (false, false), (false, false), (false, false), (false, false), (false, false), (false, false), (false, false), (false, false), (false, false), (false, false), (false, false), (false, false), (false, false), (false, false), (false, false), (false, false), (false, false), (false, false), (false, false), (false, false), (false, false), (false, false), (false, false), (false, false), (false, false)]) (cls := [])
    (by kernel_rfl) ⟨rfl, rfl, rfl, rfl, rfl, rfl, rfl, rfl, rfl, rfl, rfl, rfl, rfl, rfl, rfl, rfl, rfl, rfl, rfl, rfl, rfl, rfl, rfl, rfl, rfl, rfl, trivial⟩ trivial
def m_6 (ds : List D) : Option D := pullD (some (.tup ds)) (fun _ => ()) (fun _ => .tup []) fun _ => some (.one (.bool true))
theorem m_6_ok {ds : List D} {r : D} (h : m_6 ds = some r) : Con 6 ds r := by
  unfold m_6 at h
  obtain ⟨⟨⟩, e0, h0⟩ := pullD_elim h
  obtain rfl := tup_inj e0
  obtain rfl := Option.some.inj h0
  exact aw_all
theorem m_6_eq : m_6 [] = some (.one (.bool true)) := pullD_some () rfl rfl
end
end Go.Proofs.Ytfdehaafbkhclaa
namespace Go.Proofs.Ytfdehaafbkhclaa
open Go.Ev Go.RowKit
set_option maxRecDepth 100000
set_option maxHeartbeats 8000000
set_option linter.all false
noncomputable section
end
end Go.Proofs.Ytfdehaafbkhclaa
/- Lines and states: the law of steps. -/
namespace Go.Proofs.Ytfdehaafbkhclaa
open Go.Ev Go.RowKit
set_option maxRecDepth 100000
section
variable {y a b : List Int}
theorem pullT {β : Type} (u v w : List Int) (e : Int) (kk : Nat × List D × Nat × List D × Nat × List D × Int → Option β) :
    pullD (some (.tup [stD u v, lD w, iD e])) (fun d => (D.ln (D.at (D.at d 0) 0), D.lc (D.at (D.at d 0) 0), D.ln (D.at (D.at d 0) 1), D.lc (D.at (D.at d 0) 1), D.ln (D.at d 1), D.lc (D.at d 1), D.vi (D.at d 2))) (fun (z : Nat × List D × Nat × List D × Nat × List D × Int) => match z with | (k1, c1, k2, c2, k3, c3, r) => D.tup [.agg [.list k1 c1, .list k2 c2], .list k3 c3, iD r]) kk = kk (u.length, u.map iD, v.length, v.map iD, w.length, w.map iD, e) :=
  pullD_some (u.length, u.map iD, v.length, v.map iD, w.length, w.map iD, e) rfl rfl
end
end Go.Proofs.Ytfdehaafbkhclaa
namespace Go.Proofs.Ytfdehaafbkhclaa
open Go.Ev Go.RowKit
set_option maxRecDepth 100000
set_option maxHeartbeats 8000000
set_option linter.all false
noncomputable section
end
end Go.Proofs.Ytfdehaafbkhclaa
namespace Go.Proofs.Ytfdehaafbkhclaa
open Go.Ev Go.RowKit
set_option maxRecDepth 100000
set_option maxHeartbeats 8000000
set_option linter.all false
noncomputable section
end
end Go.Proofs.Ytfdehaafbkhclaa
/- Peaks: both ways step by step. -/
namespace Go.Proofs.Ytfdehaafbkhclaa
open Go.Ev Go.RowKit
set_option maxRecDepth 100000
section
variable {y N G w : List Int} {er : Bool} {ku : Nat} {cu : List D}
end
end Go.Proofs.Ytfdehaafbkhclaa
/- Peaks: the law. -/
namespace Go.Proofs.Ytfdehaafbkhclaa
open Go.Ev Go.RowKit
set_option maxRecDepth 100000
section
variable {y : List Int}
theorem stE_of {a b u v : List Int} (h : stE y a b = 0) (hu : u.length = y.length) (hv : v.length = y.length) (wu : ¬ wavE u ≠ 0) (wv : ¬ wavE v ≠ 0) : stE y u v = 0 := by
  obtain ⟨e1, _⟩ := stE_len h
  unfold stE ckE
  rw [if_neg (by omega), if_neg (by omega), if_neg (by omega), if_neg wu]
  omega
end
end Go.Proofs.Ytfdehaafbkhclaa
