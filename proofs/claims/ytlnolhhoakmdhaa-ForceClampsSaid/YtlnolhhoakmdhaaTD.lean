import Derived.Test.YtlnolhhoakmdhaaProg
import Derived.KernelRfl
import Derived.Test.YtlnolhhoakmdhaaTC
import Derived.Test.YtlnolhhoakmdhaaRows
import Derived.Test.YtlnolhhoakmdhaaTA
import Derived.ProofKit
import Derived.OpenShut
import Derived.LaidMore
import Derived.Lib.SmallJoins
import Derived.Deep.DeepHandedRow
import Derived.Lib.LaidTab
set_option linter.unusedVariables false
set_option linter.unusedSimpArgs false
set_option linter.unusedSectionVars false
set_option linter.unnecessarySimpa false
/- The program of the seat, as runs on values known in part see it. -/
namespace Go.Proofs.Ytlnolhhoakmdhaa
open Go.Ev Go.RowKit
set_option maxRecDepth 100000
noncomputable section
def gtab : List (List Value) := []
/-- Appends whose outcome is shut at once. -/
def SHUT : List (Nat × Nat) := [(149, 2000020)]
def BAD : List Nat := []
def bodyAt (g : Nat) : Bool := match listGet Try.prog.funcs.toList g with
  | some fn => fn.body.isSome
  | none => false
/-- Calls are contracts but those of I; all sites are open or none; loops as told. -/
def ctxS (op : Bool) (I : List Nat) (sp : List LSpec) : Ctx := ⟨Try.prog, tabOf gtab, fun f t => match Nat.blt t 2000000 with | true => op | false => hasP SHUT f t, fun g => !hasN I g && bodyAt g, fun g => !hasN BAD g, lpOf sp⟩
def ctx (I : List Nat) (sp : List LSpec) : Ctx := ctxS true I sp
/-- Calls are entered but those of K. -/
def ctxK (S : List (Nat × Nat)) (K : List Nat) (sp : List LSpec) : Ctx := ⟨Try.prog, tabOf gtab, hasP S, fun g => hasN K g && bodyAt g, fun g => !hasN BAD g, lpOf sp⟩
abbrev Tabs (w : World) : Prop := TabsOf gtab w
def Con (g : FuncId) (ds : List D) (r : D) : Prop := CallOK (ctx [] []) Tabs g ds r
def allK : List Go.Ev.Ask → Prop
  | [] => True
  | q :: qs => AskOK (ctx [] []) Tabs q ∧ allK qs
theorem allK_mem : ∀ {l : List Go.Ev.Ask}, allK l → ∀ q ∈ l, AskOK (ctx [] []) Tabs q
  | [], _, p, h => by cases h
  | q :: l, hq, p, h => by
    rcases List.mem_cons.1 h with rfl | h
    · exact hq.1
    · exact allK_mem hq.2 p h
def fineAt (g : Nat) : Bool := match listGet Try.prog.funcs.toList g with
  | some fn => match fn.body with
    | some c => okCode c
    | none => true
  | none => true
def nameAt (g : Nat) : Bool := match listGet Try.prog.funcs.toList g with
  | some fn => !(fn.name == "runtime.NumGoroutine")
  | none => true
theorem count : Try.prog.funcs.toList.length = 178 := by kernel_rfl
theorem mixed : Try.prog.follows .mixedOrders = true := by kernel_rfl
theorem namesOk : (List.range 178).all nameAt = true := by kernel_rfl
theorem fineOk : (List.range 178).all (fun g => hasN BAD g || fineAt g) = true := by kernel_rfl
theorem in_range {g : FuncId} {fn : Func} (hg : Try.prog.funcs[g]? = some fn) : g < 178 := by
  rw [← count]
  rcases Nat.lt_or_ge g Try.prog.funcs.toList.length with h | h
  · exact h
  · rw [← Array.getElem?_toList, List.getElem?_eq_none h] at hg; cases hg
theorem good_of {C : Ctx} (h1 : C.P = Try.prog) (h2 : C.tab = tabOf gtab) (h3 : ∀ g, C.con g = true → bodyAt g = true) (h4 : C.fine = fun g => !hasN BAD g) : Good' C Tabs := by
  obtain ⟨P, tab, sym, con, fine, lp⟩ := C
  simp only at h1 h2 h3 h4
  subst h1; subst h2; subst h4
  exact {
    mixed := mixed
    names := fun g fn hg => by
      have := List.all_eq_true.1 namesOk g (List.mem_range.2 (in_range hg))
      unfold nameAt at this
      have hg' : Try.prog.funcs[g]? = some fn := hg
      rw [listGet_eq, Array.getElem?_toList, hg'] at this
      simpa using this
    code := fun g fn c hf hg hc => by
      have := List.all_eq_true.1 fineOk g (List.mem_range.2 (in_range hg))
      have hf' : (!hasN BAD g) = true := hf
      have hb : hasN BAD g = false := by simpa using hf'
      rw [hb, Bool.false_or] at this
      unfold fineAt at this
      have hg' : Try.prog.funcs[g]? = some fn := hg
      rw [listGet_eq, Array.getElem?_toList, hg'] at this
      simp only [hc] at this
      exact this
    tab := fun w h => h.tab
    stable := fun w w' h hb => h.below hb
    con := fun g hg => by
      have := h3 g hg
      unfold bodyAt at this
      split at this
      · rename_i fn hfn
        rw [listGet_eq, Array.getElem?_toList] at hfn
        exact ⟨fn, hfn, this⟩
      · cases this }
theorem good (op : Bool) (I : List Nat) (sp : List LSpec) : Good' (ctxS op I sp) Tabs := good_of rfl rfl (fun g h => by
  have h : (!hasN I g && bodyAt g) = true := h
  simp only [Bool.and_eq_true] at h
  exact h.2) rfl
theorem goodK (S : List (Nat × Nat)) (K : List Nat) (sp : List LSpec) : Good' (ctxK S K sp) Tabs := good_of rfl rfl (fun g h => by
  have h : (hasN K g && bodyAt g) = true := h
  simp only [Bool.and_eq_true] at h
  exact h.2) rfl
theorem asked_as {C C' : Ctx} (h : C.P = C'.P) : ∀ {q : Go.Ev.Ask}, AskOK C Tabs q → AskOK C' Tabs q := by
  intro q hq
  cases q with
  | call g ds r =>
    intro w A vs hw hv
    have := hq w A vs hw hv
    rwa [h] at this
  | loop c s x t low =>
    intro w0 hw hs
    have := hq w0 hw hs
    unfold CodeOK at this ⊢
    rw [← h]
    exact this
theorem loopin_as {C C' : Ctx} (h : C.P = C'.P) {c : Code} {E : List AV × AHeap} {base : Nat} {fr : AFrame} {x : LExit} {ds : List D} (k : LoopIn C Tabs c E base fr x ds) : LoopIn C' Tabs c E base fr x ds := fun ora ora' vals vals' =>
  asked_as (q := .loop _ _ _ _ _) h (k ora ora' vals vals')
abbrev LoopC (c : Code) (E : List AV × AHeap) (base : Nat) (fr : AFrame) (x : LExit) (ds : List D) : Prop := LoopIn (ctx [] []) Tabs c E base fr x ds
/-- A contract, by a run. -/
theorem con_of {op : Bool} {I : List Nat} {sp : List LSpec} {n : Nat} {g : FuncId} {ds : List D} {ora : List Bool} {res : List D} {r : D} {conds : List (Bool × Bool)} {cls : List Go.Ev.Ask}
    (h : okOut (run (ctxS op I sp) n (.enter g (avOfL 0 ds).1) ⟨[], (avOfL 0 ds).2.1, (avOfL 0 ds).2.2, ora, ⟨res, noFrame⟩⟩) = some (r, conds, cls)) (hc : allC conds) (hk : allK cls) : Con g ds r := fun w A vs hw hv =>
  calls3 (good op I sp) h hc (fun q hq => asked_as rfl (allK_mem hk q hq)) w A vs hw hv
theorem con_ofK {S : List (Nat × Nat)} {K : List Nat} {sp : List LSpec} {n : Nat} {g : FuncId} {ds : List D} {ora : List Bool} {res : List D} {r : D} {conds : List (Bool × Bool)} {cls : List Go.Ev.Ask}
    (h : okOut (run (ctxK S K sp) n (.enter g (avOfL 0 ds).1) ⟨[], (avOfL 0 ds).2.1, (avOfL 0 ds).2.2, ora, ⟨res, noFrame⟩⟩) = some (r, conds, cls)) (hc : allC conds) (hk : allK cls) : Con g ds r := fun w A vs hw hv =>
  calls3 (goodK S K sp) h hc (fun q hq => asked_as rfl (allK_mem hk q hq)) w A vs hw hv
theorem con_val {g : FuncId} {ds : List D} {r r' : D} (h : Con g ds r) (e : r = r') : Con g ds r' := e ▸ h
theorem con_arg {g : FuncId} {ds ds' : List D} {r : D} (h : Con g ds r) (e : ds = ds') : Con g ds' r := e ▸ h
/-- One round of a loop, by a run. -/
theorem step_of {I : List Nat} {sp : List LSpec} {l : LoopAt} {fuel : Nat} {ora : List Bool} {vals : List D} {ns : List Go.Ev.Loc} {S1 S2 S2' : List AV × AHeap} {x : AX} {conds : List (Bool × Bool)} {calls : List Go.Ev.Ask}
    (r : Option Out) (hr : r = run (ctx I sp) fuel (.code l.f l.c) ⟨S1.1, S1.2, l.nx, ora, ⟨vals, l.fr⟩⟩) (h1 : r = some (outOf r))
    (h2 : ((outOf r).x, (outOf r).st.res.fr, (outOf r).log, (outOf r).st.tmps) = (x, l.fr, ⟨conds, calls⟩, AV.renL (qOf l.base ns ((outOf r).st.tmps, (outOf r).st.heap)) (aOf l.base ns ((outOf r).st.tmps, (outOf r).st.heap)) S2'.1))
    (h3 : S2'.2.map (fun e => hget (outOf r).st.heap (qOf l.base ns ((outOf r).st.tmps, (outOf r).st.heap) e.1)) = S2'.2.map (fun e => some (⟨AV.renL (qOf l.base ns ((outOf r).st.tmps, (outOf r).st.heap)) (aOf l.base ns ((outOf r).st.tmps, (outOf r).st.heap)) e.2.cells, e.2.opn, e.2.kind⟩ : ABlock)))
    (h4 : (namesIn l.nx S2'.2 && distinctBy (qOf l.base ns ((outOf r).st.tmps, (outOf r).st.heap)) S2'.2 && aboveBy l.base (qOf l.base ns ((outOf r).st.tmps, (outOf r).st.heap)) S2'.2) = true)
    (h5 : (AV.okL l.nx S1.1 && Nat.ble l.low (outOf r).low) = true) (h6 : (List.range l.low).map (hget S2'.2) = (List.range l.low).map (hget S1.2)) (hS : S2' = S2) (hc : allC conds) (hk : allK calls) :
    Step (ctx I sp) Tabs l S1 S2 x := mk_step r hr h1 h2 h3 h4 h5 h6 hS hc fun q hq => asked_as rfl (allK_mem hk q hq)
end
end Go.Proofs.Ytlnolhhoakmdhaa
/- What plain statements need. -/
namespace Go.Proofs.Ytlnolhhoakmdhaa
open Go.ChangeShapes Go.WideShapes Go.ChangeAt Go.RowKit Go.Joins Go.Ev
theorem own : ownKnob Try.prog.godebug = none := by kernel_rfl
theorem tabs0 {W : World} : Tabs W := ⟨Nat.zero_le _, fun g L hL => by cases hL⟩
end Go.Proofs.Ytlnolhhoakmdhaa
/- Structs of whole numbers, as arguments. -/
namespace Go.Proofs.Ytlnolhhoakmdhaa
open Go.Ev Go.RowKit
theorem ints4_of {ds : List D} (h : okDs [.int .i64, .int .i64, .int .i64, .int .i64] ds) : ∃ a0 a1 a2 a3 : Int, ds = [.one (.int .i64 a0), .one (.int .i64 a1), .one (.int .i64 a2), .one (.int .i64 a3)] := by
  simp only [okDs, okD] at h
  obtain ⟨_, _, rfl, ⟨a0, rfl, -⟩, _, _, rfl, ⟨a1, rfl, -⟩, _, _, rfl, ⟨a2, rfl, -⟩, _, _, rfl, ⟨a3, rfl, -⟩, rfl⟩ := h
  exact ⟨a0, a1, a2, a3, rfl⟩
theorem ints6_of {ds : List D} (h : okDs [.int .i64, .int .i64, .int .i64, .int .i64, .int .i64, .int .i64] ds) : ∃ a0 a1 a2 a3 a4 a5 : Int, ds = [.one (.int .i64 a0), .one (.int .i64 a1), .one (.int .i64 a2), .one (.int .i64 a3), .one (.int .i64 a4), .one (.int .i64 a5)] := by
  simp only [okDs, okD] at h
  obtain ⟨_, _, rfl, ⟨a0, rfl, -⟩, _, _, rfl, ⟨a1, rfl, -⟩, _, _, rfl, ⟨a2, rfl, -⟩, _, _, rfl, ⟨a3, rfl, -⟩, _, _, rfl, ⟨a4, rfl, -⟩, _, _, rfl, ⟨a5, rfl, -⟩, rfl⟩ := h
  exact ⟨a0, a1, a2, a3, a4, a5, rfl⟩
theorem ints7_of {ds : List D} (h : okDs [.int .i64, .int .i64, .int .i64, .int .i64, .int .i64, .int .i64, .int .i64] ds) : ∃ a0 a1 a2 a3 a4 a5 a6 : Int, ds = [.one (.int .i64 a0), .one (.int .i64 a1), .one (.int .i64 a2), .one (.int .i64 a3), .one (.int .i64 a4), .one (.int .i64 a5), .one (.int .i64 a6)] := by
  simp only [okDs, okD] at h
  obtain ⟨_, _, rfl, ⟨a0, rfl, -⟩, _, _, rfl, ⟨a1, rfl, -⟩, _, _, rfl, ⟨a2, rfl, -⟩, _, _, rfl, ⟨a3, rfl, -⟩, _, _, rfl, ⟨a4, rfl, -⟩, _, _, rfl, ⟨a5, rfl, -⟩, _, _, rfl, ⟨a6, rfl, -⟩, rfl⟩ := h
  exact ⟨a0, a1, a2, a3, a4, a5, a6, rfl⟩
end Go.Proofs.Ytlnolhhoakmdhaa
/- Running the program's functions on values that are known in part: models of functions, their loops by steps. -/
namespace Go.Ev
open Go.RowKit
noncomputable section
abbrev iD (x : Int) : D := .one (.int .i64 x)
/-- How a round ends: at its end, by which head; or at an exit. -/
inductive Rd where
  | next (q : Nat) (ds : List D)
  | out (j : Nat) (ds : List D)
/-! ### Parts of values -/
def Value.pi : Value → Int
  | .int _ x => x
  | _ => 0
def Value.pb : Value → Bool
  | .bool x => x
  | _ => false
def Value.ps : Value → ByteArray
  | .string x => x
  | _ => ⟨#[]⟩
def Value.pc : Value → Nat → Value
  | .agg xs, i => xs.toList[i]?.getD undef
  | _, _ => undef
def D.vv : D → Value
  | .one v => v
  | _ => undef
def D.vi (d : D) : Int := Value.pi d.vv
def D.vb (d : D) : Bool := Value.pb d.vv
def D.vs (d : D) : ByteArray := Value.ps d.vv
def D.ln : D → Nat
  | .list k _ => k
  | _ => 0
def D.lc : D → List D
  | .list _ cs => cs
  | _ => []
def nthD : List D → Nat → D
  | [], _ => .tup []
  | d :: _, 0 => d
  | _ :: ds, n + 1 => nthD ds n
def D.at : D → Nat → D
  | .agg cs, n => nthD cs n
  | .tup cs, n => nthD cs n
  | _, _ => .tup []
/-! ### Events -/
open Classical in
def guardP {α : Type} (P : Prop) (o : Option α) : Option α := if P then o else none
theorem guardP_elim {α : Type} {P : Prop} {o : Option α} {r : α} (h : guardP P o = some r) : P ∧ o = some r := by
  unfold guardP at h
  split at h
  · exact ⟨by assumption, h⟩
  · cases h
theorem guardP_pos {α : Type} {P : Prop} {o : Option α} (h : P) : guardP P o = o := if_pos h
open Classical in
def pullD {α β : Type} (o : Option D) (proj : D → α) (pat : α → D) (k : α → Option β) : Option β := match o with
  | some d => if pat (proj d) = d then k (proj d) else none
  | none => none
theorem pullD_elim {α β : Type} {o : Option D} {proj : D → α} {pat : α → D} {k : α → Option β} {r : β} (h : pullD o proj pat k = some r) : ∃ a, o = some (pat a) ∧ k a = some r := by
  unfold pullD at h
  split at h
  · split at h
    · rename_i d hd
      exact ⟨proj d, by rw [hd], h⟩
    · cases h
  · cases h
theorem pullD_some {α β : Type} {o : Option D} {proj : D → α} {pat : α → D} {k : α → Option β} (a : α) (h : o = some (pat a)) (e : proj (pat a) = a) : pullD o proj pat k = k a := by
  subst h
  unfold pullD
  simp only [e, if_true]
def readD (L : List D) (off size : Nat) (g : Bool) : Option D := match g with
  | false => L[off]?
  | true => if ((L.drop off).take size).length = size ∧ 0 < size then some (.agg ((L.drop off).take size)) else none
theorem readD_elim {L : List D} {off size : Nat} {g : Bool} {d : D} (h : readD L off size g = some d) : readsAs L off size g d := by
  unfold readD at h
  cases g with
  | false => exact h
  | true =>
    simp only at h
    split at h
    · rename_i hl
      cases h
      exact ⟨_, rfl, hl.1, hl.2, rfl⟩
    · cases h
def bindL {β : Type} (o : Option Rd) (k : Nat → List D → Option β) : Option β := match o with
  | some (.out j ds) => k j ds
  | _ => none
theorem bindL_elim {β : Type} {o : Option Rd} {k : Nat → List D → Option β} {r : β} (h : bindL o k = some r) : ∃ j ds, o = some (.out j ds) ∧ k j ds = some r := by
  unfold bindL at h
  split at h
  · exact ⟨_, _, rfl, h⟩
  · cases h
theorem bindL_some {β : Type} {o : Option Rd} {k : Nat → List D → Option β} {j : Nat} {ds : List D} (h : o = some (.out j ds)) : bindL o k = k j ds := by
  subst h; rfl
theorem tup_inj {a b : List D} (h : some (D.tup a) = some (D.tup b)) : a = b := by
  injection h with h; injection h
/-! ### Loops -/
def iterR (S : Rd → Option Rd) : Nat → Rd → Option Rd
  | _, .out j ds => some (.out j ds)
  | 0, .next _ _ => none
  | n + 1, .next q ds => match S (.next q ds) with
    | some s => iterR S n s
    | none => none
theorem iterR_mono {S : Rd → Option Rd} : ∀ {n m : Nat} {s o : Rd}, iterR S n s = some o → n ≤ m → iterR S m s = some o
  | n, m, .out j ds, o, h, _ => by
    cases n <;> cases m <;> exact h
  | 0, _, .next q ds, o, h, _ => by cases h
  | n + 1, 0, .next q ds, o, h, hm => by omega
  | n + 1, m + 1, .next q ds, o, h, hm => by
    unfold iterR at h ⊢
    split at h
    · rename_i s hs
      exact iterR_mono h (by omega)
    · cases h
open Classical in
/-- Where a loop ends, if it does. -/
def runR (S : Rd → Option Rd) (s : Rd) : Option Rd := if h : ∃ o, ∃ n, iterR S n s = some o then some h.choose else none
theorem runR_iff {S : Rd → Option Rd} {s o : Rd} : runR S s = some o ↔ ∃ n, iterR S n s = some o := by
  unfold runR
  constructor
  · intro h
    split at h
    · rename_i hx
      cases h
      exact hx.choose_spec
    · cases h
  · rintro ⟨n, h⟩
    have hx : ∃ o, ∃ n, iterR S n s = some o := ⟨o, n, h⟩
    rw [dif_pos hx]
    obtain ⟨m, hm⟩ := hx.choose_spec
    have h1 := iterR_mono h (Nat.le_max_left n m)
    have h2 := iterR_mono hm (Nat.le_max_right n m)
    rw [h1] at h2
    exact h2.symm
theorem runR_out {S : Rd → Option Rd} {j : Nat} {ds : List D} : runR S (.out j ds) = some (.out j ds) := runR_iff.2 ⟨0, rfl⟩
theorem runR_next {S : Rd → Option Rd} {q : Nat} {ds : List D} {s : Rd} (h : S (.next q ds) = some s) : runR S (.next q ds) = runR S s := by
  cases hr : runR S s with
  | some o =>
    obtain ⟨n, hn⟩ := runR_iff.1 hr
    refine runR_iff.2 ⟨n + 1, ?_⟩
    unfold iterR; rw [h]; exact hn
  | none =>
    cases hq : runR S (.next q ds) with
    | none => rfl
    | some o =>
      obtain ⟨n, hn⟩ := runR_iff.1 hq
      cases n with
      | zero => cases hn
      | succ n =>
        unfold iterR at hn; rw [h] at hn
        rw [runR_iff.2 ⟨n, hn⟩] at hr; cases hr
def EndOK (nx low : Nat) (gs : Rd → Option GS) : Rd → Prop
  | .out j ds => AV.okL nx (stateOf (gs (.out j ds))).1 = true ∧ (nxtOf (gs (.out j ds)), lowGS (gs (.out j ds))) = (nx, low)
  | _ => True
theorem runs_of {C : Ctx} {G : World → Prop} (hg : Good' C G) {l : LoopAt} (hl : l.OK) {gs : Rd → Option GS} {ax : Rd → AX} {S : Rd → Option Rd} (hn : ∀ q ds, ax (.next q ds) = .normal) (hx : ∀ j ds, isVal (ax (.out j ds)) = false ∧ ax (.out j ds) ≠ .normal)
    (hs : ∀ s s', S s = some s' → Step C G l (stateOf (gs s)) (stateOf (gs s')) (ax s') ∧ EndOK l.nx l.low gs s') : ∀ (n : Nat) (q : Nat) (ds : List D) (j : Nat) (es : List D), iterR S n (.next q ds) = some (.out j es) →
      Runs C G l (stateOf (gs (.next q ds))) (stateOf (gs (.out j es))) (ax (.out j es)) ∧ EndOK l.nx l.low gs (.out j es)
  | 0, q, ds, j, es, h => by cases h
  | n + 1, q, ds, j, es, h => by
    unfold iterR at h
    split at h
    · rename_i s hs1
      obtain ⟨h1, h2⟩ := hs _ _ hs1
      cases s with
      | next q' ds' =>
        rw [hn] at h1
        obtain ⟨h3, h4⟩ := runs_of hg hl hn hx hs n q' ds' j es h
        exact ⟨Step.more hg hl h1 h3, h4⟩
      | out j' es' =>
        have e : some (Rd.out j' es') = some (.out j es) := by cases n <;> exact h
        cases e
        exact ⟨Step.runs hg hl h1 (hx _ _) h2.1, h2⟩
    · cases h
theorem runs_of' {C : Ctx} {G : World → Prop} (hg : Good' C G) {l : LoopAt} (hl : l.OK) {gs : Rd → Option GS} {ax : Rd → AX} {S : Rd → Option Rd} (hn : ∀ q ds, ax (.next q ds) = .normal) (hx : ∀ j ds, isVal (ax (.out j ds)) = false ∧ ax (.out j ds) ≠ .normal)
    (hs : ∀ s s', S s = some s' → Step C G l (stateOf (gs s)) (stateOf (gs s')) (ax s') ∧ EndOK l.nx l.low gs s') {q : Nat} {ds : List D} {j : Nat} {es : List D} (h : runR S (.next q ds) = some (.out j es)) :
      Runs C G l (stateOf (gs (.next q ds))) (stateOf (gs (.out j es))) (ax (.out j es)) ∧ (nxtOf (gs (.out j es)), lowGS (gs (.out j es))) = (l.nx, l.low) := by
  obtain ⟨n, hn'⟩ := runR_iff.1 h
  obtain ⟨h1, h2⟩ := runs_of hg hl hn hx hs n q ds j es hn'
  exact ⟨h1, h2.2⟩
theorem axOf_end (o : Option Nat) : isVal (axOf o) = false ∧ axOf o ≠ .normal := by
  cases o <;> exact ⟨rfl, by simp [axOf]⟩
end
end Go.Ev
/- Models of functions: what helps to compute with them. -/
namespace Go.Ev
open Go.RowKit
noncomputable section
theorem runR_scan {S : Rd → Option Rd} (q : Nat → Nat) (ds : Nat → List D) {a b : Nat} (hab : a ≤ b) (h : ∀ i, a ≤ i → i < b → S (.next (q i) (ds i)) = some (.next (q (i + 1)) (ds (i + 1)))) : runR S (.next (q a) (ds a)) = runR S (.next (q b) (ds b)) := by
  have key : ∀ m i, a ≤ i → i + m = b → runR S (.next (q i) (ds i)) = runR S (.next (q b) (ds b)) := by
    intro m
    induction m with
    | zero => intro i _ hi; have : i = b := by omega
              subst this; rfl
    | succ m ih => intro i hs hi; rw [runR_next (h i hs (by omega)), ih (i + 1) (by omega) (by omega)]
  exact key (b - a) a (Nat.le_refl _) (by omega)
theorem runR_exit {S : Rd → Option Rd} {q : Nat} {ds : List D} {j : Nat} {es : List D} (h : S (.next q ds) = some (.out j es)) : runR S (.next q ds) = some (.out j es) := by
  rw [runR_next h, runR_out]
open Classical in
end
end Go.Ev
/- Runs inside models: what is asked, with its proofs. -/
namespace Go.Proofs.Ytlnolhhoakmdhaa
open Go.Ev Go.RowKit
set_option maxRecDepth 100000
noncomputable section
/-- A truth that is asked, and why it is so. -/
structure PC where
  c : Bool
  q : Bool
  h : c = q
abbrev PC.p (x : PC) : Bool × Bool := (x.c, x.q)
def pairsC : List PC → List (Bool × Bool)
  | [] => []
  | x :: xs => (x.c, x.q) :: pairsC xs
theorem pairsC_ok : ∀ xs : List PC, allC (pairsC xs)
  | [] => trivial
  | x :: xs => ⟨x.h, pairsC_ok xs⟩
abbrev c_T : PC := ⟨true, true, rfl⟩
abbrev c_F : PC := ⟨false, false, rfl⟩
abbrev c_d {p : Prop} [Decidable p] (h : p) : PC := ⟨decide p, true, decide_eq_true h⟩
abbrev c_n {p : Prop} [Decidable p] (h : ¬ p) : PC := ⟨decide p, false, decide_eq_false h⟩
abbrev c_f {p : Prop} (h : p) : PC := ⟨fact p, true, fact_mk h⟩
abbrev c_b {α : Type} [BEq α] [LawfulBEq α] {a b : α} (h : a ≠ b) : PC := ⟨a != b, true, bne_iff_ne.2 h⟩
abbrev c_bn {α : Type} [BEq α] [LawfulBEq α] {a b : α} (h : a = b) : PC := ⟨a != b, false, bne_eq_false_iff_eq.2 h⟩
abbrev c_e {α : Type} [BEq α] [LawfulBEq α] {a b : α} (h : a = b) : PC := ⟨a == b, true, beq_iff_eq.2 h⟩
abbrev c_en {α : Type} [BEq α] [LawfulBEq α] {a b : α} (h : a ≠ b) : PC := ⟨a == b, false, beq_eq_false_iff_ne.2 h⟩
abbrev c_q {c q : Bool} (h : c = q) : PC := ⟨c, q, h⟩
abbrev c_no {c : Bool} (h : c = false) : PC := ⟨!c, true, by rw [h]; rfl⟩
abbrev c_nn {c : Bool} (h : c = true) : PC := ⟨!c, false, by rw [h]; rfl⟩
abbrev c_le (n : Nat) : PC := ⟨fact (n + 1 ≤ n + 1), true, fact_mk (Nat.le_refl _)⟩
def bT : Nat → List Bool → List Bool
  | 0, l => l
  | n + 1, l => true :: bT n l
def bF : Nat → List Bool → List Bool
  | 0, l => l
  | n + 1, l => false :: bF n l
/-- What is asked of calls and loops, and why it is so. -/
structure PK where
  q : Go.Ev.Ask
  h : AskOK (ctx [] []) Tabs q
def asksK : List PK → List Go.Ev.Ask
  | [] => []
  | x :: xs => x.q :: asksK xs
theorem asksK_ok : ∀ xs : List PK, allK (asksK xs)
  | [] => trivial
  | x :: xs => ⟨x.h, asksK_ok xs⟩
abbrev k_c {g : FuncId} {ds : List D} {r : D} (h : Con g ds r) : PK := ⟨.call g ds r, h⟩
abbrev k_l {c : Code} {E : List AV × AHeap} {base : Nat} {x : LExit} {ds : List D} (h : LoopC c E base noFrame x ds) (ora : List Bool) (vals vals' : List D) : PK := ⟨loopAsk c E base noFrame x ds ora vals vals', h _ _ _ _⟩
theorem con_pc {op : Bool} {I : List Nat} {sp : List LSpec} (n : Nat) {g : FuncId} {ds : List D} {r : D} (ora : List Bool) (res : List D) (pcs : List PC) (pks : List PK)
    (h : okOut (run (ctxS op I sp) n (.enter g (avOfL 0 ds).1) ⟨[], (avOfL 0 ds).2.1, (avOfL 0 ds).2.2, ora, ⟨res, noFrame⟩⟩) = some (r, pairsC pcs, asksK pks)) : Con g ds r :=
  con_of h (pairsC_ok pcs) (asksK_ok pks)
theorem step_pc {I : List Nat} {sp : List LSpec} {l : LoopAt} {S1 : List AV × AHeap} {g : Option GS} {x : AX} (fuel : Nat) (ora : List Bool) (vals : List D) (pcs : List PC) (pks : List PK)
    (r : Option Out) (hr : r = run (ctx I sp) fuel (.code l.f l.c) ⟨S1.1, S1.2, l.nx, ora, ⟨vals, l.fr⟩⟩) (h1 : r = some (outOf r))
    (h2 : ((outOf r).x, (outOf r).st.res.fr, (outOf r).log, (outOf r).st.tmps) = (x, l.fr, ⟨pairsC pcs, asksK pks⟩, AV.renL (qOf l.base (nsOf g) ((outOf r).st.tmps, (outOf r).st.heap)) (aOf l.base (nsOf g) ((outOf r).st.tmps, (outOf r).st.heap)) (stateOf g).1))
    (h3 : (stateOf g).2.map (fun e => hget (outOf r).st.heap (qOf l.base (nsOf g) ((outOf r).st.tmps, (outOf r).st.heap) e.1)) = (stateOf g).2.map (fun e => some (⟨AV.renL (qOf l.base (nsOf g) ((outOf r).st.tmps, (outOf r).st.heap)) (aOf l.base (nsOf g) ((outOf r).st.tmps, (outOf r).st.heap)) e.2.cells, e.2.opn, e.2.kind⟩ : ABlock)))
    (h4 : (namesIn l.nx (stateOf g).2 && distinctBy (qOf l.base (nsOf g) ((outOf r).st.tmps, (outOf r).st.heap)) (stateOf g).2 && aboveBy l.base (qOf l.base (nsOf g) ((outOf r).st.tmps, (outOf r).st.heap)) (stateOf g).2) = true)
    (h5 : (AV.okL l.nx S1.1 && Nat.ble l.low (outOf r).low) = true) (h6 : (List.range l.low).map (hget (stateOf g).2) = (List.range l.low).map (hget S1.2)) : Step (ctx I sp) Tabs l S1 (stateOf g) x :=
  step_of r hr h1 h2 h3 h4 h5 h6 rfl (pairsC_ok pcs) (asksK_ok pks)
end
end Go.Proofs.Ytlnolhhoakmdhaa
namespace Go.Proofs.Ytlnolhhoakmdhaa
open Go.Ev Go.RowKit
set_option maxRecDepth 100000
set_option linter.all false
noncomputable section
def w_within_sp : List LSpec := []
def w_within_M (n lo hi : Int) : Option D := (if lo ≤ n then some (.one (.bool (decide (n ≤ hi)))) else some (.one (.bool false)))
theorem w_within_M_ok (n lo hi : Int) {r : D} (h : w_within_M n lo hi = some r) : Con 30 [.one (.int .i64 n), .one (.int .i64 lo), .one (.int .i64 hi)] r := by
  unfold w_within_M at h
  by_cases b1_ : lo ≤ n
  · have h2_ := (if_pos b1_).symm.trans h
    obtain rfl := Option.some.inj h2_
    exact con_pc (op := true) (I := [30]) (sp := w_within_sp) 3000 (bT 4 []) [] [c_d b1_, c_d b1_, c_d b1_, c_d b1_] [] (by kernel_rfl)
  · have h2_ := (if_neg b1_).symm.trans h
    obtain rfl := Option.some.inj h2_
    exact con_pc (op := true) (I := [30]) (sp := w_within_sp) 3000 (bF 4 []) [] [c_n b1_, c_n b1_, c_n b1_, c_n b1_] [] (by kernel_rfl)
def m_30 (ds : List D) : Option D := pullD (α := Int × Int × Int) (some (.tup ds)) (fun d => ((D.vi (D.at d 0)), (D.vi (D.at d 1)), (D.vi (D.at d 2)))) (fun (n, lo, hi) => .tup [.one (.int .i64 n), .one (.int .i64 lo), .one (.int .i64 hi)]) fun (n, lo, hi) => w_within_M n lo hi
theorem m_30_ok {ds : List D} {r : D} (h : m_30 ds = some r) : Con 30 ds r := by
  unfold m_30 at h
  obtain ⟨⟨n, lo, hi⟩, e0, h0⟩ := pullD_elim h
  obtain rfl := tup_inj e0
  exact w_within_M_ok n lo hi h0
theorem m_30_eq (n lo hi : Int) : m_30 [.one (.int .i64 n), .one (.int .i64 lo), .one (.int .i64 hi)] = w_within_M n lo hi := pullD_some (n, lo, hi) rfl rfl
def w_trimmed_x2_0 : LExit := ⟨some 0, [.val 3], (List.range' 6 12)⟩
def w_trimmed_sp : List LSpec := [⟨155, 2, [w_trimmed_x2_0]⟩]
def w_trimmed_L2_E (ka : Nat) (ca : List D)  : List AV × AHeap := ([.dsl 0, .pure (.tuple #[]), .pure (.slice none 0 0), .pure (.int .i64 (ka : Int)), .dsl 0, .pure (.int .i64 (ka : Int)), .pure (.tuple #[]), .pure (.tuple #[]), .pure (.tuple #[]), .pure (.tuple #[]), .pure (.tuple #[]), .pure (.tuple #[]), .pure (.tuple #[]), .pure (.tuple #[]), .pure (.tuple #[]), .pure (.tuple #[]), .pure (.tuple #[]), .pure (.tuple #[]), .pure (.tuple #[]), .pure (.tuple #[]), .pure (.tuple #[])], [(0, { cells := [], opn := none, kind := .deep ka ca })])
def w_trimmed_L2_A : LoopAt := ⟨155, loopAt Try.prog 155 0, 1, 14, 1, noFrame⟩
theorem w_trimmed_L2_ok : (w_trimmed_L2_A).OK := ⟨by show 1 ≤ 14; decide, by show 1 ≤ 1; decide, by kernel_rfl, rfl⟩
def w_trimmed_L2_gs (ka : Nat) (ca : List D)  : Go.Ev.Rd → Option GS
  | .next 0 ds => ghost [.val 3] (List.range' 6 12) (w_trimmed_L2_E ka ca).1 (w_trimmed_L2_E ka ca).2 1 ds
  | .out 0 ds => ghost w_trimmed_x2_0.live w_trimmed_x2_0.junk (w_trimmed_L2_E ka ca).1 (w_trimmed_L2_E ka ca).2 1 ds
  | _ => none
def w_trimmed_L2_ex : Nat → Option Nat
  | 0 => w_trimmed_x2_0.ex
  | _ => none
def w_trimmed_L2_ax : Go.Ev.Rd → AX
  | .next _ _ => .normal
  | .out j _ => axOf (w_trimmed_L2_ex j)
def w_trimmed_L2_S0 (ka : Nat) (ca : List D)  (ds : List D) : Option Go.Ev.Rd := pullD (α := Int) (some (.tup ds)) (fun d => ((D.vi (D.at d 0)))) (fun s3 => .tup [.one (.int .i64 s3)]) fun s3 => ((if s3 > (0 : Int) then guardP ((0 : Int) ≤ IntKind.i64.wrap (s3 - (1 : Int)) ∧ (IntKind.i64.wrap (s3 - (1 : Int))).toNat < ka) (pullD (α := Int) (readD ca ((IntKind.i64.wrap (s3 - (1 : Int))).toNat * 1) 1 false) (fun d => ((D.vi d))) (fun v0 => .one (.int .i64 v0)) fun v0 => ((if v0 = (0 : Int) then some (.next 0 [.one (.int .i64 (IntKind.i64.wrap (s3 - (1 : Int))))]) else some (.out 0 [.one (.int .i64 s3)])))) else some (.out 0 [.one (.int .i64 s3)])))
def w_trimmed_L2_S (ka : Nat) (ca : List D)  : Go.Ev.Rd → Option Go.Ev.Rd
  | .next 0 ds => w_trimmed_L2_S0 ka ca ds
  | _ => none
theorem w_trimmed_L2_S_ok (ka : Nat) (ca : List D)  : ∀ s_ t_, w_trimmed_L2_S ka ca s_ = some t_ → Step (ctx [155] w_trimmed_sp) Tabs w_trimmed_L2_A (stateOf (w_trimmed_L2_gs ka ca s_)) (stateOf (w_trimmed_L2_gs ka ca t_)) (w_trimmed_L2_ax t_) ∧ EndOK w_trimmed_L2_A.nx w_trimmed_L2_A.low (w_trimmed_L2_gs ka ca) t_
  | .next 0 ds, t_, h => by
    have h_ : w_trimmed_L2_S0 ka ca ds = some t_ := h
    clear h
    unfold w_trimmed_L2_S0 at h_
    obtain ⟨s3, e0, h0⟩ := pullD_elim h_
    clear h_
    obtain rfl := tup_inj e0
    by_cases b1_ : s3 > (0 : Int)
    · have h2_ := (if_pos b1_).symm.trans h0
      obtain ⟨f3_, h4_⟩ := guardP_elim h2_
      obtain ⟨v0, f5_, h6_⟩ := pullD_elim h4_
      replace f5_ := readD_elim f5_
      by_cases b7_ : v0 = (0 : Int)
      · have h8_ := (if_pos b7_).symm.trans h6_
        obtain rfl := Option.some.inj h8_
        exact ⟨step_pc 3000 (bT 8 []) [.one (.int .i64 v0)] [c_d b1_, c_d b1_, c_d b1_, c_d b1_, c_f f3_, c_d b1_, c_f f5_, c_d b1_, c_d b1_, c_e b7_] [] _ rfl (by kernel_rfl) (by kernel_rfl) (by kernel_rfl) (by kernel_rfl) (by kernel_rfl) (by kernel_rfl), trivial⟩
      · have h8_ := (if_neg b7_).symm.trans h6_
        have b9_ : v0 ≠ (0 : Int) := by first | exact b7_ | simpa using b7_
        obtain rfl := Option.some.inj h8_
        exact ⟨step_pc 3000 (bT 7 (bF 1 [])) [.one (.int .i64 v0)] [c_d b1_, c_d b1_, c_d b1_, c_d b1_, c_f f3_, c_d b1_, c_f f5_, c_d b1_, c_d b1_, c_en b9_] [] _ rfl (by kernel_rfl) (by kernel_rfl) (by kernel_rfl) (by kernel_rfl) (by kernel_rfl) (by kernel_rfl), by kernel_rfl, by kernel_rfl⟩
    · have h2_ := (if_neg b1_).symm.trans h0
      obtain rfl := Option.some.inj h2_
      exact ⟨step_pc 3000 (bF 8 []) [] [c_n b1_, c_n b1_, c_n b1_, c_n b1_, c_n b1_, c_n b1_, c_n b1_, c_F] [] _ rfl (by kernel_rfl) (by kernel_rfl) (by kernel_rfl) (by kernel_rfl) (by kernel_rfl) (by kernel_rfl), by kernel_rfl, by kernel_rfl⟩
  | .next (_ + 1) _, _, h => by cases h
  | .out _ _, _, h => by cases h
theorem w_trimmed_L2_go (ka : Nat) (ca : List D)  {q : Nat} {ds : List D} {j : Nat} {es : List D} (h : runR (w_trimmed_L2_S ka ca) (.next q ds) = some (.out j es)) : Runs (ctx [155] w_trimmed_sp) Tabs w_trimmed_L2_A (stateOf (w_trimmed_L2_gs ka ca (.next q ds))) (stateOf (w_trimmed_L2_gs ka ca (.out j es))) (w_trimmed_L2_ax (.out j es)) ∧ (nxtOf (w_trimmed_L2_gs ka ca (.out j es)), lowGS (w_trimmed_L2_gs ka ca (.out j es))) = (w_trimmed_L2_A.nx, w_trimmed_L2_A.low) :=
  runs_of' (good true _ _) w_trimmed_L2_ok (ax := w_trimmed_L2_ax) (fun _ _ => rfl) (fun _ _ => axOf_end _) (w_trimmed_L2_S_ok ka ca) h
theorem w_trimmed_L2_in0 (ka : Nat) (ca : List D)  {es : List D} (h : runR (w_trimmed_L2_S ka ca) (.next 0 [.one (.int .i64 ((ka : Int)))]) = some (.out 0 es)) : LoopC (loopAt Try.prog 155 0) (w_trimmed_L2_E ka ca) 1 noFrame w_trimmed_x2_0 es :=
  have r := w_trimmed_L2_go ka ca h
  loopin_as rfl (loop_in (l := w_trimmed_L2_A) (E := (w_trimmed_L2_E ka ca)) (S := stateOf (w_trimmed_L2_gs ka ca (.next 0 [.one (.int .i64 ((ka : Int)))]))) (ns := nsOf (w_trimmed_L2_gs ka ca (.next 0 [.one (.int .i64 ((ka : Int)))]))) w_trimmed_L2_ok r.1 r.2 (by kernel_rfl) (by kernel_rfl) (by kernel_rfl) (by kernel_rfl))
def w_trimmed_M (ka : Nat) (ca : List D) : Option D := bindL (runR (w_trimmed_L2_S ka ca) (.next 0 [.one (.int .i64 ((ka : Int)))])) fun j ds => (if j = 0 then pullD (α := Int) (some (.tup ds)) (fun d => ((D.vi (D.at d 0)))) (fun l0 => .tup [.one (.int .i64 l0)]) fun l0 => (guardP ((0 : Int) ≤ (0 : Int) ∧ (0 : Int) ≤ l0 ∧ l0 ≤ (ka : Int) ∧ ca.length = ka * 1) (some (.list (l0.toNat - Int.toNat (0 : Int)) (List.take ((l0.toNat - Int.toNat (0 : Int)) * 1) (List.drop (Int.toNat (0 : Int) * 1) ca))))) else none)
theorem w_trimmed_M_ok (ka : Nat) (ca : List D) {r : D} (h : w_trimmed_M ka ca = some r) : Con 155 [.list ka ca] r := by
  unfold w_trimmed_M at h
  obtain ⟨j, ds, e1_, h2_⟩ := bindL_elim h
  by_cases j3_ : j = 0
  · have h6_ := (if_pos j3_).symm.trans h2_
    clear h2_
    subst j3_
    obtain ⟨l0, e4_, h7_⟩ := pullD_elim h6_
    clear h6_
    obtain rfl := tup_inj e4_
    have k5_ := w_trimmed_L2_in0 ka ca e1_
    obtain ⟨f8_, h9_⟩ := guardP_elim h7_
    obtain rfl := Option.some.inj h9_
    exact con_pc (op := true) (I := [155]) (sp := w_trimmed_sp) 3000 [] [.tup [.one (.int .i64 (Int.ofNat 0)), .one (.int .i64 l0)]] [c_f f8_] [k_l k5_ [] [.tup [.one (.int .i64 (Int.ofNat 0)), .one (.int .i64 l0)]] []] (by kernel_rfl)
  have h10_ := (if_neg j3_).symm.trans h2_
  clear h2_
  cases h10_
def m_155 (ds : List D) : Option D := pullD (α := Nat × (List D)) (some (.tup ds)) (fun d => ((D.ln (D.at d 0)), (D.lc (D.at d 0)))) (fun (ka, ca) => .tup [.list ka ca]) fun (ka, ca) => w_trimmed_M ka ca
theorem m_155_ok {ds : List D} {r : D} (h : m_155 ds = some r) : Con 155 ds r := by
  unfold m_155 at h
  obtain ⟨⟨ka, ca⟩, e0, h0⟩ := pullD_elim h
  obtain rfl := tup_inj e0
  exact w_trimmed_M_ok ka ca h0
theorem m_155_eq (ka : Nat) (ca : List D) : m_155 [.list ka ca] = w_trimmed_M ka ca := pullD_some (ka, ca) rfl rfl
def w_wideOf_sp : List LSpec := []
def w_wideOf_M (sa : Int) (ka : Nat) (ca : List D) : Option D := pullD (α := Nat × (List D)) (m_155 [.list ka ca]) (fun d => ((D.ln d), (D.lc d))) (fun (k0, c1) => .list k0 c1) fun (k0, c1) => ((if (k0 : Int) = (0 : Int) then some (.agg [.one (.int .i64 (0 : Int)), .list k0 c1]) else some (.agg [.one (.int .i64 sa), .list k0 c1])))
theorem w_wideOf_M_ok (sa : Int) (ka : Nat) (ca : List D) {r : D} (h : w_wideOf_M sa ka ca = some r) : Con 145 [.one (.int .i64 sa), .list ka ca] r := by
  unfold w_wideOf_M at h
  obtain ⟨⟨k0, c1⟩, f1_, h2_⟩ := pullD_elim h
  replace f1_ := m_155_ok f1_
  by_cases b3_ : (k0 : Int) = (0 : Int)
  · have h4_ := (if_pos b3_).symm.trans h2_
    obtain rfl := Option.some.inj h4_
    exact con_pc (op := true) (I := [145]) (sp := w_wideOf_sp) 3000 (bT 1 []) [.list k0 c1] [c_e b3_] [k_c f1_] (by kernel_rfl)
  · have h4_ := (if_neg b3_).symm.trans h2_
    have b5_ : (k0 : Int) ≠ (0 : Int) := by first | exact b3_ | simpa using b3_
    obtain rfl := Option.some.inj h4_
    exact con_pc (op := true) (I := [145]) (sp := w_wideOf_sp) 3000 (bF 1 []) [.list k0 c1] [c_en b5_] [k_c f1_] (by kernel_rfl)
def m_145 (ds : List D) : Option D := pullD (α := Int × Nat × (List D)) (some (.tup ds)) (fun d => ((D.vi (D.at d 0)), (D.ln (D.at d 1)), (D.lc (D.at d 1)))) (fun (sa, ka, ca) => .tup [.one (.int .i64 sa), .list ka ca]) fun (sa, ka, ca) => w_wideOf_M sa ka ca
theorem m_145_ok {ds : List D} {r : D} (h : m_145 ds = some r) : Con 145 ds r := by
  unfold m_145 at h
  obtain ⟨⟨sa, ka, ca⟩, e0, h0⟩ := pullD_elim h
  obtain rfl := tup_inj e0
  exact w_wideOf_M_ok sa ka ca h0
theorem m_145_eq (sa : Int) (ka : Nat) (ca : List D) : m_145 [.one (.int .i64 sa), .list ka ca] = w_wideOf_M sa ka ca := pullD_some (sa, ka, ca) rfl rfl
def w_of_x5_0 : LExit := ⟨some 0, [.grow 4 1], (0 :: (List.range' 9 9))⟩
def w_of_x5_1 : LExit := ⟨some 0, [.nil 4], (0 :: (List.range' 9 9))⟩
def w_of_sp : List LSpec := [⟨121, 5, [w_of_x5_0, w_of_x5_1]⟩]
def w_of_L5_1_E (n : Int)  : List AV × AHeap := ([.pure (.int .i64 n), .pure (.tuple #[]), .ptr 0 0, .pure (.int .i64 (1 : Int)), .pure (.slice none 0 0), .pure (.int .i64 n), .pure (.bool (decide (n < (0 : Int)))), .pure (.tuple #[]), .pure (.tuple #[]), .pure (.tuple #[]), .pure (.tuple #[]), .pure (.tuple #[]), .pure (.tuple #[]), .pure (.tuple #[]), .pure (.tuple #[]), .pure (.tuple #[]), .pure (.tuple #[]), .pure (.tuple #[]), .pure (.tuple #[]), .pure (.tuple #[]), .pure (.tuple #[])], [(0, { cells := [.pure (.int .i64 (0 : Int)), .pure (.slice none 0 0)], opn := none, kind := .cells })])
def w_of_L5_1_A : LoopAt := ⟨121, loopAt Try.prog 121 0, 1, 12, 1, noFrame⟩
theorem w_of_L5_1_ok : (w_of_L5_1_A).OK := ⟨by show 1 ≤ 12; decide, by show 1 ≤ 1; decide, by kernel_rfl, rfl⟩
def w_of_L5_1_gs (n : Int)  : Go.Ev.Rd → Option GS
  | .next 0 ds => ghost [.val 0, .grow 4 1] (List.range' 9 9) (w_of_L5_1_E n).1 (w_of_L5_1_E n).2 1 ds
  | .next 1 ds => ghost [.val 0, .nil 4] (List.range' 9 9) (w_of_L5_1_E n).1 (w_of_L5_1_E n).2 1 ds
  | .out 0 ds => ghost w_of_x5_0.live w_of_x5_0.junk (w_of_L5_1_E n).1 (w_of_L5_1_E n).2 1 ds
  | .out 1 ds => ghost w_of_x5_1.live w_of_x5_1.junk (w_of_L5_1_E n).1 (w_of_L5_1_E n).2 1 ds
  | _ => none
def w_of_L5_1_ex : Nat → Option Nat
  | 0 => w_of_x5_0.ex
  | 1 => w_of_x5_1.ex
  | _ => none
def w_of_L5_1_ax : Go.Ev.Rd → AX
  | .next _ _ => .normal
  | .out j _ => axOf (w_of_L5_1_ex j)
def w_of_L5_1_S0 (n : Int)  (ds : List D) : Option Go.Ev.Rd := pullD (α := Int × Nat × (List D)) (some (.tup ds)) (fun d => ((D.vi (D.at d 0)), (D.ln (D.at d 1)), (D.lc (D.at d 1)))) (fun (s0, s4n, s4c) => .tup [.one (.int .i64 s0), .list s4n s4c]) fun (s0, s4n, s4c) => ((if s0 > (0 : Int) then guardP ((∀ (u : D), u ∈ [dCell (.int .i64 (s0.tmod (1000000000 : Int)))] → cellD u) ∧ s4n * 1 ≤ s4c.length ∧ (s4n + (0 + 1)) * 8 ≤ 140737488355328 ∧ s4n + (0 + 1) ≤ 4611686018427387904) (some (.next 0 [.one (.int .i64 (IntKind.i64.wrap (s0.tdiv (1000000000 : Int)))), .list (s4n + (0 + 1)) (List.append (List.take (s4n * 1) s4c) [dCell (.int .i64 (s0.tmod (1000000000 : Int)))])])) else some (.out 0 [.list s4n s4c])))
def w_of_L5_1_S1 (n : Int)  (ds : List D) : Option Go.Ev.Rd := pullD (α := Int) (some (.tup ds)) (fun d => ((D.vi (D.at d 0)))) (fun s0 => .tup [.one (.int .i64 s0), .one (.tuple #[])]) fun s0 => ((if s0 > (0 : Int) then some (.next 0 [.one (.int .i64 (IntKind.i64.wrap (s0.tdiv (1000000000 : Int)))), .list 1 [.one (.int .i64 (s0.tmod (1000000000 : Int)))]]) else some (.out 1 [.one (.tuple #[])])))
def w_of_L5_1_S (n : Int)  : Go.Ev.Rd → Option Go.Ev.Rd
  | .next 0 ds => w_of_L5_1_S0 n ds
  | .next 1 ds => w_of_L5_1_S1 n ds
  | _ => none
theorem w_of_L5_1_S_ok (n : Int)  : ∀ s_ t_, w_of_L5_1_S n s_ = some t_ → Step (ctx [121] w_of_sp) Tabs w_of_L5_1_A (stateOf (w_of_L5_1_gs n s_)) (stateOf (w_of_L5_1_gs n t_)) (w_of_L5_1_ax t_) ∧ EndOK w_of_L5_1_A.nx w_of_L5_1_A.low (w_of_L5_1_gs n) t_
  | .next 0 ds, t_, h => by
    have h_ : w_of_L5_1_S0 n ds = some t_ := h
    clear h
    unfold w_of_L5_1_S0 at h_
    obtain ⟨⟨s0, s4n, s4c⟩, e0, h0⟩ := pullD_elim h_
    clear h_
    obtain rfl := tup_inj e0
    by_cases b1_ : s0 > (0 : Int)
    · have h2_ := (if_pos b1_).symm.trans h0
      obtain ⟨f3_, h4_⟩ := guardP_elim h2_
      obtain rfl := Option.some.inj h4_
      exact ⟨step_pc 3000 (bT 1 []) [] [c_d b1_, c_F, c_f f3_, c_F] [] _ rfl (by kernel_rfl) (by kernel_rfl) (by kernel_rfl) (by kernel_rfl) (by kernel_rfl) (by kernel_rfl), trivial⟩
    · have h2_ := (if_neg b1_).symm.trans h0
      obtain rfl := Option.some.inj h2_
      exact ⟨step_pc 3000 (bF 1 []) [] [c_n b1_] [] _ rfl (by kernel_rfl) (by kernel_rfl) (by kernel_rfl) (by kernel_rfl) (by kernel_rfl) (by kernel_rfl), by kernel_rfl, by kernel_rfl⟩
  | .next 1 ds, t_, h => by
    have h_ : w_of_L5_1_S1 n ds = some t_ := h
    clear h
    unfold w_of_L5_1_S1 at h_
    obtain ⟨s0, e0, h0⟩ := pullD_elim h_
    clear h_
    obtain rfl := tup_inj e0
    by_cases b1_ : s0 > (0 : Int)
    · have h2_ := (if_pos b1_).symm.trans h0
      obtain rfl := Option.some.inj h2_
      exact ⟨step_pc 3000 (bT 1 []) [] [c_d b1_, c_F, ⟨fact (0 < 0 + 1 ∧ (0 + 1) * 8 ≤ 140737488355328 ∧ 0 + 1 ≤ 4611686018427387904), true, fact_mk (by decide)⟩, c_F] [] _ rfl (by kernel_rfl) (by kernel_rfl) (by kernel_rfl) (by kernel_rfl) (by kernel_rfl) (by kernel_rfl), trivial⟩
    · have h2_ := (if_neg b1_).symm.trans h0
      obtain rfl := Option.some.inj h2_
      exact ⟨step_pc 3000 (bF 1 []) [] [c_n b1_] [] _ rfl (by kernel_rfl) (by kernel_rfl) (by kernel_rfl) (by kernel_rfl) (by kernel_rfl) (by kernel_rfl), by kernel_rfl, by kernel_rfl⟩
  | .next (_ + 2) _, _, h => by cases h
  | .out _ _, _, h => by cases h
theorem w_of_L5_1_go (n : Int)  {q : Nat} {ds : List D} {j : Nat} {es : List D} (h : runR (w_of_L5_1_S n) (.next q ds) = some (.out j es)) : Runs (ctx [121] w_of_sp) Tabs w_of_L5_1_A (stateOf (w_of_L5_1_gs n (.next q ds))) (stateOf (w_of_L5_1_gs n (.out j es))) (w_of_L5_1_ax (.out j es)) ∧ (nxtOf (w_of_L5_1_gs n (.out j es)), lowGS (w_of_L5_1_gs n (.out j es))) = (w_of_L5_1_A.nx, w_of_L5_1_A.low) :=
  runs_of' (good true _ _) w_of_L5_1_ok (ax := w_of_L5_1_ax) (fun _ _ => rfl) (fun _ _ => axOf_end _) (w_of_L5_1_S_ok n) h
theorem w_of_L5_1_in0 (n : Int)  {es : List D} (h : runR (w_of_L5_1_S n) (.next 1 [.one (.int .i64 (n)), .one (.tuple #[])]) = some (.out 0 es)) : LoopC (loopAt Try.prog 121 0) (w_of_L5_1_E n) 1 noFrame w_of_x5_0 es :=
  have r := w_of_L5_1_go n h
  loopin_as rfl (loop_in (l := w_of_L5_1_A) (E := (w_of_L5_1_E n)) (S := stateOf (w_of_L5_1_gs n (.next 1 [.one (.int .i64 (n)), .one (.tuple #[])]))) (ns := nsOf (w_of_L5_1_gs n (.next 1 [.one (.int .i64 (n)), .one (.tuple #[])]))) w_of_L5_1_ok r.1 r.2 (by kernel_rfl) (by kernel_rfl) (by kernel_rfl) (by kernel_rfl))
theorem w_of_L5_1_in1 (n : Int)  {es : List D} (h : runR (w_of_L5_1_S n) (.next 1 [.one (.int .i64 (n)), .one (.tuple #[])]) = some (.out 1 es)) : LoopC (loopAt Try.prog 121 0) (w_of_L5_1_E n) 1 noFrame w_of_x5_1 es :=
  have r := w_of_L5_1_go n h
  loopin_as rfl (loop_in (l := w_of_L5_1_A) (E := (w_of_L5_1_E n)) (S := stateOf (w_of_L5_1_gs n (.next 1 [.one (.int .i64 (n)), .one (.tuple #[])]))) (ns := nsOf (w_of_L5_1_gs n (.next 1 [.one (.int .i64 (n)), .one (.tuple #[])]))) w_of_L5_1_ok r.1 r.2 (by kernel_rfl) (by kernel_rfl) (by kernel_rfl) (by kernel_rfl))
def w_of_L5_E (n : Int)  : List AV × AHeap := ([.pure (.int .i64 (IntKind.i64.wrap ((0 : Int) - n))), .pure (.tuple #[]), .ptr 0 0, .pure (.int .i64 (-1 : Int)), .pure (.slice none 0 0), .pure (.int .i64 n), .pure (.bool (decide (n < (0 : Int)))), .pure (.int .i64 n), .pure (.int .i64 (IntKind.i64.wrap ((0 : Int) - n))), .pure (.tuple #[]), .pure (.tuple #[]), .pure (.tuple #[]), .pure (.tuple #[]), .pure (.tuple #[]), .pure (.tuple #[]), .pure (.tuple #[]), .pure (.tuple #[]), .pure (.tuple #[]), .pure (.tuple #[]), .pure (.tuple #[]), .pure (.tuple #[])], [(0, { cells := [.pure (.int .i64 (0 : Int)), .pure (.slice none 0 0)], opn := none, kind := .cells })])
def w_of_L5_A : LoopAt := ⟨121, loopAt Try.prog 121 0, 1, 12, 1, noFrame⟩
theorem w_of_L5_ok : (w_of_L5_A).OK := ⟨by show 1 ≤ 12; decide, by show 1 ≤ 1; decide, by kernel_rfl, rfl⟩
def w_of_L5_gs (n : Int)  : Go.Ev.Rd → Option GS
  | .next 0 ds => ghost [.val 0, .grow 4 1] (List.range' 9 9) (w_of_L5_E n).1 (w_of_L5_E n).2 1 ds
  | .next 1 ds => ghost [.val 0, .nil 4] (List.range' 9 9) (w_of_L5_E n).1 (w_of_L5_E n).2 1 ds
  | .out 0 ds => ghost w_of_x5_0.live w_of_x5_0.junk (w_of_L5_E n).1 (w_of_L5_E n).2 1 ds
  | .out 1 ds => ghost w_of_x5_1.live w_of_x5_1.junk (w_of_L5_E n).1 (w_of_L5_E n).2 1 ds
  | _ => none
def w_of_L5_ex : Nat → Option Nat
  | 0 => w_of_x5_0.ex
  | 1 => w_of_x5_1.ex
  | _ => none
def w_of_L5_ax : Go.Ev.Rd → AX
  | .next _ _ => .normal
  | .out j _ => axOf (w_of_L5_ex j)
def w_of_L5_S0 (n : Int)  (ds : List D) : Option Go.Ev.Rd := pullD (α := Int × Nat × (List D)) (some (.tup ds)) (fun d => ((D.vi (D.at d 0)), (D.ln (D.at d 1)), (D.lc (D.at d 1)))) (fun (s0, s4n, s4c) => .tup [.one (.int .i64 s0), .list s4n s4c]) fun (s0, s4n, s4c) => ((if s0 > (0 : Int) then guardP ((∀ (u : D), u ∈ [dCell (.int .i64 (s0.tmod (1000000000 : Int)))] → cellD u) ∧ s4n * 1 ≤ s4c.length ∧ (s4n + (0 + 1)) * 8 ≤ 140737488355328 ∧ s4n + (0 + 1) ≤ 4611686018427387904) (some (.next 0 [.one (.int .i64 (IntKind.i64.wrap (s0.tdiv (1000000000 : Int)))), .list (s4n + (0 + 1)) (List.append (List.take (s4n * 1) s4c) [dCell (.int .i64 (s0.tmod (1000000000 : Int)))])])) else some (.out 0 [.list s4n s4c])))
def w_of_L5_S1 (n : Int)  (ds : List D) : Option Go.Ev.Rd := pullD (α := Int) (some (.tup ds)) (fun d => ((D.vi (D.at d 0)))) (fun s0 => .tup [.one (.int .i64 s0), .one (.tuple #[])]) fun s0 => ((if s0 > (0 : Int) then some (.next 0 [.one (.int .i64 (IntKind.i64.wrap (s0.tdiv (1000000000 : Int)))), .list 1 [.one (.int .i64 (s0.tmod (1000000000 : Int)))]]) else some (.out 1 [.one (.tuple #[])])))
def w_of_L5_S (n : Int)  : Go.Ev.Rd → Option Go.Ev.Rd
  | .next 0 ds => w_of_L5_S0 n ds
  | .next 1 ds => w_of_L5_S1 n ds
  | _ => none
theorem w_of_L5_S_ok (n : Int)  : ∀ s_ t_, w_of_L5_S n s_ = some t_ → Step (ctx [121] w_of_sp) Tabs w_of_L5_A (stateOf (w_of_L5_gs n s_)) (stateOf (w_of_L5_gs n t_)) (w_of_L5_ax t_) ∧ EndOK w_of_L5_A.nx w_of_L5_A.low (w_of_L5_gs n) t_
  | .next 0 ds, t_, h => by
    have h_ : w_of_L5_S0 n ds = some t_ := h
    clear h
    unfold w_of_L5_S0 at h_
    obtain ⟨⟨s0, s4n, s4c⟩, e0, h0⟩ := pullD_elim h_
    clear h_
    obtain rfl := tup_inj e0
    by_cases b1_ : s0 > (0 : Int)
    · have h2_ := (if_pos b1_).symm.trans h0
      obtain ⟨f3_, h4_⟩ := guardP_elim h2_
      obtain rfl := Option.some.inj h4_
      exact ⟨step_pc 3000 (bT 1 []) [] [c_d b1_, c_F, c_f f3_, c_F] [] _ rfl (by kernel_rfl) (by kernel_rfl) (by kernel_rfl) (by kernel_rfl) (by kernel_rfl) (by kernel_rfl), trivial⟩
    · have h2_ := (if_neg b1_).symm.trans h0
      obtain rfl := Option.some.inj h2_
      exact ⟨step_pc 3000 (bF 1 []) [] [c_n b1_] [] _ rfl (by kernel_rfl) (by kernel_rfl) (by kernel_rfl) (by kernel_rfl) (by kernel_rfl) (by kernel_rfl), by kernel_rfl, by kernel_rfl⟩
  | .next 1 ds, t_, h => by
    have h_ : w_of_L5_S1 n ds = some t_ := h
    clear h
    unfold w_of_L5_S1 at h_
    obtain ⟨s0, e0, h0⟩ := pullD_elim h_
    clear h_
    obtain rfl := tup_inj e0
    by_cases b1_ : s0 > (0 : Int)
    · have h2_ := (if_pos b1_).symm.trans h0
      obtain rfl := Option.some.inj h2_
      exact ⟨step_pc 3000 (bT 1 []) [] [c_d b1_, c_F, ⟨fact (0 < 0 + 1 ∧ (0 + 1) * 8 ≤ 140737488355328 ∧ 0 + 1 ≤ 4611686018427387904), true, fact_mk (by decide)⟩, c_F] [] _ rfl (by kernel_rfl) (by kernel_rfl) (by kernel_rfl) (by kernel_rfl) (by kernel_rfl) (by kernel_rfl), trivial⟩
    · have h2_ := (if_neg b1_).symm.trans h0
      obtain rfl := Option.some.inj h2_
      exact ⟨step_pc 3000 (bF 1 []) [] [c_n b1_] [] _ rfl (by kernel_rfl) (by kernel_rfl) (by kernel_rfl) (by kernel_rfl) (by kernel_rfl) (by kernel_rfl), by kernel_rfl, by kernel_rfl⟩
  | .next (_ + 2) _, _, h => by cases h
  | .out _ _, _, h => by cases h
theorem w_of_L5_go (n : Int)  {q : Nat} {ds : List D} {j : Nat} {es : List D} (h : runR (w_of_L5_S n) (.next q ds) = some (.out j es)) : Runs (ctx [121] w_of_sp) Tabs w_of_L5_A (stateOf (w_of_L5_gs n (.next q ds))) (stateOf (w_of_L5_gs n (.out j es))) (w_of_L5_ax (.out j es)) ∧ (nxtOf (w_of_L5_gs n (.out j es)), lowGS (w_of_L5_gs n (.out j es))) = (w_of_L5_A.nx, w_of_L5_A.low) :=
  runs_of' (good true _ _) w_of_L5_ok (ax := w_of_L5_ax) (fun _ _ => rfl) (fun _ _ => axOf_end _) (w_of_L5_S_ok n) h
theorem w_of_L5_in0 (n : Int)  {es : List D} (h : runR (w_of_L5_S n) (.next 1 [.one (.int .i64 ((IntKind.i64.wrap ((0 : Int) - n)))), .one (.tuple #[])]) = some (.out 0 es)) : LoopC (loopAt Try.prog 121 0) (w_of_L5_E n) 1 noFrame w_of_x5_0 es :=
  have r := w_of_L5_go n h
  loopin_as rfl (loop_in (l := w_of_L5_A) (E := (w_of_L5_E n)) (S := stateOf (w_of_L5_gs n (.next 1 [.one (.int .i64 ((IntKind.i64.wrap ((0 : Int) - n)))), .one (.tuple #[])]))) (ns := nsOf (w_of_L5_gs n (.next 1 [.one (.int .i64 ((IntKind.i64.wrap ((0 : Int) - n)))), .one (.tuple #[])]))) w_of_L5_ok r.1 r.2 (by kernel_rfl) (by kernel_rfl) (by kernel_rfl) (by kernel_rfl))
theorem w_of_L5_in1 (n : Int)  {es : List D} (h : runR (w_of_L5_S n) (.next 1 [.one (.int .i64 ((IntKind.i64.wrap ((0 : Int) - n)))), .one (.tuple #[])]) = some (.out 1 es)) : LoopC (loopAt Try.prog 121 0) (w_of_L5_E n) 1 noFrame w_of_x5_1 es :=
  have r := w_of_L5_go n h
  loopin_as rfl (loop_in (l := w_of_L5_A) (E := (w_of_L5_E n)) (S := stateOf (w_of_L5_gs n (.next 1 [.one (.int .i64 ((IntKind.i64.wrap ((0 : Int) - n)))), .one (.tuple #[])]))) (ns := nsOf (w_of_L5_gs n (.next 1 [.one (.int .i64 ((IntKind.i64.wrap ((0 : Int) - n)))), .one (.tuple #[])]))) w_of_L5_ok r.1 r.2 (by kernel_rfl) (by kernel_rfl) (by kernel_rfl) (by kernel_rfl))
def w_of_M (n : Int) : Option D := (if n < (0 : Int) then bindL (runR (w_of_L5_S n) (.next 1 [.one (.int .i64 ((IntKind.i64.wrap ((0 : Int) - n)))), .one (.tuple #[])])) fun j ds => (if j = 0 then pullD (α := Nat × (List D)) (some (.tup ds)) (fun d => ((D.ln (D.at d 0)), (D.lc (D.at d 0)))) (fun (k0, c1) => .tup [.list k0 c1]) fun (k0, c1) => (guardP ((0 + k0) * 1 ≤ c1.length ∧ 0 < 1) (pullD (α := Int × Nat × (List D)) (m_145 [.one (.int .i64 (-1 : Int)), .list k0 c1]) (fun d => ((D.vi (D.at d 0)), (D.ln (D.at d 1)), (D.lc (D.at d 1)))) (fun (r2, k3, c4) => .agg [.one (.int .i64 r2), .list k3 c4]) fun (r2, k3, c4) => (some (.agg [.one (.int .i64 r2), .list k3 c4])))) else if j = 1 then pullD (some (.tup ds)) (fun _ => ()) (fun _ => .tup [.one (.tuple #[])]) fun _ => (pullD (α := Int × Nat × (List D)) (m_145 [.one (.int .i64 (-1 : Int)), .list 0 []]) (fun d => ((D.vi (D.at d 0)), (D.ln (D.at d 1)), (D.lc (D.at d 1)))) (fun (r5, k6, c7) => .agg [.one (.int .i64 r5), .list k6 c7]) fun (r5, k6, c7) => (some (.agg [.one (.int .i64 r5), .list k6 c7]))) else none) else bindL (runR (w_of_L5_1_S n) (.next 1 [.one (.int .i64 (n)), .one (.tuple #[])])) fun j ds => (if j = 0 then pullD (α := Nat × (List D)) (some (.tup ds)) (fun d => ((D.ln (D.at d 0)), (D.lc (D.at d 0)))) (fun (k8, c9) => .tup [.list k8 c9]) fun (k8, c9) => (guardP ((0 + k8) * 1 ≤ c9.length ∧ 0 < 1) (pullD (α := Int × Nat × (List D)) (m_145 [.one (.int .i64 (1 : Int)), .list k8 c9]) (fun d => ((D.vi (D.at d 0)), (D.ln (D.at d 1)), (D.lc (D.at d 1)))) (fun (r10, k11, c12) => .agg [.one (.int .i64 r10), .list k11 c12]) fun (r10, k11, c12) => (some (.agg [.one (.int .i64 r10), .list k11 c12])))) else if j = 1 then pullD (some (.tup ds)) (fun _ => ()) (fun _ => .tup [.one (.tuple #[])]) fun _ => (pullD (α := Int × Nat × (List D)) (m_145 [.one (.int .i64 (1 : Int)), .list 0 []]) (fun d => ((D.vi (D.at d 0)), (D.ln (D.at d 1)), (D.lc (D.at d 1)))) (fun (r13, k14, c15) => .agg [.one (.int .i64 r13), .list k14 c15]) fun (r13, k14, c15) => (some (.agg [.one (.int .i64 r13), .list k14 c15]))) else none))
theorem w_of_M_ok (n : Int) {r : D} (h : w_of_M n = some r) : Con 121 [.one (.int .i64 n)] r := by
  unfold w_of_M at h
  by_cases b1_ : n < (0 : Int)
  · have h2_ := (if_pos b1_).symm.trans h
    obtain ⟨j, ds, e3_, h4_⟩ := bindL_elim h2_
    by_cases j5_ : j = 0
    · have h8_ := (if_pos j5_).symm.trans h4_
      clear h4_
      subst j5_
      obtain ⟨⟨k0, c1⟩, e6_, h9_⟩ := pullD_elim h8_
      clear h8_
      obtain rfl := tup_inj e6_
      have k7_ := w_of_L5_in0 n e3_
      obtain ⟨f10_, h11_⟩ := guardP_elim h9_
      obtain ⟨⟨r2, k3, c4⟩, f12_, h13_⟩ := pullD_elim h11_
      replace f12_ := m_145_ok f12_
      obtain rfl := Option.some.inj h13_
      exact con_pc (op := true) (I := [121]) (sp := w_of_sp) 3000 (bT 1 []) [.tup [.one (.int .i64 (Int.ofNat 0)), .list k0 c1], .agg [.one (.int .i64 r2), .list k3 c4]] [c_d b1_, c_f f10_] [k_l k7_ [] [.tup [.one (.int .i64 (Int.ofNat 0)), .list k0 c1], .agg [.one (.int .i64 r2), .list k3 c4]] [.agg [.one (.int .i64 r2), .list k3 c4]], k_c f12_] (by kernel_rfl)
    have h14_ := (if_neg j5_).symm.trans h4_
    clear h4_
    by_cases j15_ : j = 1
    · have h18_ := (if_pos j15_).symm.trans h14_
      clear h14_
      subst j15_
      obtain ⟨⟨⟩, e16_, h19_⟩ := pullD_elim h18_
      clear h18_
      obtain rfl := tup_inj e16_
      have k17_ := w_of_L5_in1 n e3_
      obtain ⟨⟨r5, k6, c7⟩, f20_, h21_⟩ := pullD_elim h19_
      replace f20_ := m_145_ok f20_
      obtain rfl := Option.some.inj h21_
      exact con_pc (op := true) (I := [121]) (sp := w_of_sp) 3000 (bT 1 []) [.tup [.one (.int .i64 (Int.ofNat 1)), .one (.tuple #[])], .agg [.one (.int .i64 r5), .list k6 c7]] [c_d b1_] [k_l k17_ [] [.tup [.one (.int .i64 (Int.ofNat 1)), .one (.tuple #[])], .agg [.one (.int .i64 r5), .list k6 c7]] [.agg [.one (.int .i64 r5), .list k6 c7]], k_c f20_] (by kernel_rfl)
    have h22_ := (if_neg j15_).symm.trans h14_
    clear h14_
    cases h22_
  · have h2_ := (if_neg b1_).symm.trans h
    obtain ⟨j, ds, e23_, h24_⟩ := bindL_elim h2_
    by_cases j25_ : j = 0
    · have h28_ := (if_pos j25_).symm.trans h24_
      clear h24_
      subst j25_
      obtain ⟨⟨k8, c9⟩, e26_, h29_⟩ := pullD_elim h28_
      clear h28_
      obtain rfl := tup_inj e26_
      have k27_ := w_of_L5_1_in0 n e23_
      obtain ⟨f30_, h31_⟩ := guardP_elim h29_
      obtain ⟨⟨r10, k11, c12⟩, f32_, h33_⟩ := pullD_elim h31_
      replace f32_ := m_145_ok f32_
      obtain rfl := Option.some.inj h33_
      exact con_pc (op := true) (I := [121]) (sp := w_of_sp) 3000 (bF 1 []) [.tup [.one (.int .i64 (Int.ofNat 0)), .list k8 c9], .agg [.one (.int .i64 r10), .list k11 c12]] [c_n b1_, c_f f30_] [k_l k27_ [] [.tup [.one (.int .i64 (Int.ofNat 0)), .list k8 c9], .agg [.one (.int .i64 r10), .list k11 c12]] [.agg [.one (.int .i64 r10), .list k11 c12]], k_c f32_] (by kernel_rfl)
    have h34_ := (if_neg j25_).symm.trans h24_
    clear h24_
    by_cases j35_ : j = 1
    · have h38_ := (if_pos j35_).symm.trans h34_
      clear h34_
      subst j35_
      obtain ⟨⟨⟩, e36_, h39_⟩ := pullD_elim h38_
      clear h38_
      obtain rfl := tup_inj e36_
      have k37_ := w_of_L5_1_in1 n e23_
      obtain ⟨⟨r13, k14, c15⟩, f40_, h41_⟩ := pullD_elim h39_
      replace f40_ := m_145_ok f40_
      obtain rfl := Option.some.inj h41_
      exact con_pc (op := true) (I := [121]) (sp := w_of_sp) 3000 (bF 1 []) [.tup [.one (.int .i64 (Int.ofNat 1)), .one (.tuple #[])], .agg [.one (.int .i64 r13), .list k14 c15]] [c_n b1_] [k_l k37_ [] [.tup [.one (.int .i64 (Int.ofNat 1)), .one (.tuple #[])], .agg [.one (.int .i64 r13), .list k14 c15]] [.agg [.one (.int .i64 r13), .list k14 c15]], k_c f40_] (by kernel_rfl)
    have h42_ := (if_neg j35_).symm.trans h34_
    clear h34_
    cases h42_
def m_121 (ds : List D) : Option D := pullD (α := Int) (some (.tup ds)) (fun d => ((D.vi (D.at d 0)))) (fun n => .tup [.one (.int .i64 n)]) fun n => w_of_M n
theorem m_121_ok {ds : List D} {r : D} (h : m_121 ds = some r) : Con 121 ds r := by
  unfold m_121 at h
  obtain ⟨n, e0, h0⟩ := pullD_elim h
  obtain rfl := tup_inj e0
  exact w_of_M_ok n h0
theorem m_121_eq (n : Int) : m_121 [.one (.int .i64 n)] = w_of_M n := pullD_some n rfl rfl
def w_cmpDigits_x6_0 : LExit := ⟨some 0, [], (4 :: (5 :: (List.range' 19 22)))⟩
def w_cmpDigits_x6_1 : LExit := ⟨none, [.val 4], (5 :: (List.range' 19 22))⟩
def w_cmpDigits_sp : List LSpec := [⟨157, 6, [w_cmpDigits_x6_0, w_cmpDigits_x6_1]⟩]
def w_cmpDigits_L6_E (ka : Nat) (ca : List D) (kb : Nat) (cb : List D)  : List AV × AHeap := ([.dsl 0, .dsl 1, .pure (.tuple #[]), .pure (.tuple #[]), .pure (.int .i64 (0 : Int)), .pure (.int .i64 (IntKind.i64.wrap ((ka : Int) - (1 : Int)))), .dsl 0, .pure (.int .i64 (ka : Int)), .dsl 1, .pure (.int .i64 (kb : Int)), .pure (.bool ((ka : Int) != (kb : Int))), .pure (.tuple #[]), .pure (.tuple #[]), .pure (.tuple #[]), .pure (.tuple #[]), .pure (.tuple #[]), .dsl 0, .pure (.int .i64 (ka : Int)), .pure (.int .i64 (IntKind.i64.wrap ((ka : Int) - (1 : Int)))), .pure (.tuple #[]), .pure (.tuple #[]), .pure (.tuple #[]), .pure (.tuple #[]), .pure (.tuple #[]), .pure (.tuple #[]), .pure (.tuple #[]), .pure (.tuple #[]), .pure (.tuple #[]), .pure (.tuple #[]), .pure (.tuple #[]), .pure (.tuple #[]), .pure (.tuple #[]), .pure (.tuple #[]), .pure (.tuple #[]), .pure (.tuple #[]), .pure (.tuple #[]), .pure (.tuple #[]), .pure (.tuple #[]), .pure (.tuple #[]), .pure (.tuple #[]), .pure (.tuple #[])], [(1, { cells := [], opn := none, kind := .deep kb cb }), (0, { cells := [], opn := none, kind := .deep ka ca })])
def w_cmpDigits_L6_A : LoopAt := ⟨157, loopAt Try.prog 157 0, 2, 26, 2, noFrame⟩
theorem w_cmpDigits_L6_ok : (w_cmpDigits_L6_A).OK := ⟨by show 2 ≤ 26; decide, by show 2 ≤ 2; decide, by kernel_rfl, rfl⟩
def w_cmpDigits_L6_gs (ka : Nat) (ca : List D) (kb : Nat) (cb : List D)  : Go.Ev.Rd → Option GS
  | .next 0 ds => ghost [.val 5] (4 :: (List.range' 19 22)) (w_cmpDigits_L6_E ka ca kb cb).1 (w_cmpDigits_L6_E ka ca kb cb).2 2 ds
  | .out 0 ds => ghost w_cmpDigits_x6_0.live w_cmpDigits_x6_0.junk (w_cmpDigits_L6_E ka ca kb cb).1 (w_cmpDigits_L6_E ka ca kb cb).2 2 ds
  | .out 1 ds => ghost w_cmpDigits_x6_1.live w_cmpDigits_x6_1.junk (w_cmpDigits_L6_E ka ca kb cb).1 (w_cmpDigits_L6_E ka ca kb cb).2 2 ds
  | _ => none
def w_cmpDigits_L6_ex : Nat → Option Nat
  | 0 => w_cmpDigits_x6_0.ex
  | 1 => w_cmpDigits_x6_1.ex
  | _ => none
def w_cmpDigits_L6_ax : Go.Ev.Rd → AX
  | .next _ _ => .normal
  | .out j _ => axOf (w_cmpDigits_L6_ex j)
def w_cmpDigits_L6_S0 (ka : Nat) (ca : List D) (kb : Nat) (cb : List D)  (ds : List D) : Option Go.Ev.Rd := pullD (α := Int) (some (.tup ds)) (fun d => ((D.vi (D.at d 0)))) (fun s5 => .tup [.one (.int .i64 s5)]) fun s5 => ((if s5 ≥ (0 : Int) then guardP ((0 : Int) ≤ s5 ∧ s5.toNat < ka) (pullD (α := Int) (readD ca (s5.toNat * 1) 1 false) (fun d => ((D.vi d))) (fun v0 => .one (.int .i64 v0)) fun v0 => (guardP ((0 : Int) ≤ s5 ∧ s5.toNat < kb) (pullD (α := Int) (readD cb (s5.toNat * 1) 1 false) (fun d => ((D.vi d))) (fun v1 => .one (.int .i64 v1)) fun v1 => ((if v0 < v1 then some (.out 1 [.one (.int .i64 (-1 : Int))]) else pullD (α := Int) (readD ca (s5.toNat * 1) 1 false) (fun d => ((D.vi d))) (fun v2 => .one (.int .i64 v2)) fun v2 => (pullD (α := Int) (readD cb (s5.toNat * 1) 1 false) (fun d => ((D.vi d))) (fun v3 => .one (.int .i64 v3)) fun v3 => ((if v2 > v3 then some (.out 1 [.one (.int .i64 (1 : Int))]) else some (.next 0 [.one (.int .i64 (IntKind.i64.wrap (s5 - (1 : Int))))]))))))))) else some (.out 0 [])))
def w_cmpDigits_L6_S (ka : Nat) (ca : List D) (kb : Nat) (cb : List D)  : Go.Ev.Rd → Option Go.Ev.Rd
  | .next 0 ds => w_cmpDigits_L6_S0 ka ca kb cb ds
  | _ => none
theorem w_cmpDigits_L6_S_ok (ka : Nat) (ca : List D) (kb : Nat) (cb : List D)  : ∀ s_ t_, w_cmpDigits_L6_S ka ca kb cb s_ = some t_ → Step (ctx [157] w_cmpDigits_sp) Tabs w_cmpDigits_L6_A (stateOf (w_cmpDigits_L6_gs ka ca kb cb s_)) (stateOf (w_cmpDigits_L6_gs ka ca kb cb t_)) (w_cmpDigits_L6_ax t_) ∧ EndOK w_cmpDigits_L6_A.nx w_cmpDigits_L6_A.low (w_cmpDigits_L6_gs ka ca kb cb) t_
  | .next 0 ds, t_, h => by
    have h_ : w_cmpDigits_L6_S0 ka ca kb cb ds = some t_ := h
    clear h
    unfold w_cmpDigits_L6_S0 at h_
    obtain ⟨s5, e0, h0⟩ := pullD_elim h_
    clear h_
    obtain rfl := tup_inj e0
    by_cases b1_ : s5 ≥ (0 : Int)
    · have h2_ := (if_pos b1_).symm.trans h0
      obtain ⟨f3_, h4_⟩ := guardP_elim h2_
      obtain ⟨v0, f5_, h6_⟩ := pullD_elim h4_
      replace f5_ := readD_elim f5_
      obtain ⟨f7_, h8_⟩ := guardP_elim h6_
      obtain ⟨v1, f9_, h10_⟩ := pullD_elim h8_
      replace f9_ := readD_elim f9_
      by_cases b11_ : v0 < v1
      · have h12_ := (if_pos b11_).symm.trans h10_
        obtain rfl := Option.some.inj h12_
        exact ⟨step_pc 3000 (bT 2 []) [.one (.int .i64 v0), .one (.int .i64 v1)] [c_d b1_, c_f f3_, c_f f5_, c_f f7_, c_f f9_, c_d b11_] [] _ rfl (by kernel_rfl) (by kernel_rfl) (by kernel_rfl) (by kernel_rfl) (by kernel_rfl) (by kernel_rfl), by kernel_rfl, by kernel_rfl⟩
      · have h12_ := (if_neg b11_).symm.trans h10_
        obtain ⟨v2, f13_, h14_⟩ := pullD_elim h12_
        replace f13_ := readD_elim f13_
        obtain ⟨v3, f15_, h16_⟩ := pullD_elim h14_
        replace f15_ := readD_elim f15_
        by_cases b17_ : v2 > v3
        · have h18_ := (if_pos b17_).symm.trans h16_
          obtain rfl := Option.some.inj h18_
          exact ⟨step_pc 3000 (bT 1 (bF 1 (bT 1 []))) [.one (.int .i64 v0), .one (.int .i64 v1), .one (.int .i64 v2), .one (.int .i64 v3)] [c_d b1_, c_f f3_, c_f f5_, c_f f7_, c_f f9_, c_n b11_, c_f f3_, c_f f13_, c_f f7_, c_f f15_, c_d b17_] [] _ rfl (by kernel_rfl) (by kernel_rfl) (by kernel_rfl) (by kernel_rfl) (by kernel_rfl) (by kernel_rfl), by kernel_rfl, by kernel_rfl⟩
        · have h18_ := (if_neg b17_).symm.trans h16_
          obtain rfl := Option.some.inj h18_
          exact ⟨step_pc 3000 (bT 1 (bF 2 [])) [.one (.int .i64 v0), .one (.int .i64 v1), .one (.int .i64 v2), .one (.int .i64 v3)] [c_d b1_, c_f f3_, c_f f5_, c_f f7_, c_f f9_, c_n b11_, c_f f3_, c_f f13_, c_f f7_, c_f f15_, c_n b17_] [] _ rfl (by kernel_rfl) (by kernel_rfl) (by kernel_rfl) (by kernel_rfl) (by kernel_rfl) (by kernel_rfl), trivial⟩
    · have h2_ := (if_neg b1_).symm.trans h0
      obtain rfl := Option.some.inj h2_
      exact ⟨step_pc 3000 (bF 1 []) [] [c_n b1_] [] _ rfl (by kernel_rfl) (by kernel_rfl) (by kernel_rfl) (by kernel_rfl) (by kernel_rfl) (by kernel_rfl), by kernel_rfl, by kernel_rfl⟩
  | .next (_ + 1) _, _, h => by cases h
  | .out _ _, _, h => by cases h
theorem w_cmpDigits_L6_go (ka : Nat) (ca : List D) (kb : Nat) (cb : List D)  {q : Nat} {ds : List D} {j : Nat} {es : List D} (h : runR (w_cmpDigits_L6_S ka ca kb cb) (.next q ds) = some (.out j es)) : Runs (ctx [157] w_cmpDigits_sp) Tabs w_cmpDigits_L6_A (stateOf (w_cmpDigits_L6_gs ka ca kb cb (.next q ds))) (stateOf (w_cmpDigits_L6_gs ka ca kb cb (.out j es))) (w_cmpDigits_L6_ax (.out j es)) ∧ (nxtOf (w_cmpDigits_L6_gs ka ca kb cb (.out j es)), lowGS (w_cmpDigits_L6_gs ka ca kb cb (.out j es))) = (w_cmpDigits_L6_A.nx, w_cmpDigits_L6_A.low) :=
  runs_of' (good true _ _) w_cmpDigits_L6_ok (ax := w_cmpDigits_L6_ax) (fun _ _ => rfl) (fun _ _ => axOf_end _) (w_cmpDigits_L6_S_ok ka ca kb cb) h
theorem w_cmpDigits_L6_in0 (ka : Nat) (ca : List D) (kb : Nat) (cb : List D)  {es : List D} (h : runR (w_cmpDigits_L6_S ka ca kb cb) (.next 0 [.one (.int .i64 ((IntKind.i64.wrap ((ka : Int) - (1 : Int)))))]) = some (.out 0 es)) : LoopC (loopAt Try.prog 157 0) (w_cmpDigits_L6_E ka ca kb cb) 2 noFrame w_cmpDigits_x6_0 es :=
  have r := w_cmpDigits_L6_go ka ca kb cb h
  loopin_as rfl (loop_in (l := w_cmpDigits_L6_A) (E := (w_cmpDigits_L6_E ka ca kb cb)) (S := stateOf (w_cmpDigits_L6_gs ka ca kb cb (.next 0 [.one (.int .i64 ((IntKind.i64.wrap ((ka : Int) - (1 : Int)))))]))) (ns := nsOf (w_cmpDigits_L6_gs ka ca kb cb (.next 0 [.one (.int .i64 ((IntKind.i64.wrap ((ka : Int) - (1 : Int)))))]))) w_cmpDigits_L6_ok r.1 r.2 (by kernel_rfl) (by kernel_rfl) (by kernel_rfl) (by kernel_rfl))
theorem w_cmpDigits_L6_in1 (ka : Nat) (ca : List D) (kb : Nat) (cb : List D)  {es : List D} (h : runR (w_cmpDigits_L6_S ka ca kb cb) (.next 0 [.one (.int .i64 ((IntKind.i64.wrap ((ka : Int) - (1 : Int)))))]) = some (.out 1 es)) : LoopC (loopAt Try.prog 157 0) (w_cmpDigits_L6_E ka ca kb cb) 2 noFrame w_cmpDigits_x6_1 es :=
  have r := w_cmpDigits_L6_go ka ca kb cb h
  loopin_as rfl (loop_in (l := w_cmpDigits_L6_A) (E := (w_cmpDigits_L6_E ka ca kb cb)) (S := stateOf (w_cmpDigits_L6_gs ka ca kb cb (.next 0 [.one (.int .i64 ((IntKind.i64.wrap ((ka : Int) - (1 : Int)))))]))) (ns := nsOf (w_cmpDigits_L6_gs ka ca kb cb (.next 0 [.one (.int .i64 ((IntKind.i64.wrap ((ka : Int) - (1 : Int)))))]))) w_cmpDigits_L6_ok r.1 r.2 (by kernel_rfl) (by kernel_rfl) (by kernel_rfl) (by kernel_rfl))
def w_cmpDigits_M (ka : Nat) (ca : List D) (kb : Nat) (cb : List D) : Option D := (if (ka : Int) ≠ (kb : Int) then (if (ka : Int) < (kb : Int) then some (.one (.int .i64 (-1 : Int))) else some (.one (.int .i64 (1 : Int)))) else bindL (runR (w_cmpDigits_L6_S ka ca kb cb) (.next 0 [.one (.int .i64 ((IntKind.i64.wrap ((ka : Int) - (1 : Int)))))])) fun j ds => (if j = 0 then pullD (some (.tup ds)) (fun _ => ()) (fun _ => .tup []) fun _ => (some (.one (.int .i64 (0 : Int)))) else if j = 1 then pullD (α := Int) (some (.tup ds)) (fun d => ((D.vi (D.at d 0)))) (fun l0 => .tup [.one (.int .i64 l0)]) fun l0 => (some (.one (.int .i64 l0))) else none))
theorem w_cmpDigits_M_ok (ka : Nat) (ca : List D) (kb : Nat) (cb : List D) {r : D} (h : w_cmpDigits_M ka ca kb cb = some r) : Con 157 [.list ka ca, .list kb cb] r := by
  unfold w_cmpDigits_M at h
  by_cases b1_ : (ka : Int) ≠ (kb : Int)
  · have h2_ := (if_pos b1_).symm.trans h
    by_cases b3_ : (ka : Int) < (kb : Int)
    · have h4_ := (if_pos b3_).symm.trans h2_
      obtain rfl := Option.some.inj h4_
      exact con_pc (op := true) (I := [157]) (sp := w_cmpDigits_sp) 3000 (bT 2 []) [] [c_b b1_, c_d b3_] [] (by kernel_rfl)
    · have h4_ := (if_neg b3_).symm.trans h2_
      obtain rfl := Option.some.inj h4_
      exact con_pc (op := true) (I := [157]) (sp := w_cmpDigits_sp) 3000 (bT 1 (bF 1 [])) [] [c_b b1_, c_n b3_] [] (by kernel_rfl)
  · have h2_ := (if_neg b1_).symm.trans h
    have b5_ : (ka : Int) = (kb : Int) := by first | exact b1_ | simpa using b1_
    obtain ⟨j, ds, e6_, h7_⟩ := bindL_elim h2_
    by_cases j8_ : j = 0
    · have h11_ := (if_pos j8_).symm.trans h7_
      clear h7_
      subst j8_
      obtain ⟨⟨⟩, e9_, h12_⟩ := pullD_elim h11_
      clear h11_
      obtain rfl := tup_inj e9_
      have k10_ := w_cmpDigits_L6_in0 ka ca kb cb e6_
      obtain rfl := Option.some.inj h12_
      exact con_pc (op := true) (I := [157]) (sp := w_cmpDigits_sp) 3000 (bF 1 []) [.tup [.one (.int .i64 (Int.ofNat 0))]] [c_bn b5_] [k_l k10_ [] [.tup [.one (.int .i64 (Int.ofNat 0))]] []] (by kernel_rfl)
    have h13_ := (if_neg j8_).symm.trans h7_
    clear h7_
    by_cases j14_ : j = 1
    · have h17_ := (if_pos j14_).symm.trans h13_
      clear h13_
      subst j14_
      obtain ⟨l0, e15_, h18_⟩ := pullD_elim h17_
      clear h17_
      obtain rfl := tup_inj e15_
      have k16_ := w_cmpDigits_L6_in1 ka ca kb cb e6_
      obtain rfl := Option.some.inj h18_
      exact con_pc (op := true) (I := [157]) (sp := w_cmpDigits_sp) 3000 (bF 1 []) [.tup [.one (.int .i64 (Int.ofNat 1)), .one (.int .i64 l0)]] [c_bn b5_] [k_l k16_ [] [.tup [.one (.int .i64 (Int.ofNat 1)), .one (.int .i64 l0)]] []] (by kernel_rfl)
    have h19_ := (if_neg j14_).symm.trans h13_
    clear h13_
    cases h19_
def m_157 (ds : List D) : Option D := pullD (α := Nat × (List D) × Nat × (List D)) (some (.tup ds)) (fun d => ((D.ln (D.at d 0)), (D.lc (D.at d 0)), (D.ln (D.at d 1)), (D.lc (D.at d 1)))) (fun (ka, ca, kb, cb) => .tup [.list ka ca, .list kb cb]) fun (ka, ca, kb, cb) => w_cmpDigits_M ka ca kb cb
theorem m_157_ok {ds : List D} {r : D} (h : m_157 ds = some r) : Con 157 ds r := by
  unfold m_157 at h
  obtain ⟨⟨ka, ca, kb, cb⟩, e0, h0⟩ := pullD_elim h
  obtain rfl := tup_inj e0
  exact w_cmpDigits_M_ok ka ca kb cb h0
theorem m_157_eq (ka : Nat) (ca : List D) (kb : Nat) (cb : List D) : m_157 [.list ka ca, .list kb cb] = w_cmpDigits_M ka ca kb cb := pullD_some (ka, ca, kb, cb) rfl rfl
def w_digit_sp : List LSpec := []
def w_digit_M (ka : Nat) (ca : List D) (i : Int) : Option D := (if i < (ka : Int) then guardP ((0 : Int) ≤ i ∧ i.toNat < ka) (pullD (α := Int) (readD ca (i.toNat * 1) 1 false) (fun d => ((D.vi d))) (fun v0 => .one (.int .i64 v0)) fun v0 => (some (.one (.int .i64 v0)))) else some (.one (.int .i64 (0 : Int))))
theorem w_digit_M_ok (ka : Nat) (ca : List D) (i : Int) {r : D} (h : w_digit_M ka ca i = some r) : Con 160 [.list ka ca, .one (.int .i64 i)] r := by
  unfold w_digit_M at h
  by_cases b1_ : i < (ka : Int)
  · have h2_ := (if_pos b1_).symm.trans h
    obtain ⟨f3_, h4_⟩ := guardP_elim h2_
    obtain ⟨v0, f5_, h6_⟩ := pullD_elim h4_
    replace f5_ := readD_elim f5_
    obtain rfl := Option.some.inj h6_
    exact con_pc (op := true) (I := [160]) (sp := w_digit_sp) 3000 (bT 1 []) [.one (.int .i64 v0)] [c_d b1_, c_f f3_, c_f f5_] [] (by kernel_rfl)
  · have h2_ := (if_neg b1_).symm.trans h
    obtain rfl := Option.some.inj h2_
    exact con_pc (op := true) (I := [160]) (sp := w_digit_sp) 3000 (bF 1 []) [] [c_n b1_] [] (by kernel_rfl)
def m_160 (ds : List D) : Option D := pullD (α := Nat × (List D) × Int) (some (.tup ds)) (fun d => ((D.ln (D.at d 0)), (D.lc (D.at d 0)), (D.vi (D.at d 1)))) (fun (ka, ca, i) => .tup [.list ka ca, .one (.int .i64 i)]) fun (ka, ca, i) => w_digit_M ka ca i
theorem m_160_ok {ds : List D} {r : D} (h : m_160 ds = some r) : Con 160 ds r := by
  unfold m_160 at h
  obtain ⟨⟨ka, ca, i⟩, e0, h0⟩ := pullD_elim h
  obtain rfl := tup_inj e0
  exact w_digit_M_ok ka ca i h0
theorem m_160_eq (ka : Nat) (ca : List D) (i : Int) : m_160 [.list ka ca, .one (.int .i64 i)] = w_digit_M ka ca i := pullD_some (ka, ca, i) rfl rfl
def w_addDigits_x4_0 : LExit := ⟨some 0, [.grow 5 1], (List.range' 6 35)⟩
def w_addDigits_x4_1 : LExit := ⟨some 0, [.nil 5], (List.range' 6 35)⟩
def w_addDigits_sp : List LSpec := [⟨161, 4, [w_addDigits_x4_0, w_addDigits_x4_1]⟩]
def w_addDigits_L4_E (ka : Nat) (ca : List D) (kb : Nat) (cb : List D)  : List AV × AHeap := ([.dsl 0, .dsl 1, .pure (.tuple #[]), .pure (.tuple #[]), .pure (.slice none 0 0), .pure (.slice none 0 0), .pure (.int .i64 (0 : Int)), .pure (.int .i64 (0 : Int)), .pure (.tuple #[]), .pure (.tuple #[]), .pure (.tuple #[]), .pure (.tuple #[]), .pure (.tuple #[]), .pure (.tuple #[]), .pure (.tuple #[]), .pure (.tuple #[]), .pure (.tuple #[]), .pure (.tuple #[]), .pure (.tuple #[]), .pure (.tuple #[]), .pure (.tuple #[]), .pure (.tuple #[]), .pure (.tuple #[]), .pure (.tuple #[]), .pure (.tuple #[]), .pure (.tuple #[]), .pure (.tuple #[]), .pure (.tuple #[]), .pure (.tuple #[]), .pure (.tuple #[]), .pure (.tuple #[]), .pure (.tuple #[]), .pure (.tuple #[]), .pure (.tuple #[]), .pure (.tuple #[]), .pure (.tuple #[]), .pure (.tuple #[]), .pure (.tuple #[]), .pure (.tuple #[]), .pure (.tuple #[]), .pure (.tuple #[]), .pure (.tuple #[])], [(1, { cells := [], opn := none, kind := .deep kb cb }), (0, { cells := [], opn := none, kind := .deep ka ca })])
def w_addDigits_L4_A : LoopAt := ⟨161, loopAt Try.prog 161 0, 2, 38, 2, noFrame⟩
theorem w_addDigits_L4_ok : (w_addDigits_L4_A).OK := ⟨by show 2 ≤ 38; decide, by show 2 ≤ 2; decide, by kernel_rfl, rfl⟩
def w_addDigits_L4_gs (ka : Nat) (ca : List D) (kb : Nat) (cb : List D)  : Go.Ev.Rd → Option GS
  | .next 0 ds => ghost [.grow 5 1, .val 6, .val 7] (List.range' 8 33) (w_addDigits_L4_E ka ca kb cb).1 (w_addDigits_L4_E ka ca kb cb).2 2 ds
  | .next 1 ds => ghost [.nil 5, .val 6, .val 7] (List.range' 8 33) (w_addDigits_L4_E ka ca kb cb).1 (w_addDigits_L4_E ka ca kb cb).2 2 ds
  | .out 0 ds => ghost w_addDigits_x4_0.live w_addDigits_x4_0.junk (w_addDigits_L4_E ka ca kb cb).1 (w_addDigits_L4_E ka ca kb cb).2 2 ds
  | .out 1 ds => ghost w_addDigits_x4_1.live w_addDigits_x4_1.junk (w_addDigits_L4_E ka ca kb cb).1 (w_addDigits_L4_E ka ca kb cb).2 2 ds
  | _ => none
def w_addDigits_L4_ex : Nat → Option Nat
  | 0 => w_addDigits_x4_0.ex
  | 1 => w_addDigits_x4_1.ex
  | _ => none
def w_addDigits_L4_ax : Go.Ev.Rd → AX
  | .next _ _ => .normal
  | .out j _ => axOf (w_addDigits_L4_ex j)
def w_addDigits_L4_S0 (ka : Nat) (ca : List D) (kb : Nat) (cb : List D)  (ds : List D) : Option Go.Ev.Rd := pullD (α := Nat × (List D) × Int × Int) (some (.tup ds)) (fun d => ((D.ln (D.at d 0)), (D.lc (D.at d 0)), (D.vi (D.at d 1)), (D.vi (D.at d 2)))) (fun (s5n, s5c, s6, s7) => .tup [.list s5n s5c, .one (.int .i64 s6), .one (.int .i64 s7)]) fun (s5n, s5c, s6, s7) => ((if s7 < (ka : Int) then pullD (α := Int) (m_160 [.list ka ca, .one (.int .i64 s7)]) (fun d => ((D.vi d))) (fun r0 => .one (.int .i64 r0)) fun r0 => (pullD (α := Int) (m_160 [.list kb cb, .one (.int .i64 s7)]) (fun d => ((D.vi d))) (fun r1 => .one (.int .i64 r1)) fun r1 => (guardP ((∀ (u : D), u ∈ [dCell (.int .i64 ((IntKind.i64.wrap (IntKind.i64.wrap (r0 + r1) + s6)).tmod (1000000000 : Int)))] → cellD u) ∧ s5n * 1 ≤ s5c.length ∧ (s5n + (0 + 1)) * 8 ≤ 140737488355328 ∧ s5n + (0 + 1) ≤ 4611686018427387904) (some (.next 0 [.list (s5n + (0 + 1)) (List.append (List.take (s5n * 1) s5c) [dCell (.int .i64 ((IntKind.i64.wrap (IntKind.i64.wrap (r0 + r1) + s6)).tmod (1000000000 : Int)))]), .one (.int .i64 (IntKind.i64.wrap ((IntKind.i64.wrap (IntKind.i64.wrap (r0 + r1) + s6)).tdiv (1000000000 : Int)))), .one (.int .i64 (IntKind.i64.wrap (s7 + (1 : Int))))])))) else (if s7 < (kb : Int) then pullD (α := Int) (m_160 [.list ka ca, .one (.int .i64 s7)]) (fun d => ((D.vi d))) (fun r2 => .one (.int .i64 r2)) fun r2 => (pullD (α := Int) (m_160 [.list kb cb, .one (.int .i64 s7)]) (fun d => ((D.vi d))) (fun r3 => .one (.int .i64 r3)) fun r3 => (guardP ((∀ (u : D), u ∈ [dCell (.int .i64 ((IntKind.i64.wrap (IntKind.i64.wrap (r2 + r3) + s6)).tmod (1000000000 : Int)))] → cellD u) ∧ s5n * 1 ≤ s5c.length ∧ (s5n + (0 + 1)) * 8 ≤ 140737488355328 ∧ s5n + (0 + 1) ≤ 4611686018427387904) (some (.next 0 [.list (s5n + (0 + 1)) (List.append (List.take (s5n * 1) s5c) [dCell (.int .i64 ((IntKind.i64.wrap (IntKind.i64.wrap (r2 + r3) + s6)).tmod (1000000000 : Int)))]), .one (.int .i64 (IntKind.i64.wrap ((IntKind.i64.wrap (IntKind.i64.wrap (r2 + r3) + s6)).tdiv (1000000000 : Int)))), .one (.int .i64 (IntKind.i64.wrap (s7 + (1 : Int))))])))) else (if s6 > (0 : Int) then pullD (α := Int) (m_160 [.list ka ca, .one (.int .i64 s7)]) (fun d => ((D.vi d))) (fun r4 => .one (.int .i64 r4)) fun r4 => (pullD (α := Int) (m_160 [.list kb cb, .one (.int .i64 s7)]) (fun d => ((D.vi d))) (fun r5 => .one (.int .i64 r5)) fun r5 => (guardP ((∀ (u : D), u ∈ [dCell (.int .i64 ((IntKind.i64.wrap (IntKind.i64.wrap (r4 + r5) + s6)).tmod (1000000000 : Int)))] → cellD u) ∧ s5n * 1 ≤ s5c.length ∧ (s5n + (0 + 1)) * 8 ≤ 140737488355328 ∧ s5n + (0 + 1) ≤ 4611686018427387904) (some (.next 0 [.list (s5n + (0 + 1)) (List.append (List.take (s5n * 1) s5c) [dCell (.int .i64 ((IntKind.i64.wrap (IntKind.i64.wrap (r4 + r5) + s6)).tmod (1000000000 : Int)))]), .one (.int .i64 (IntKind.i64.wrap ((IntKind.i64.wrap (IntKind.i64.wrap (r4 + r5) + s6)).tdiv (1000000000 : Int)))), .one (.int .i64 (IntKind.i64.wrap (s7 + (1 : Int))))])))) else some (.out 0 [.list s5n s5c])))))
def w_addDigits_L4_S1 (ka : Nat) (ca : List D) (kb : Nat) (cb : List D)  (ds : List D) : Option Go.Ev.Rd := pullD (α := Int × Int) (some (.tup ds)) (fun d => ((D.vi (D.at d 1)), (D.vi (D.at d 2)))) (fun (s6, s7) => .tup [.one (.tuple #[]), .one (.int .i64 s6), .one (.int .i64 s7)]) fun (s6, s7) => ((if s7 < (ka : Int) then pullD (α := Int) (m_160 [.list ka ca, .one (.int .i64 s7)]) (fun d => ((D.vi d))) (fun r0 => .one (.int .i64 r0)) fun r0 => (pullD (α := Int) (m_160 [.list kb cb, .one (.int .i64 s7)]) (fun d => ((D.vi d))) (fun r1 => .one (.int .i64 r1)) fun r1 => (some (.next 0 [.list 1 [.one (.int .i64 ((IntKind.i64.wrap (IntKind.i64.wrap (r0 + r1) + s6)).tmod (1000000000 : Int)))], .one (.int .i64 (IntKind.i64.wrap ((IntKind.i64.wrap (IntKind.i64.wrap (r0 + r1) + s6)).tdiv (1000000000 : Int)))), .one (.int .i64 (IntKind.i64.wrap (s7 + (1 : Int))))]))) else (if s7 < (kb : Int) then pullD (α := Int) (m_160 [.list ka ca, .one (.int .i64 s7)]) (fun d => ((D.vi d))) (fun r2 => .one (.int .i64 r2)) fun r2 => (pullD (α := Int) (m_160 [.list kb cb, .one (.int .i64 s7)]) (fun d => ((D.vi d))) (fun r3 => .one (.int .i64 r3)) fun r3 => (some (.next 0 [.list 1 [.one (.int .i64 ((IntKind.i64.wrap (IntKind.i64.wrap (r2 + r3) + s6)).tmod (1000000000 : Int)))], .one (.int .i64 (IntKind.i64.wrap ((IntKind.i64.wrap (IntKind.i64.wrap (r2 + r3) + s6)).tdiv (1000000000 : Int)))), .one (.int .i64 (IntKind.i64.wrap (s7 + (1 : Int))))]))) else (if s6 > (0 : Int) then pullD (α := Int) (m_160 [.list ka ca, .one (.int .i64 s7)]) (fun d => ((D.vi d))) (fun r4 => .one (.int .i64 r4)) fun r4 => (pullD (α := Int) (m_160 [.list kb cb, .one (.int .i64 s7)]) (fun d => ((D.vi d))) (fun r5 => .one (.int .i64 r5)) fun r5 => (some (.next 0 [.list 1 [.one (.int .i64 ((IntKind.i64.wrap (IntKind.i64.wrap (r4 + r5) + s6)).tmod (1000000000 : Int)))], .one (.int .i64 (IntKind.i64.wrap ((IntKind.i64.wrap (IntKind.i64.wrap (r4 + r5) + s6)).tdiv (1000000000 : Int)))), .one (.int .i64 (IntKind.i64.wrap (s7 + (1 : Int))))]))) else some (.out 1 [.one (.tuple #[])])))))
def w_addDigits_L4_S (ka : Nat) (ca : List D) (kb : Nat) (cb : List D)  : Go.Ev.Rd → Option Go.Ev.Rd
  | .next 0 ds => w_addDigits_L4_S0 ka ca kb cb ds
  | .next 1 ds => w_addDigits_L4_S1 ka ca kb cb ds
  | _ => none
theorem w_addDigits_L4_S_ok (ka : Nat) (ca : List D) (kb : Nat) (cb : List D)  : ∀ s_ t_, w_addDigits_L4_S ka ca kb cb s_ = some t_ → Step (ctx [161] w_addDigits_sp) Tabs w_addDigits_L4_A (stateOf (w_addDigits_L4_gs ka ca kb cb s_)) (stateOf (w_addDigits_L4_gs ka ca kb cb t_)) (w_addDigits_L4_ax t_) ∧ EndOK w_addDigits_L4_A.nx w_addDigits_L4_A.low (w_addDigits_L4_gs ka ca kb cb) t_
  | .next 0 ds, t_, h => by
    have h_ : w_addDigits_L4_S0 ka ca kb cb ds = some t_ := h
    clear h
    unfold w_addDigits_L4_S0 at h_
    obtain ⟨⟨s5n, s5c, s6, s7⟩, e0, h0⟩ := pullD_elim h_
    clear h_
    obtain rfl := tup_inj e0
    by_cases b1_ : s7 < (ka : Int)
    · have h2_ := (if_pos b1_).symm.trans h0
      obtain ⟨r0, f3_, h4_⟩ := pullD_elim h2_
      replace f3_ := m_160_ok f3_
      obtain ⟨r1, f5_, h6_⟩ := pullD_elim h4_
      replace f5_ := m_160_ok f5_
      obtain ⟨f7_, h8_⟩ := guardP_elim h6_
      obtain rfl := Option.some.inj h8_
      exact ⟨step_pc 3000 (bT 9 []) [.one (.int .i64 r0), .one (.int .i64 r1)] [c_d b1_, c_d b1_, c_d b1_, c_d b1_, c_d b1_, c_T, c_T, c_T, c_T, c_F, c_f f7_, c_F] [k_c f3_, k_c f5_] _ rfl (by kernel_rfl) (by kernel_rfl) (by kernel_rfl) (by kernel_rfl) (by kernel_rfl) (by kernel_rfl), trivial⟩
    · have h2_ := (if_neg b1_).symm.trans h0
      by_cases b9_ : s7 < (kb : Int)
      · have h10_ := (if_pos b9_).symm.trans h2_
        obtain ⟨r2, f11_, h12_⟩ := pullD_elim h10_
        replace f11_ := m_160_ok f11_
        obtain ⟨r3, f13_, h14_⟩ := pullD_elim h12_
        replace f13_ := m_160_ok f13_
        obtain ⟨f15_, h16_⟩ := guardP_elim h14_
        obtain rfl := Option.some.inj h16_
        exact ⟨step_pc 3000 (bF 5 (bT 4 [])) [.one (.int .i64 r2), .one (.int .i64 r3)] [c_n b1_, c_n b1_, c_n b1_, c_n b1_, c_n b1_, c_d b9_, c_d b9_, c_d b9_, c_T, c_F, c_f f15_, c_F] [k_c f11_, k_c f13_] _ rfl (by kernel_rfl) (by kernel_rfl) (by kernel_rfl) (by kernel_rfl) (by kernel_rfl) (by kernel_rfl), trivial⟩
      · have h10_ := (if_neg b9_).symm.trans h2_
        by_cases b17_ : s6 > (0 : Int)
        · have h18_ := (if_pos b17_).symm.trans h10_
          obtain ⟨r4, f19_, h20_⟩ := pullD_elim h18_
          replace f19_ := m_160_ok f19_
          obtain ⟨r5, f21_, h22_⟩ := pullD_elim h20_
          replace f21_ := m_160_ok f21_
          obtain ⟨f23_, h24_⟩ := guardP_elim h22_
          obtain rfl := Option.some.inj h24_
          exact ⟨step_pc 3000 (bF 8 (bT 1 [])) [.one (.int .i64 r4), .one (.int .i64 r5)] [c_n b1_, c_n b1_, c_n b1_, c_n b1_, c_n b1_, c_n b9_, c_n b9_, c_n b9_, c_d b17_, c_F, c_f f23_, c_F] [k_c f19_, k_c f21_] _ rfl (by kernel_rfl) (by kernel_rfl) (by kernel_rfl) (by kernel_rfl) (by kernel_rfl) (by kernel_rfl), trivial⟩
        · have h18_ := (if_neg b17_).symm.trans h10_
          obtain rfl := Option.some.inj h18_
          exact ⟨step_pc 3000 (bF 9 []) [] [c_n b1_, c_n b1_, c_n b1_, c_n b1_, c_n b1_, c_n b9_, c_n b9_, c_n b9_, c_n b17_] [] _ rfl (by kernel_rfl) (by kernel_rfl) (by kernel_rfl) (by kernel_rfl) (by kernel_rfl) (by kernel_rfl), by kernel_rfl, by kernel_rfl⟩
  | .next 1 ds, t_, h => by
    have h_ : w_addDigits_L4_S1 ka ca kb cb ds = some t_ := h
    clear h
    unfold w_addDigits_L4_S1 at h_
    obtain ⟨⟨s6, s7⟩, e0, h0⟩ := pullD_elim h_
    clear h_
    obtain rfl := tup_inj e0
    by_cases b1_ : s7 < (ka : Int)
    · have h2_ := (if_pos b1_).symm.trans h0
      obtain ⟨r0, f3_, h4_⟩ := pullD_elim h2_
      replace f3_ := m_160_ok f3_
      obtain ⟨r1, f5_, h6_⟩ := pullD_elim h4_
      replace f5_ := m_160_ok f5_
      obtain rfl := Option.some.inj h6_
      exact ⟨step_pc 3000 (bT 9 []) [.one (.int .i64 r0), .one (.int .i64 r1)] [c_d b1_, c_d b1_, c_d b1_, c_d b1_, c_d b1_, c_T, c_T, c_T, c_T, c_F, ⟨fact (0 < 0 + 1 ∧ (0 + 1) * 8 ≤ 140737488355328 ∧ 0 + 1 ≤ 4611686018427387904), true, fact_mk (by decide)⟩, c_F] [k_c f3_, k_c f5_] _ rfl (by kernel_rfl) (by kernel_rfl) (by kernel_rfl) (by kernel_rfl) (by kernel_rfl) (by kernel_rfl), trivial⟩
    · have h2_ := (if_neg b1_).symm.trans h0
      by_cases b7_ : s7 < (kb : Int)
      · have h8_ := (if_pos b7_).symm.trans h2_
        obtain ⟨r2, f9_, h10_⟩ := pullD_elim h8_
        replace f9_ := m_160_ok f9_
        obtain ⟨r3, f11_, h12_⟩ := pullD_elim h10_
        replace f11_ := m_160_ok f11_
        obtain rfl := Option.some.inj h12_
        exact ⟨step_pc 3000 (bF 5 (bT 4 [])) [.one (.int .i64 r2), .one (.int .i64 r3)] [c_n b1_, c_n b1_, c_n b1_, c_n b1_, c_n b1_, c_d b7_, c_d b7_, c_d b7_, c_T, c_F, ⟨fact (0 < 0 + 1 ∧ (0 + 1) * 8 ≤ 140737488355328 ∧ 0 + 1 ≤ 4611686018427387904), true, fact_mk (by decide)⟩, c_F] [k_c f9_, k_c f11_] _ rfl (by kernel_rfl) (by kernel_rfl) (by kernel_rfl) (by kernel_rfl) (by kernel_rfl) (by kernel_rfl), trivial⟩
      · have h8_ := (if_neg b7_).symm.trans h2_
        by_cases b13_ : s6 > (0 : Int)
        · have h14_ := (if_pos b13_).symm.trans h8_
          obtain ⟨r4, f15_, h16_⟩ := pullD_elim h14_
          replace f15_ := m_160_ok f15_
          obtain ⟨r5, f17_, h18_⟩ := pullD_elim h16_
          replace f17_ := m_160_ok f17_
          obtain rfl := Option.some.inj h18_
          exact ⟨step_pc 3000 (bF 8 (bT 1 [])) [.one (.int .i64 r4), .one (.int .i64 r5)] [c_n b1_, c_n b1_, c_n b1_, c_n b1_, c_n b1_, c_n b7_, c_n b7_, c_n b7_, c_d b13_, c_F, ⟨fact (0 < 0 + 1 ∧ (0 + 1) * 8 ≤ 140737488355328 ∧ 0 + 1 ≤ 4611686018427387904), true, fact_mk (by decide)⟩, c_F] [k_c f15_, k_c f17_] _ rfl (by kernel_rfl) (by kernel_rfl) (by kernel_rfl) (by kernel_rfl) (by kernel_rfl) (by kernel_rfl), trivial⟩
        · have h14_ := (if_neg b13_).symm.trans h8_
          obtain rfl := Option.some.inj h14_
          exact ⟨step_pc 3000 (bF 9 []) [] [c_n b1_, c_n b1_, c_n b1_, c_n b1_, c_n b1_, c_n b7_, c_n b7_, c_n b7_, c_n b13_] [] _ rfl (by kernel_rfl) (by kernel_rfl) (by kernel_rfl) (by kernel_rfl) (by kernel_rfl) (by kernel_rfl), by kernel_rfl, by kernel_rfl⟩
  | .next (_ + 2) _, _, h => by cases h
  | .out _ _, _, h => by cases h
theorem w_addDigits_L4_go (ka : Nat) (ca : List D) (kb : Nat) (cb : List D)  {q : Nat} {ds : List D} {j : Nat} {es : List D} (h : runR (w_addDigits_L4_S ka ca kb cb) (.next q ds) = some (.out j es)) : Runs (ctx [161] w_addDigits_sp) Tabs w_addDigits_L4_A (stateOf (w_addDigits_L4_gs ka ca kb cb (.next q ds))) (stateOf (w_addDigits_L4_gs ka ca kb cb (.out j es))) (w_addDigits_L4_ax (.out j es)) ∧ (nxtOf (w_addDigits_L4_gs ka ca kb cb (.out j es)), lowGS (w_addDigits_L4_gs ka ca kb cb (.out j es))) = (w_addDigits_L4_A.nx, w_addDigits_L4_A.low) :=
  runs_of' (good true _ _) w_addDigits_L4_ok (ax := w_addDigits_L4_ax) (fun _ _ => rfl) (fun _ _ => axOf_end _) (w_addDigits_L4_S_ok ka ca kb cb) h
theorem w_addDigits_L4_in0 (ka : Nat) (ca : List D) (kb : Nat) (cb : List D)  {es : List D} (h : runR (w_addDigits_L4_S ka ca kb cb) (.next 1 [.one (.tuple #[]), .one (.int .i64 ((0 : Int))), .one (.int .i64 ((0 : Int)))]) = some (.out 0 es)) : LoopC (loopAt Try.prog 161 0) (w_addDigits_L4_E ka ca kb cb) 2 noFrame w_addDigits_x4_0 es :=
  have r := w_addDigits_L4_go ka ca kb cb h
  loopin_as rfl (loop_in (l := w_addDigits_L4_A) (E := (w_addDigits_L4_E ka ca kb cb)) (S := stateOf (w_addDigits_L4_gs ka ca kb cb (.next 1 [.one (.tuple #[]), .one (.int .i64 ((0 : Int))), .one (.int .i64 ((0 : Int)))]))) (ns := nsOf (w_addDigits_L4_gs ka ca kb cb (.next 1 [.one (.tuple #[]), .one (.int .i64 ((0 : Int))), .one (.int .i64 ((0 : Int)))]))) w_addDigits_L4_ok r.1 r.2 (by kernel_rfl) (by kernel_rfl) (by kernel_rfl) (by kernel_rfl))
theorem w_addDigits_L4_in1 (ka : Nat) (ca : List D) (kb : Nat) (cb : List D)  {es : List D} (h : runR (w_addDigits_L4_S ka ca kb cb) (.next 1 [.one (.tuple #[]), .one (.int .i64 ((0 : Int))), .one (.int .i64 ((0 : Int)))]) = some (.out 1 es)) : LoopC (loopAt Try.prog 161 0) (w_addDigits_L4_E ka ca kb cb) 2 noFrame w_addDigits_x4_1 es :=
  have r := w_addDigits_L4_go ka ca kb cb h
  loopin_as rfl (loop_in (l := w_addDigits_L4_A) (E := (w_addDigits_L4_E ka ca kb cb)) (S := stateOf (w_addDigits_L4_gs ka ca kb cb (.next 1 [.one (.tuple #[]), .one (.int .i64 ((0 : Int))), .one (.int .i64 ((0 : Int)))]))) (ns := nsOf (w_addDigits_L4_gs ka ca kb cb (.next 1 [.one (.tuple #[]), .one (.int .i64 ((0 : Int))), .one (.int .i64 ((0 : Int)))]))) w_addDigits_L4_ok r.1 r.2 (by kernel_rfl) (by kernel_rfl) (by kernel_rfl) (by kernel_rfl))
def w_addDigits_M (ka : Nat) (ca : List D) (kb : Nat) (cb : List D) : Option D := bindL (runR (w_addDigits_L4_S ka ca kb cb) (.next 1 [.one (.tuple #[]), .one (.int .i64 ((0 : Int))), .one (.int .i64 ((0 : Int)))])) fun j ds => (if j = 0 then pullD (α := Nat × (List D)) (some (.tup ds)) (fun d => ((D.ln (D.at d 0)), (D.lc (D.at d 0)))) (fun (k0, c1) => .tup [.list k0 c1]) fun (k0, c1) => (guardP ((0 + k0) * 1 ≤ c1.length ∧ 0 < 1) (some (.list k0 c1))) else if j = 1 then pullD (some (.tup ds)) (fun _ => ()) (fun _ => .tup [.one (.tuple #[])]) fun _ => (some (.list 0 [])) else none)
theorem w_addDigits_M_ok (ka : Nat) (ca : List D) (kb : Nat) (cb : List D) {r : D} (h : w_addDigits_M ka ca kb cb = some r) : Con 161 [.list ka ca, .list kb cb] r := by
  unfold w_addDigits_M at h
  obtain ⟨j, ds, e1_, h2_⟩ := bindL_elim h
  by_cases j3_ : j = 0
  · have h6_ := (if_pos j3_).symm.trans h2_
    clear h2_
    subst j3_
    obtain ⟨⟨k0, c1⟩, e4_, h7_⟩ := pullD_elim h6_
    clear h6_
    obtain rfl := tup_inj e4_
    have k5_ := w_addDigits_L4_in0 ka ca kb cb e1_
    obtain ⟨f8_, h9_⟩ := guardP_elim h7_
    obtain rfl := Option.some.inj h9_
    exact con_pc (op := true) (I := [161]) (sp := w_addDigits_sp) 3000 [] [.tup [.one (.int .i64 (Int.ofNat 0)), .list k0 c1]] [c_f f8_] [k_l k5_ [] [.tup [.one (.int .i64 (Int.ofNat 0)), .list k0 c1]] []] (by kernel_rfl)
  have h10_ := (if_neg j3_).symm.trans h2_
  clear h2_
  by_cases j11_ : j = 1
  · have h14_ := (if_pos j11_).symm.trans h10_
    clear h10_
    subst j11_
    obtain ⟨⟨⟩, e12_, h15_⟩ := pullD_elim h14_
    clear h14_
    obtain rfl := tup_inj e12_
    have k13_ := w_addDigits_L4_in1 ka ca kb cb e1_
    obtain rfl := Option.some.inj h15_
    exact con_pc (op := true) (I := [161]) (sp := w_addDigits_sp) 3000 [] [.tup [.one (.int .i64 (Int.ofNat 1)), .one (.tuple #[])]] [] [k_l k13_ [] [.tup [.one (.int .i64 (Int.ofNat 1)), .one (.tuple #[])]] []] (by kernel_rfl)
  have h16_ := (if_neg j11_).symm.trans h10_
  clear h10_
  cases h16_
def m_161 (ds : List D) : Option D := pullD (α := Nat × (List D) × Nat × (List D)) (some (.tup ds)) (fun d => ((D.ln (D.at d 0)), (D.lc (D.at d 0)), (D.ln (D.at d 1)), (D.lc (D.at d 1)))) (fun (ka, ca, kb, cb) => .tup [.list ka ca, .list kb cb]) fun (ka, ca, kb, cb) => w_addDigits_M ka ca kb cb
theorem m_161_ok {ds : List D} {r : D} (h : m_161 ds = some r) : Con 161 ds r := by
  unfold m_161 at h
  obtain ⟨⟨ka, ca, kb, cb⟩, e0, h0⟩ := pullD_elim h
  obtain rfl := tup_inj e0
  exact w_addDigits_M_ok ka ca kb cb h0
theorem m_161_eq (ka : Nat) (ca : List D) (kb : Nat) (cb : List D) : m_161 [.list ka ca, .list kb cb] = w_addDigits_M ka ca kb cb := pullD_some (ka, ca, kb, cb) rfl rfl
def w_subDigits_x4_0 : LExit := ⟨some 0, [.grow 5 1], (List.range' 6 27)⟩
def w_subDigits_x4_1 : LExit := ⟨some 0, [.nil 5], (List.range' 6 27)⟩
def w_subDigits_sp : List LSpec := [⟨158, 4, [w_subDigits_x4_0, w_subDigits_x4_1]⟩]
def w_subDigits_L4_E (ka : Nat) (ca : List D) (kb : Nat) (cb : List D)  : List AV × AHeap := ([.dsl 0, .dsl 1, .pure (.tuple #[]), .pure (.tuple #[]), .pure (.slice none 0 0), .pure (.slice none 0 0), .pure (.int .i64 (0 : Int)), .pure (.int .i64 (0 : Int)), .pure (.tuple #[]), .pure (.tuple #[]), .pure (.tuple #[]), .pure (.tuple #[]), .pure (.tuple #[]), .pure (.tuple #[]), .pure (.tuple #[]), .pure (.tuple #[]), .pure (.tuple #[]), .pure (.tuple #[]), .pure (.tuple #[]), .pure (.tuple #[]), .pure (.tuple #[]), .pure (.tuple #[]), .pure (.tuple #[]), .pure (.tuple #[]), .pure (.tuple #[]), .pure (.tuple #[]), .pure (.tuple #[]), .pure (.tuple #[]), .pure (.tuple #[]), .pure (.tuple #[]), .pure (.tuple #[]), .pure (.tuple #[]), .pure (.tuple #[]), .pure (.tuple #[]), .pure (.tuple #[])], [(1, { cells := [], opn := none, kind := .deep kb cb }), (0, { cells := [], opn := none, kind := .deep ka ca })])
def w_subDigits_L4_A : LoopAt := ⟨158, loopAt Try.prog 158 0, 2, 30, 2, noFrame⟩
theorem w_subDigits_L4_ok : (w_subDigits_L4_A).OK := ⟨by show 2 ≤ 30; decide, by show 2 ≤ 2; decide, by kernel_rfl, rfl⟩
def w_subDigits_L4_gs (ka : Nat) (ca : List D) (kb : Nat) (cb : List D)  : Go.Ev.Rd → Option GS
  | .next 0 ds => ghost [.grow 5 1, .val 6, .val 7] (List.range' 8 25) (w_subDigits_L4_E ka ca kb cb).1 (w_subDigits_L4_E ka ca kb cb).2 2 ds
  | .next 1 ds => ghost [.nil 5, .val 6, .val 7] (List.range' 8 25) (w_subDigits_L4_E ka ca kb cb).1 (w_subDigits_L4_E ka ca kb cb).2 2 ds
  | .out 0 ds => ghost w_subDigits_x4_0.live w_subDigits_x4_0.junk (w_subDigits_L4_E ka ca kb cb).1 (w_subDigits_L4_E ka ca kb cb).2 2 ds
  | .out 1 ds => ghost w_subDigits_x4_1.live w_subDigits_x4_1.junk (w_subDigits_L4_E ka ca kb cb).1 (w_subDigits_L4_E ka ca kb cb).2 2 ds
  | _ => none
def w_subDigits_L4_ex : Nat → Option Nat
  | 0 => w_subDigits_x4_0.ex
  | 1 => w_subDigits_x4_1.ex
  | _ => none
def w_subDigits_L4_ax : Go.Ev.Rd → AX
  | .next _ _ => .normal
  | .out j _ => axOf (w_subDigits_L4_ex j)
def w_subDigits_L4_S0 (ka : Nat) (ca : List D) (kb : Nat) (cb : List D)  (ds : List D) : Option Go.Ev.Rd := pullD (α := Nat × (List D) × Int × Int) (some (.tup ds)) (fun d => ((D.ln (D.at d 0)), (D.lc (D.at d 0)), (D.vi (D.at d 1)), (D.vi (D.at d 2)))) (fun (s5n, s5c, s6, s7) => .tup [.list s5n s5c, .one (.int .i64 s6), .one (.int .i64 s7)]) fun (s5n, s5c, s6, s7) => ((if s7 < (ka : Int) then guardP ((0 : Int) ≤ s7 ∧ s7.toNat < ka) (pullD (α := Int) (readD ca (s7.toNat * 1) 1 false) (fun d => ((D.vi d))) (fun v0 => .one (.int .i64 v0)) fun v0 => (pullD (α := Int) (m_160 [.list kb cb, .one (.int .i64 s7)]) (fun d => ((D.vi d))) (fun r1 => .one (.int .i64 r1)) fun r1 => ((if IntKind.i64.wrap (IntKind.i64.wrap (v0 - r1) - s6) < (0 : Int) then guardP ((∀ (u : D), u ∈ [dCell (.int .i64 (IntKind.i64.wrap (IntKind.i64.wrap (IntKind.i64.wrap (v0 - r1) - s6) + (1000000000 : Int))))] → cellD u) ∧ s5n * 1 ≤ s5c.length ∧ (s5n + (0 + 1)) * 8 ≤ 140737488355328 ∧ s5n + (0 + 1) ≤ 4611686018427387904) (some (.next 0 [.list (s5n + (0 + 1)) (List.append (List.take (s5n * 1) s5c) [dCell (.int .i64 (IntKind.i64.wrap (IntKind.i64.wrap (IntKind.i64.wrap (v0 - r1) - s6) + (1000000000 : Int))))]), .one (.int .i64 (1 : Int)), .one (.int .i64 (IntKind.i64.wrap (s7 + (1 : Int))))])) else guardP ((∀ (u : D), u ∈ [dCell (.int .i64 (IntKind.i64.wrap (IntKind.i64.wrap (v0 - r1) - s6)))] → cellD u) ∧ s5n * 1 ≤ s5c.length ∧ (s5n + (0 + 1)) * 8 ≤ 140737488355328 ∧ s5n + (0 + 1) ≤ 4611686018427387904) (some (.next 0 [.list (s5n + (0 + 1)) (List.append (List.take (s5n * 1) s5c) [dCell (.int .i64 (IntKind.i64.wrap (IntKind.i64.wrap (v0 - r1) - s6)))]), .one (.int .i64 (0 : Int)), .one (.int .i64 (IntKind.i64.wrap (s7 + (1 : Int))))])))))) else some (.out 0 [.list s5n s5c])))
def w_subDigits_L4_S1 (ka : Nat) (ca : List D) (kb : Nat) (cb : List D)  (ds : List D) : Option Go.Ev.Rd := pullD (α := Int × Int) (some (.tup ds)) (fun d => ((D.vi (D.at d 1)), (D.vi (D.at d 2)))) (fun (s6, s7) => .tup [.one (.tuple #[]), .one (.int .i64 s6), .one (.int .i64 s7)]) fun (s6, s7) => ((if s7 < (ka : Int) then guardP ((0 : Int) ≤ s7 ∧ s7.toNat < ka) (pullD (α := Int) (readD ca (s7.toNat * 1) 1 false) (fun d => ((D.vi d))) (fun v0 => .one (.int .i64 v0)) fun v0 => (pullD (α := Int) (m_160 [.list kb cb, .one (.int .i64 s7)]) (fun d => ((D.vi d))) (fun r1 => .one (.int .i64 r1)) fun r1 => ((if IntKind.i64.wrap (IntKind.i64.wrap (v0 - r1) - s6) < (0 : Int) then some (.next 0 [.list 1 [.one (.int .i64 (IntKind.i64.wrap (IntKind.i64.wrap (IntKind.i64.wrap (v0 - r1) - s6) + (1000000000 : Int))))], .one (.int .i64 (1 : Int)), .one (.int .i64 (IntKind.i64.wrap (s7 + (1 : Int))))]) else some (.next 0 [.list 1 [.one (.int .i64 (IntKind.i64.wrap (IntKind.i64.wrap (v0 - r1) - s6)))], .one (.int .i64 (0 : Int)), .one (.int .i64 (IntKind.i64.wrap (s7 + (1 : Int))))]))))) else some (.out 1 [.one (.tuple #[])])))
def w_subDigits_L4_S (ka : Nat) (ca : List D) (kb : Nat) (cb : List D)  : Go.Ev.Rd → Option Go.Ev.Rd
  | .next 0 ds => w_subDigits_L4_S0 ka ca kb cb ds
  | .next 1 ds => w_subDigits_L4_S1 ka ca kb cb ds
  | _ => none
theorem w_subDigits_L4_S_ok (ka : Nat) (ca : List D) (kb : Nat) (cb : List D)  : ∀ s_ t_, w_subDigits_L4_S ka ca kb cb s_ = some t_ → Step (ctx [158] w_subDigits_sp) Tabs w_subDigits_L4_A (stateOf (w_subDigits_L4_gs ka ca kb cb s_)) (stateOf (w_subDigits_L4_gs ka ca kb cb t_)) (w_subDigits_L4_ax t_) ∧ EndOK w_subDigits_L4_A.nx w_subDigits_L4_A.low (w_subDigits_L4_gs ka ca kb cb) t_
  | .next 0 ds, t_, h => by
    have h_ : w_subDigits_L4_S0 ka ca kb cb ds = some t_ := h
    clear h
    unfold w_subDigits_L4_S0 at h_
    obtain ⟨⟨s5n, s5c, s6, s7⟩, e0, h0⟩ := pullD_elim h_
    clear h_
    obtain rfl := tup_inj e0
    by_cases b1_ : s7 < (ka : Int)
    · have h2_ := (if_pos b1_).symm.trans h0
      obtain ⟨f3_, h4_⟩ := guardP_elim h2_
      obtain ⟨v0, f5_, h6_⟩ := pullD_elim h4_
      replace f5_ := readD_elim f5_
      obtain ⟨r1, f7_, h8_⟩ := pullD_elim h6_
      replace f7_ := m_160_ok f7_
      by_cases b9_ : IntKind.i64.wrap (IntKind.i64.wrap (v0 - r1) - s6) < (0 : Int)
      · have h10_ := (if_pos b9_).symm.trans h8_
        obtain ⟨f11_, h12_⟩ := guardP_elim h10_
        obtain rfl := Option.some.inj h12_
        exact ⟨step_pc 3000 (bT 2 []) [.one (.int .i64 v0), .one (.int .i64 r1)] [c_d b1_, c_f f3_, c_f f5_, c_d b9_, c_f f11_] [k_c f7_] _ rfl (by kernel_rfl) (by kernel_rfl) (by kernel_rfl) (by kernel_rfl) (by kernel_rfl) (by kernel_rfl), trivial⟩
      · have h10_ := (if_neg b9_).symm.trans h8_
        obtain ⟨f13_, h14_⟩ := guardP_elim h10_
        obtain rfl := Option.some.inj h14_
        exact ⟨step_pc 3000 (bT 1 (bF 1 [])) [.one (.int .i64 v0), .one (.int .i64 r1)] [c_d b1_, c_f f3_, c_f f5_, c_n b9_, c_f f13_] [k_c f7_] _ rfl (by kernel_rfl) (by kernel_rfl) (by kernel_rfl) (by kernel_rfl) (by kernel_rfl) (by kernel_rfl), trivial⟩
    · have h2_ := (if_neg b1_).symm.trans h0
      obtain rfl := Option.some.inj h2_
      exact ⟨step_pc 3000 (bF 1 []) [] [c_n b1_] [] _ rfl (by kernel_rfl) (by kernel_rfl) (by kernel_rfl) (by kernel_rfl) (by kernel_rfl) (by kernel_rfl), by kernel_rfl, by kernel_rfl⟩
  | .next 1 ds, t_, h => by
    have h_ : w_subDigits_L4_S1 ka ca kb cb ds = some t_ := h
    clear h
    unfold w_subDigits_L4_S1 at h_
    obtain ⟨⟨s6, s7⟩, e0, h0⟩ := pullD_elim h_
    clear h_
    obtain rfl := tup_inj e0
    by_cases b1_ : s7 < (ka : Int)
    · have h2_ := (if_pos b1_).symm.trans h0
      obtain ⟨f3_, h4_⟩ := guardP_elim h2_
      obtain ⟨v0, f5_, h6_⟩ := pullD_elim h4_
      replace f5_ := readD_elim f5_
      obtain ⟨r1, f7_, h8_⟩ := pullD_elim h6_
      replace f7_ := m_160_ok f7_
      by_cases b9_ : IntKind.i64.wrap (IntKind.i64.wrap (v0 - r1) - s6) < (0 : Int)
      · have h10_ := (if_pos b9_).symm.trans h8_
        obtain rfl := Option.some.inj h10_
        exact ⟨step_pc 3000 (bT 2 []) [.one (.int .i64 v0), .one (.int .i64 r1)] [c_d b1_, c_f f3_, c_f f5_, c_d b9_, ⟨fact (0 < 0 + 1 ∧ (0 + 1) * 8 ≤ 140737488355328 ∧ 0 + 1 ≤ 4611686018427387904), true, fact_mk (by decide)⟩] [k_c f7_] _ rfl (by kernel_rfl) (by kernel_rfl) (by kernel_rfl) (by kernel_rfl) (by kernel_rfl) (by kernel_rfl), trivial⟩
      · have h10_ := (if_neg b9_).symm.trans h8_
        obtain rfl := Option.some.inj h10_
        exact ⟨step_pc 3000 (bT 1 (bF 1 [])) [.one (.int .i64 v0), .one (.int .i64 r1)] [c_d b1_, c_f f3_, c_f f5_, c_n b9_, ⟨fact (0 < 0 + 1 ∧ (0 + 1) * 8 ≤ 140737488355328 ∧ 0 + 1 ≤ 4611686018427387904), true, fact_mk (by decide)⟩] [k_c f7_] _ rfl (by kernel_rfl) (by kernel_rfl) (by kernel_rfl) (by kernel_rfl) (by kernel_rfl) (by kernel_rfl), trivial⟩
    · have h2_ := (if_neg b1_).symm.trans h0
      obtain rfl := Option.some.inj h2_
      exact ⟨step_pc 3000 (bF 1 []) [] [c_n b1_] [] _ rfl (by kernel_rfl) (by kernel_rfl) (by kernel_rfl) (by kernel_rfl) (by kernel_rfl) (by kernel_rfl), by kernel_rfl, by kernel_rfl⟩
  | .next (_ + 2) _, _, h => by cases h
  | .out _ _, _, h => by cases h
theorem w_subDigits_L4_go (ka : Nat) (ca : List D) (kb : Nat) (cb : List D)  {q : Nat} {ds : List D} {j : Nat} {es : List D} (h : runR (w_subDigits_L4_S ka ca kb cb) (.next q ds) = some (.out j es)) : Runs (ctx [158] w_subDigits_sp) Tabs w_subDigits_L4_A (stateOf (w_subDigits_L4_gs ka ca kb cb (.next q ds))) (stateOf (w_subDigits_L4_gs ka ca kb cb (.out j es))) (w_subDigits_L4_ax (.out j es)) ∧ (nxtOf (w_subDigits_L4_gs ka ca kb cb (.out j es)), lowGS (w_subDigits_L4_gs ka ca kb cb (.out j es))) = (w_subDigits_L4_A.nx, w_subDigits_L4_A.low) :=
  runs_of' (good true _ _) w_subDigits_L4_ok (ax := w_subDigits_L4_ax) (fun _ _ => rfl) (fun _ _ => axOf_end _) (w_subDigits_L4_S_ok ka ca kb cb) h
theorem w_subDigits_L4_in0 (ka : Nat) (ca : List D) (kb : Nat) (cb : List D)  {es : List D} (h : runR (w_subDigits_L4_S ka ca kb cb) (.next 1 [.one (.tuple #[]), .one (.int .i64 ((0 : Int))), .one (.int .i64 ((0 : Int)))]) = some (.out 0 es)) : LoopC (loopAt Try.prog 158 0) (w_subDigits_L4_E ka ca kb cb) 2 noFrame w_subDigits_x4_0 es :=
  have r := w_subDigits_L4_go ka ca kb cb h
  loopin_as rfl (loop_in (l := w_subDigits_L4_A) (E := (w_subDigits_L4_E ka ca kb cb)) (S := stateOf (w_subDigits_L4_gs ka ca kb cb (.next 1 [.one (.tuple #[]), .one (.int .i64 ((0 : Int))), .one (.int .i64 ((0 : Int)))]))) (ns := nsOf (w_subDigits_L4_gs ka ca kb cb (.next 1 [.one (.tuple #[]), .one (.int .i64 ((0 : Int))), .one (.int .i64 ((0 : Int)))]))) w_subDigits_L4_ok r.1 r.2 (by kernel_rfl) (by kernel_rfl) (by kernel_rfl) (by kernel_rfl))
theorem w_subDigits_L4_in1 (ka : Nat) (ca : List D) (kb : Nat) (cb : List D)  {es : List D} (h : runR (w_subDigits_L4_S ka ca kb cb) (.next 1 [.one (.tuple #[]), .one (.int .i64 ((0 : Int))), .one (.int .i64 ((0 : Int)))]) = some (.out 1 es)) : LoopC (loopAt Try.prog 158 0) (w_subDigits_L4_E ka ca kb cb) 2 noFrame w_subDigits_x4_1 es :=
  have r := w_subDigits_L4_go ka ca kb cb h
  loopin_as rfl (loop_in (l := w_subDigits_L4_A) (E := (w_subDigits_L4_E ka ca kb cb)) (S := stateOf (w_subDigits_L4_gs ka ca kb cb (.next 1 [.one (.tuple #[]), .one (.int .i64 ((0 : Int))), .one (.int .i64 ((0 : Int)))]))) (ns := nsOf (w_subDigits_L4_gs ka ca kb cb (.next 1 [.one (.tuple #[]), .one (.int .i64 ((0 : Int))), .one (.int .i64 ((0 : Int)))]))) w_subDigits_L4_ok r.1 r.2 (by kernel_rfl) (by kernel_rfl) (by kernel_rfl) (by kernel_rfl))
def w_subDigits_M (ka : Nat) (ca : List D) (kb : Nat) (cb : List D) : Option D := bindL (runR (w_subDigits_L4_S ka ca kb cb) (.next 1 [.one (.tuple #[]), .one (.int .i64 ((0 : Int))), .one (.int .i64 ((0 : Int)))])) fun j ds => (if j = 0 then pullD (α := Nat × (List D)) (some (.tup ds)) (fun d => ((D.ln (D.at d 0)), (D.lc (D.at d 0)))) (fun (k0, c1) => .tup [.list k0 c1]) fun (k0, c1) => (guardP ((0 + k0) * 1 ≤ c1.length ∧ 0 < 1) (pullD (α := Nat × (List D)) (m_155 [.list k0 c1]) (fun d => ((D.ln d), (D.lc d))) (fun (k2, c3) => .list k2 c3) fun (k2, c3) => (some (.list k2 c3)))) else if j = 1 then pullD (some (.tup ds)) (fun _ => ()) (fun _ => .tup [.one (.tuple #[])]) fun _ => (pullD (α := Nat × (List D)) (m_155 [.list 0 []]) (fun d => ((D.ln d), (D.lc d))) (fun (k4, c5) => .list k4 c5) fun (k4, c5) => (some (.list k4 c5))) else none)
theorem w_subDigits_M_ok (ka : Nat) (ca : List D) (kb : Nat) (cb : List D) {r : D} (h : w_subDigits_M ka ca kb cb = some r) : Con 158 [.list ka ca, .list kb cb] r := by
  unfold w_subDigits_M at h
  obtain ⟨j, ds, e1_, h2_⟩ := bindL_elim h
  by_cases j3_ : j = 0
  · have h6_ := (if_pos j3_).symm.trans h2_
    clear h2_
    subst j3_
    obtain ⟨⟨k0, c1⟩, e4_, h7_⟩ := pullD_elim h6_
    clear h6_
    obtain rfl := tup_inj e4_
    have k5_ := w_subDigits_L4_in0 ka ca kb cb e1_
    obtain ⟨f8_, h9_⟩ := guardP_elim h7_
    obtain ⟨⟨k2, c3⟩, f10_, h11_⟩ := pullD_elim h9_
    replace f10_ := m_155_ok f10_
    obtain rfl := Option.some.inj h11_
    exact con_pc (op := true) (I := [158]) (sp := w_subDigits_sp) 3000 [] [.tup [.one (.int .i64 (Int.ofNat 0)), .list k0 c1], .list k2 c3] [c_f f8_] [k_l k5_ [] [.tup [.one (.int .i64 (Int.ofNat 0)), .list k0 c1], .list k2 c3] [.list k2 c3], k_c f10_] (by kernel_rfl)
  have h12_ := (if_neg j3_).symm.trans h2_
  clear h2_
  by_cases j13_ : j = 1
  · have h16_ := (if_pos j13_).symm.trans h12_
    clear h12_
    subst j13_
    obtain ⟨⟨⟩, e14_, h17_⟩ := pullD_elim h16_
    clear h16_
    obtain rfl := tup_inj e14_
    have k15_ := w_subDigits_L4_in1 ka ca kb cb e1_
    obtain ⟨⟨k4, c5⟩, f18_, h19_⟩ := pullD_elim h17_
    replace f18_ := m_155_ok f18_
    obtain rfl := Option.some.inj h19_
    exact con_pc (op := true) (I := [158]) (sp := w_subDigits_sp) 3000 [] [.tup [.one (.int .i64 (Int.ofNat 1)), .one (.tuple #[])], .list k4 c5] [] [k_l k15_ [] [.tup [.one (.int .i64 (Int.ofNat 1)), .one (.tuple #[])], .list k4 c5] [.list k4 c5], k_c f18_] (by kernel_rfl)
  have h20_ := (if_neg j13_).symm.trans h12_
  clear h12_
  cases h20_
def m_158 (ds : List D) : Option D := pullD (α := Nat × (List D) × Nat × (List D)) (some (.tup ds)) (fun d => ((D.ln (D.at d 0)), (D.lc (D.at d 0)), (D.ln (D.at d 1)), (D.lc (D.at d 1)))) (fun (ka, ca, kb, cb) => .tup [.list ka ca, .list kb cb]) fun (ka, ca, kb, cb) => w_subDigits_M ka ca kb cb
theorem m_158_ok {ds : List D} {r : D} (h : m_158 ds = some r) : Con 158 ds r := by
  unfold m_158 at h
  obtain ⟨⟨ka, ca, kb, cb⟩, e0, h0⟩ := pullD_elim h
  obtain rfl := tup_inj e0
  exact w_subDigits_M_ok ka ca kb cb h0
theorem m_158_eq (ka : Nat) (ca : List D) (kb : Nat) (cb : List D) : m_158 [.list ka ca, .list kb cb] = w_subDigits_M ka ca kb cb := pullD_some (ka, ca, kb, cb) rfl rfl
def w_neg_sp : List LSpec := []
def w_neg_M (sa : Int) (ka : Nat) (ca : List D) : Option D := some (.agg [.one (.int .i64 (IntKind.i64.wrap ((0 : Int) - sa))), .list ka ca])
theorem w_neg_M_ok (sa : Int) (ka : Nat) (ca : List D) {r : D} (h : w_neg_M sa ka ca = some r) : Con 147 [.agg [.one (.int .i64 sa), .list ka ca]] r := by
  unfold w_neg_M at h
  obtain rfl := Option.some.inj h
  exact con_pc (op := true) (I := [147]) (sp := w_neg_sp) 3000 [] [] [] [] (by kernel_rfl)
def m_147 (ds : List D) : Option D := pullD (α := Int × Nat × (List D)) (some (.tup ds)) (fun d => ((D.vi (D.at (D.at d 0) 0)), (D.ln (D.at (D.at d 0) 1)), (D.lc (D.at (D.at d 0) 1)))) (fun (sa, ka, ca) => .tup [.agg [.one (.int .i64 sa), .list ka ca]]) fun (sa, ka, ca) => w_neg_M sa ka ca
theorem m_147_ok {ds : List D} {r : D} (h : m_147 ds = some r) : Con 147 ds r := by
  unfold m_147 at h
  obtain ⟨⟨sa, ka, ca⟩, e0, h0⟩ := pullD_elim h
  obtain rfl := tup_inj e0
  exact w_neg_M_ok sa ka ca h0
theorem m_147_eq (sa : Int) (ka : Nat) (ca : List D) : m_147 [.agg [.one (.int .i64 sa), .list ka ca]] = w_neg_M sa ka ca := pullD_some (sa, ka, ca) rfl rfl
def w_add_sp : List LSpec := []
def w_add_M (sa : Int) (ka : Nat) (ca : List D) (sb : Int) (kb : Nat) (cb : List D) : Option D := (if sa = (0 : Int) then some (.agg [.one (.int .i64 sb), .list kb cb]) else (if sb = (0 : Int) then some (.agg [.one (.int .i64 sa), .list ka ca]) else (if sa = sb then pullD (α := Nat × (List D)) (m_161 [.list ka ca, .list kb cb]) (fun d => ((D.ln d), (D.lc d))) (fun (k0, c1) => .list k0 c1) fun (k0, c1) => (pullD (α := Int × Nat × (List D)) (m_145 [.one (.int .i64 sa), .list k0 c1]) (fun d => ((D.vi (D.at d 0)), (D.ln (D.at d 1)), (D.lc (D.at d 1)))) (fun (r2, k3, c4) => .agg [.one (.int .i64 r2), .list k3 c4]) fun (r2, k3, c4) => (some (.agg [.one (.int .i64 r2), .list k3 c4]))) else pullD (α := Int) (m_157 [.list ka ca, .list kb cb]) (fun d => ((D.vi d))) (fun r5 => .one (.int .i64 r5)) fun r5 => ((if r5 = (0 : Int) then some (.agg [.one (.int .i64 (0 : Int)), .list 0 []]) else (if r5 > (0 : Int) then pullD (α := Nat × (List D)) (m_158 [.list ka ca, .list kb cb]) (fun d => ((D.ln d), (D.lc d))) (fun (k6, c7) => .list k6 c7) fun (k6, c7) => (pullD (α := Int × Nat × (List D)) (m_145 [.one (.int .i64 sa), .list k6 c7]) (fun d => ((D.vi (D.at d 0)), (D.ln (D.at d 1)), (D.lc (D.at d 1)))) (fun (r8, k9, c10) => .agg [.one (.int .i64 r8), .list k9 c10]) fun (r8, k9, c10) => (some (.agg [.one (.int .i64 r8), .list k9 c10]))) else pullD (α := Nat × (List D)) (m_158 [.list kb cb, .list ka ca]) (fun d => ((D.ln d), (D.lc d))) (fun (k11, c12) => .list k11 c12) fun (k11, c12) => (pullD (α := Int × Nat × (List D)) (m_145 [.one (.int .i64 sb), .list k11 c12]) (fun d => ((D.vi (D.at d 0)), (D.ln (D.at d 1)), (D.lc (D.at d 1)))) (fun (r13, k14, c15) => .agg [.one (.int .i64 r13), .list k14 c15]) fun (r13, k14, c15) => (some (.agg [.one (.int .i64 r13), .list k14 c15])))))))))
theorem w_add_M_ok (sa : Int) (ka : Nat) (ca : List D) (sb : Int) (kb : Nat) (cb : List D) {r : D} (h : w_add_M sa ka ca sb kb cb = some r) : Con 159 [.agg [.one (.int .i64 sa), .list ka ca], .agg [.one (.int .i64 sb), .list kb cb]] r := by
  unfold w_add_M at h
  by_cases b1_ : sa = (0 : Int)
  · have h2_ := (if_pos b1_).symm.trans h
    obtain rfl := Option.some.inj h2_
    exact con_pc (op := true) (I := [159]) (sp := w_add_sp) 3000 (bT 1 []) [] [c_e b1_] [] (by kernel_rfl)
  · have h2_ := (if_neg b1_).symm.trans h
    have b3_ : sa ≠ (0 : Int) := by first | exact b1_ | simpa using b1_
    by_cases b4_ : sb = (0 : Int)
    · have h5_ := (if_pos b4_).symm.trans h2_
      obtain rfl := Option.some.inj h5_
      exact con_pc (op := true) (I := [159]) (sp := w_add_sp) 3000 (bF 1 (bT 1 [])) [] [c_en b3_, c_e b4_] [] (by kernel_rfl)
    · have h5_ := (if_neg b4_).symm.trans h2_
      have b6_ : sb ≠ (0 : Int) := by first | exact b4_ | simpa using b4_
      by_cases b7_ : sa = sb
      · have h8_ := (if_pos b7_).symm.trans h5_
        obtain ⟨⟨k0, c1⟩, f9_, h10_⟩ := pullD_elim h8_
        replace f9_ := m_161_ok f9_
        obtain ⟨⟨r2, k3, c4⟩, f11_, h12_⟩ := pullD_elim h10_
        replace f11_ := m_145_ok f11_
        obtain rfl := Option.some.inj h12_
        exact con_pc (op := true) (I := [159]) (sp := w_add_sp) 3000 (bF 2 (bT 1 [])) [.list k0 c1, .agg [.one (.int .i64 r2), .list k3 c4]] [c_en b3_, c_en b6_, c_e b7_] [k_c f9_, k_c f11_] (by kernel_rfl)
      · have h8_ := (if_neg b7_).symm.trans h5_
        have b13_ : sa ≠ sb := by first | exact b7_ | simpa using b7_
        obtain ⟨r5, f14_, h15_⟩ := pullD_elim h8_
        replace f14_ := m_157_ok f14_
        by_cases b16_ : r5 = (0 : Int)
        · have h17_ := (if_pos b16_).symm.trans h15_
          obtain rfl := Option.some.inj h17_
          exact con_pc (op := true) (I := [159]) (sp := w_add_sp) 3000 (bF 3 (bT 1 [])) [.one (.int .i64 r5)] [c_en b3_, c_en b6_, c_en b13_, c_e b16_] [k_c f14_] (by kernel_rfl)
        · have h17_ := (if_neg b16_).symm.trans h15_
          have b18_ : r5 ≠ (0 : Int) := by first | exact b16_ | simpa using b16_
          by_cases b19_ : r5 > (0 : Int)
          · have h20_ := (if_pos b19_).symm.trans h17_
            obtain ⟨⟨k6, c7⟩, f21_, h22_⟩ := pullD_elim h20_
            replace f21_ := m_158_ok f21_
            obtain ⟨⟨r8, k9, c10⟩, f23_, h24_⟩ := pullD_elim h22_
            replace f23_ := m_145_ok f23_
            obtain rfl := Option.some.inj h24_
            exact con_pc (op := true) (I := [159]) (sp := w_add_sp) 3000 (bF 4 (bT 1 [])) [.one (.int .i64 r5), .list k6 c7, .agg [.one (.int .i64 r8), .list k9 c10]] [c_en b3_, c_en b6_, c_en b13_, c_en b18_, c_d b19_] [k_c f14_, k_c f21_, k_c f23_] (by kernel_rfl)
          · have h20_ := (if_neg b19_).symm.trans h17_
            obtain ⟨⟨k11, c12⟩, f25_, h26_⟩ := pullD_elim h20_
            replace f25_ := m_158_ok f25_
            obtain ⟨⟨r13, k14, c15⟩, f27_, h28_⟩ := pullD_elim h26_
            replace f27_ := m_145_ok f27_
            obtain rfl := Option.some.inj h28_
            exact con_pc (op := true) (I := [159]) (sp := w_add_sp) 3000 (bF 5 []) [.one (.int .i64 r5), .list k11 c12, .agg [.one (.int .i64 r13), .list k14 c15]] [c_en b3_, c_en b6_, c_en b13_, c_en b18_, c_n b19_] [k_c f14_, k_c f25_, k_c f27_] (by kernel_rfl)
def m_159 (ds : List D) : Option D := pullD (α := Int × Nat × (List D) × Int × Nat × (List D)) (some (.tup ds)) (fun d => ((D.vi (D.at (D.at d 0) 0)), (D.ln (D.at (D.at d 0) 1)), (D.lc (D.at (D.at d 0) 1)), (D.vi (D.at (D.at d 1) 0)), (D.ln (D.at (D.at d 1) 1)), (D.lc (D.at (D.at d 1) 1)))) (fun (sa, ka, ca, sb, kb, cb) => .tup [.agg [.one (.int .i64 sa), .list ka ca], .agg [.one (.int .i64 sb), .list kb cb]]) fun (sa, ka, ca, sb, kb, cb) => w_add_M sa ka ca sb kb cb
theorem m_159_ok {ds : List D} {r : D} (h : m_159 ds = some r) : Con 159 ds r := by
  unfold m_159 at h
  obtain ⟨⟨sa, ka, ca, sb, kb, cb⟩, e0, h0⟩ := pullD_elim h
  obtain rfl := tup_inj e0
  exact w_add_M_ok sa ka ca sb kb cb h0
theorem m_159_eq (sa : Int) (ka : Nat) (ca : List D) (sb : Int) (kb : Nat) (cb : List D) : m_159 [.agg [.one (.int .i64 sa), .list ka ca], .agg [.one (.int .i64 sb), .list kb cb]] = w_add_M sa ka ca sb kb cb := pullD_some (sa, ka, ca, sb, kb, cb) rfl rfl
def w_sub_sp : List LSpec := []
def w_sub_M (sa : Int) (ka : Nat) (ca : List D) (sb : Int) (kb : Nat) (cb : List D) : Option D := pullD (α := Int × Nat × (List D)) (m_147 [.agg [.one (.int .i64 sb), .list kb cb]]) (fun d => ((D.vi (D.at d 0)), (D.ln (D.at d 1)), (D.lc (D.at d 1)))) (fun (r0, k1, c2) => .agg [.one (.int .i64 r0), .list k1 c2]) fun (r0, k1, c2) => (pullD (α := Int × Nat × (List D)) (m_159 [.agg [.one (.int .i64 sa), .list ka ca], .agg [.one (.int .i64 r0), .list k1 c2]]) (fun d => ((D.vi (D.at d 0)), (D.ln (D.at d 1)), (D.lc (D.at d 1)))) (fun (r3, k4, c5) => .agg [.one (.int .i64 r3), .list k4 c5]) fun (r3, k4, c5) => (some (.agg [.one (.int .i64 r3), .list k4 c5])))
theorem w_sub_M_ok (sa : Int) (ka : Nat) (ca : List D) (sb : Int) (kb : Nat) (cb : List D) {r : D} (h : w_sub_M sa ka ca sb kb cb = some r) : Con 150 [.agg [.one (.int .i64 sa), .list ka ca], .agg [.one (.int .i64 sb), .list kb cb]] r := by
  unfold w_sub_M at h
  obtain ⟨⟨r0, k1, c2⟩, f1_, h2_⟩ := pullD_elim h
  replace f1_ := m_147_ok f1_
  obtain ⟨⟨r3, k4, c5⟩, f3_, h4_⟩ := pullD_elim h2_
  replace f3_ := m_159_ok f3_
  obtain rfl := Option.some.inj h4_
  exact con_pc (op := true) (I := [150]) (sp := w_sub_sp) 3000 [] [.agg [.one (.int .i64 r0), .list k1 c2], .agg [.one (.int .i64 r3), .list k4 c5]] [] [k_c f1_, k_c f3_] (by kernel_rfl)
def m_150 (ds : List D) : Option D := pullD (α := Int × Nat × (List D) × Int × Nat × (List D)) (some (.tup ds)) (fun d => ((D.vi (D.at (D.at d 0) 0)), (D.ln (D.at (D.at d 0) 1)), (D.lc (D.at (D.at d 0) 1)), (D.vi (D.at (D.at d 1) 0)), (D.ln (D.at (D.at d 1) 1)), (D.lc (D.at (D.at d 1) 1)))) (fun (sa, ka, ca, sb, kb, cb) => .tup [.agg [.one (.int .i64 sa), .list ka ca], .agg [.one (.int .i64 sb), .list kb cb]]) fun (sa, ka, ca, sb, kb, cb) => w_sub_M sa ka ca sb kb cb
theorem m_150_ok {ds : List D} {r : D} (h : m_150 ds = some r) : Con 150 ds r := by
  unfold m_150 at h
  obtain ⟨⟨sa, ka, ca, sb, kb, cb⟩, e0, h0⟩ := pullD_elim h
  obtain rfl := tup_inj e0
  exact w_sub_M_ok sa ka ca sb kb cb h0
theorem m_150_eq (sa : Int) (ka : Nat) (ca : List D) (sb : Int) (kb : Nat) (cb : List D) : m_150 [.agg [.one (.int .i64 sa), .list ka ca], .agg [.one (.int .i64 sb), .list kb cb]] = w_sub_M sa ka ca sb kb cb := pullD_some (sa, ka, ca, sb, kb, cb) rfl rfl
def w_mul_x3_0 : LExit := ⟨some 0, [.made 5], (List.range' 6 4 ++ (List.range' 19 60))⟩
def w_mul_x7_0 : LExit := ⟨some 2, [.val 7, .made 5], (8 :: (9 :: (List.range' 26 36)))⟩
def w_mul_sp : List LSpec := [⟨125, 3, [w_mul_x3_0]⟩, ⟨125, 7, [w_mul_x7_0]⟩]
def w_mul_L7_E (sa : Int) (ka : Nat) (ca : List D) (sb : Int) (kb : Nat) (cb : List D) (x0 : Int) (x1 : List D) : List AV × AHeap := ([.agg [.pure (.int .i64 sa), .dsl 0], .agg [.pure (.int .i64 sb), .dsl 1], .ptr 2 0, .ptr 3 0, .ptr 4 0, .bsl 5 0 (IntKind.i64.wrap (IntKind.i64.wrap ((ka : Int) + (kb : Int)) + (1 : Int))).toNat (IntKind.i64.wrap (IntKind.i64.wrap ((ka : Int) + (kb : Int)) + (1 : Int))).toNat, .pure (.int .i64 x0), .pure (.int .i64 (0 : Int)), .pure (.int .i64 (0 : Int)), .any 8, .ptr 2 1, .dsl 0, .pure (.int .i64 (ka : Int)), .ptr 3 1, .dsl 1, .pure (.int .i64 (kb : Int)), .pure (.int .i64 (IntKind.i64.wrap ((ka : Int) + (kb : Int)))), .pure (.int .i64 (IntKind.i64.wrap (IntKind.i64.wrap ((ka : Int) + (kb : Int)) + (1 : Int)))), .bsl 5 0 (IntKind.i64.wrap (IntKind.i64.wrap ((ka : Int) + (kb : Int)) + (1 : Int))).toNat (IntKind.i64.wrap (IntKind.i64.wrap ((ka : Int) + (kb : Int)) + (1 : Int))).toNat, .pure (.int .i64 x0), .ptr 2 1, .dsl 0, .pure (.int .i64 (ka : Int)), .pure (.bool (decide (x0 < (ka : Int)))), .any 14, .any 15, .any 16, .any 17, .any 18, .any 19, .any 20, .any 21, .any 22, .any 23, .any 24, .any 25, .any 26, .any 27, .any 28, .any 29, .any 30, .any 31, .any 32, .any 33, .any 34, .any 35, .any 36, .any 37, .any 38, .any 39, .any 40, .any 41, .any 42, .any 43, .any 44, .any 45, .any 46, .any 47, .any 48, .any 49, .any 50, .any 51, .any 52, .any 53, .any 54, .any 55, .any 56, .any 57, .any 58, .any 59, .any 60, .any 61, .any 62, .any 63, .any 64, .any 65, .any 66, .any 67, .any 68, .pure (.tuple #[]), .pure (.tuple #[]), .pure (.tuple #[]), .pure (.tuple #[]), .pure (.tuple #[]), .pure (.tuple #[]), .pure (.tuple #[])], [(5, { cells := [], opn := none, kind := .big x1 }), (4, { cells := [.pure (.int .i64 (0 : Int)), .pure (.slice none 0 0)], opn := none, kind := .cells }), (3, { cells := [.pure (.int .i64 sb), .dsl 1], opn := none, kind := .cells }), (2, { cells := [.pure (.int .i64 sa), .dsl 0], opn := none, kind := .cells }), (1, { cells := [], opn := none, kind := .deep kb cb }), (0, { cells := [], opn := none, kind := .deep ka ca })])
def w_mul_L7_A : LoopAt := ⟨125, loopAt Try.prog 125 1, 71, 111, 5, noFrame⟩
theorem w_mul_L7_ok : (w_mul_L7_A).OK := ⟨by show 71 ≤ 111; decide, by show 5 ≤ 71; decide, by kernel_rfl, rfl⟩
def w_mul_L7_gs (sa : Int) (ka : Nat) (ca : List D) (sb : Int) (kb : Nat) (cb : List D) (x0 : Int) (x1 : List D) : Go.Ev.Rd → Option GS
  | .next 0 ds => ghost [.val 7, .val 8, .made 5] (9 :: (List.range' 26 36)) (w_mul_L7_E sa ka ca sb kb cb x0 x1).1 (w_mul_L7_E sa ka ca sb kb cb x0 x1).2 71 ds
  | .out 0 ds => ghost w_mul_x7_0.live w_mul_x7_0.junk (w_mul_L7_E sa ka ca sb kb cb x0 x1).1 (w_mul_L7_E sa ka ca sb kb cb x0 x1).2 71 ds
  | _ => none
def w_mul_L7_ex : Nat → Option Nat
  | 0 => w_mul_x7_0.ex
  | _ => none
def w_mul_L7_ax : Go.Ev.Rd → AX
  | .next _ _ => .normal
  | .out j _ => axOf (w_mul_L7_ex j)
def w_mul_L7_S0 (sa : Int) (ka : Nat) (ca : List D) (sb : Int) (kb : Nat) (cb : List D) (x0 : Int) (x1 : List D) (ds : List D) : Option Go.Ev.Rd := pullD (α := Int × Int × Nat × (List D)) (some (.tup ds)) (fun d => ((D.vi (D.at d 0)), (D.vi (D.at d 1)), (D.ln (D.at d 2)), (D.lc (D.at d 2)))) (fun (s7, s8, s5n, s5c) => .tup [.one (.int .i64 s7), .one (.int .i64 s8), .list s5n s5c]) fun (s7, s8, s5n, s5c) => ((if s8 < (kb : Int) then guardP ((0 : Int) ≤ IntKind.i64.wrap (x0 + s8) ∧ (IntKind.i64.wrap (x0 + s8)).toNat < (IntKind.i64.wrap (IntKind.i64.wrap ((ka : Int) + (kb : Int)) + (1 : Int))).toNat) (pullD (α := Int) (readD s5c (0 + (IntKind.i64.wrap (x0 + s8)).toNat * 1) 1 false) (fun d => ((D.vi d))) (fun v0 => .one (.int .i64 v0)) fun v0 => (guardP ((0 : Int) ≤ x0 ∧ x0.toNat < ka) (pullD (α := Int) (readD ca (x0.toNat * 1) 1 false) (fun d => ((D.vi d))) (fun v1 => .one (.int .i64 v1)) fun v1 => (guardP ((0 : Int) ≤ s8 ∧ s8.toNat < kb) (pullD (α := Int) (readD cb (s8.toNat * 1) 1 false) (fun d => ((D.vi d))) (fun v2 => .one (.int .i64 v2)) fun v2 => (guardP (0 + (IntKind.i64.wrap (x0 + s8)).toNat * 1 + 1 ≤ s5c.length ∧ ∀ (u : D), u ∈ [dCell (.int .i64 ((IntKind.i64.wrap (IntKind.i64.wrap (v0 + IntKind.i64.wrap (v1 * v2)) + s7)).tmod (1000000000 : Int)))] → cellD u) (some (.next 0 [.one (.int .i64 (IntKind.i64.wrap ((IntKind.i64.wrap (IntKind.i64.wrap (v0 + IntKind.i64.wrap (v1 * v2)) + s7)).tdiv (1000000000 : Int)))), .one (.int .i64 (IntKind.i64.wrap (s8 + (1 : Int)))), .list (IntKind.i64.wrap (IntKind.i64.wrap ((ka : Int) + (kb : Int)) + (1 : Int))).toNat (List.append (List.take (0 + (IntKind.i64.wrap (x0 + s8)).toNat * 1) s5c ++ [dCell (.int .i64 ((IntKind.i64.wrap (IntKind.i64.wrap (v0 + IntKind.i64.wrap (v1 * v2)) + s7)).tmod (1000000000 : Int)))]) (List.drop (0 + (IntKind.i64.wrap (x0 + s8)).toNat * 1 + [dCell (.int .i64 ((IntKind.i64.wrap (IntKind.i64.wrap (v0 + IntKind.i64.wrap (v1 * v2)) + s7)).tmod (1000000000 : Int)))].length) s5c))])))))))) else some (.out 0 [.one (.int .i64 s7), .list (IntKind.i64.wrap (IntKind.i64.wrap ((ka : Int) + (kb : Int)) + (1 : Int))).toNat s5c])))
def w_mul_L7_S (sa : Int) (ka : Nat) (ca : List D) (sb : Int) (kb : Nat) (cb : List D) (x0 : Int) (x1 : List D) : Go.Ev.Rd → Option Go.Ev.Rd
  | .next 0 ds => w_mul_L7_S0 sa ka ca sb kb cb x0 x1 ds
  | _ => none
theorem w_mul_L7_S_ok (sa : Int) (ka : Nat) (ca : List D) (sb : Int) (kb : Nat) (cb : List D) (x0 : Int) (x1 : List D) : ∀ s_ t_, w_mul_L7_S sa ka ca sb kb cb x0 x1 s_ = some t_ → Step (ctx [125] w_mul_sp) Tabs w_mul_L7_A (stateOf (w_mul_L7_gs sa ka ca sb kb cb x0 x1 s_)) (stateOf (w_mul_L7_gs sa ka ca sb kb cb x0 x1 t_)) (w_mul_L7_ax t_) ∧ EndOK w_mul_L7_A.nx w_mul_L7_A.low (w_mul_L7_gs sa ka ca sb kb cb x0 x1) t_
  | .next 0 ds, t_, h => by
    have h_ : w_mul_L7_S0 sa ka ca sb kb cb x0 x1 ds = some t_ := h
    clear h
    unfold w_mul_L7_S0 at h_
    obtain ⟨⟨s7, s8, s5n, s5c⟩, e0, h0⟩ := pullD_elim h_
    clear h_
    obtain rfl := tup_inj e0
    by_cases b1_ : s8 < (kb : Int)
    · have h2_ := (if_pos b1_).symm.trans h0
      obtain ⟨f3_, h4_⟩ := guardP_elim h2_
      obtain ⟨v0, f5_, h6_⟩ := pullD_elim h4_
      replace f5_ := readD_elim f5_
      obtain ⟨f7_, h8_⟩ := guardP_elim h6_
      obtain ⟨v1, f9_, h10_⟩ := pullD_elim h8_
      replace f9_ := readD_elim f9_
      obtain ⟨f11_, h12_⟩ := guardP_elim h10_
      obtain ⟨v2, f13_, h14_⟩ := pullD_elim h12_
      replace f13_ := readD_elim f13_
      obtain ⟨f15_, h16_⟩ := guardP_elim h14_
      obtain rfl := Option.some.inj h16_
      exact ⟨step_pc 3000 (bT 1 []) [.one (.int .i64 v0), .one (.int .i64 v1), .one (.int .i64 v2)] [c_d b1_, c_f f3_, c_f f5_, c_f f7_, c_f f9_, c_f f11_, c_f f13_, c_F, c_F, c_f f3_, c_f f15_] [] _ rfl (by kernel_rfl) (by kernel_rfl) (by kernel_rfl) (by kernel_rfl) (by kernel_rfl) (by kernel_rfl), trivial⟩
    · have h2_ := (if_neg b1_).symm.trans h0
      obtain rfl := Option.some.inj h2_
      exact ⟨step_pc 3000 (bF 1 []) [] [c_n b1_] [] _ rfl (by kernel_rfl) (by kernel_rfl) (by kernel_rfl) (by kernel_rfl) (by kernel_rfl) (by kernel_rfl), by kernel_rfl, by kernel_rfl⟩
  | .next (_ + 1) _, _, h => by cases h
  | .out _ _, _, h => by cases h
theorem w_mul_L7_go (sa : Int) (ka : Nat) (ca : List D) (sb : Int) (kb : Nat) (cb : List D) (x0 : Int) (x1 : List D) {q : Nat} {ds : List D} {j : Nat} {es : List D} (h : runR (w_mul_L7_S sa ka ca sb kb cb x0 x1) (.next q ds) = some (.out j es)) : Runs (ctx [125] w_mul_sp) Tabs w_mul_L7_A (stateOf (w_mul_L7_gs sa ka ca sb kb cb x0 x1 (.next q ds))) (stateOf (w_mul_L7_gs sa ka ca sb kb cb x0 x1 (.out j es))) (w_mul_L7_ax (.out j es)) ∧ (nxtOf (w_mul_L7_gs sa ka ca sb kb cb x0 x1 (.out j es)), lowGS (w_mul_L7_gs sa ka ca sb kb cb x0 x1 (.out j es))) = (w_mul_L7_A.nx, w_mul_L7_A.low) :=
  runs_of' (good true _ _) w_mul_L7_ok (ax := w_mul_L7_ax) (fun _ _ => rfl) (fun _ _ => axOf_end _) (w_mul_L7_S_ok sa ka ca sb kb cb x0 x1) h
theorem w_mul_L7_in0 (sa : Int) (ka : Nat) (ca : List D) (sb : Int) (kb : Nat) (cb : List D) (x0 : Int) (x1 : List D) {es : List D} (h : runR (w_mul_L7_S sa ka ca sb kb cb x0 x1) (.next 0 [.one (.int .i64 ((0 : Int))), .one (.int .i64 ((0 : Int))), .list ((IntKind.i64.wrap (IntKind.i64.wrap ((ka : Int) + (kb : Int)) + (1 : Int))).toNat) (x1)]) = some (.out 0 es)) : LoopC (loopAt Try.prog 125 1) (w_mul_L7_E sa ka ca sb kb cb x0 x1) 71 noFrame w_mul_x7_0 es :=
  have r := w_mul_L7_go sa ka ca sb kb cb x0 x1 h
  loopin_as rfl (loop_in (l := w_mul_L7_A) (E := (w_mul_L7_E sa ka ca sb kb cb x0 x1)) (S := stateOf (w_mul_L7_gs sa ka ca sb kb cb x0 x1 (.next 0 [.one (.int .i64 ((0 : Int))), .one (.int .i64 ((0 : Int))), .list ((IntKind.i64.wrap (IntKind.i64.wrap ((ka : Int) + (kb : Int)) + (1 : Int))).toNat) (x1)]))) (ns := nsOf (w_mul_L7_gs sa ka ca sb kb cb x0 x1 (.next 0 [.one (.int .i64 ((0 : Int))), .one (.int .i64 ((0 : Int))), .list ((IntKind.i64.wrap (IntKind.i64.wrap ((ka : Int) + (kb : Int)) + (1 : Int))).toNat) (x1)]))) w_mul_L7_ok r.1 r.2 (by kernel_rfl) (by kernel_rfl) (by kernel_rfl) (by kernel_rfl))
def w_mul_L3_E (sa : Int) (ka : Nat) (ca : List D) (sb : Int) (kb : Nat) (cb : List D)  : List AV × AHeap := ([.agg [.pure (.int .i64 sa), .dsl 0], .agg [.pure (.int .i64 sb), .dsl 1], .ptr 2 0, .ptr 3 0, .ptr 4 0, .bsl 5 0 (IntKind.i64.wrap (IntKind.i64.wrap ((ka : Int) + (kb : Int)) + (1 : Int))).toNat (IntKind.i64.wrap (IntKind.i64.wrap ((ka : Int) + (kb : Int)) + (1 : Int))).toNat, .pure (.int .i64 (0 : Int)), .pure (.tuple #[]), .pure (.tuple #[]), .pure (.tuple #[]), .ptr 2 1, .dsl 0, .pure (.int .i64 (ka : Int)), .ptr 3 1, .dsl 1, .pure (.int .i64 (kb : Int)), .pure (.int .i64 (IntKind.i64.wrap ((ka : Int) + (kb : Int)))), .pure (.int .i64 (IntKind.i64.wrap (IntKind.i64.wrap ((ka : Int) + (kb : Int)) + (1 : Int)))), .bsl 5 0 (IntKind.i64.wrap (IntKind.i64.wrap ((ka : Int) + (kb : Int)) + (1 : Int))).toNat (IntKind.i64.wrap (IntKind.i64.wrap ((ka : Int) + (kb : Int)) + (1 : Int))).toNat, .pure (.tuple #[]), .pure (.tuple #[]), .pure (.tuple #[]), .pure (.tuple #[]), .pure (.tuple #[]), .pure (.tuple #[]), .pure (.tuple #[]), .pure (.tuple #[]), .pure (.tuple #[]), .pure (.tuple #[]), .pure (.tuple #[]), .pure (.tuple #[]), .pure (.tuple #[]), .pure (.tuple #[]), .pure (.tuple #[]), .pure (.tuple #[]), .pure (.tuple #[]), .pure (.tuple #[]), .pure (.tuple #[]), .pure (.tuple #[]), .pure (.tuple #[]), .pure (.tuple #[]), .pure (.tuple #[]), .pure (.tuple #[]), .pure (.tuple #[]), .pure (.tuple #[]), .pure (.tuple #[]), .pure (.tuple #[]), .pure (.tuple #[]), .pure (.tuple #[]), .pure (.tuple #[]), .pure (.tuple #[]), .pure (.tuple #[]), .pure (.tuple #[]), .pure (.tuple #[]), .pure (.tuple #[]), .pure (.tuple #[]), .pure (.tuple #[]), .pure (.tuple #[]), .pure (.tuple #[]), .pure (.tuple #[]), .pure (.tuple #[]), .pure (.tuple #[]), .pure (.tuple #[]), .pure (.tuple #[]), .pure (.tuple #[]), .pure (.tuple #[]), .pure (.tuple #[]), .pure (.tuple #[]), .pure (.tuple #[]), .pure (.tuple #[]), .pure (.tuple #[]), .pure (.tuple #[]), .pure (.tuple #[]), .pure (.tuple #[]), .pure (.tuple #[]), .pure (.tuple #[]), .pure (.tuple #[]), .pure (.tuple #[]), .pure (.tuple #[]), .pure (.tuple #[]), .pure (.tuple #[]), .pure (.tuple #[]), .pure (.tuple #[]), .pure (.tuple #[]), .pure (.tuple #[]), .pure (.tuple #[])], [(5, { cells := [], opn := none, kind := .big (List.map dCell (List.replicate (IntKind.i64.wrap (IntKind.i64.wrap ((ka : Int) + (kb : Int)) + (1 : Int))).toNat (Value.int .i64 (0 : Int)).cells.toList).flatten) }), (4, { cells := [.pure (.int .i64 (0 : Int)), .pure (.slice none 0 0)], opn := none, kind := .cells }), (3, { cells := [.pure (.int .i64 sb), .dsl 1], opn := none, kind := .cells }), (2, { cells := [.pure (.int .i64 sa), .dsl 0], opn := none, kind := .cells }), (1, { cells := [], opn := none, kind := .deep kb cb }), (0, { cells := [], opn := none, kind := .deep ka ca })])
def w_mul_L3_A : LoopAt := ⟨125, loopAt Try.prog 125 0, 6, 71, 5, noFrame⟩
theorem w_mul_L3_ok : (w_mul_L3_A).OK := ⟨by show 6 ≤ 71; decide, by show 5 ≤ 6; decide, by kernel_rfl, rfl⟩
def w_mul_L3_gs (sa : Int) (ka : Nat) (ca : List D) (sb : Int) (kb : Nat) (cb : List D)  : Go.Ev.Rd → Option GS
  | .next 0 ds => ghost [.val 6, .made 5] (7 :: (8 :: (9 :: (List.range' 19 60)))) (w_mul_L3_E sa ka ca sb kb cb).1 (w_mul_L3_E sa ka ca sb kb cb).2 6 ds
  | .out 0 ds => ghost w_mul_x3_0.live w_mul_x3_0.junk (w_mul_L3_E sa ka ca sb kb cb).1 (w_mul_L3_E sa ka ca sb kb cb).2 6 ds
  | _ => none
def w_mul_L3_ex : Nat → Option Nat
  | 0 => w_mul_x3_0.ex
  | _ => none
def w_mul_L3_ax : Go.Ev.Rd → AX
  | .next _ _ => .normal
  | .out j _ => axOf (w_mul_L3_ex j)
def w_mul_L3_S0 (sa : Int) (ka : Nat) (ca : List D) (sb : Int) (kb : Nat) (cb : List D)  (ds : List D) : Option Go.Ev.Rd := pullD (α := Int × Nat × (List D)) (some (.tup ds)) (fun d => ((D.vi (D.at d 0)), (D.ln (D.at d 1)), (D.lc (D.at d 1)))) (fun (s6, s5n, s5c) => .tup [.one (.int .i64 s6), .list s5n s5c]) fun (s6, s5n, s5c) => ((if s6 < (ka : Int) then guardP ((0 : Int) ≤ IntKind.i64.wrap (s6 + (kb : Int)) ∧ (IntKind.i64.wrap (s6 + (kb : Int))).toNat < (IntKind.i64.wrap (IntKind.i64.wrap ((ka : Int) + (kb : Int)) + (1 : Int))).toNat) (bindL (runR (w_mul_L7_S sa ka ca sb kb cb s6 s5c) (.next 0 [.one (.int .i64 ((0 : Int))), .one (.int .i64 ((0 : Int))), .list ((IntKind.i64.wrap (IntKind.i64.wrap ((ka : Int) + (kb : Int)) + (1 : Int))).toNat) (s5c)])) fun j ds => (if j = 0 then pullD (α := Int × Nat × (List D)) (some (.tup ds)) (fun d => ((D.vi (D.at d 0)), (D.ln (D.at d 1)), (D.lc (D.at d 1)))) (fun (l0, k1, c2) => .tup [.one (.int .i64 l0), .list k1 c2]) fun (l0, k1, c2) => (pullD (α := Int) (readD c2 (0 + (IntKind.i64.wrap (s6 + (kb : Int))).toNat * 1) 1 false) (fun d => ((D.vi d))) (fun v3 => .one (.int .i64 v3)) fun v3 => (guardP (0 + (IntKind.i64.wrap (s6 + (kb : Int))).toNat * 1 + 1 ≤ c2.length ∧ ∀ (u : D), u ∈ [dCell (.int .i64 (IntKind.i64.wrap (v3 + l0)))] → cellD u) (some (.next 0 [.one (.int .i64 (IntKind.i64.wrap (s6 + (1 : Int)))), .list (IntKind.i64.wrap (IntKind.i64.wrap ((ka : Int) + (kb : Int)) + (1 : Int))).toNat (List.append (List.take (0 + (IntKind.i64.wrap (s6 + (kb : Int))).toNat * 1) c2 ++ [dCell (.int .i64 (IntKind.i64.wrap (v3 + l0)))]) (List.drop (0 + (IntKind.i64.wrap (s6 + (kb : Int))).toNat * 1 + [dCell (.int .i64 (IntKind.i64.wrap (v3 + l0)))].length) c2))])))) else none)) else some (.out 0 [.list (IntKind.i64.wrap (IntKind.i64.wrap ((ka : Int) + (kb : Int)) + (1 : Int))).toNat s5c])))
def w_mul_L3_S (sa : Int) (ka : Nat) (ca : List D) (sb : Int) (kb : Nat) (cb : List D)  : Go.Ev.Rd → Option Go.Ev.Rd
  | .next 0 ds => w_mul_L3_S0 sa ka ca sb kb cb ds
  | _ => none
theorem w_mul_L3_S_ok (sa : Int) (ka : Nat) (ca : List D) (sb : Int) (kb : Nat) (cb : List D)  : ∀ s_ t_, w_mul_L3_S sa ka ca sb kb cb s_ = some t_ → Step (ctx [125] w_mul_sp) Tabs w_mul_L3_A (stateOf (w_mul_L3_gs sa ka ca sb kb cb s_)) (stateOf (w_mul_L3_gs sa ka ca sb kb cb t_)) (w_mul_L3_ax t_) ∧ EndOK w_mul_L3_A.nx w_mul_L3_A.low (w_mul_L3_gs sa ka ca sb kb cb) t_
  | .next 0 ds, t_, h => by
    have h_ : w_mul_L3_S0 sa ka ca sb kb cb ds = some t_ := h
    clear h
    unfold w_mul_L3_S0 at h_
    obtain ⟨⟨s6, s5n, s5c⟩, e0, h0⟩ := pullD_elim h_
    clear h_
    obtain rfl := tup_inj e0
    by_cases b1_ : s6 < (ka : Int)
    · have h2_ := (if_pos b1_).symm.trans h0
      obtain ⟨f3_, h4_⟩ := guardP_elim h2_
      obtain ⟨j, ds, e5_, h6_⟩ := bindL_elim h4_
      by_cases j7_ : j = 0
      · have h10_ := (if_pos j7_).symm.trans h6_
        clear h6_
        subst j7_
        obtain ⟨⟨l0, k1, c2⟩, e8_, h11_⟩ := pullD_elim h10_
        clear h10_
        obtain rfl := tup_inj e8_
        have k9_ := w_mul_L7_in0 sa ka ca sb kb cb s6 s5c e5_
        obtain ⟨v3, f12_, h13_⟩ := pullD_elim h11_
        replace f12_ := readD_elim f12_
        obtain ⟨f14_, h15_⟩ := guardP_elim h13_
        obtain rfl := Option.some.inj h15_
        exact ⟨step_pc 3000 (bT 1 []) [.tup [.one (.int .i64 (Int.ofNat 0)), .one (.int .i64 l0), .list k1 c2], .one (.int .i64 v3)] [c_d b1_, c_f f3_, c_f f12_, c_f f3_, c_f f14_] [k_l k9_ [] [.tup [.one (.int .i64 (Int.ofNat 0)), .one (.int .i64 l0), .list k1 c2], .one (.int .i64 v3)] [.one (.int .i64 v3)]] _ rfl (by kernel_rfl) (by kernel_rfl) (by kernel_rfl) (by kernel_rfl) (by kernel_rfl) (by kernel_rfl), trivial⟩
      have h16_ := (if_neg j7_).symm.trans h6_
      clear h6_
      cases h16_
    · have h2_ := (if_neg b1_).symm.trans h0
      obtain rfl := Option.some.inj h2_
      exact ⟨step_pc 3000 (bF 1 []) [] [c_n b1_] [] _ rfl (by kernel_rfl) (by kernel_rfl) (by kernel_rfl) (by kernel_rfl) (by kernel_rfl) (by kernel_rfl), by kernel_rfl, by kernel_rfl⟩
  | .next (_ + 1) _, _, h => by cases h
  | .out _ _, _, h => by cases h
theorem w_mul_L3_go (sa : Int) (ka : Nat) (ca : List D) (sb : Int) (kb : Nat) (cb : List D)  {q : Nat} {ds : List D} {j : Nat} {es : List D} (h : runR (w_mul_L3_S sa ka ca sb kb cb) (.next q ds) = some (.out j es)) : Runs (ctx [125] w_mul_sp) Tabs w_mul_L3_A (stateOf (w_mul_L3_gs sa ka ca sb kb cb (.next q ds))) (stateOf (w_mul_L3_gs sa ka ca sb kb cb (.out j es))) (w_mul_L3_ax (.out j es)) ∧ (nxtOf (w_mul_L3_gs sa ka ca sb kb cb (.out j es)), lowGS (w_mul_L3_gs sa ka ca sb kb cb (.out j es))) = (w_mul_L3_A.nx, w_mul_L3_A.low) :=
  runs_of' (good true _ _) w_mul_L3_ok (ax := w_mul_L3_ax) (fun _ _ => rfl) (fun _ _ => axOf_end _) (w_mul_L3_S_ok sa ka ca sb kb cb) h
theorem w_mul_L3_in0 (sa : Int) (ka : Nat) (ca : List D) (sb : Int) (kb : Nat) (cb : List D)  {es : List D} (h : runR (w_mul_L3_S sa ka ca sb kb cb) (.next 0 [.one (.int .i64 ((0 : Int))), .list ((IntKind.i64.wrap (IntKind.i64.wrap ((ka : Int) + (kb : Int)) + (1 : Int))).toNat) ((List.map dCell (List.replicate (IntKind.i64.wrap (IntKind.i64.wrap ((ka : Int) + (kb : Int)) + (1 : Int))).toNat (Value.int .i64 (0 : Int)).cells.toList).flatten))]) = some (.out 0 es)) : LoopC (loopAt Try.prog 125 0) (w_mul_L3_E sa ka ca sb kb cb) 6 noFrame w_mul_x3_0 es :=
  have r := w_mul_L3_go sa ka ca sb kb cb h
  loopin_as rfl (loop_in (l := w_mul_L3_A) (E := (w_mul_L3_E sa ka ca sb kb cb)) (S := stateOf (w_mul_L3_gs sa ka ca sb kb cb (.next 0 [.one (.int .i64 ((0 : Int))), .list ((IntKind.i64.wrap (IntKind.i64.wrap ((ka : Int) + (kb : Int)) + (1 : Int))).toNat) ((List.map dCell (List.replicate (IntKind.i64.wrap (IntKind.i64.wrap ((ka : Int) + (kb : Int)) + (1 : Int))).toNat (Value.int .i64 (0 : Int)).cells.toList).flatten))]))) (ns := nsOf (w_mul_L3_gs sa ka ca sb kb cb (.next 0 [.one (.int .i64 ((0 : Int))), .list ((IntKind.i64.wrap (IntKind.i64.wrap ((ka : Int) + (kb : Int)) + (1 : Int))).toNat) ((List.map dCell (List.replicate (IntKind.i64.wrap (IntKind.i64.wrap ((ka : Int) + (kb : Int)) + (1 : Int))).toNat (Value.int .i64 (0 : Int)).cells.toList).flatten))]))) w_mul_L3_ok r.1 r.2 (by kernel_rfl) (by kernel_rfl) (by kernel_rfl) (by kernel_rfl))
def w_mul_M (sa : Int) (ka : Nat) (ca : List D) (sb : Int) (kb : Nat) (cb : List D) : Option D := guardP ((0 : Int) ≤ IntKind.i64.wrap (IntKind.i64.wrap ((ka : Int) + (kb : Int)) + (1 : Int)) ∧ IntKind.i64.wrap (IntKind.i64.wrap ((ka : Int) + (kb : Int)) + (1 : Int)) ≤ IntKind.i64.wrap (IntKind.i64.wrap ((ka : Int) + (kb : Int)) + (1 : Int)) ∧ 8 * (IntKind.i64.wrap (IntKind.i64.wrap ((ka : Int) + (kb : Int)) + (1 : Int))).toNat ≤ 140737488355328 ∧ (IntKind.i64.wrap (IntKind.i64.wrap ((ka : Int) + (kb : Int)) + (1 : Int))).toNat ≤ 140737488355328) (guardP ((IntKind.i64.wrap (IntKind.i64.wrap ((ka : Int) + (kb : Int)) + (1 : Int))).toNat ≤ (IntKind.i64.wrap (IntKind.i64.wrap ((ka : Int) + (kb : Int)) + (1 : Int))).toNat) (bindL (runR (w_mul_L3_S sa ka ca sb kb cb) (.next 0 [.one (.int .i64 ((0 : Int))), .list ((IntKind.i64.wrap (IntKind.i64.wrap ((ka : Int) + (kb : Int)) + (1 : Int))).toNat) ((List.map dCell (List.replicate (IntKind.i64.wrap (IntKind.i64.wrap ((ka : Int) + (kb : Int)) + (1 : Int))).toNat (Value.int .i64 (0 : Int)).cells.toList).flatten))])) fun j ds => (if j = 0 then pullD (α := Nat × (List D)) (some (.tup ds)) (fun d => ((D.ln (D.at d 0)), (D.lc (D.at d 0)))) (fun (k0, c1) => .tup [.list k0 c1]) fun (k0, c1) => (pullD (α := Int × Nat × (List D)) (m_145 [.one (.int .i64 (IntKind.i64.wrap (sa * sb))), .list (IntKind.i64.wrap (IntKind.i64.wrap ((ka : Int) + (kb : Int)) + (1 : Int))).toNat c1]) (fun d => ((D.vi (D.at d 0)), (D.ln (D.at d 1)), (D.lc (D.at d 1)))) (fun (r2, k3, c4) => .agg [.one (.int .i64 r2), .list k3 c4]) fun (r2, k3, c4) => (some (.agg [.one (.int .i64 r2), .list k3 c4]))) else none)))
theorem w_mul_M_ok (sa : Int) (ka : Nat) (ca : List D) (sb : Int) (kb : Nat) (cb : List D) {r : D} (h : w_mul_M sa ka ca sb kb cb = some r) : Con 125 [.agg [.one (.int .i64 sa), .list ka ca], .agg [.one (.int .i64 sb), .list kb cb]] r := by
  unfold w_mul_M at h
  obtain ⟨f1_, h2_⟩ := guardP_elim h
  obtain ⟨f3_, h4_⟩ := guardP_elim h2_
  obtain ⟨j, ds, e5_, h6_⟩ := bindL_elim h4_
  by_cases j7_ : j = 0
  · have h10_ := (if_pos j7_).symm.trans h6_
    clear h6_
    subst j7_
    obtain ⟨⟨k0, c1⟩, e8_, h11_⟩ := pullD_elim h10_
    clear h10_
    obtain rfl := tup_inj e8_
    have k9_ := w_mul_L3_in0 sa ka ca sb kb cb e5_
    obtain ⟨⟨r2, k3, c4⟩, f12_, h13_⟩ := pullD_elim h11_
    replace f12_ := m_145_ok f12_
    obtain rfl := Option.some.inj h13_
    exact con_pc (op := true) (I := [125]) (sp := w_mul_sp) 3000 [] [.tup [.one (.int .i64 (Int.ofNat 0)), .list k0 c1], .agg [.one (.int .i64 r2), .list k3 c4]] [c_f f1_, c_f f3_] [k_l k9_ [] [.tup [.one (.int .i64 (Int.ofNat 0)), .list k0 c1], .agg [.one (.int .i64 r2), .list k3 c4]] [.agg [.one (.int .i64 r2), .list k3 c4]], k_c f12_] (by kernel_rfl)
  have h14_ := (if_neg j7_).symm.trans h6_
  clear h6_
  cases h14_
def m_125 (ds : List D) : Option D := pullD (α := Int × Nat × (List D) × Int × Nat × (List D)) (some (.tup ds)) (fun d => ((D.vi (D.at (D.at d 0) 0)), (D.ln (D.at (D.at d 0) 1)), (D.lc (D.at (D.at d 0) 1)), (D.vi (D.at (D.at d 1) 0)), (D.ln (D.at (D.at d 1) 1)), (D.lc (D.at (D.at d 1) 1)))) (fun (sa, ka, ca, sb, kb, cb) => .tup [.agg [.one (.int .i64 sa), .list ka ca], .agg [.one (.int .i64 sb), .list kb cb]]) fun (sa, ka, ca, sb, kb, cb) => w_mul_M sa ka ca sb kb cb
theorem m_125_ok {ds : List D} {r : D} (h : m_125 ds = some r) : Con 125 ds r := by
  unfold m_125 at h
  obtain ⟨⟨sa, ka, ca, sb, kb, cb⟩, e0, h0⟩ := pullD_elim h
  obtain rfl := tup_inj e0
  exact w_mul_M_ok sa ka ca sb kb cb h0
theorem m_125_eq (sa : Int) (ka : Nat) (ca : List D) (sb : Int) (kb : Nat) (cb : List D) : m_125 [.agg [.one (.int .i64 sa), .list ka ca], .agg [.one (.int .i64 sb), .list kb cb]] = w_mul_M sa ka ca sb kb cb := pullD_some (sa, ka, ca, sb, kb, cb) rfl rfl
def w_sign_sp : List LSpec := []
def w_sign_M (sa : Int) (ka : Nat) (ca : List D) : Option D := some (.one (.int .i64 sa))
theorem w_sign_M_ok (sa : Int) (ka : Nat) (ca : List D) {r : D} (h : w_sign_M sa ka ca = some r) : Con 146 [.agg [.one (.int .i64 sa), .list ka ca]] r := by
  unfold w_sign_M at h
  obtain rfl := Option.some.inj h
  exact con_pc (op := true) (I := [146]) (sp := w_sign_sp) 3000 [] [] [] [] (by kernel_rfl)
def m_146 (ds : List D) : Option D := pullD (α := Int × Nat × (List D)) (some (.tup ds)) (fun d => ((D.vi (D.at (D.at d 0) 0)), (D.ln (D.at (D.at d 0) 1)), (D.lc (D.at (D.at d 0) 1)))) (fun (sa, ka, ca) => .tup [.agg [.one (.int .i64 sa), .list ka ca]]) fun (sa, ka, ca) => w_sign_M sa ka ca
theorem m_146_ok {ds : List D} {r : D} (h : m_146 ds = some r) : Con 146 ds r := by
  unfold m_146 at h
  obtain ⟨⟨sa, ka, ca⟩, e0, h0⟩ := pullD_elim h
  obtain rfl := tup_inj e0
  exact w_sign_M_ok sa ka ca h0
theorem m_146_eq (sa : Int) (ka : Nat) (ca : List D) : m_146 [.agg [.one (.int .i64 sa), .list ka ca]] = w_sign_M sa ka ca := pullD_some (sa, ka, ca) rfl rfl
def w_cmp_sp : List LSpec := []
def w_cmp_M (sa : Int) (ka : Nat) (ca : List D) (sb : Int) (kb : Nat) (cb : List D) : Option D := pullD (α := Int × Nat × (List D)) (m_150 [.agg [.one (.int .i64 sa), .list ka ca], .agg [.one (.int .i64 sb), .list kb cb]]) (fun d => ((D.vi (D.at d 0)), (D.ln (D.at d 1)), (D.lc (D.at d 1)))) (fun (r0, k1, c2) => .agg [.one (.int .i64 r0), .list k1 c2]) fun (r0, k1, c2) => (some (.one (.int .i64 r0)))
theorem w_cmp_M_ok (sa : Int) (ka : Nat) (ca : List D) (sb : Int) (kb : Nat) (cb : List D) {r : D} (h : w_cmp_M sa ka ca sb kb cb = some r) : Con 126 [.agg [.one (.int .i64 sa), .list ka ca], .agg [.one (.int .i64 sb), .list kb cb]] r := by
  unfold w_cmp_M at h
  obtain ⟨⟨r0, k1, c2⟩, f1_, h2_⟩ := pullD_elim h
  replace f1_ := m_150_ok f1_
  obtain rfl := Option.some.inj h2_
  exact con_pc (op := true) (I := [126]) (sp := w_cmp_sp) 3000 [] [.agg [.one (.int .i64 r0), .list k1 c2]] [] [k_c f1_] (by kernel_rfl)
def m_126 (ds : List D) : Option D := pullD (α := Int × Nat × (List D) × Int × Nat × (List D)) (some (.tup ds)) (fun d => ((D.vi (D.at (D.at d 0) 0)), (D.ln (D.at (D.at d 0) 1)), (D.lc (D.at (D.at d 0) 1)), (D.vi (D.at (D.at d 1) 0)), (D.ln (D.at (D.at d 1) 1)), (D.lc (D.at (D.at d 1) 1)))) (fun (sa, ka, ca, sb, kb, cb) => .tup [.agg [.one (.int .i64 sa), .list ka ca], .agg [.one (.int .i64 sb), .list kb cb]]) fun (sa, ka, ca, sb, kb, cb) => w_cmp_M sa ka ca sb kb cb
theorem m_126_ok {ds : List D} {r : D} (h : m_126 ds = some r) : Con 126 ds r := by
  unfold m_126 at h
  obtain ⟨⟨sa, ka, ca, sb, kb, cb⟩, e0, h0⟩ := pullD_elim h
  obtain rfl := tup_inj e0
  exact w_cmp_M_ok sa ka ca sb kb cb h0
theorem m_126_eq (sa : Int) (ka : Nat) (ca : List D) (sb : Int) (kb : Nat) (cb : List D) : m_126 [.agg [.one (.int .i64 sa), .list ka ca], .agg [.one (.int .i64 sb), .list kb cb]] = w_cmp_M sa ka ca sb kb cb := pullD_some (sa, ka, ca, sb, kb, cb) rfl rfl
def w_floor_x5_0 : LExit := ⟨some 0, [.val 6, .made 5], (List.range' 7 4 ++ (List.range' 25 47))⟩
def w_floor_x9_0 : LExit := ⟨some 2, [.val 8], (9 :: (10 :: (List.range' 38 21)))⟩
def w_floor_sp : List LSpec := [⟨149, 5, [w_floor_x5_0]⟩, ⟨149, 9, [w_floor_x9_0]⟩]
def w_floor_L9_E (sa : Int) (ka : Nat) (ca : List D) (sb : Int) (kb : Nat) (cb : List D) (x0 : Nat) (x1 : List D) (x2 : Int) (x3 : List D) (x4 : Int) (x5 : Nat) (x6 : List D) : List AV × AHeap := ([.agg [.pure (.int .i64 sa), .dsl 0], .agg [.pure (.int .i64 sb), .dsl 1], .ptr 2 0, .ptr 3 0, .ptr 4 0, .bsl 5 0 ((ka : Int)).toNat ((ka : Int)).toNat, .dsl 62, .pure (.int .i64 x2), .pure (.int .i64 (0 : Int)), .pure (.int .i64 (999999999 : Int)), .any 10, .pure (.tuple #[]), .ptr 2 0, .pure (.int .i64 sa), .pure (.bool (sa == (0 : Int))), .pure (.tuple #[]), .ptr 2 1, .dsl 0, .pure (.int .i64 (ka : Int)), .bsl 5 0 ((ka : Int)).toNat ((ka : Int)).toNat, .dsl 6, .ptr 2 1, .dsl 0, .pure (.int .i64 (ka : Int)), .pure (.int .i64 (IntKind.i64.wrap ((ka : Int) - (1 : Int)))), .pure (.int .i64 x2), .pure (.bool (decide (x2 ≥ (0 : Int)))), .any 13, .any 14, .ptr 2 1, .dsl 0, .pure (.int .i64 x2), .dptr 0 (x2.toNat * 1), .pure (.int .i64 x4), .sl 60 0 1 1, .dsl 7, .bslx 61 0 (0 + 1 + x0) 0, .dsl 62, .any 24, .any 25, .any 26, .any 27, .any 28, .any 29, .any 30, .any 31, .any 32, .any 33, .any 34, .any 35, .any 36, .any 37, .any 38, .any 39, .any 40, .any 41, .any 42, .any 43, .any 44, .any 45, .any 46, .any 47, .any 48, .any 49, .any 50, .any 51, .any 52, .any 53, .any 54, .any 55, .any 56, .any 57, .pure (.tuple #[]), .pure (.tuple #[]), .pure (.tuple #[]), .pure (.tuple #[]), .pure (.tuple #[]), .pure (.tuple #[]), .pure (.tuple #[]), .pure (.tuple #[]), .pure (.tuple #[]), .pure (.tuple #[]), .pure (.tuple #[]), .pure (.tuple #[]), .pure (.tuple #[]), .pure (.tuple #[]), .pure (.tuple #[]), .pure (.tuple #[])], [(62, { cells := [], opn := none, kind := .deep x5 x6 }), (7, { cells := [], opn := none, kind := .deep x0 x1 }), (6, { cells := [], opn := none, kind := .deep 0 [] }), (5, { cells := [], opn := none, kind := .big x3 }), (4, { cells := [.pure (.int .i64 (0 : Int)), .pure (.slice none 0 0)], opn := none, kind := .cells }), (3, { cells := [.pure (.int .i64 sb), .dsl 1], opn := none, kind := .cells }), (2, { cells := [.pure (.int .i64 sa), .dsl 0], opn := none, kind := .cells }), (1, { cells := [], opn := none, kind := .deep kb cb }), (0, { cells := [], opn := none, kind := .deep ka ca })])
def w_floor_L9_A : LoopAt := ⟨149, loopAt Try.prog 149 1, 63, 87, 63, noFrame⟩
theorem w_floor_L9_ok : (w_floor_L9_A).OK := ⟨by show 63 ≤ 87; decide, by show 63 ≤ 63; decide, by kernel_rfl, rfl⟩
def w_floor_L9_gs (sa : Int) (ka : Nat) (ca : List D) (sb : Int) (kb : Nat) (cb : List D) (x0 : Nat) (x1 : List D) (x2 : Int) (x3 : List D) (x4 : Int) (x5 : Nat) (x6 : List D) : Go.Ev.Rd → Option GS
  | .next 0 ds => ghost [.val 8, .val 9] (10 :: (List.range' 38 21)) (w_floor_L9_E sa ka ca sb kb cb x0 x1 x2 x3 x4 x5 x6).1 (w_floor_L9_E sa ka ca sb kb cb x0 x1 x2 x3 x4 x5 x6).2 63 ds
  | .out 0 ds => ghost w_floor_x9_0.live w_floor_x9_0.junk (w_floor_L9_E sa ka ca sb kb cb x0 x1 x2 x3 x4 x5 x6).1 (w_floor_L9_E sa ka ca sb kb cb x0 x1 x2 x3 x4 x5 x6).2 63 ds
  | _ => none
def w_floor_L9_ex : Nat → Option Nat
  | 0 => w_floor_x9_0.ex
  | _ => none
def w_floor_L9_ax : Go.Ev.Rd → AX
  | .next _ _ => .normal
  | .out j _ => axOf (w_floor_L9_ex j)
def w_floor_L9_S0 (sa : Int) (ka : Nat) (ca : List D) (sb : Int) (kb : Nat) (cb : List D) (x0 : Nat) (x1 : List D) (x2 : Int) (x3 : List D) (x4 : Int) (x5 : Nat) (x6 : List D) (ds : List D) : Option Go.Ev.Rd := pullD (α := Int × Int) (some (.tup ds)) (fun d => ((D.vi (D.at d 0)), (D.vi (D.at d 1)))) (fun (s8, s9) => .tup [.one (.int .i64 s8), .one (.int .i64 s9)]) fun (s8, s9) => ((if s8 < s9 then pullD (α := Int × Nat × (List D)) (m_145 [.one (.int .i64 (1 : Int)), .list kb cb]) (fun d => ((D.vi (D.at d 0)), (D.ln (D.at d 1)), (D.lc (D.at d 1)))) (fun (r0, k1, c2) => .agg [.one (.int .i64 r0), .list k1 c2]) fun (r0, k1, c2) => (pullD (α := Int × Nat × (List D)) (m_121 [.one (.int .i64 (IntKind.i64.wrap ((IntKind.i64.wrap (IntKind.i64.wrap (s8 + s9) + (1 : Int))).tdiv (2 : Int))))]) (fun d => ((D.vi (D.at d 0)), (D.ln (D.at d 1)), (D.lc (D.at d 1)))) (fun (r3, k4, c5) => .agg [.one (.int .i64 r3), .list k4 c5]) fun (r3, k4, c5) => (pullD (α := Int × Nat × (List D)) (m_125 [.agg [.one (.int .i64 r0), .list k1 c2], .agg [.one (.int .i64 r3), .list k4 c5]]) (fun d => ((D.vi (D.at d 0)), (D.ln (D.at d 1)), (D.lc (D.at d 1)))) (fun (r6, k7, c8) => .agg [.one (.int .i64 r6), .list k7 c8]) fun (r6, k7, c8) => (pullD (α := Int) (m_157 [.list k7 c8, .list x5 x6]) (fun d => ((D.vi d))) (fun r9 => .one (.int .i64 r9)) fun r9 => ((if r9 ≤ (0 : Int) then some (.next 0 [.one (.int .i64 (IntKind.i64.wrap ((IntKind.i64.wrap (IntKind.i64.wrap (s8 + s9) + (1 : Int))).tdiv (2 : Int)))), .one (.int .i64 s9)]) else some (.next 0 [.one (.int .i64 s8), .one (.int .i64 (IntKind.i64.wrap (IntKind.i64.wrap ((IntKind.i64.wrap (IntKind.i64.wrap (s8 + s9) + (1 : Int))).tdiv (2 : Int)) - (1 : Int))))])))))) else some (.out 0 [.one (.int .i64 s8)])))
def w_floor_L9_S (sa : Int) (ka : Nat) (ca : List D) (sb : Int) (kb : Nat) (cb : List D) (x0 : Nat) (x1 : List D) (x2 : Int) (x3 : List D) (x4 : Int) (x5 : Nat) (x6 : List D) : Go.Ev.Rd → Option Go.Ev.Rd
  | .next 0 ds => w_floor_L9_S0 sa ka ca sb kb cb x0 x1 x2 x3 x4 x5 x6 ds
  | _ => none
theorem w_floor_L9_S_ok (sa : Int) (ka : Nat) (ca : List D) (sb : Int) (kb : Nat) (cb : List D) (x0 : Nat) (x1 : List D) (x2 : Int) (x3 : List D) (x4 : Int) (x5 : Nat) (x6 : List D) : ∀ s_ t_, w_floor_L9_S sa ka ca sb kb cb x0 x1 x2 x3 x4 x5 x6 s_ = some t_ → Step (ctx [149] w_floor_sp) Tabs w_floor_L9_A (stateOf (w_floor_L9_gs sa ka ca sb kb cb x0 x1 x2 x3 x4 x5 x6 s_)) (stateOf (w_floor_L9_gs sa ka ca sb kb cb x0 x1 x2 x3 x4 x5 x6 t_)) (w_floor_L9_ax t_) ∧ EndOK w_floor_L9_A.nx w_floor_L9_A.low (w_floor_L9_gs sa ka ca sb kb cb x0 x1 x2 x3 x4 x5 x6) t_
  | .next 0 ds, t_, h => by
    have h_ : w_floor_L9_S0 sa ka ca sb kb cb x0 x1 x2 x3 x4 x5 x6 ds = some t_ := h
    clear h
    unfold w_floor_L9_S0 at h_
    obtain ⟨⟨s8, s9⟩, e0, h0⟩ := pullD_elim h_
    clear h_
    obtain rfl := tup_inj e0
    by_cases b1_ : s8 < s9
    · have h2_ := (if_pos b1_).symm.trans h0
      obtain ⟨⟨r0, k1, c2⟩, f3_, h4_⟩ := pullD_elim h2_
      replace f3_ := m_145_ok f3_
      obtain ⟨⟨r3, k4, c5⟩, f5_, h6_⟩ := pullD_elim h4_
      replace f5_ := m_121_ok f5_
      obtain ⟨⟨r6, k7, c8⟩, f7_, h8_⟩ := pullD_elim h6_
      replace f7_ := m_125_ok f7_
      obtain ⟨r9, f9_, h10_⟩ := pullD_elim h8_
      replace f9_ := m_157_ok f9_
      by_cases b11_ : r9 ≤ (0 : Int)
      · have h12_ := (if_pos b11_).symm.trans h10_
        obtain rfl := Option.some.inj h12_
        exact ⟨step_pc 3000 (bT 2 []) [.agg [.one (.int .i64 r0), .list k1 c2], .agg [.one (.int .i64 r3), .list k4 c5], .agg [.one (.int .i64 r6), .list k7 c8], .one (.int .i64 r9)] [c_d b1_, c_F, c_d b11_] [k_c f3_, k_c f5_, k_c f7_, k_c f9_] _ rfl (by kernel_rfl) (by kernel_rfl) (by kernel_rfl) (by kernel_rfl) (by kernel_rfl) (by kernel_rfl), trivial⟩
      · have h12_ := (if_neg b11_).symm.trans h10_
        obtain rfl := Option.some.inj h12_
        exact ⟨step_pc 3000 (bT 1 (bF 1 [])) [.agg [.one (.int .i64 r0), .list k1 c2], .agg [.one (.int .i64 r3), .list k4 c5], .agg [.one (.int .i64 r6), .list k7 c8], .one (.int .i64 r9)] [c_d b1_, c_F, c_n b11_] [k_c f3_, k_c f5_, k_c f7_, k_c f9_] _ rfl (by kernel_rfl) (by kernel_rfl) (by kernel_rfl) (by kernel_rfl) (by kernel_rfl) (by kernel_rfl), trivial⟩
    · have h2_ := (if_neg b1_).symm.trans h0
      obtain rfl := Option.some.inj h2_
      exact ⟨step_pc 3000 (bF 1 []) [] [c_n b1_] [] _ rfl (by kernel_rfl) (by kernel_rfl) (by kernel_rfl) (by kernel_rfl) (by kernel_rfl) (by kernel_rfl), by kernel_rfl, by kernel_rfl⟩
  | .next (_ + 1) _, _, h => by cases h
  | .out _ _, _, h => by cases h
theorem w_floor_L9_go (sa : Int) (ka : Nat) (ca : List D) (sb : Int) (kb : Nat) (cb : List D) (x0 : Nat) (x1 : List D) (x2 : Int) (x3 : List D) (x4 : Int) (x5 : Nat) (x6 : List D) {q : Nat} {ds : List D} {j : Nat} {es : List D} (h : runR (w_floor_L9_S sa ka ca sb kb cb x0 x1 x2 x3 x4 x5 x6) (.next q ds) = some (.out j es)) : Runs (ctx [149] w_floor_sp) Tabs w_floor_L9_A (stateOf (w_floor_L9_gs sa ka ca sb kb cb x0 x1 x2 x3 x4 x5 x6 (.next q ds))) (stateOf (w_floor_L9_gs sa ka ca sb kb cb x0 x1 x2 x3 x4 x5 x6 (.out j es))) (w_floor_L9_ax (.out j es)) ∧ (nxtOf (w_floor_L9_gs sa ka ca sb kb cb x0 x1 x2 x3 x4 x5 x6 (.out j es)), lowGS (w_floor_L9_gs sa ka ca sb kb cb x0 x1 x2 x3 x4 x5 x6 (.out j es))) = (w_floor_L9_A.nx, w_floor_L9_A.low) :=
  runs_of' (good true _ _) w_floor_L9_ok (ax := w_floor_L9_ax) (fun _ _ => rfl) (fun _ _ => axOf_end _) (w_floor_L9_S_ok sa ka ca sb kb cb x0 x1 x2 x3 x4 x5 x6) h
theorem w_floor_L9_in0 (sa : Int) (ka : Nat) (ca : List D) (sb : Int) (kb : Nat) (cb : List D) (x0 : Nat) (x1 : List D) (x2 : Int) (x3 : List D) (x4 : Int) (x5 : Nat) (x6 : List D) {es : List D} (h : runR (w_floor_L9_S sa ka ca sb kb cb x0 x1 x2 x3 x4 x5 x6) (.next 0 [.one (.int .i64 ((0 : Int))), .one (.int .i64 ((999999999 : Int)))]) = some (.out 0 es)) : LoopC (loopAt Try.prog 149 1) (w_floor_L9_E sa ka ca sb kb cb x0 x1 x2 x3 x4 x5 x6) 63 noFrame w_floor_x9_0 es :=
  have r := w_floor_L9_go sa ka ca sb kb cb x0 x1 x2 x3 x4 x5 x6 h
  loopin_as rfl (loop_in (l := w_floor_L9_A) (E := (w_floor_L9_E sa ka ca sb kb cb x0 x1 x2 x3 x4 x5 x6)) (S := stateOf (w_floor_L9_gs sa ka ca sb kb cb x0 x1 x2 x3 x4 x5 x6 (.next 0 [.one (.int .i64 ((0 : Int))), .one (.int .i64 ((999999999 : Int)))]))) (ns := nsOf (w_floor_L9_gs sa ka ca sb kb cb x0 x1 x2 x3 x4 x5 x6 (.next 0 [.one (.int .i64 ((0 : Int))), .one (.int .i64 ((999999999 : Int)))]))) w_floor_L9_ok r.1 r.2 (by kernel_rfl) (by kernel_rfl) (by kernel_rfl) (by kernel_rfl))
def w_floor_L5_E (sa : Int) (ka : Nat) (ca : List D) (sb : Int) (kb : Nat) (cb : List D)  : List AV × AHeap := ([.agg [.pure (.int .i64 sa), .dsl 0], .agg [.pure (.int .i64 sb), .dsl 1], .ptr 2 0, .ptr 3 0, .ptr 4 0, .bsl 5 0 ((ka : Int)).toNat ((ka : Int)).toNat, .dsl 6, .pure (.int .i64 (IntKind.i64.wrap ((ka : Int) - (1 : Int)))), .pure (.tuple #[]), .pure (.tuple #[]), .pure (.tuple #[]), .pure (.tuple #[]), .ptr 2 0, .pure (.int .i64 sa), .pure (.bool (sa == (0 : Int))), .pure (.tuple #[]), .ptr 2 1, .dsl 0, .pure (.int .i64 (ka : Int)), .bsl 5 0 ((ka : Int)).toNat ((ka : Int)).toNat, .dsl 6, .ptr 2 1, .dsl 0, .pure (.int .i64 (ka : Int)), .pure (.int .i64 (IntKind.i64.wrap ((ka : Int) - (1 : Int)))), .pure (.tuple #[]), .pure (.tuple #[]), .pure (.tuple #[]), .pure (.tuple #[]), .pure (.tuple #[]), .pure (.tuple #[]), .pure (.tuple #[]), .pure (.tuple #[]), .pure (.tuple #[]), .pure (.tuple #[]), .pure (.tuple #[]), .pure (.tuple #[]), .pure (.tuple #[]), .pure (.tuple #[]), .pure (.tuple #[]), .pure (.tuple #[]), .pure (.tuple #[]), .pure (.tuple #[]), .pure (.tuple #[]), .pure (.tuple #[]), .pure (.tuple #[]), .pure (.tuple #[]), .pure (.tuple #[]), .pure (.tuple #[]), .pure (.tuple #[]), .pure (.tuple #[]), .pure (.tuple #[]), .pure (.tuple #[]), .pure (.tuple #[]), .pure (.tuple #[]), .pure (.tuple #[]), .pure (.tuple #[]), .pure (.tuple #[]), .pure (.tuple #[]), .pure (.tuple #[]), .pure (.tuple #[]), .pure (.tuple #[]), .pure (.tuple #[]), .pure (.tuple #[]), .pure (.tuple #[]), .pure (.tuple #[]), .pure (.tuple #[]), .pure (.tuple #[]), .pure (.tuple #[]), .pure (.tuple #[]), .pure (.tuple #[]), .pure (.tuple #[]), .pure (.tuple #[]), .pure (.tuple #[]), .pure (.tuple #[]), .pure (.tuple #[]), .pure (.tuple #[]), .pure (.tuple #[]), .pure (.tuple #[]), .pure (.tuple #[]), .pure (.tuple #[]), .pure (.tuple #[]), .pure (.tuple #[]), .pure (.tuple #[]), .pure (.tuple #[]), .pure (.tuple #[]), .pure (.tuple #[]), .pure (.tuple #[])], [(6, { cells := [], opn := none, kind := .deep 0 [] }), (5, { cells := [], opn := none, kind := .big (List.map dCell (List.replicate ((ka : Int)).toNat (Value.int .i64 (0 : Int)).cells.toList).flatten) }), (4, { cells := [.pure (.int .i64 (0 : Int)), .pure (.slice none 0 0)], opn := none, kind := .cells }), (3, { cells := [.pure (.int .i64 sb), .dsl 1], opn := none, kind := .cells }), (2, { cells := [.pure (.int .i64 sa), .dsl 0], opn := none, kind := .cells }), (1, { cells := [], opn := none, kind := .deep kb cb }), (0, { cells := [], opn := none, kind := .deep ka ca })])
def w_floor_L5_A : LoopAt := ⟨149, loopAt Try.prog 149 0, 7, 60, 5, noFrame⟩
theorem w_floor_L5_ok : (w_floor_L5_A).OK := ⟨by show 7 ≤ 60; decide, by show 5 ≤ 7; decide, by kernel_rfl, rfl⟩
def w_floor_L5_gs (sa : Int) (ka : Nat) (ca : List D) (sb : Int) (kb : Nat) (cb : List D)  : Go.Ev.Rd → Option GS
  | .next 0 ds => ghost [.val 6, .val 7, .made 5] (8 :: (9 :: (10 :: (List.range' 25 47)))) (w_floor_L5_E sa ka ca sb kb cb).1 (w_floor_L5_E sa ka ca sb kb cb).2 7 ds
  | .out 0 ds => ghost w_floor_x5_0.live w_floor_x5_0.junk (w_floor_L5_E sa ka ca sb kb cb).1 (w_floor_L5_E sa ka ca sb kb cb).2 7 ds
  | _ => none
def w_floor_L5_ex : Nat → Option Nat
  | 0 => w_floor_x5_0.ex
  | _ => none
def w_floor_L5_ax : Go.Ev.Rd → AX
  | .next _ _ => .normal
  | .out j _ => axOf (w_floor_L5_ex j)
def w_floor_L5_S0 (sa : Int) (ka : Nat) (ca : List D) (sb : Int) (kb : Nat) (cb : List D)  (ds : List D) : Option Go.Ev.Rd := pullD (α := Nat × (List D) × Int × Nat × (List D)) (some (.tup ds)) (fun d => ((D.ln (D.at d 0)), (D.lc (D.at d 0)), (D.vi (D.at d 1)), (D.ln (D.at d 2)), (D.lc (D.at d 2)))) (fun (s6n, s6c, s7, s5n, s5c) => .tup [.list s6n s6c, .one (.int .i64 s7), .list s5n s5c]) fun (s6n, s6c, s7, s5n, s5c) => ((if s7 ≥ (0 : Int) then guardP ((0 : Int) ≤ s7 ∧ s7.toNat < ka) (pullD (α := Int) (readD ca (s7.toNat * 1) 1 false) (fun d => ((D.vi d))) (fun v0 => .one (.int .i64 v0)) fun v0 => (guardP ((∀ (u : D), u ∈ s6c → cellD u) ∧ 0 + 1 ≤ 0 + 1 ∧ (0 + 1 + s6n) * 8 ≤ 140737488355328 ∧ 0 + 1 + s6n ≤ 4611686018427387904) (guardP (s6c.length = s6n * 1) (guardP ((0 + (0 + 1 + s6n)) * 1 ≤ (List.take ((0 + 1) * 1) [dCell (.int .i64 v0)] ++ s6c).length ∧ 0 < 1) (guardP ((0 : Int) ≤ s7 ∧ s7.toNat < ((ka : Int)).toNat) (pullD (α := Nat × (List D)) (m_155 [.list (0 + 1 + s6n) (.one (.int .i64 v0) :: s6c)]) (fun d => ((D.ln d), (D.lc d))) (fun (k1, c2) => .list k1 c2) fun (k1, c2) => (bindL (runR (w_floor_L9_S sa ka ca sb kb cb s6n s6c s7 s5c v0 k1 c2) (.next 0 [.one (.int .i64 ((0 : Int))), .one (.int .i64 ((999999999 : Int)))])) fun j ds => (if j = 0 then pullD (α := Int) (some (.tup ds)) (fun d => ((D.vi (D.at d 0)))) (fun l3 => .tup [.one (.int .i64 l3)]) fun l3 => (guardP (0 + s7.toNat * 1 + 1 ≤ s5c.length ∧ ∀ (u : D), u ∈ [dCell (.int .i64 l3)] → cellD u) (pullD (α := Int × Nat × (List D)) (m_145 [.one (.int .i64 (1 : Int)), .list kb cb]) (fun d => ((D.vi (D.at d 0)), (D.ln (D.at d 1)), (D.lc (D.at d 1)))) (fun (r4, k5, c6) => .agg [.one (.int .i64 r4), .list k5 c6]) fun (r4, k5, c6) => (pullD (α := Int × Nat × (List D)) (m_121 [.one (.int .i64 l3)]) (fun d => ((D.vi (D.at d 0)), (D.ln (D.at d 1)), (D.lc (D.at d 1)))) (fun (r7, k8, c9) => .agg [.one (.int .i64 r7), .list k8 c9]) fun (r7, k8, c9) => (pullD (α := Int × Nat × (List D)) (m_125 [.agg [.one (.int .i64 r4), .list k5 c6], .agg [.one (.int .i64 r7), .list k8 c9]]) (fun d => ((D.vi (D.at d 0)), (D.ln (D.at d 1)), (D.lc (D.at d 1)))) (fun (r10, k11, c12) => .agg [.one (.int .i64 r10), .list k11 c12]) fun (r10, k11, c12) => (pullD (α := Nat × (List D)) (m_158 [.list k1 c2, .list k11 c12]) (fun d => ((D.ln d), (D.lc d))) (fun (k13, c14) => .list k13 c14) fun (k13, c14) => (some (.next 0 [.list k13 c14, .one (.int .i64 (IntKind.i64.wrap (s7 - (1 : Int)))), .list ((ka : Int)).toNat (List.append (List.take (0 + s7.toNat * 1) s5c ++ [dCell (.int .i64 l3)]) (List.drop (0 + s7.toNat * 1 + [dCell (.int .i64 l3)].length) s5c))]))))))) else none)))))))) else some (.out 0 [.list s6n s6c, .list ((ka : Int)).toNat s5c])))
def w_floor_L5_S (sa : Int) (ka : Nat) (ca : List D) (sb : Int) (kb : Nat) (cb : List D)  : Go.Ev.Rd → Option Go.Ev.Rd
  | .next 0 ds => w_floor_L5_S0 sa ka ca sb kb cb ds
  | _ => none
theorem w_floor_L5_S_ok (sa : Int) (ka : Nat) (ca : List D) (sb : Int) (kb : Nat) (cb : List D)  : ∀ s_ t_, w_floor_L5_S sa ka ca sb kb cb s_ = some t_ → Step (ctx [149] w_floor_sp) Tabs w_floor_L5_A (stateOf (w_floor_L5_gs sa ka ca sb kb cb s_)) (stateOf (w_floor_L5_gs sa ka ca sb kb cb t_)) (w_floor_L5_ax t_) ∧ EndOK w_floor_L5_A.nx w_floor_L5_A.low (w_floor_L5_gs sa ka ca sb kb cb) t_
  | .next 0 ds, t_, h => by
    have h_ : w_floor_L5_S0 sa ka ca sb kb cb ds = some t_ := h
    clear h
    unfold w_floor_L5_S0 at h_
    obtain ⟨⟨s6n, s6c, s7, s5n, s5c⟩, e0, h0⟩ := pullD_elim h_
    clear h_
    obtain rfl := tup_inj e0
    by_cases b1_ : s7 ≥ (0 : Int)
    · have h2_ := (if_pos b1_).symm.trans h0
      obtain ⟨f3_, h4_⟩ := guardP_elim h2_
      obtain ⟨v0, f5_, h6_⟩ := pullD_elim h4_
      replace f5_ := readD_elim f5_
      obtain ⟨f7_, h8_⟩ := guardP_elim h6_
      obtain ⟨f9_, h10_⟩ := guardP_elim h8_
      obtain ⟨f11_, h12_⟩ := guardP_elim h10_
      obtain ⟨f13_, h14_⟩ := guardP_elim h12_
      obtain ⟨⟨k1, c2⟩, f15_, h16_⟩ := pullD_elim h14_
      replace f15_ := m_155_ok f15_
      obtain ⟨j, ds, e17_, h18_⟩ := bindL_elim h16_
      by_cases j19_ : j = 0
      · have h22_ := (if_pos j19_).symm.trans h18_
        clear h18_
        subst j19_
        obtain ⟨l3, e20_, h23_⟩ := pullD_elim h22_
        clear h22_
        obtain rfl := tup_inj e20_
        have k21_ := w_floor_L9_in0 sa ka ca sb kb cb s6n s6c s7 s5c v0 k1 c2 e17_
        obtain ⟨f24_, h25_⟩ := guardP_elim h23_
        obtain ⟨⟨r4, k5, c6⟩, f26_, h27_⟩ := pullD_elim h25_
        replace f26_ := m_145_ok f26_
        obtain ⟨⟨r7, k8, c9⟩, f28_, h29_⟩ := pullD_elim h27_
        replace f28_ := m_121_ok f28_
        obtain ⟨⟨r10, k11, c12⟩, f30_, h31_⟩ := pullD_elim h29_
        replace f30_ := m_125_ok f30_
        obtain ⟨⟨k13, c14⟩, f32_, h33_⟩ := pullD_elim h31_
        replace f32_ := m_158_ok f32_
        obtain rfl := Option.some.inj h33_
        exact ⟨step_pc 3000 (bT 1 []) [.one (.int .i64 v0), .list k1 c2, .tup [.one (.int .i64 (Int.ofNat 0)), .one (.int .i64 l3)], .agg [.one (.int .i64 r4), .list k5 c6], .agg [.one (.int .i64 r7), .list k8 c9], .agg [.one (.int .i64 r10), .list k11 c12], .list k13 c14] [c_d b1_, c_f f3_, c_f f5_, c_f f7_, c_f f9_, c_f f11_, c_f f13_, c_f f24_] [k_c f15_, k_l k21_ [] [.tup [.one (.int .i64 (Int.ofNat 0)), .one (.int .i64 l3)], .agg [.one (.int .i64 r4), .list k5 c6], .agg [.one (.int .i64 r7), .list k8 c9], .agg [.one (.int .i64 r10), .list k11 c12], .list k13 c14] [.agg [.one (.int .i64 r4), .list k5 c6], .agg [.one (.int .i64 r7), .list k8 c9], .agg [.one (.int .i64 r10), .list k11 c12], .list k13 c14], k_c f26_, k_c f28_, k_c f30_, k_c f32_] _ rfl (by kernel_rfl) (by kernel_rfl) (by kernel_rfl) (by kernel_rfl) (by kernel_rfl) (by kernel_rfl), trivial⟩
      have h34_ := (if_neg j19_).symm.trans h18_
      clear h18_
      cases h34_
    · have h2_ := (if_neg b1_).symm.trans h0
      obtain rfl := Option.some.inj h2_
      exact ⟨step_pc 3000 (bF 1 []) [] [c_n b1_] [] _ rfl (by kernel_rfl) (by kernel_rfl) (by kernel_rfl) (by kernel_rfl) (by kernel_rfl) (by kernel_rfl), by kernel_rfl, by kernel_rfl⟩
  | .next (_ + 1) _, _, h => by cases h
  | .out _ _, _, h => by cases h
theorem w_floor_L5_go (sa : Int) (ka : Nat) (ca : List D) (sb : Int) (kb : Nat) (cb : List D)  {q : Nat} {ds : List D} {j : Nat} {es : List D} (h : runR (w_floor_L5_S sa ka ca sb kb cb) (.next q ds) = some (.out j es)) : Runs (ctx [149] w_floor_sp) Tabs w_floor_L5_A (stateOf (w_floor_L5_gs sa ka ca sb kb cb (.next q ds))) (stateOf (w_floor_L5_gs sa ka ca sb kb cb (.out j es))) (w_floor_L5_ax (.out j es)) ∧ (nxtOf (w_floor_L5_gs sa ka ca sb kb cb (.out j es)), lowGS (w_floor_L5_gs sa ka ca sb kb cb (.out j es))) = (w_floor_L5_A.nx, w_floor_L5_A.low) :=
  runs_of' (good true _ _) w_floor_L5_ok (ax := w_floor_L5_ax) (fun _ _ => rfl) (fun _ _ => axOf_end _) (w_floor_L5_S_ok sa ka ca sb kb cb) h
theorem w_floor_L5_in0 (sa : Int) (ka : Nat) (ca : List D) (sb : Int) (kb : Nat) (cb : List D)  {es : List D} (h : runR (w_floor_L5_S sa ka ca sb kb cb) (.next 0 [.list (0) ([]), .one (.int .i64 ((IntKind.i64.wrap ((ka : Int) - (1 : Int))))), .list (((ka : Int)).toNat) ((List.map dCell (List.replicate ((ka : Int)).toNat (Value.int .i64 (0 : Int)).cells.toList).flatten))]) = some (.out 0 es)) : LoopC (loopAt Try.prog 149 0) (w_floor_L5_E sa ka ca sb kb cb) 7 noFrame w_floor_x5_0 es :=
  have r := w_floor_L5_go sa ka ca sb kb cb h
  loopin_as rfl (loop_in (l := w_floor_L5_A) (E := (w_floor_L5_E sa ka ca sb kb cb)) (S := stateOf (w_floor_L5_gs sa ka ca sb kb cb (.next 0 [.list (0) ([]), .one (.int .i64 ((IntKind.i64.wrap ((ka : Int) - (1 : Int))))), .list (((ka : Int)).toNat) ((List.map dCell (List.replicate ((ka : Int)).toNat (Value.int .i64 (0 : Int)).cells.toList).flatten))]))) (ns := nsOf (w_floor_L5_gs sa ka ca sb kb cb (.next 0 [.list (0) ([]), .one (.int .i64 ((IntKind.i64.wrap ((ka : Int) - (1 : Int))))), .list (((ka : Int)).toNat) ((List.map dCell (List.replicate ((ka : Int)).toNat (Value.int .i64 (0 : Int)).cells.toList).flatten))]))) w_floor_L5_ok r.1 r.2 (by kernel_rfl) (by kernel_rfl) (by kernel_rfl) (by kernel_rfl))
def w_floor_M (sa : Int) (ka : Nat) (ca : List D) (sb : Int) (kb : Nat) (cb : List D) : Option D := (if sa = (0 : Int) then some (.agg [.one (.int .i64 (0 : Int)), .list 0 []]) else guardP ((0 : Int) ≤ (ka : Int) ∧ (ka : Int) ≤ (ka : Int) ∧ 8 * ((ka : Int)).toNat ≤ 140737488355328 ∧ ((ka : Int)).toNat ≤ 140737488355328) (guardP (((ka : Int)).toNat ≤ ((ka : Int)).toNat) (bindL (runR (w_floor_L5_S sa ka ca sb kb cb) (.next 0 [.list (0) ([]), .one (.int .i64 ((IntKind.i64.wrap ((ka : Int) - (1 : Int))))), .list (((ka : Int)).toNat) ((List.map dCell (List.replicate ((ka : Int)).toNat (Value.int .i64 (0 : Int)).cells.toList).flatten))])) fun j ds => (if j = 0 then pullD (α := Nat × (List D) × Nat × (List D)) (some (.tup ds)) (fun d => ((D.ln (D.at d 0)), (D.lc (D.at d 0)), (D.ln (D.at d 1)), (D.lc (D.at d 1)))) (fun (k0, c1, k2, c3) => .tup [.list k0 c1, .list k2 c3]) fun (k0, c1, k2, c3) => (pullD (α := Int × Nat × (List D)) (m_145 [.one (.int .i64 sa), .list ((ka : Int)).toNat c3]) (fun d => ((D.vi (D.at d 0)), (D.ln (D.at d 1)), (D.lc (D.at d 1)))) (fun (r4, k5, c6) => .agg [.one (.int .i64 r4), .list k5 c6]) fun (r4, k5, c6) => ((if sa < (0 : Int) then (if (k0 : Int) > (0 : Int) then pullD (α := Int × Nat × (List D)) (m_121 [.one (.int .i64 (1 : Int))]) (fun d => ((D.vi (D.at d 0)), (D.ln (D.at d 1)), (D.lc (D.at d 1)))) (fun (r7, k8, c9) => .agg [.one (.int .i64 r7), .list k8 c9]) fun (r7, k8, c9) => (pullD (α := Int × Nat × (List D)) (m_150 [.agg [.one (.int .i64 r4), .list k5 c6], .agg [.one (.int .i64 r7), .list k8 c9]]) (fun d => ((D.vi (D.at d 0)), (D.ln (D.at d 1)), (D.lc (D.at d 1)))) (fun (r10, k11, c12) => .agg [.one (.int .i64 r10), .list k11 c12]) fun (r10, k11, c12) => (some (.agg [.one (.int .i64 r10), .list k11 c12]))) else some (.agg [.one (.int .i64 r4), .list k5 c6])) else some (.agg [.one (.int .i64 r4), .list k5 c6])))) else none))))
theorem w_floor_M_ok (sa : Int) (ka : Nat) (ca : List D) (sb : Int) (kb : Nat) (cb : List D) {r : D} (h : w_floor_M sa ka ca sb kb cb = some r) : Con 149 [.agg [.one (.int .i64 sa), .list ka ca], .agg [.one (.int .i64 sb), .list kb cb]] r := by
  unfold w_floor_M at h
  by_cases b1_ : sa = (0 : Int)
  · have h2_ := (if_pos b1_).symm.trans h
    obtain rfl := Option.some.inj h2_
    exact con_pc (op := true) (I := [149]) (sp := w_floor_sp) 3000 (bT 1 []) [] [c_e b1_] [] (by kernel_rfl)
  · have h2_ := (if_neg b1_).symm.trans h
    have b3_ : sa ≠ (0 : Int) := by first | exact b1_ | simpa using b1_
    obtain ⟨f4_, h5_⟩ := guardP_elim h2_
    obtain ⟨f6_, h7_⟩ := guardP_elim h5_
    obtain ⟨j, ds, e8_, h9_⟩ := bindL_elim h7_
    by_cases j10_ : j = 0
    · have h13_ := (if_pos j10_).symm.trans h9_
      clear h9_
      subst j10_
      obtain ⟨⟨k0, c1, k2, c3⟩, e11_, h14_⟩ := pullD_elim h13_
      clear h13_
      obtain rfl := tup_inj e11_
      have k12_ := w_floor_L5_in0 sa ka ca sb kb cb e8_
      obtain ⟨⟨r4, k5, c6⟩, f15_, h16_⟩ := pullD_elim h14_
      replace f15_ := m_145_ok f15_
      by_cases b17_ : sa < (0 : Int)
      · have h18_ := (if_pos b17_).symm.trans h16_
        by_cases b19_ : (k0 : Int) > (0 : Int)
        · have h20_ := (if_pos b19_).symm.trans h18_
          obtain ⟨⟨r7, k8, c9⟩, f21_, h22_⟩ := pullD_elim h20_
          replace f21_ := m_121_ok f21_
          obtain ⟨⟨r10, k11, c12⟩, f23_, h24_⟩ := pullD_elim h22_
          replace f23_ := m_150_ok f23_
          obtain rfl := Option.some.inj h24_
          exact con_pc (op := true) (I := [149]) (sp := w_floor_sp) 3000 (bF 1 (bT 5 [])) [.tup [.one (.int .i64 (Int.ofNat 0)), .list k0 c1, .list k2 c3], .agg [.one (.int .i64 r4), .list k5 c6], .agg [.one (.int .i64 r7), .list k8 c9], .agg [.one (.int .i64 r10), .list k11 c12]] [c_en b3_, c_f f4_, c_f f6_, c_d b17_, c_d b17_, c_d b17_, c_d b17_, c_d b19_] [k_l k12_ (bT 5 []) [.tup [.one (.int .i64 (Int.ofNat 0)), .list k0 c1, .list k2 c3], .agg [.one (.int .i64 r4), .list k5 c6], .agg [.one (.int .i64 r7), .list k8 c9], .agg [.one (.int .i64 r10), .list k11 c12]] [.agg [.one (.int .i64 r4), .list k5 c6], .agg [.one (.int .i64 r7), .list k8 c9], .agg [.one (.int .i64 r10), .list k11 c12]], k_c f15_, k_c f21_, k_c f23_] (by kernel_rfl)
        · have h20_ := (if_neg b19_).symm.trans h18_
          obtain rfl := Option.some.inj h20_
          exact con_pc (op := true) (I := [149]) (sp := w_floor_sp) 3000 (bF 1 (bT 4 (bF 1 []))) [.tup [.one (.int .i64 (Int.ofNat 0)), .list k0 c1, .list k2 c3], .agg [.one (.int .i64 r4), .list k5 c6]] [c_en b3_, c_f f4_, c_f f6_, c_d b17_, c_d b17_, c_d b17_, c_d b17_, c_n b19_] [k_l k12_ (bT 4 (bF 1 [])) [.tup [.one (.int .i64 (Int.ofNat 0)), .list k0 c1, .list k2 c3], .agg [.one (.int .i64 r4), .list k5 c6]] [.agg [.one (.int .i64 r4), .list k5 c6]], k_c f15_] (by kernel_rfl)
      · have h18_ := (if_neg b17_).symm.trans h16_
        obtain rfl := Option.some.inj h18_
        exact con_pc (op := true) (I := [149]) (sp := w_floor_sp) 3000 (bF 6 []) [.tup [.one (.int .i64 (Int.ofNat 0)), .list k0 c1, .list k2 c3], .agg [.one (.int .i64 r4), .list k5 c6]] [c_en b3_, c_f f4_, c_f f6_, c_n b17_, c_n b17_, c_n b17_, c_n b17_, c_F] [k_l k12_ (bF 5 []) [.tup [.one (.int .i64 (Int.ofNat 0)), .list k0 c1, .list k2 c3], .agg [.one (.int .i64 r4), .list k5 c6]] [.agg [.one (.int .i64 r4), .list k5 c6]], k_c f15_] (by kernel_rfl)
    have h25_ := (if_neg j10_).symm.trans h9_
    clear h9_
    cases h25_
def m_149 (ds : List D) : Option D := pullD (α := Int × Nat × (List D) × Int × Nat × (List D)) (some (.tup ds)) (fun d => ((D.vi (D.at (D.at d 0) 0)), (D.ln (D.at (D.at d 0) 1)), (D.lc (D.at (D.at d 0) 1)), (D.vi (D.at (D.at d 1) 0)), (D.ln (D.at (D.at d 1) 1)), (D.lc (D.at (D.at d 1) 1)))) (fun (sa, ka, ca, sb, kb, cb) => .tup [.agg [.one (.int .i64 sa), .list ka ca], .agg [.one (.int .i64 sb), .list kb cb]]) fun (sa, ka, ca, sb, kb, cb) => w_floor_M sa ka ca sb kb cb
theorem m_149_ok {ds : List D} {r : D} (h : m_149 ds = some r) : Con 149 ds r := by
  unfold m_149 at h
  obtain ⟨⟨sa, ka, ca, sb, kb, cb⟩, e0, h0⟩ := pullD_elim h
  obtain rfl := tup_inj e0
  exact w_floor_M_ok sa ka ca sb kb cb h0
theorem m_149_eq (sa : Int) (ka : Nat) (ca : List D) (sb : Int) (kb : Nat) (cb : List D) : m_149 [.agg [.one (.int .i64 sa), .list ka ca], .agg [.one (.int .i64 sb), .list kb cb]] = w_floor_M sa ka ca sb kb cb := pullD_some (sa, ka, ca, sb, kb, cb) rfl rfl
def w_size_sp : List LSpec := []
def w_size_M (sa : Int) (ka : Nat) (ca : List D) : Option D := (if sa < (0 : Int) then pullD (α := Int × Nat × (List D)) (m_147 [.agg [.one (.int .i64 sa), .list ka ca]]) (fun d => ((D.vi (D.at d 0)), (D.ln (D.at d 1)), (D.lc (D.at d 1)))) (fun (r0, k1, c2) => .agg [.one (.int .i64 r0), .list k1 c2]) fun (r0, k1, c2) => (some (.agg [.one (.int .i64 r0), .list k1 c2])) else some (.agg [.one (.int .i64 sa), .list ka ca]))
theorem w_size_M_ok (sa : Int) (ka : Nat) (ca : List D) {r : D} (h : w_size_M sa ka ca = some r) : Con 156 [.agg [.one (.int .i64 sa), .list ka ca]] r := by
  unfold w_size_M at h
  by_cases b1_ : sa < (0 : Int)
  · have h2_ := (if_pos b1_).symm.trans h
    obtain ⟨⟨r0, k1, c2⟩, f3_, h4_⟩ := pullD_elim h2_
    replace f3_ := m_147_ok f3_
    obtain rfl := Option.some.inj h4_
    exact con_pc (op := true) (I := [156]) (sp := w_size_sp) 3000 (bT 1 []) [.agg [.one (.int .i64 r0), .list k1 c2]] [c_d b1_] [k_c f3_] (by kernel_rfl)
  · have h2_ := (if_neg b1_).symm.trans h
    obtain rfl := Option.some.inj h2_
    exact con_pc (op := true) (I := [156]) (sp := w_size_sp) 3000 (bF 1 []) [] [c_n b1_] [] (by kernel_rfl)
def m_156 (ds : List D) : Option D := pullD (α := Int × Nat × (List D)) (some (.tup ds)) (fun d => ((D.vi (D.at (D.at d 0) 0)), (D.ln (D.at (D.at d 0) 1)), (D.lc (D.at (D.at d 0) 1)))) (fun (sa, ka, ca) => .tup [.agg [.one (.int .i64 sa), .list ka ca]]) fun (sa, ka, ca) => w_size_M sa ka ca
theorem m_156_ok {ds : List D} {r : D} (h : m_156 ds = some r) : Con 156 ds r := by
  unfold m_156 at h
  obtain ⟨⟨sa, ka, ca⟩, e0, h0⟩ := pullD_elim h
  obtain rfl := tup_inj e0
  exact w_size_M_ok sa ka ca h0
theorem m_156_eq (sa : Int) (ka : Nat) (ca : List D) : m_156 [.agg [.one (.int .i64 sa), .list ka ca]] = w_size_M sa ka ca := pullD_some (sa, ka, ca) rfl rfl
def w_gcd_x2_0 : LExit := ⟨some 0, [.cval 2 0, .cval 2 1, .cval 3 0, .cval 3 1], (5 :: (List.range' 10 12))⟩
def w_gcd_sp : List LSpec := [⟨148, 2, [w_gcd_x2_0]⟩]
def w_gcd_L2_E (sa : Int) (ka : Nat) (ca : List D) (sb : Int) (kb : Nat) (cb : List D) (x0 : Int) (x1 : Nat) (x2 : List D) (x3 : Int) (x4 : Nat) (x5 : List D) : List AV × AHeap := ([.agg [.pure (.int .i64 sa), .dsl 0], .agg [.pure (.int .i64 sb), .dsl 1], .ptr 2 0, .ptr 3 0, .ptr 4 0, .pure (.tuple #[]), .agg [.pure (.int .i64 sa), .dsl 0], .agg [.pure (.int .i64 x0), .dsl 5], .agg [.pure (.int .i64 sb), .dsl 1], .agg [.pure (.int .i64 x3), .dsl 6], .pure (.tuple #[]), .pure (.tuple #[]), .pure (.tuple #[]), .pure (.tuple #[]), .pure (.tuple #[]), .pure (.tuple #[]), .pure (.tuple #[]), .pure (.tuple #[]), .pure (.tuple #[]), .pure (.tuple #[]), .pure (.tuple #[]), .pure (.tuple #[]), .pure (.tuple #[])], [(6, { cells := [], opn := none, kind := .deep x4 x5 }), (5, { cells := [], opn := none, kind := .deep x1 x2 }), (4, { cells := [.pure (.int .i64 (0 : Int)), .pure (.slice none 0 0)], opn := none, kind := .cells }), (3, { cells := [.pure (.int .i64 x3), .dsl 6], opn := none, kind := .cells }), (2, { cells := [.pure (.int .i64 x0), .dsl 5], opn := none, kind := .cells }), (1, { cells := [], opn := none, kind := .deep kb cb }), (0, { cells := [], opn := none, kind := .deep ka ca })])
def w_gcd_L2_A : LoopAt := ⟨148, loopAt Try.prog 148 0, 7, 24, 2, noFrame⟩
theorem w_gcd_L2_ok : (w_gcd_L2_A).OK := ⟨by show 7 ≤ 24; decide, by show 2 ≤ 7; decide, by kernel_rfl, rfl⟩
def w_gcd_L2_gs (sa : Int) (ka : Nat) (ca : List D) (sb : Int) (kb : Nat) (cb : List D) (x0 : Int) (x1 : Nat) (x2 : List D) (x3 : Int) (x4 : Nat) (x5 : List D) : Go.Ev.Rd → Option GS
  | .next 0 ds => ghost [.cval 2 0, .cval 2 1, .cval 3 0, .cval 3 1] (5 :: (List.range' 10 12)) (w_gcd_L2_E sa ka ca sb kb cb x0 x1 x2 x3 x4 x5).1 (w_gcd_L2_E sa ka ca sb kb cb x0 x1 x2 x3 x4 x5).2 7 ds
  | .out 0 ds => ghost w_gcd_x2_0.live w_gcd_x2_0.junk (w_gcd_L2_E sa ka ca sb kb cb x0 x1 x2 x3 x4 x5).1 (w_gcd_L2_E sa ka ca sb kb cb x0 x1 x2 x3 x4 x5).2 7 ds
  | _ => none
def w_gcd_L2_ex : Nat → Option Nat
  | 0 => w_gcd_x2_0.ex
  | _ => none
def w_gcd_L2_ax : Go.Ev.Rd → AX
  | .next _ _ => .normal
  | .out j _ => axOf (w_gcd_L2_ex j)
def w_gcd_L2_S0 (sa : Int) (ka : Nat) (ca : List D) (sb : Int) (kb : Nat) (cb : List D) (x0 : Int) (x1 : Nat) (x2 : List D) (x3 : Int) (x4 : Nat) (x5 : List D) (ds : List D) : Option Go.Ev.Rd := pullD (α := Int × Nat × (List D) × Int × Nat × (List D)) (some (.tup ds)) (fun d => ((D.vi (D.at d 0)), (D.ln (D.at d 1)), (D.lc (D.at d 1)), (D.vi (D.at d 2)), (D.ln (D.at d 3)), (D.lc (D.at d 3)))) (fun (s2_0, s2_1n, s2_1c, s3_0, s3_1n, s3_1c) => .tup [.one (.int .i64 s2_0), .list s2_1n s2_1c, .one (.int .i64 s3_0), .list s3_1n s3_1c]) fun (s2_0, s2_1n, s2_1c, s3_0, s3_1n, s3_1c) => (pullD (α := Int) (m_146 [.agg [.one (.int .i64 s3_0), .list s3_1n s3_1c]]) (fun d => ((D.vi d))) (fun r0 => .one (.int .i64 r0)) fun r0 => ((if r0 ≠ (0 : Int) then pullD (α := Int × Nat × (List D)) (m_149 [.agg [.one (.int .i64 s2_0), .list s2_1n s2_1c], .agg [.one (.int .i64 s3_0), .list s3_1n s3_1c]]) (fun d => ((D.vi (D.at d 0)), (D.ln (D.at d 1)), (D.lc (D.at d 1)))) (fun (r1, k2, c3) => .agg [.one (.int .i64 r1), .list k2 c3]) fun (r1, k2, c3) => (pullD (α := Int × Nat × (List D)) (m_125 [.agg [.one (.int .i64 r1), .list k2 c3], .agg [.one (.int .i64 s3_0), .list s3_1n s3_1c]]) (fun d => ((D.vi (D.at d 0)), (D.ln (D.at d 1)), (D.lc (D.at d 1)))) (fun (r4, k5, c6) => .agg [.one (.int .i64 r4), .list k5 c6]) fun (r4, k5, c6) => (pullD (α := Int × Nat × (List D)) (m_150 [.agg [.one (.int .i64 s2_0), .list s2_1n s2_1c], .agg [.one (.int .i64 r4), .list k5 c6]]) (fun d => ((D.vi (D.at d 0)), (D.ln (D.at d 1)), (D.lc (D.at d 1)))) (fun (r7, k8, c9) => .agg [.one (.int .i64 r7), .list k8 c9]) fun (r7, k8, c9) => (some (.next 0 [.one (.int .i64 s3_0), .list s3_1n s3_1c, .one (.int .i64 r7), .list k8 c9])))) else some (.out 0 [.one (.int .i64 s2_0), .list s2_1n s2_1c, .one (.int .i64 s3_0), .list s3_1n s3_1c]))))
def w_gcd_L2_S (sa : Int) (ka : Nat) (ca : List D) (sb : Int) (kb : Nat) (cb : List D) (x0 : Int) (x1 : Nat) (x2 : List D) (x3 : Int) (x4 : Nat) (x5 : List D) : Go.Ev.Rd → Option Go.Ev.Rd
  | .next 0 ds => w_gcd_L2_S0 sa ka ca sb kb cb x0 x1 x2 x3 x4 x5 ds
  | _ => none
theorem w_gcd_L2_S_ok (sa : Int) (ka : Nat) (ca : List D) (sb : Int) (kb : Nat) (cb : List D) (x0 : Int) (x1 : Nat) (x2 : List D) (x3 : Int) (x4 : Nat) (x5 : List D) : ∀ s_ t_, w_gcd_L2_S sa ka ca sb kb cb x0 x1 x2 x3 x4 x5 s_ = some t_ → Step (ctx [148] w_gcd_sp) Tabs w_gcd_L2_A (stateOf (w_gcd_L2_gs sa ka ca sb kb cb x0 x1 x2 x3 x4 x5 s_)) (stateOf (w_gcd_L2_gs sa ka ca sb kb cb x0 x1 x2 x3 x4 x5 t_)) (w_gcd_L2_ax t_) ∧ EndOK w_gcd_L2_A.nx w_gcd_L2_A.low (w_gcd_L2_gs sa ka ca sb kb cb x0 x1 x2 x3 x4 x5) t_
  | .next 0 ds, t_, h => by
    have h_ : w_gcd_L2_S0 sa ka ca sb kb cb x0 x1 x2 x3 x4 x5 ds = some t_ := h
    clear h
    unfold w_gcd_L2_S0 at h_
    obtain ⟨⟨s2_0, s2_1n, s2_1c, s3_0, s3_1n, s3_1c⟩, e0, h0⟩ := pullD_elim h_
    clear h_
    obtain rfl := tup_inj e0
    obtain ⟨r0, f1_, h2_⟩ := pullD_elim h0
    replace f1_ := m_146_ok f1_
    by_cases b3_ : r0 ≠ (0 : Int)
    · have h4_ := (if_pos b3_).symm.trans h2_
      obtain ⟨⟨r1, k2, c3⟩, f5_, h6_⟩ := pullD_elim h4_
      replace f5_ := m_149_ok f5_
      obtain ⟨⟨r4, k5, c6⟩, f7_, h8_⟩ := pullD_elim h6_
      replace f7_ := m_125_ok f7_
      obtain ⟨⟨r7, k8, c9⟩, f9_, h10_⟩ := pullD_elim h8_
      replace f9_ := m_150_ok f9_
      obtain rfl := Option.some.inj h10_
      exact ⟨step_pc 3000 (bT 1 []) [.one (.int .i64 r0), .agg [.one (.int .i64 r1), .list k2 c3], .agg [.one (.int .i64 r4), .list k5 c6], .agg [.one (.int .i64 r7), .list k8 c9]] [c_b b3_] [k_c f1_, k_c f5_, k_c f7_, k_c f9_] _ rfl (by kernel_rfl) (by kernel_rfl) (by kernel_rfl) (by kernel_rfl) (by kernel_rfl) (by kernel_rfl), trivial⟩
    · have h4_ := (if_neg b3_).symm.trans h2_
      have b11_ : r0 = (0 : Int) := by first | exact b3_ | simpa using b3_
      obtain rfl := Option.some.inj h4_
      exact ⟨step_pc 3000 (bF 1 []) [.one (.int .i64 r0)] [c_bn b11_] [k_c f1_] _ rfl (by kernel_rfl) (by kernel_rfl) (by kernel_rfl) (by kernel_rfl) (by kernel_rfl) (by kernel_rfl), by kernel_rfl, by kernel_rfl⟩
  | .next (_ + 1) _, _, h => by cases h
  | .out _ _, _, h => by cases h
theorem w_gcd_L2_go (sa : Int) (ka : Nat) (ca : List D) (sb : Int) (kb : Nat) (cb : List D) (x0 : Int) (x1 : Nat) (x2 : List D) (x3 : Int) (x4 : Nat) (x5 : List D) {q : Nat} {ds : List D} {j : Nat} {es : List D} (h : runR (w_gcd_L2_S sa ka ca sb kb cb x0 x1 x2 x3 x4 x5) (.next q ds) = some (.out j es)) : Runs (ctx [148] w_gcd_sp) Tabs w_gcd_L2_A (stateOf (w_gcd_L2_gs sa ka ca sb kb cb x0 x1 x2 x3 x4 x5 (.next q ds))) (stateOf (w_gcd_L2_gs sa ka ca sb kb cb x0 x1 x2 x3 x4 x5 (.out j es))) (w_gcd_L2_ax (.out j es)) ∧ (nxtOf (w_gcd_L2_gs sa ka ca sb kb cb x0 x1 x2 x3 x4 x5 (.out j es)), lowGS (w_gcd_L2_gs sa ka ca sb kb cb x0 x1 x2 x3 x4 x5 (.out j es))) = (w_gcd_L2_A.nx, w_gcd_L2_A.low) :=
  runs_of' (good true _ _) w_gcd_L2_ok (ax := w_gcd_L2_ax) (fun _ _ => rfl) (fun _ _ => axOf_end _) (w_gcd_L2_S_ok sa ka ca sb kb cb x0 x1 x2 x3 x4 x5) h
theorem w_gcd_L2_in0 (sa : Int) (ka : Nat) (ca : List D) (sb : Int) (kb : Nat) (cb : List D) (x0 : Int) (x1 : Nat) (x2 : List D) (x3 : Int) (x4 : Nat) (x5 : List D) {es : List D} (h : runR (w_gcd_L2_S sa ka ca sb kb cb x0 x1 x2 x3 x4 x5) (.next 0 [.one (.int .i64 (x0)), .list (x1) (x2), .one (.int .i64 (x3)), .list (x4) (x5)]) = some (.out 0 es)) : LoopC (loopAt Try.prog 148 0) (w_gcd_L2_E sa ka ca sb kb cb x0 x1 x2 x3 x4 x5) 7 noFrame w_gcd_x2_0 es :=
  have r := w_gcd_L2_go sa ka ca sb kb cb x0 x1 x2 x3 x4 x5 h
  loopin_as rfl (loop_in (l := w_gcd_L2_A) (E := (w_gcd_L2_E sa ka ca sb kb cb x0 x1 x2 x3 x4 x5)) (S := stateOf (w_gcd_L2_gs sa ka ca sb kb cb x0 x1 x2 x3 x4 x5 (.next 0 [.one (.int .i64 (x0)), .list (x1) (x2), .one (.int .i64 (x3)), .list (x4) (x5)]))) (ns := nsOf (w_gcd_L2_gs sa ka ca sb kb cb x0 x1 x2 x3 x4 x5 (.next 0 [.one (.int .i64 (x0)), .list (x1) (x2), .one (.int .i64 (x3)), .list (x4) (x5)]))) w_gcd_L2_ok r.1 r.2 (by kernel_rfl) (by kernel_rfl) (by kernel_rfl) (by kernel_rfl))
def w_gcd_M (sa : Int) (ka : Nat) (ca : List D) (sb : Int) (kb : Nat) (cb : List D) : Option D := pullD (α := Int × Nat × (List D)) (m_156 [.agg [.one (.int .i64 sa), .list ka ca]]) (fun d => ((D.vi (D.at d 0)), (D.ln (D.at d 1)), (D.lc (D.at d 1)))) (fun (r0, k1, c2) => .agg [.one (.int .i64 r0), .list k1 c2]) fun (r0, k1, c2) => (pullD (α := Int × Nat × (List D)) (m_156 [.agg [.one (.int .i64 sb), .list kb cb]]) (fun d => ((D.vi (D.at d 0)), (D.ln (D.at d 1)), (D.lc (D.at d 1)))) (fun (r3, k4, c5) => .agg [.one (.int .i64 r3), .list k4 c5]) fun (r3, k4, c5) => (bindL (runR (w_gcd_L2_S sa ka ca sb kb cb r0 k1 c2 r3 k4 c5) (.next 0 [.one (.int .i64 (r0)), .list (k1) (c2), .one (.int .i64 (r3)), .list (k4) (c5)])) fun j ds => (if j = 0 then pullD (α := Int × Nat × (List D) × Int × Nat × (List D)) (some (.tup ds)) (fun d => ((D.vi (D.at d 0)), (D.ln (D.at d 1)), (D.lc (D.at d 1)), (D.vi (D.at d 2)), (D.ln (D.at d 3)), (D.lc (D.at d 3)))) (fun (l6, k7, c8, l9, k10, c11) => .tup [.one (.int .i64 l6), .list k7 c8, .one (.int .i64 l9), .list k10 c11]) fun (l6, k7, c8, l9, k10, c11) => (some (.agg [.one (.int .i64 l6), .list k7 c8])) else none)))
theorem w_gcd_M_ok (sa : Int) (ka : Nat) (ca : List D) (sb : Int) (kb : Nat) (cb : List D) {r : D} (h : w_gcd_M sa ka ca sb kb cb = some r) : Con 148 [.agg [.one (.int .i64 sa), .list ka ca], .agg [.one (.int .i64 sb), .list kb cb]] r := by
  unfold w_gcd_M at h
  obtain ⟨⟨r0, k1, c2⟩, f1_, h2_⟩ := pullD_elim h
  replace f1_ := m_156_ok f1_
  obtain ⟨⟨r3, k4, c5⟩, f3_, h4_⟩ := pullD_elim h2_
  replace f3_ := m_156_ok f3_
  obtain ⟨j, ds, e5_, h6_⟩ := bindL_elim h4_
  by_cases j7_ : j = 0
  · have h10_ := (if_pos j7_).symm.trans h6_
    clear h6_
    subst j7_
    obtain ⟨⟨l6, k7, c8, l9, k10, c11⟩, e8_, h11_⟩ := pullD_elim h10_
    clear h10_
    obtain rfl := tup_inj e8_
    have k9_ := w_gcd_L2_in0 sa ka ca sb kb cb r0 k1 c2 r3 k4 c5 e5_
    obtain rfl := Option.some.inj h11_
    exact con_pc (op := true) (I := [148]) (sp := w_gcd_sp) 3000 [] [.agg [.one (.int .i64 r0), .list k1 c2], .agg [.one (.int .i64 r3), .list k4 c5], .tup [.one (.int .i64 (Int.ofNat 0)), .one (.int .i64 l6), .list k7 c8, .one (.int .i64 l9), .list k10 c11]] [] [k_c f1_, k_c f3_, k_l k9_ [] [.tup [.one (.int .i64 (Int.ofNat 0)), .one (.int .i64 l6), .list k7 c8, .one (.int .i64 l9), .list k10 c11]] []] (by kernel_rfl)
  have h12_ := (if_neg j7_).symm.trans h6_
  clear h6_
  cases h12_
def m_148 (ds : List D) : Option D := pullD (α := Int × Nat × (List D) × Int × Nat × (List D)) (some (.tup ds)) (fun d => ((D.vi (D.at (D.at d 0) 0)), (D.ln (D.at (D.at d 0) 1)), (D.lc (D.at (D.at d 0) 1)), (D.vi (D.at (D.at d 1) 0)), (D.ln (D.at (D.at d 1) 1)), (D.lc (D.at (D.at d 1) 1)))) (fun (sa, ka, ca, sb, kb, cb) => .tup [.agg [.one (.int .i64 sa), .list ka ca], .agg [.one (.int .i64 sb), .list kb cb]]) fun (sa, ka, ca, sb, kb, cb) => w_gcd_M sa ka ca sb kb cb
theorem m_148_ok {ds : List D} {r : D} (h : m_148 ds = some r) : Con 148 ds r := by
  unfold m_148 at h
  obtain ⟨⟨sa, ka, ca, sb, kb, cb⟩, e0, h0⟩ := pullD_elim h
  obtain rfl := tup_inj e0
  exact w_gcd_M_ok sa ka ca sb kb cb h0
theorem m_148_eq (sa : Int) (ka : Nat) (ca : List D) (sb : Int) (kb : Nat) (cb : List D) : m_148 [.agg [.one (.int .i64 sa), .list ka ca], .agg [.one (.int .i64 sb), .list kb cb]] = w_gcd_M sa ka ca sb kb cb := pullD_some (sa, ka, ca, sb, kb, cb) rfl rfl
def w_make_sp : List LSpec := []
def w_make_M (sa : Int) (ka : Nat) (ca : List D) (sb : Int) (kb : Nat) (cb : List D) : Option D := pullD (α := Int) (m_146 [.agg [.one (.int .i64 sb), .list kb cb]]) (fun d => ((D.vi d))) (fun r0 => .one (.int .i64 r0)) fun r0 => ((if r0 < (0 : Int) then pullD (α := Int × Nat × (List D)) (m_147 [.agg [.one (.int .i64 sa), .list ka ca]]) (fun d => ((D.vi (D.at d 0)), (D.ln (D.at d 1)), (D.lc (D.at d 1)))) (fun (r1, k2, c3) => .agg [.one (.int .i64 r1), .list k2 c3]) fun (r1, k2, c3) => (pullD (α := Int × Nat × (List D)) (m_147 [.agg [.one (.int .i64 sb), .list kb cb]]) (fun d => ((D.vi (D.at d 0)), (D.ln (D.at d 1)), (D.lc (D.at d 1)))) (fun (r4, k5, c6) => .agg [.one (.int .i64 r4), .list k5 c6]) fun (r4, k5, c6) => (pullD (α := Int × Nat × (List D)) (m_148 [.agg [.one (.int .i64 r1), .list k2 c3], .agg [.one (.int .i64 r4), .list k5 c6]]) (fun d => ((D.vi (D.at d 0)), (D.ln (D.at d 1)), (D.lc (D.at d 1)))) (fun (r7, k8, c9) => .agg [.one (.int .i64 r7), .list k8 c9]) fun (r7, k8, c9) => (pullD (α := Int × Nat × (List D)) (m_121 [.one (.int .i64 (1 : Int))]) (fun d => ((D.vi (D.at d 0)), (D.ln (D.at d 1)), (D.lc (D.at d 1)))) (fun (r10, k11, c12) => .agg [.one (.int .i64 r10), .list k11 c12]) fun (r10, k11, c12) => (pullD (α := Int) (m_126 [.agg [.one (.int .i64 r7), .list k8 c9], .agg [.one (.int .i64 r10), .list k11 c12]]) (fun d => ((D.vi d))) (fun r13 => .one (.int .i64 r13)) fun r13 => ((if r13 = (0 : Int) then some (.agg [.one (.int .i64 r1), .list k2 c3, .one (.int .i64 r4), .list k5 c6]) else pullD (α := Int × Nat × (List D)) (m_149 [.agg [.one (.int .i64 r1), .list k2 c3], .agg [.one (.int .i64 r7), .list k8 c9]]) (fun d => ((D.vi (D.at d 0)), (D.ln (D.at d 1)), (D.lc (D.at d 1)))) (fun (r14, k15, c16) => .agg [.one (.int .i64 r14), .list k15 c16]) fun (r14, k15, c16) => (pullD (α := Int × Nat × (List D)) (m_149 [.agg [.one (.int .i64 r4), .list k5 c6], .agg [.one (.int .i64 r7), .list k8 c9]]) (fun d => ((D.vi (D.at d 0)), (D.ln (D.at d 1)), (D.lc (D.at d 1)))) (fun (r17, k18, c19) => .agg [.one (.int .i64 r17), .list k18 c19]) fun (r17, k18, c19) => (some (.agg [.one (.int .i64 r14), .list k15 c16, .one (.int .i64 r17), .list k18 c19]))))))))) else pullD (α := Int × Nat × (List D)) (m_148 [.agg [.one (.int .i64 sa), .list ka ca], .agg [.one (.int .i64 sb), .list kb cb]]) (fun d => ((D.vi (D.at d 0)), (D.ln (D.at d 1)), (D.lc (D.at d 1)))) (fun (r20, k21, c22) => .agg [.one (.int .i64 r20), .list k21 c22]) fun (r20, k21, c22) => (pullD (α := Int × Nat × (List D)) (m_121 [.one (.int .i64 (1 : Int))]) (fun d => ((D.vi (D.at d 0)), (D.ln (D.at d 1)), (D.lc (D.at d 1)))) (fun (r23, k24, c25) => .agg [.one (.int .i64 r23), .list k24 c25]) fun (r23, k24, c25) => (pullD (α := Int) (m_126 [.agg [.one (.int .i64 r20), .list k21 c22], .agg [.one (.int .i64 r23), .list k24 c25]]) (fun d => ((D.vi d))) (fun r26 => .one (.int .i64 r26)) fun r26 => ((if r26 = (0 : Int) then some (.agg [.one (.int .i64 sa), .list ka ca, .one (.int .i64 sb), .list kb cb]) else pullD (α := Int × Nat × (List D)) (m_149 [.agg [.one (.int .i64 sa), .list ka ca], .agg [.one (.int .i64 r20), .list k21 c22]]) (fun d => ((D.vi (D.at d 0)), (D.ln (D.at d 1)), (D.lc (D.at d 1)))) (fun (r27, k28, c29) => .agg [.one (.int .i64 r27), .list k28 c29]) fun (r27, k28, c29) => (pullD (α := Int × Nat × (List D)) (m_149 [.agg [.one (.int .i64 sb), .list kb cb], .agg [.one (.int .i64 r20), .list k21 c22]]) (fun d => ((D.vi (D.at d 0)), (D.ln (D.at d 1)), (D.lc (D.at d 1)))) (fun (r30, k31, c32) => .agg [.one (.int .i64 r30), .list k31 c32]) fun (r30, k31, c32) => (some (.agg [.one (.int .i64 r27), .list k28 c29, .one (.int .i64 r30), .list k31 c32])))))))))
theorem w_make_M_ok (sa : Int) (ka : Nat) (ca : List D) (sb : Int) (kb : Nat) (cb : List D) {r : D} (h : w_make_M sa ka ca sb kb cb = some r) : Con 124 [.agg [.one (.int .i64 sa), .list ka ca], .agg [.one (.int .i64 sb), .list kb cb]] r := by
  unfold w_make_M at h
  obtain ⟨r0, f1_, h2_⟩ := pullD_elim h
  replace f1_ := m_146_ok f1_
  by_cases b3_ : r0 < (0 : Int)
  · have h4_ := (if_pos b3_).symm.trans h2_
    obtain ⟨⟨r1, k2, c3⟩, f5_, h6_⟩ := pullD_elim h4_
    replace f5_ := m_147_ok f5_
    obtain ⟨⟨r4, k5, c6⟩, f7_, h8_⟩ := pullD_elim h6_
    replace f7_ := m_147_ok f7_
    obtain ⟨⟨r7, k8, c9⟩, f9_, h10_⟩ := pullD_elim h8_
    replace f9_ := m_148_ok f9_
    obtain ⟨⟨r10, k11, c12⟩, f11_, h12_⟩ := pullD_elim h10_
    replace f11_ := m_121_ok f11_
    obtain ⟨r13, f13_, h14_⟩ := pullD_elim h12_
    replace f13_ := m_126_ok f13_
    by_cases b15_ : r13 = (0 : Int)
    · have h16_ := (if_pos b15_).symm.trans h14_
      obtain rfl := Option.some.inj h16_
      exact con_pc (op := true) (I := [124]) (sp := w_make_sp) 3000 (bT 2 []) [.one (.int .i64 r0), .agg [.one (.int .i64 r1), .list k2 c3], .agg [.one (.int .i64 r4), .list k5 c6], .agg [.one (.int .i64 r7), .list k8 c9], .agg [.one (.int .i64 r10), .list k11 c12], .one (.int .i64 r13)] [c_d b3_, c_e b15_] [k_c f1_, k_c f5_, k_c f7_, k_c f9_, k_c f11_, k_c f13_] (by kernel_rfl)
    · have h16_ := (if_neg b15_).symm.trans h14_
      have b17_ : r13 ≠ (0 : Int) := by first | exact b15_ | simpa using b15_
      obtain ⟨⟨r14, k15, c16⟩, f18_, h19_⟩ := pullD_elim h16_
      replace f18_ := m_149_ok f18_
      obtain ⟨⟨r17, k18, c19⟩, f20_, h21_⟩ := pullD_elim h19_
      replace f20_ := m_149_ok f20_
      obtain rfl := Option.some.inj h21_
      exact con_pc (op := true) (I := [124]) (sp := w_make_sp) 3000 (bT 1 (bF 1 [])) [.one (.int .i64 r0), .agg [.one (.int .i64 r1), .list k2 c3], .agg [.one (.int .i64 r4), .list k5 c6], .agg [.one (.int .i64 r7), .list k8 c9], .agg [.one (.int .i64 r10), .list k11 c12], .one (.int .i64 r13), .agg [.one (.int .i64 r14), .list k15 c16], .agg [.one (.int .i64 r17), .list k18 c19]] [c_d b3_, c_en b17_] [k_c f1_, k_c f5_, k_c f7_, k_c f9_, k_c f11_, k_c f13_, k_c f18_, k_c f20_] (by kernel_rfl)
  · have h4_ := (if_neg b3_).symm.trans h2_
    obtain ⟨⟨r20, k21, c22⟩, f22_, h23_⟩ := pullD_elim h4_
    replace f22_ := m_148_ok f22_
    obtain ⟨⟨r23, k24, c25⟩, f24_, h25_⟩ := pullD_elim h23_
    replace f24_ := m_121_ok f24_
    obtain ⟨r26, f26_, h27_⟩ := pullD_elim h25_
    replace f26_ := m_126_ok f26_
    by_cases b28_ : r26 = (0 : Int)
    · have h29_ := (if_pos b28_).symm.trans h27_
      obtain rfl := Option.some.inj h29_
      exact con_pc (op := true) (I := [124]) (sp := w_make_sp) 3000 (bF 1 (bT 1 [])) [.one (.int .i64 r0), .agg [.one (.int .i64 r20), .list k21 c22], .agg [.one (.int .i64 r23), .list k24 c25], .one (.int .i64 r26)] [c_n b3_, c_e b28_] [k_c f1_, k_c f22_, k_c f24_, k_c f26_] (by kernel_rfl)
    · have h29_ := (if_neg b28_).symm.trans h27_
      have b30_ : r26 ≠ (0 : Int) := by first | exact b28_ | simpa using b28_
      obtain ⟨⟨r27, k28, c29⟩, f31_, h32_⟩ := pullD_elim h29_
      replace f31_ := m_149_ok f31_
      obtain ⟨⟨r30, k31, c32⟩, f33_, h34_⟩ := pullD_elim h32_
      replace f33_ := m_149_ok f33_
      obtain rfl := Option.some.inj h34_
      exact con_pc (op := true) (I := [124]) (sp := w_make_sp) 3000 (bF 2 []) [.one (.int .i64 r0), .agg [.one (.int .i64 r20), .list k21 c22], .agg [.one (.int .i64 r23), .list k24 c25], .one (.int .i64 r26), .agg [.one (.int .i64 r27), .list k28 c29], .agg [.one (.int .i64 r30), .list k31 c32]] [c_n b3_, c_en b30_] [k_c f1_, k_c f22_, k_c f24_, k_c f26_, k_c f31_, k_c f33_] (by kernel_rfl)
def m_124 (ds : List D) : Option D := pullD (α := Int × Nat × (List D) × Int × Nat × (List D)) (some (.tup ds)) (fun d => ((D.vi (D.at (D.at d 0) 0)), (D.ln (D.at (D.at d 0) 1)), (D.lc (D.at (D.at d 0) 1)), (D.vi (D.at (D.at d 1) 0)), (D.ln (D.at (D.at d 1) 1)), (D.lc (D.at (D.at d 1) 1)))) (fun (sa, ka, ca, sb, kb, cb) => .tup [.agg [.one (.int .i64 sa), .list ka ca], .agg [.one (.int .i64 sb), .list kb cb]]) fun (sa, ka, ca, sb, kb, cb) => w_make_M sa ka ca sb kb cb
theorem m_124_ok {ds : List D} {r : D} (h : m_124 ds = some r) : Con 124 ds r := by
  unfold m_124 at h
  obtain ⟨⟨sa, ka, ca, sb, kb, cb⟩, e0, h0⟩ := pullD_elim h
  obtain rfl := tup_inj e0
  exact w_make_M_ok sa ka ca sb kb cb h0
theorem m_124_eq (sa : Int) (ka : Nat) (ca : List D) (sb : Int) (kb : Nat) (cb : List D) : m_124 [.agg [.one (.int .i64 sa), .list ka ca], .agg [.one (.int .i64 sb), .list kb cb]] = w_make_M sa ka ca sb kb cb := pullD_some (sa, ka, ca, sb, kb, cb) rfl rfl
def w_rOf_sp : List LSpec := []
def w_rOf_M (n d : Int) : Option D := pullD (α := Int × Nat × (List D)) (m_121 [.one (.int .i64 n)]) (fun d => ((D.vi (D.at d 0)), (D.ln (D.at d 1)), (D.lc (D.at d 1)))) (fun (r0, k1, c2) => .agg [.one (.int .i64 r0), .list k1 c2]) fun (r0, k1, c2) => (pullD (α := Int × Nat × (List D)) (m_121 [.one (.int .i64 d)]) (fun d => ((D.vi (D.at d 0)), (D.ln (D.at d 1)), (D.lc (D.at d 1)))) (fun (r3, k4, c5) => .agg [.one (.int .i64 r3), .list k4 c5]) fun (r3, k4, c5) => (pullD (α := Int × Nat × (List D) × Int × Nat × (List D)) (m_124 [.agg [.one (.int .i64 r0), .list k1 c2], .agg [.one (.int .i64 r3), .list k4 c5]]) (fun d => ((D.vi (D.at d 0)), (D.ln (D.at d 1)), (D.lc (D.at d 1)), (D.vi (D.at d 2)), (D.ln (D.at d 3)), (D.lc (D.at d 3)))) (fun (r6, k7, c8, r9, k10, c11) => .agg [.one (.int .i64 r6), .list k7 c8, .one (.int .i64 r9), .list k10 c11]) fun (r6, k7, c8, r9, k10, c11) => (some (.agg [.one (.int .i64 r6), .list k7 c8, .one (.int .i64 r9), .list k10 c11]))))
theorem w_rOf_M_ok (n d : Int) {r : D} (h : w_rOf_M n d = some r) : Con 123 [.one (.int .i64 n), .one (.int .i64 d)] r := by
  unfold w_rOf_M at h
  obtain ⟨⟨r0, k1, c2⟩, f1_, h2_⟩ := pullD_elim h
  replace f1_ := m_121_ok f1_
  obtain ⟨⟨r3, k4, c5⟩, f3_, h4_⟩ := pullD_elim h2_
  replace f3_ := m_121_ok f3_
  obtain ⟨⟨r6, k7, c8, r9, k10, c11⟩, f5_, h6_⟩ := pullD_elim h4_
  replace f5_ := m_124_ok f5_
  obtain rfl := Option.some.inj h6_
  exact con_pc (op := true) (I := [123]) (sp := w_rOf_sp) 3000 [] [.agg [.one (.int .i64 r0), .list k1 c2], .agg [.one (.int .i64 r3), .list k4 c5], .agg [.one (.int .i64 r6), .list k7 c8, .one (.int .i64 r9), .list k10 c11]] [] [k_c f1_, k_c f3_, k_c f5_] (by kernel_rfl)
def m_123 (ds : List D) : Option D := pullD (α := Int × Int) (some (.tup ds)) (fun d => ((D.vi (D.at d 0)), (D.vi (D.at d 1)))) (fun (n, d) => .tup [.one (.int .i64 n), .one (.int .i64 d)]) fun (n, d) => w_rOf_M n d
theorem m_123_ok {ds : List D} {r : D} (h : m_123 ds = some r) : Con 123 ds r := by
  unfold m_123 at h
  obtain ⟨⟨n, d⟩, e0, h0⟩ := pullD_elim h
  obtain rfl := tup_inj e0
  exact w_rOf_M_ok n d h0
theorem m_123_eq (n d : Int) : m_123 [.one (.int .i64 n), .one (.int .i64 d)] = w_rOf_M n d := pullD_some (n, d) rfl rfl
def w_rInt_sp : List LSpec := []
def w_rInt_M (n : Int) : Option D := pullD (α := Int × Nat × (List D)) (m_121 [.one (.int .i64 n)]) (fun d => ((D.vi (D.at d 0)), (D.ln (D.at d 1)), (D.lc (D.at d 1)))) (fun (r0, k1, c2) => .agg [.one (.int .i64 r0), .list k1 c2]) fun (r0, k1, c2) => (pullD (α := Int × Nat × (List D)) (m_121 [.one (.int .i64 (1 : Int))]) (fun d => ((D.vi (D.at d 0)), (D.ln (D.at d 1)), (D.lc (D.at d 1)))) (fun (r3, k4, c5) => .agg [.one (.int .i64 r3), .list k4 c5]) fun (r3, k4, c5) => (some (.agg [.one (.int .i64 r0), .list k1 c2, .one (.int .i64 r3), .list k4 c5])))
theorem w_rInt_M_ok (n : Int) {r : D} (h : w_rInt_M n = some r) : Con 67 [.one (.int .i64 n)] r := by
  unfold w_rInt_M at h
  obtain ⟨⟨r0, k1, c2⟩, f1_, h2_⟩ := pullD_elim h
  replace f1_ := m_121_ok f1_
  obtain ⟨⟨r3, k4, c5⟩, f3_, h4_⟩ := pullD_elim h2_
  replace f3_ := m_121_ok f3_
  obtain rfl := Option.some.inj h4_
  exact con_pc (op := true) (I := [67]) (sp := w_rInt_sp) 3000 [] [.agg [.one (.int .i64 r0), .list k1 c2], .agg [.one (.int .i64 r3), .list k4 c5]] [] [k_c f1_, k_c f3_] (by kernel_rfl)
def m_67 (ds : List D) : Option D := pullD (α := Int) (some (.tup ds)) (fun d => ((D.vi (D.at d 0)))) (fun n => .tup [.one (.int .i64 n)]) fun n => w_rInt_M n
theorem m_67_ok {ds : List D} {r : D} (h : m_67 ds = some r) : Con 67 ds r := by
  unfold m_67 at h
  obtain ⟨n, e0, h0⟩ := pullD_elim h
  obtain rfl := tup_inj e0
  exact w_rInt_M_ok n h0
theorem m_67_eq (n : Int) : m_67 [.one (.int .i64 n)] = w_rInt_M n := pullD_some n rfl rfl
def w_rFrom_sp : List LSpec := []
def w_rFrom_M (n d : Int) : Option D := pullD (α := Int × Nat × (List D) × Int × Nat × (List D)) (m_123 [.one (.int .i64 n), .one (.int .i64 d)]) (fun d => ((D.vi (D.at d 0)), (D.ln (D.at d 1)), (D.lc (D.at d 1)), (D.vi (D.at d 2)), (D.ln (D.at d 3)), (D.lc (D.at d 3)))) (fun (r0, k1, c2, r3, k4, c5) => .agg [.one (.int .i64 r0), .list k1 c2, .one (.int .i64 r3), .list k4 c5]) fun (r0, k1, c2, r3, k4, c5) => (some (.agg [.one (.int .i64 r0), .list k1 c2, .one (.int .i64 r3), .list k4 c5]))
theorem w_rFrom_M_ok (n d : Int) {r : D} (h : w_rFrom_M n d = some r) : Con 69 [.agg [.one (.int .i64 n), .one (.int .i64 d)]] r := by
  unfold w_rFrom_M at h
  obtain ⟨⟨r0, k1, c2, r3, k4, c5⟩, f1_, h2_⟩ := pullD_elim h
  replace f1_ := m_123_ok f1_
  obtain rfl := Option.some.inj h2_
  exact con_pc (op := true) (I := [69]) (sp := w_rFrom_sp) 3000 [] [.agg [.one (.int .i64 r0), .list k1 c2, .one (.int .i64 r3), .list k4 c5]] [] [k_c f1_] (by kernel_rfl)
def m_69 (ds : List D) : Option D := pullD (α := Int × Int) (some (.tup ds)) (fun d => ((D.vi (D.at (D.at d 0) 0)), (D.vi (D.at (D.at d 0) 1)))) (fun (n, d) => .tup [.agg [.one (.int .i64 n), .one (.int .i64 d)]]) fun (n, d) => w_rFrom_M n d
theorem m_69_ok {ds : List D} {r : D} (h : m_69 ds = some r) : Con 69 ds r := by
  unfold m_69 at h
  obtain ⟨⟨n, d⟩, e0, h0⟩ := pullD_elim h
  obtain rfl := tup_inj e0
  exact w_rFrom_M_ok n d h0
theorem m_69_eq (n d : Int) : m_69 [.agg [.one (.int .i64 n), .one (.int .i64 d)]] = w_rFrom_M n d := pullD_some (n, d) rfl rfl
def w_rCmp_sp : List LSpec := []
def w_rCmp_M (sa : Int) (ka : Nat) (ca : List D) (sb : Int) (kb : Nat) (cb : List D) (sc : Int) (kc : Nat) (cc : List D) (sd : Int) (kd : Nat) (cd : List D) : Option D := pullD (α := Int × Nat × (List D)) (m_125 [.agg [.one (.int .i64 sa), .list ka ca], .agg [.one (.int .i64 sd), .list kd cd]]) (fun d => ((D.vi (D.at d 0)), (D.ln (D.at d 1)), (D.lc (D.at d 1)))) (fun (r0, k1, c2) => .agg [.one (.int .i64 r0), .list k1 c2]) fun (r0, k1, c2) => (pullD (α := Int × Nat × (List D)) (m_125 [.agg [.one (.int .i64 sc), .list kc cc], .agg [.one (.int .i64 sb), .list kb cb]]) (fun d => ((D.vi (D.at d 0)), (D.ln (D.at d 1)), (D.lc (D.at d 1)))) (fun (r3, k4, c5) => .agg [.one (.int .i64 r3), .list k4 c5]) fun (r3, k4, c5) => (pullD (α := Int) (m_126 [.agg [.one (.int .i64 r0), .list k1 c2], .agg [.one (.int .i64 r3), .list k4 c5]]) (fun d => ((D.vi d))) (fun r6 => .one (.int .i64 r6)) fun r6 => (some (.one (.int .i64 r6)))))
theorem w_rCmp_M_ok (sa : Int) (ka : Nat) (ca : List D) (sb : Int) (kb : Nat) (cb : List D) (sc : Int) (kc : Nat) (cc : List D) (sd : Int) (kd : Nat) (cd : List D) {r : D} (h : w_rCmp_M sa ka ca sb kb cb sc kc cc sd kd cd = some r) : Con 71 [.agg [.one (.int .i64 sa), .list ka ca, .one (.int .i64 sb), .list kb cb], .agg [.one (.int .i64 sc), .list kc cc, .one (.int .i64 sd), .list kd cd]] r := by
  unfold w_rCmp_M at h
  obtain ⟨⟨r0, k1, c2⟩, f1_, h2_⟩ := pullD_elim h
  replace f1_ := m_125_ok f1_
  obtain ⟨⟨r3, k4, c5⟩, f3_, h4_⟩ := pullD_elim h2_
  replace f3_ := m_125_ok f3_
  obtain ⟨r6, f5_, h6_⟩ := pullD_elim h4_
  replace f5_ := m_126_ok f5_
  obtain rfl := Option.some.inj h6_
  exact con_pc (op := true) (I := [71]) (sp := w_rCmp_sp) 3000 [] [.agg [.one (.int .i64 r0), .list k1 c2], .agg [.one (.int .i64 r3), .list k4 c5], .one (.int .i64 r6)] [] [k_c f1_, k_c f3_, k_c f5_] (by kernel_rfl)
def m_71 (ds : List D) : Option D := pullD (α := Int × Nat × (List D) × Int × Nat × (List D) × Int × Nat × (List D) × Int × Nat × (List D)) (some (.tup ds)) (fun d => ((D.vi (D.at (D.at d 0) 0)), (D.ln (D.at (D.at d 0) 1)), (D.lc (D.at (D.at d 0) 1)), (D.vi (D.at (D.at d 0) 2)), (D.ln (D.at (D.at d 0) 3)), (D.lc (D.at (D.at d 0) 3)), (D.vi (D.at (D.at d 1) 0)), (D.ln (D.at (D.at d 1) 1)), (D.lc (D.at (D.at d 1) 1)), (D.vi (D.at (D.at d 1) 2)), (D.ln (D.at (D.at d 1) 3)), (D.lc (D.at (D.at d 1) 3)))) (fun (sa, ka, ca, sb, kb, cb, sc, kc, cc, sd, kd, cd) => .tup [.agg [.one (.int .i64 sa), .list ka ca, .one (.int .i64 sb), .list kb cb], .agg [.one (.int .i64 sc), .list kc cc, .one (.int .i64 sd), .list kd cd]]) fun (sa, ka, ca, sb, kb, cb, sc, kc, cc, sd, kd, cd) => w_rCmp_M sa ka ca sb kb cb sc kc cc sd kd cd
theorem m_71_ok {ds : List D} {r : D} (h : m_71 ds = some r) : Con 71 ds r := by
  unfold m_71 at h
  obtain ⟨⟨sa, ka, ca, sb, kb, cb, sc, kc, cc, sd, kd, cd⟩, e0, h0⟩ := pullD_elim h
  obtain rfl := tup_inj e0
  exact w_rCmp_M_ok sa ka ca sb kb cb sc kc cc sd kd cd h0
theorem m_71_eq (sa : Int) (ka : Nat) (ca : List D) (sb : Int) (kb : Nat) (cb : List D) (sc : Int) (kc : Nat) (cc : List D) (sd : Int) (kd : Nat) (cd : List D) : m_71 [.agg [.one (.int .i64 sa), .list ka ca, .one (.int .i64 sb), .list kb cb], .agg [.one (.int .i64 sc), .list kc cc, .one (.int .i64 sd), .list kd cd]] = w_rCmp_M sa ka ca sb kb cb sc kc cc sd kd cd := pullD_some (sa, ka, ca, sb, kb, cb, sc, kc, cc, sd, kd, cd) rfl rfl
def w_rMul_sp : List LSpec := []
def w_rMul_M (sa : Int) (ka : Nat) (ca : List D) (sb : Int) (kb : Nat) (cb : List D) (sc : Int) (kc : Nat) (cc : List D) (sd : Int) (kd : Nat) (cd : List D) : Option D := pullD (α := Int × Nat × (List D)) (m_125 [.agg [.one (.int .i64 sa), .list ka ca], .agg [.one (.int .i64 sc), .list kc cc]]) (fun d => ((D.vi (D.at d 0)), (D.ln (D.at d 1)), (D.lc (D.at d 1)))) (fun (r0, k1, c2) => .agg [.one (.int .i64 r0), .list k1 c2]) fun (r0, k1, c2) => (pullD (α := Int × Nat × (List D)) (m_125 [.agg [.one (.int .i64 sb), .list kb cb], .agg [.one (.int .i64 sd), .list kd cd]]) (fun d => ((D.vi (D.at d 0)), (D.ln (D.at d 1)), (D.lc (D.at d 1)))) (fun (r3, k4, c5) => .agg [.one (.int .i64 r3), .list k4 c5]) fun (r3, k4, c5) => (pullD (α := Int × Nat × (List D) × Int × Nat × (List D)) (m_124 [.agg [.one (.int .i64 r0), .list k1 c2], .agg [.one (.int .i64 r3), .list k4 c5]]) (fun d => ((D.vi (D.at d 0)), (D.ln (D.at d 1)), (D.lc (D.at d 1)), (D.vi (D.at d 2)), (D.ln (D.at d 3)), (D.lc (D.at d 3)))) (fun (r6, k7, c8, r9, k10, c11) => .agg [.one (.int .i64 r6), .list k7 c8, .one (.int .i64 r9), .list k10 c11]) fun (r6, k7, c8, r9, k10, c11) => (some (.agg [.one (.int .i64 r6), .list k7 c8, .one (.int .i64 r9), .list k10 c11]))))
theorem w_rMul_M_ok (sa : Int) (ka : Nat) (ca : List D) (sb : Int) (kb : Nat) (cb : List D) (sc : Int) (kc : Nat) (cc : List D) (sd : Int) (kd : Nat) (cd : List D) {r : D} (h : w_rMul_M sa ka ca sb kb cb sc kc cc sd kd cd = some r) : Con 70 [.agg [.one (.int .i64 sa), .list ka ca, .one (.int .i64 sb), .list kb cb], .agg [.one (.int .i64 sc), .list kc cc, .one (.int .i64 sd), .list kd cd]] r := by
  unfold w_rMul_M at h
  obtain ⟨⟨r0, k1, c2⟩, f1_, h2_⟩ := pullD_elim h
  replace f1_ := m_125_ok f1_
  obtain ⟨⟨r3, k4, c5⟩, f3_, h4_⟩ := pullD_elim h2_
  replace f3_ := m_125_ok f3_
  obtain ⟨⟨r6, k7, c8, r9, k10, c11⟩, f5_, h6_⟩ := pullD_elim h4_
  replace f5_ := m_124_ok f5_
  obtain rfl := Option.some.inj h6_
  exact con_pc (op := true) (I := [70]) (sp := w_rMul_sp) 3000 [] [.agg [.one (.int .i64 r0), .list k1 c2], .agg [.one (.int .i64 r3), .list k4 c5], .agg [.one (.int .i64 r6), .list k7 c8, .one (.int .i64 r9), .list k10 c11]] [] [k_c f1_, k_c f3_, k_c f5_] (by kernel_rfl)
def m_70 (ds : List D) : Option D := pullD (α := Int × Nat × (List D) × Int × Nat × (List D) × Int × Nat × (List D) × Int × Nat × (List D)) (some (.tup ds)) (fun d => ((D.vi (D.at (D.at d 0) 0)), (D.ln (D.at (D.at d 0) 1)), (D.lc (D.at (D.at d 0) 1)), (D.vi (D.at (D.at d 0) 2)), (D.ln (D.at (D.at d 0) 3)), (D.lc (D.at (D.at d 0) 3)), (D.vi (D.at (D.at d 1) 0)), (D.ln (D.at (D.at d 1) 1)), (D.lc (D.at (D.at d 1) 1)), (D.vi (D.at (D.at d 1) 2)), (D.ln (D.at (D.at d 1) 3)), (D.lc (D.at (D.at d 1) 3)))) (fun (sa, ka, ca, sb, kb, cb, sc, kc, cc, sd, kd, cd) => .tup [.agg [.one (.int .i64 sa), .list ka ca, .one (.int .i64 sb), .list kb cb], .agg [.one (.int .i64 sc), .list kc cc, .one (.int .i64 sd), .list kd cd]]) fun (sa, ka, ca, sb, kb, cb, sc, kc, cc, sd, kd, cd) => w_rMul_M sa ka ca sb kb cb sc kc cc sd kd cd
theorem m_70_ok {ds : List D} {r : D} (h : m_70 ds = some r) : Con 70 ds r := by
  unfold m_70 at h
  obtain ⟨⟨sa, ka, ca, sb, kb, cb, sc, kc, cc, sd, kd, cd⟩, e0, h0⟩ := pullD_elim h
  obtain rfl := tup_inj e0
  exact w_rMul_M_ok sa ka ca sb kb cb sc kc cc sd kd cd h0
theorem m_70_eq (sa : Int) (ka : Nat) (ca : List D) (sb : Int) (kb : Nat) (cb : List D) (sc : Int) (kc : Nat) (cc : List D) (sd : Int) (kd : Nat) (cd : List D) : m_70 [.agg [.one (.int .i64 sa), .list ka ca, .one (.int .i64 sb), .list kb cb], .agg [.one (.int .i64 sc), .list kc cc, .one (.int .i64 sd), .list kd cd]] = w_rMul_M sa ka ca sb kb cb sc kc cc sd kd cd := pullD_some (sa, ka, ca, sb, kb, cb, sc, kc, cc, sd, kd, cd) rfl rfl
end
end Go.Proofs.Ytlnolhhoakmdhaa
