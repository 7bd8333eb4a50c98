/- For any fault, unit force, limit and changes, valid or not, the law ForceStronger of the program answers true, and its arguments read as they did. CONDITIONS: none. -/
import Derived.Test.YtlnolhhoakmdhaaProg
import Derived.KernelRfl
import Derived.Test.YtlnolhhoakmdhaaTC
import Derived.Test.YtlnolhhoakmdhaaRows
import Derived.Test.YtlnolhhoakmdhaaTA
import Derived.ProofKit
import Derived.OpenShut
import Derived.LaidMore
import Derived.Lib.SmallJoins
import Derived.Deep.DeepHandedRow
import Derived.Lib.LaidTab
set_option linter.unusedVariables false
set_option linter.unusedSimpArgs false
set_option linter.unusedSectionVars false
set_option linter.unnecessarySimpa false
/- The program of the seat, as runs on values known in part see it. -/
namespace Go.Proofs.Ytlnolhhoakmdhaa
open Go.Ev Go.RowKit
set_option maxRecDepth 100000
noncomputable section
def gtab : List (List Value) := []
/-- Appends whose outcome is shut at once. -/
def SHUT : List (Nat × Nat) := [(149, 2000020)]
def BAD : List Nat := []
def bodyAt (g : Nat) : Bool := match listGet Try.prog.funcs.toList g with
  | some fn => fn.body.isSome
  | none => false
/-- Calls are contracts but those of I; all sites are open or none; loops as told. -/
def ctxS (op : Bool) (I : List Nat) (sp : List LSpec) : Ctx := ⟨Try.prog, tabOf gtab, fun f t => match Nat.blt t 2000000 with | true => op | false => hasP SHUT f t, fun g => !hasN I g && bodyAt g, fun g => !hasN BAD g, lpOf sp⟩
def ctx (I : List Nat) (sp : List LSpec) : Ctx := ctxS true I sp
/-- Calls are entered but those of K. -/
def ctxK (S : List (Nat × Nat)) (K : List Nat) (sp : List LSpec) : Ctx := ⟨Try.prog, tabOf gtab, hasP S, fun g => hasN K g && bodyAt g, fun g => !hasN BAD g, lpOf sp⟩
abbrev Tabs (w : World) : Prop := TabsOf gtab w
def Con (g : FuncId) (ds : List D) (r : D) : Prop := CallOK (ctx [] []) Tabs g ds r
def allK : List Go.Ev.Ask → Prop
  | [] => True
  | q :: qs => AskOK (ctx [] []) Tabs q ∧ allK qs
theorem allK_mem : ∀ {l : List Go.Ev.Ask}, allK l → ∀ q ∈ l, AskOK (ctx [] []) Tabs q
  | [], _, p, h => by cases h
  | q :: l, hq, p, h => by
    rcases List.mem_cons.1 h with rfl | h
    · exact hq.1
    · exact allK_mem hq.2 p h
def fineAt (g : Nat) : Bool := match listGet Try.prog.funcs.toList g with
  | some fn => match fn.body with
    | some c => okCode c
    | none => true
  | none => true
def nameAt (g : Nat) : Bool := match listGet Try.prog.funcs.toList g with
  | some fn => !(fn.name == "runtime.NumGoroutine")
  | none => true
theorem count : Try.prog.funcs.toList.length = 178 := by kernel_rfl
theorem mixed : Try.prog.follows .mixedOrders = true := by kernel_rfl
theorem namesOk : (List.range 178).all nameAt = true := by kernel_rfl
theorem fineOk : (List.range 178).all (fun g => hasN BAD g || fineAt g) = true := by kernel_rfl
theorem in_range {g : FuncId} {fn : Func} (hg : Try.prog.funcs[g]? = some fn) : g < 178 := by
  rw [← count]
  rcases Nat.lt_or_ge g Try.prog.funcs.toList.length with h | h
  · exact h
  · rw [← Array.getElem?_toList, List.getElem?_eq_none h] at hg; cases hg
theorem good_of {C : Ctx} (h1 : C.P = Try.prog) (h2 : C.tab = tabOf gtab) (h3 : ∀ g, C.con g = true → bodyAt g = true) (h4 : C.fine = fun g => !hasN BAD g) : Good' C Tabs := by
  obtain ⟨P, tab, sym, con, fine, lp⟩ := C
  simp only at h1 h2 h3 h4
  subst h1; subst h2; subst h4
  exact {
    mixed := mixed
    names := fun g fn hg => by
      have := List.all_eq_true.1 namesOk g (List.mem_range.2 (in_range hg))
      unfold nameAt at this
      have hg' : Try.prog.funcs[g]? = some fn := hg
      rw [listGet_eq, Array.getElem?_toList, hg'] at this
      simpa using this
    code := fun g fn c hf hg hc => by
      have := List.all_eq_true.1 fineOk g (List.mem_range.2 (in_range hg))
      have hf' : (!hasN BAD g) = true := hf
      have hb : hasN BAD g = false := by simpa using hf'
      rw [hb, Bool.false_or] at this
      unfold fineAt at this
      have hg' : Try.prog.funcs[g]? = some fn := hg
      rw [listGet_eq, Array.getElem?_toList, hg'] at this
      simp only [hc] at this
      exact this
    tab := fun w h => h.tab
    stable := fun w w' h hb => h.below hb
    con := fun g hg => by
      have := h3 g hg
      unfold bodyAt at this
      split at this
      · rename_i fn hfn
        rw [listGet_eq, Array.getElem?_toList] at hfn
        exact ⟨fn, hfn, this⟩
      · cases this }
theorem good (op : Bool) (I : List Nat) (sp : List LSpec) : Good' (ctxS op I sp) Tabs := good_of rfl rfl (fun g h => by
  have h : (!hasN I g && bodyAt g) = true := h
  simp only [Bool.and_eq_true] at h
  exact h.2) rfl
theorem goodK (S : List (Nat × Nat)) (K : List Nat) (sp : List LSpec) : Good' (ctxK S K sp) Tabs := good_of rfl rfl (fun g h => by
  have h : (hasN K g && bodyAt g) = true := h
  simp only [Bool.and_eq_true] at h
  exact h.2) rfl
theorem asked_as {C C' : Ctx} (h : C.P = C'.P) : ∀ {q : Go.Ev.Ask}, AskOK C Tabs q → AskOK C' Tabs q := by
  intro q hq
  cases q with
  | call g ds r =>
    intro w A vs hw hv
    have := hq w A vs hw hv
    rwa [h] at this
  | loop c s x t low =>
    intro w0 hw hs
    have := hq w0 hw hs
    unfold CodeOK at this ⊢
    rw [← h]
    exact this
theorem loopin_as {C C' : Ctx} (h : C.P = C'.P) {c : Code} {E : List AV × AHeap} {base : Nat} {fr : AFrame} {x : LExit} {ds : List D} (k : LoopIn C Tabs c E base fr x ds) : LoopIn C' Tabs c E base fr x ds := fun ora ora' vals vals' =>
  asked_as (q := .loop _ _ _ _ _) h (k ora ora' vals vals')
abbrev LoopC (c : Code) (E : List AV × AHeap) (base : Nat) (fr : AFrame) (x : LExit) (ds : List D) : Prop := LoopIn (ctx [] []) Tabs c E base fr x ds
/-- A contract, by a run. -/
theorem con_of {op : Bool} {I : List Nat} {sp : List LSpec} {n : Nat} {g : FuncId} {ds : List D} {ora : List Bool} {res : List D} {r : D} {conds : List (Bool × Bool)} {cls : List Go.Ev.Ask}
    (h : okOut (run (ctxS op I sp) n (.enter g (avOfL 0 ds).1) ⟨[], (avOfL 0 ds).2.1, (avOfL 0 ds).2.2, ora, ⟨res, noFrame⟩⟩) = some (r, conds, cls)) (hc : allC conds) (hk : allK cls) : Con g ds r := fun w A vs hw hv =>
  calls3 (good op I sp) h hc (fun q hq => asked_as rfl (allK_mem hk q hq)) w A vs hw hv
theorem con_ofK {S : List (Nat × Nat)} {K : List Nat} {sp : List LSpec} {n : Nat} {g : FuncId} {ds : List D} {ora : List Bool} {res : List D} {r : D} {conds : List (Bool × Bool)} {cls : List Go.Ev.Ask}
    (h : okOut (run (ctxK S K sp) n (.enter g (avOfL 0 ds).1) ⟨[], (avOfL 0 ds).2.1, (avOfL 0 ds).2.2, ora, ⟨res, noFrame⟩⟩) = some (r, conds, cls)) (hc : allC conds) (hk : allK cls) : Con g ds r := fun w A vs hw hv =>
  calls3 (goodK S K sp) h hc (fun q hq => asked_as rfl (allK_mem hk q hq)) w A vs hw hv
theorem con_val {g : FuncId} {ds : List D} {r r' : D} (h : Con g ds r) (e : r = r') : Con g ds r' := e ▸ h
theorem con_arg {g : FuncId} {ds ds' : List D} {r : D} (h : Con g ds r) (e : ds = ds') : Con g ds' r := e ▸ h
/-- One round of a loop, by a run. -/
theorem step_of {I : List Nat} {sp : List LSpec} {l : LoopAt} {fuel : Nat} {ora : List Bool} {vals : List D} {ns : List Go.Ev.Loc} {S1 S2 S2' : List AV × AHeap} {x : AX} {conds : List (Bool × Bool)} {calls : List Go.Ev.Ask}
    (r : Option Out) (hr : r = run (ctx I sp) fuel (.code l.f l.c) ⟨S1.1, S1.2, l.nx, ora, ⟨vals, l.fr⟩⟩) (h1 : r = some (outOf r))
    (h2 : ((outOf r).x, (outOf r).st.res.fr, (outOf r).log, (outOf r).st.tmps) = (x, l.fr, ⟨conds, calls⟩, AV.renL (qOf l.base ns ((outOf r).st.tmps, (outOf r).st.heap)) (aOf l.base ns ((outOf r).st.tmps, (outOf r).st.heap)) S2'.1))
    (h3 : S2'.2.map (fun e => hget (outOf r).st.heap (qOf l.base ns ((outOf r).st.tmps, (outOf r).st.heap) e.1)) = S2'.2.map (fun e => some (⟨AV.renL (qOf l.base ns ((outOf r).st.tmps, (outOf r).st.heap)) (aOf l.base ns ((outOf r).st.tmps, (outOf r).st.heap)) e.2.cells, e.2.opn, e.2.kind⟩ : ABlock)))
    (h4 : (namesIn l.nx S2'.2 && distinctBy (qOf l.base ns ((outOf r).st.tmps, (outOf r).st.heap)) S2'.2 && aboveBy l.base (qOf l.base ns ((outOf r).st.tmps, (outOf r).st.heap)) S2'.2) = true)
    (h5 : (AV.okL l.nx S1.1 && Nat.ble l.low (outOf r).low) = true) (h6 : (List.range l.low).map (hget S2'.2) = (List.range l.low).map (hget S1.2)) (hS : S2' = S2) (hc : allC conds) (hk : allK calls) :
    Step (ctx I sp) Tabs l S1 S2 x := mk_step r hr h1 h2 h3 h4 h5 h6 hS hc fun q hq => asked_as rfl (allK_mem hk q hq)
end
end Go.Proofs.Ytlnolhhoakmdhaa
/- What plain statements need. -/
namespace Go.Proofs.Ytlnolhhoakmdhaa
open Go.ChangeShapes Go.WideShapes Go.ChangeAt Go.RowKit Go.Joins Go.Ev
theorem own : ownKnob Try.prog.godebug = none := by kernel_rfl
theorem tabs0 {W : World} : Tabs W := ⟨Nat.zero_le _, fun g L hL => by cases hL⟩
end Go.Proofs.Ytlnolhhoakmdhaa
/- Structs of whole numbers, as arguments. -/
namespace Go.Proofs.Ytlnolhhoakmdhaa
open Go.Ev Go.RowKit
theorem ints2_of {ds : List D} (h : okDs [.int .i64, .int .i64] ds) : ∃ a0 a1 : Int, ds = [.one (.int .i64 a0), .one (.int .i64 a1)] := by
  simp only [okDs, okD] at h
  obtain ⟨_, _, rfl, ⟨a0, rfl, -⟩, _, _, rfl, ⟨a1, rfl, -⟩, rfl⟩ := h
  exact ⟨a0, a1, rfl⟩
theorem ints4_of {ds : List D} (h : okDs [.int .i64, .int .i64, .int .i64, .int .i64] ds) : ∃ a0 a1 a2 a3 : Int, ds = [.one (.int .i64 a0), .one (.int .i64 a1), .one (.int .i64 a2), .one (.int .i64 a3)] := by
  simp only [okDs, okD] at h
  obtain ⟨_, _, rfl, ⟨a0, rfl, -⟩, _, _, rfl, ⟨a1, rfl, -⟩, _, _, rfl, ⟨a2, rfl, -⟩, _, _, rfl, ⟨a3, rfl, -⟩, rfl⟩ := h
  exact ⟨a0, a1, a2, a3, rfl⟩
theorem ints6_of {ds : List D} (h : okDs [.int .i64, .int .i64, .int .i64, .int .i64, .int .i64, .int .i64] ds) : ∃ a0 a1 a2 a3 a4 a5 : Int, ds = [.one (.int .i64 a0), .one (.int .i64 a1), .one (.int .i64 a2), .one (.int .i64 a3), .one (.int .i64 a4), .one (.int .i64 a5)] := by
  simp only [okDs, okD] at h
  obtain ⟨_, _, rfl, ⟨a0, rfl, -⟩, _, _, rfl, ⟨a1, rfl, -⟩, _, _, rfl, ⟨a2, rfl, -⟩, _, _, rfl, ⟨a3, rfl, -⟩, _, _, rfl, ⟨a4, rfl, -⟩, _, _, rfl, ⟨a5, rfl, -⟩, rfl⟩ := h
  exact ⟨a0, a1, a2, a3, a4, a5, rfl⟩
end Go.Proofs.Ytlnolhhoakmdhaa
/- Running the program's functions on values that are known in part: models of functions, their loops by steps. -/
namespace Go.Ev
open Go.RowKit
noncomputable section
/-- How a round ends: at its end, by which head; or at an exit. -/
inductive Rd where
  | next (q : Nat) (ds : List D)
  | out (j : Nat) (ds : List D)
/-! ### Parts of values -/
def Value.pi : Value → Int
  | .int _ x => x
  | _ => 0
def Value.pb : Value → Bool
  | .bool x => x
  | _ => false
def Value.ps : Value → ByteArray
  | .string x => x
  | _ => ⟨#[]⟩
def Value.pc : Value → Nat → Value
  | .agg xs, i => xs.toList[i]?.getD undef
  | _, _ => undef
def D.vv : D → Value
  | .one v => v
  | _ => undef
def D.vi (d : D) : Int := Value.pi d.vv
def D.vb (d : D) : Bool := Value.pb d.vv
def D.vs (d : D) : ByteArray := Value.ps d.vv
def D.ln : D → Nat
  | .list k _ => k
  | _ => 0
def D.lc : D → List D
  | .list _ cs => cs
  | _ => []
def nthD : List D → Nat → D
  | [], _ => .tup []
  | d :: _, 0 => d
  | _ :: ds, n + 1 => nthD ds n
def D.at : D → Nat → D
  | .agg cs, n => nthD cs n
  | .tup cs, n => nthD cs n
  | _, _ => .tup []
/-! ### Events -/
open Classical in
def guardP {α : Type} (P : Prop) (o : Option α) : Option α := if P then o else none
theorem guardP_elim {α : Type} {P : Prop} {o : Option α} {r : α} (h : guardP P o = some r) : P ∧ o = some r := by
  unfold guardP at h
  split at h
  · exact ⟨by assumption, h⟩
  · cases h
theorem guardP_pos {α : Type} {P : Prop} {o : Option α} (h : P) : guardP P o = o := if_pos h
open Classical in
def pullD {α β : Type} (o : Option D) (proj : D → α) (pat : α → D) (k : α → Option β) : Option β := match o with
  | some d => if pat (proj d) = d then k (proj d) else none
  | none => none
theorem pullD_elim {α β : Type} {o : Option D} {proj : D → α} {pat : α → D} {k : α → Option β} {r : β} (h : pullD o proj pat k = some r) : ∃ a, o = some (pat a) ∧ k a = some r := by
  unfold pullD at h
  split at h
  · split at h
    · rename_i d hd
      exact ⟨proj d, by rw [hd], h⟩
    · cases h
  · cases h
theorem pullD_some {α β : Type} {o : Option D} {proj : D → α} {pat : α → D} {k : α → Option β} (a : α) (h : o = some (pat a)) (e : proj (pat a) = a) : pullD o proj pat k = k a := by
  subst h
  unfold pullD
  simp only [e, if_true]
def readD (L : List D) (off size : Nat) (g : Bool) : Option D := match g with
  | false => L[off]?
  | true => if ((L.drop off).take size).length = size ∧ 0 < size then some (.agg ((L.drop off).take size)) else none
theorem readD_elim {L : List D} {off size : Nat} {g : Bool} {d : D} (h : readD L off size g = some d) : readsAs L off size g d := by
  unfold readD at h
  cases g with
  | false => exact h
  | true =>
    simp only at h
    split at h
    · rename_i hl
      cases h
      exact ⟨_, rfl, hl.1, hl.2, rfl⟩
    · cases h
theorem readD_of {L : List D} {off size : Nat} {g : Bool} {d : D} (h : readsAs L off size g d) : readD L off size g = some d := by
  cases g with
  | false => exact h
  | true =>
    obtain ⟨ds, rfl, h1, h2, h3⟩ := h
    unfold readD
    rw [h3]
    simp only [h1, true_and, h2, if_true]
def bindL {β : Type} (o : Option Rd) (k : Nat → List D → Option β) : Option β := match o with
  | some (.out j ds) => k j ds
  | _ => none
theorem bindL_elim {β : Type} {o : Option Rd} {k : Nat → List D → Option β} {r : β} (h : bindL o k = some r) : ∃ j ds, o = some (.out j ds) ∧ k j ds = some r := by
  unfold bindL at h
  split at h
  · exact ⟨_, _, rfl, h⟩
  · cases h
theorem bindL_some {β : Type} {o : Option Rd} {k : Nat → List D → Option β} {j : Nat} {ds : List D} (h : o = some (.out j ds)) : bindL o k = k j ds := by
  subst h; rfl
theorem tup_inj {a b : List D} (h : some (D.tup a) = some (D.tup b)) : a = b := by
  injection h with h; injection h
/-! ### Loops -/
def iterR (S : Rd → Option Rd) : Nat → Rd → Option Rd
  | _, .out j ds => some (.out j ds)
  | 0, .next _ _ => none
  | n + 1, .next q ds => match S (.next q ds) with
    | some s => iterR S n s
    | none => none
theorem iterR_mono {S : Rd → Option Rd} : ∀ {n m : Nat} {s o : Rd}, iterR S n s = some o → n ≤ m → iterR S m s = some o
  | n, m, .out j ds, o, h, _ => by
    cases n <;> cases m <;> exact h
  | 0, _, .next q ds, o, h, _ => by cases h
  | n + 1, 0, .next q ds, o, h, hm => by omega
  | n + 1, m + 1, .next q ds, o, h, hm => by
    unfold iterR at h ⊢
    split at h
    · rename_i s hs
      exact iterR_mono h (by omega)
    · cases h
open Classical in
/-- Where a loop ends, if it does. -/
def runR (S : Rd → Option Rd) (s : Rd) : Option Rd := if h : ∃ o, ∃ n, iterR S n s = some o then some h.choose else none
theorem runR_iff {S : Rd → Option Rd} {s o : Rd} : runR S s = some o ↔ ∃ n, iterR S n s = some o := by
  unfold runR
  constructor
  · intro h
    split at h
    · rename_i hx
      cases h
      exact hx.choose_spec
    · cases h
  · rintro ⟨n, h⟩
    have hx : ∃ o, ∃ n, iterR S n s = some o := ⟨o, n, h⟩
    rw [dif_pos hx]
    obtain ⟨m, hm⟩ := hx.choose_spec
    have h1 := iterR_mono h (Nat.le_max_left n m)
    have h2 := iterR_mono hm (Nat.le_max_right n m)
    rw [h1] at h2
    exact h2.symm
theorem runR_out {S : Rd → Option Rd} {j : Nat} {ds : List D} : runR S (.out j ds) = some (.out j ds) := runR_iff.2 ⟨0, rfl⟩
theorem runR_next {S : Rd → Option Rd} {q : Nat} {ds : List D} {s : Rd} (h : S (.next q ds) = some s) : runR S (.next q ds) = runR S s := by
  cases hr : runR S s with
  | some o =>
    obtain ⟨n, hn⟩ := runR_iff.1 hr
    refine runR_iff.2 ⟨n + 1, ?_⟩
    unfold iterR; rw [h]; exact hn
  | none =>
    cases hq : runR S (.next q ds) with
    | none => rfl
    | some o =>
      obtain ⟨n, hn⟩ := runR_iff.1 hq
      cases n with
      | zero => cases hn
      | succ n =>
        unfold iterR at hn; rw [h] at hn
        rw [runR_iff.2 ⟨n, hn⟩] at hr; cases hr
def EndOK (nx low : Nat) (gs : Rd → Option GS) : Rd → Prop
  | .out j ds => AV.okL nx (stateOf (gs (.out j ds))).1 = true ∧ (nxtOf (gs (.out j ds)), lowGS (gs (.out j ds))) = (nx, low)
  | _ => True
theorem runs_of {C : Ctx} {G : World → Prop} (hg : Good' C G) {l : LoopAt} (hl : l.OK) {gs : Rd → Option GS} {ax : Rd → AX} {S : Rd → Option Rd} (hn : ∀ q ds, ax (.next q ds) = .normal) (hx : ∀ j ds, isVal (ax (.out j ds)) = false ∧ ax (.out j ds) ≠ .normal)
    (hs : ∀ s s', S s = some s' → Step C G l (stateOf (gs s)) (stateOf (gs s')) (ax s') ∧ EndOK l.nx l.low gs s') : ∀ (n : Nat) (q : Nat) (ds : List D) (j : Nat) (es : List D), iterR S n (.next q ds) = some (.out j es) →
      Runs C G l (stateOf (gs (.next q ds))) (stateOf (gs (.out j es))) (ax (.out j es)) ∧ EndOK l.nx l.low gs (.out j es)
  | 0, q, ds, j, es, h => by cases h
  | n + 1, q, ds, j, es, h => by
    unfold iterR at h
    split at h
    · rename_i s hs1
      obtain ⟨h1, h2⟩ := hs _ _ hs1
      cases s with
      | next q' ds' =>
        rw [hn] at h1
        obtain ⟨h3, h4⟩ := runs_of hg hl hn hx hs n q' ds' j es h
        exact ⟨Step.more hg hl h1 h3, h4⟩
      | out j' es' =>
        have e : some (Rd.out j' es') = some (.out j es) := by cases n <;> exact h
        cases e
        exact ⟨Step.runs hg hl h1 (hx _ _) h2.1, h2⟩
    · cases h
theorem runs_of' {C : Ctx} {G : World → Prop} (hg : Good' C G) {l : LoopAt} (hl : l.OK) {gs : Rd → Option GS} {ax : Rd → AX} {S : Rd → Option Rd} (hn : ∀ q ds, ax (.next q ds) = .normal) (hx : ∀ j ds, isVal (ax (.out j ds)) = false ∧ ax (.out j ds) ≠ .normal)
    (hs : ∀ s s', S s = some s' → Step C G l (stateOf (gs s)) (stateOf (gs s')) (ax s') ∧ EndOK l.nx l.low gs s') {q : Nat} {ds : List D} {j : Nat} {es : List D} (h : runR S (.next q ds) = some (.out j es)) :
      Runs C G l (stateOf (gs (.next q ds))) (stateOf (gs (.out j es))) (ax (.out j es)) ∧ (nxtOf (gs (.out j es)), lowGS (gs (.out j es))) = (l.nx, l.low) := by
  obtain ⟨n, hn'⟩ := runR_iff.1 h
  obtain ⟨h1, h2⟩ := runs_of hg hl hn hx hs n q ds j es hn'
  exact ⟨h1, h2.2⟩
theorem axOf_end (o : Option Nat) : isVal (axOf o) = false ∧ axOf o ≠ .normal := by
  cases o <;> exact ⟨rfl, by simp [axOf]⟩
end
end Go.Ev
/- Models of functions: what helps to compute with them. -/
namespace Go.Ev
open Go.RowKit
noncomputable section
theorem runR_scan {S : Rd → Option Rd} (q : Nat → Nat) (ds : Nat → List D) {a b : Nat} (hab : a ≤ b) (h : ∀ i, a ≤ i → i < b → S (.next (q i) (ds i)) = some (.next (q (i + 1)) (ds (i + 1)))) : runR S (.next (q a) (ds a)) = runR S (.next (q b) (ds b)) := by
  have key : ∀ m i, a ≤ i → i + m = b → runR S (.next (q i) (ds i)) = runR S (.next (q b) (ds b)) := by
    intro m
    induction m with
    | zero => intro i _ hi; have : i = b := by omega
              subst this; rfl
    | succ m ih => intro i hs hi; rw [runR_next (h i hs (by omega)), ih (i + 1) (by omega) (by omega)]
  exact key (b - a) a (Nat.le_refl _) (by omega)
theorem runR_exit {S : Rd → Option Rd} {q : Nat} {ds : List D} {j : Nat} {es : List D} (h : S (.next q ds) = some (.out j es)) : runR S (.next q ds) = some (.out j es) := by
  rw [runR_next h, runR_out]
open Classical in
/-- A function whose contract is known in another form. -/
def viaD {α : Type} (P : α → Prop) (enc : α → List D) (val : α → D) (ds : List D) : Option D := if h : ∃ a, P a ∧ enc a = ds then some (val h.choose) else none
theorem viaD_eq {α : Type} {P : α → Prop} {enc : α → List D} {val : α → D} (hinj : ∀ a b, enc a = enc b → a = b) {a : α} (h : P a) : viaD P enc val (enc a) = some (val a) := by
  unfold viaD
  have hx : ∃ b, P b ∧ enc b = enc a := ⟨a, h, rfl⟩
  rw [dif_pos hx, hinj _ _ hx.choose_spec.2]
theorem viaD_elim {α : Type} {P : α → Prop} {enc : α → List D} {val : α → D} {ds : List D} {r : D} (h : viaD P enc val ds = some r) : ∃ a, P a ∧ enc a = ds ∧ val a = r := by
  unfold viaD at h
  split at h
  · rename_i hx
    exact ⟨_, hx.choose_spec.1, hx.choose_spec.2, Option.some.inj h⟩
  · cases h
theorem pullD_lit {α β : Type} {d : D} {proj : D → α} {pat : α → D} {k : α → Option β} (h : pat (proj d) = d) : pullD (some d) proj pat k = k (proj d) := by
  unfold pullD
  simp only [h, if_true]
end
end Go.Ev
/- Runs inside models: what is asked, with its proofs. -/
namespace Go.Proofs.Ytlnolhhoakmdhaa
open Go.Ev Go.RowKit
set_option maxRecDepth 100000
noncomputable section
/-- A truth that is asked, and why it is so. -/
structure PC where
  c : Bool
  q : Bool
  h : c = q
abbrev PC.p (x : PC) : Bool × Bool := (x.c, x.q)
def pairsC : List PC → List (Bool × Bool)
  | [] => []
  | x :: xs => (x.c, x.q) :: pairsC xs
theorem pairsC_ok : ∀ xs : List PC, allC (pairsC xs)
  | [] => trivial
  | x :: xs => ⟨x.h, pairsC_ok xs⟩
abbrev c_T : PC := ⟨true, true, rfl⟩
abbrev c_F : PC := ⟨false, false, rfl⟩
abbrev c_d {p : Prop} [Decidable p] (h : p) : PC := ⟨decide p, true, decide_eq_true h⟩
abbrev c_n {p : Prop} [Decidable p] (h : ¬ p) : PC := ⟨decide p, false, decide_eq_false h⟩
abbrev c_f {p : Prop} (h : p) : PC := ⟨fact p, true, fact_mk h⟩
abbrev c_b {α : Type} [BEq α] [LawfulBEq α] {a b : α} (h : a ≠ b) : PC := ⟨a != b, true, bne_iff_ne.2 h⟩
abbrev c_bn {α : Type} [BEq α] [LawfulBEq α] {a b : α} (h : a = b) : PC := ⟨a != b, false, bne_eq_false_iff_eq.2 h⟩
abbrev c_e {α : Type} [BEq α] [LawfulBEq α] {a b : α} (h : a = b) : PC := ⟨a == b, true, beq_iff_eq.2 h⟩
abbrev c_en {α : Type} [BEq α] [LawfulBEq α] {a b : α} (h : a ≠ b) : PC := ⟨a == b, false, beq_eq_false_iff_ne.2 h⟩
abbrev c_q {c q : Bool} (h : c = q) : PC := ⟨c, q, h⟩
abbrev c_no {c : Bool} (h : c = false) : PC := ⟨!c, true, by rw [h]; rfl⟩
abbrev c_nn {c : Bool} (h : c = true) : PC := ⟨!c, false, by rw [h]; rfl⟩
def bT : Nat → List Bool → List Bool
  | 0, l => l
  | n + 1, l => true :: bT n l
def bF : Nat → List Bool → List Bool
  | 0, l => l
  | n + 1, l => false :: bF n l
/-- What is asked of calls and loops, and why it is so. -/
structure PK where
  q : Go.Ev.Ask
  h : AskOK (ctx [] []) Tabs q
def asksK : List PK → List Go.Ev.Ask
  | [] => []
  | x :: xs => x.q :: asksK xs
theorem asksK_ok : ∀ xs : List PK, allK (asksK xs)
  | [] => trivial
  | x :: xs => ⟨x.h, asksK_ok xs⟩
abbrev k_c {g : FuncId} {ds : List D} {r : D} (h : Con g ds r) : PK := ⟨.call g ds r, h⟩
abbrev k_l {c : Code} {E : List AV × AHeap} {base : Nat} {x : LExit} {ds : List D} (h : LoopC c E base noFrame x ds) (ora : List Bool) (vals vals' : List D) : PK := ⟨loopAsk c E base noFrame x ds ora vals vals', h _ _ _ _⟩
theorem con_pc {op : Bool} {I : List Nat} {sp : List LSpec} (n : Nat) {g : FuncId} {ds : List D} {r : D} (ora : List Bool) (res : List D) (pcs : List PC) (pks : List PK)
    (h : okOut (run (ctxS op I sp) n (.enter g (avOfL 0 ds).1) ⟨[], (avOfL 0 ds).2.1, (avOfL 0 ds).2.2, ora, ⟨res, noFrame⟩⟩) = some (r, pairsC pcs, asksK pks)) : Con g ds r :=
  con_of h (pairsC_ok pcs) (asksK_ok pks)
theorem step_pc {I : List Nat} {sp : List LSpec} {l : LoopAt} {S1 : List AV × AHeap} {g : Option GS} {x : AX} (fuel : Nat) (ora : List Bool) (vals : List D) (pcs : List PC) (pks : List PK)
    (r : Option Out) (hr : r = run (ctx I sp) fuel (.code l.f l.c) ⟨S1.1, S1.2, l.nx, ora, ⟨vals, l.fr⟩⟩) (h1 : r = some (outOf r))
    (h2 : ((outOf r).x, (outOf r).st.res.fr, (outOf r).log, (outOf r).st.tmps) = (x, l.fr, ⟨pairsC pcs, asksK pks⟩, AV.renL (qOf l.base (nsOf g) ((outOf r).st.tmps, (outOf r).st.heap)) (aOf l.base (nsOf g) ((outOf r).st.tmps, (outOf r).st.heap)) (stateOf g).1))
    (h3 : (stateOf g).2.map (fun e => hget (outOf r).st.heap (qOf l.base (nsOf g) ((outOf r).st.tmps, (outOf r).st.heap) e.1)) = (stateOf g).2.map (fun e => some (⟨AV.renL (qOf l.base (nsOf g) ((outOf r).st.tmps, (outOf r).st.heap)) (aOf l.base (nsOf g) ((outOf r).st.tmps, (outOf r).st.heap)) e.2.cells, e.2.opn, e.2.kind⟩ : ABlock)))
    (h4 : (namesIn l.nx (stateOf g).2 && distinctBy (qOf l.base (nsOf g) ((outOf r).st.tmps, (outOf r).st.heap)) (stateOf g).2 && aboveBy l.base (qOf l.base (nsOf g) ((outOf r).st.tmps, (outOf r).st.heap)) (stateOf g).2) = true)
    (h5 : (AV.okL l.nx S1.1 && Nat.ble l.low (outOf r).low) = true) (h6 : (List.range l.low).map (hget (stateOf g).2) = (List.range l.low).map (hget S1.2)) : Step (ctx I sp) Tabs l S1 (stateOf g) x :=
  step_of r hr h1 h2 h3 h4 h5 h6 rfl (pairsC_ok pcs) (asksK_ok pks)
end
end Go.Proofs.Ytlnolhhoakmdhaa
namespace Go.Proofs.Ytlnolhhoakmdhaa
open Go.Ev Go.RowKit
set_option maxRecDepth 100000
set_option linter.all false
noncomputable section
def w_within_sp : List LSpec := []
def w_within_M (n lo hi : Int) : Option D := (if lo ≤ n then some (.one (.bool (decide (n ≤ hi)))) else some (.one (.bool false)))
theorem w_within_M_ok (n lo hi : Int) {r : D} (h : w_within_M n lo hi = some r) : Con 30 [.one (.int .i64 n), .one (.int .i64 lo), .one (.int .i64 hi)] r := by
  unfold w_within_M at h
  by_cases b1_ : lo ≤ n
  · have h2_ := (if_pos b1_).symm.trans h
    obtain rfl := Option.some.inj h2_
    exact con_pc (op := true) (I := [30]) (sp := w_within_sp) 3000 (bT 4 []) [] [c_d b1_, c_d b1_, c_d b1_, c_d b1_] [] (by kernel_rfl)
  · have h2_ := (if_neg b1_).symm.trans h
    obtain rfl := Option.some.inj h2_
    exact con_pc (op := true) (I := [30]) (sp := w_within_sp) 3000 (bF 4 []) [] [c_n b1_, c_n b1_, c_n b1_, c_n b1_] [] (by kernel_rfl)
def m_30 (ds : List D) : Option D := pullD (α := Int × Int × Int) (some (.tup ds)) (fun d => ((D.vi (D.at d 0)), (D.vi (D.at d 1)), (D.vi (D.at d 2)))) (fun (n, lo, hi) => .tup [.one (.int .i64 n), .one (.int .i64 lo), .one (.int .i64 hi)]) fun (n, lo, hi) => w_within_M n lo hi
theorem m_30_ok {ds : List D} {r : D} (h : m_30 ds = some r) : Con 30 ds r := by
  unfold m_30 at h
  obtain ⟨⟨n, lo, hi⟩, e0, h0⟩ := pullD_elim h
  obtain rfl := tup_inj e0
  exact w_within_M_ok n lo hi h0
theorem m_30_eq (n lo hi : Int) : m_30 [.one (.int .i64 n), .one (.int .i64 lo), .one (.int .i64 hi)] = w_within_M n lo hi := pullD_some (n, lo, hi) rfl rfl
end
end Go.Proofs.Ytlnolhhoakmdhaa
namespace Go.Proofs.Ytlnolhhoakmdhaa
open Go.Ev Go.RowKit
set_option maxRecDepth 100000
set_option maxHeartbeats 8000000
set_option linter.all false
noncomputable section
abbrev shNF1_0 (a0 : Int) (a1 : Int) (a2 : Int) (a3 : Int) : D := .agg [.one (.int .i64 a0), .one (.int .i64 a1), .one (.int .i64 a2), .one (.int .i64 a3)]
def shNF1_0P (d : D) : Int × Int × Int × Int := (D.vi (D.at d 0), D.vi (D.at d 1), D.vi (D.at d 2), D.vi (D.at d 3))
abbrev shNF1_1 (a0 : Int) (a1 : Int) (a2 : Int) (a3 : Int) (a4 : Int) (a5 : Int) : D := .agg [.one (.int .i64 a0), .one (.int .i64 a1), .one (.int .i64 a2), .one (.int .i64 a3), .one (.int .i64 a4), .one (.int .i64 a5)]
def firstOf_x2_0 : LExit := ⟨some 0, [], (2 :: (4 :: (List.range' 7 8)))⟩
def firstOf_x2_1 : LExit := ⟨none, [.val 2], (4 :: (List.range' 7 8))⟩
def firstOf_sp : List LSpec := [⟨83, 2, [firstOf_x2_0, firstOf_x2_1]⟩]
def firstOf_L2_E (k : Nat) (c : List D)  : List AV × AHeap := ([.dsl 0, .pure (.tuple #[]), .pure (.int .i64 (0 : Int)), .pure (.tuple #[]), .pure (.tuple #[]), .dsl 0, .pure (.int .i64 (k : Int)), .pure (.int .i64 (0 : Int)), .pure (.tuple #[]), .pure (.tuple #[]), .pure (.tuple #[]), .pure (.tuple #[]), .pure (.tuple #[]), .pure (.tuple #[]), .pure (.tuple #[])], [(0, { cells := [], opn := none, kind := .deep k c })])
def firstOf_L2_A : LoopAt := ⟨83, loopAt Try.prog 83 0, 1, 11, 1, noFrame⟩
theorem firstOf_L2_ok : (firstOf_L2_A).OK := ⟨by show 1 ≤ 11; decide, by show 1 ≤ 1; decide, by kernel_rfl, rfl⟩
def firstOf_L2_gs (k : Nat) (c : List D)  : Go.Ev.Rd → Option GS
  | .next 0 ds => ghost [.val 7] (2 :: (4 :: (List.range' 8 7))) (firstOf_L2_E k c).1 (firstOf_L2_E k c).2 1 ds
  | .out 0 ds => ghost firstOf_x2_0.live firstOf_x2_0.junk (firstOf_L2_E k c).1 (firstOf_L2_E k c).2 1 ds
  | .out 1 ds => ghost firstOf_x2_1.live firstOf_x2_1.junk (firstOf_L2_E k c).1 (firstOf_L2_E k c).2 1 ds
  | _ => none
def firstOf_L2_ex : Nat → Option Nat
  | 0 => firstOf_x2_0.ex
  | 1 => firstOf_x2_1.ex
  | _ => none
def firstOf_L2_ax : Go.Ev.Rd → AX
  | .next _ _ => .normal
  | .out j _ => axOf (firstOf_L2_ex j)
def firstOf_L2_S0 (k : Nat) (c : List D)  (ds : List D) : Option Go.Ev.Rd := pullD (α := Int) (some (.tup ds)) (fun d => ((D.vi (D.at d 0)))) (fun s7 => .tup [.one (.int .i64 s7)]) fun s7 => ((if s7 < (k : Int) then guardP ((0 : Int) ≤ s7 ∧ s7.toNat < k) (pullD (α := Int) (readD c (s7.toNat * 1) 1 false) (fun d => ((D.vi d))) (fun v0 => .one (.int .i64 v0)) fun v0 => ((if v0 ≠ (0 : Int) then some (.out 1 [.one (.int .i64 v0)]) else some (.next 0 [.one (.int .i64 (IntKind.i64.wrap (s7 + (1 : Int))))])))) else some (.out 0 [])))
def firstOf_L2_S (k : Nat) (c : List D)  : Go.Ev.Rd → Option Go.Ev.Rd
  | .next 0 ds => firstOf_L2_S0 k c ds
  | _ => none
theorem firstOf_L2_S_ok (k : Nat) (c : List D)  : ∀ s_ t_, firstOf_L2_S k c s_ = some t_ → Step (ctx [83] firstOf_sp) Tabs firstOf_L2_A (stateOf (firstOf_L2_gs k c s_)) (stateOf (firstOf_L2_gs k c t_)) (firstOf_L2_ax t_) ∧ EndOK firstOf_L2_A.nx firstOf_L2_A.low (firstOf_L2_gs k c) t_
  | .next 0 ds, t_, h => by
    have h_ : firstOf_L2_S0 k c ds = some t_ := h
    clear h
    unfold firstOf_L2_S0 at h_
    obtain ⟨s7, e0, h0⟩ := pullD_elim h_
    clear h_
    obtain rfl := tup_inj e0
    by_cases b1_ : s7 < (k : Int)
    · have h2_ := (if_pos b1_).symm.trans h0
      obtain ⟨f3_, h4_⟩ := guardP_elim h2_
      obtain ⟨v0, f5_, h6_⟩ := pullD_elim h4_
      replace f5_ := readD_elim f5_
      by_cases b7_ : v0 ≠ (0 : Int)
      · have h8_ := (if_pos b7_).symm.trans h6_
        obtain rfl := Option.some.inj h8_
        exact ⟨step_pc 3000 (bT 2 []) [.one (.int .i64 v0)] [c_d b1_, c_f f3_, c_f f5_, c_b b7_] [] _ rfl (by kernel_rfl) (by kernel_rfl) (by kernel_rfl) (by kernel_rfl) (by kernel_rfl) (by kernel_rfl), by kernel_rfl, by kernel_rfl⟩
      · have h8_ := (if_neg b7_).symm.trans h6_
        have b9_ : v0 = (0 : Int) := by first | exact b7_ | simpa using b7_
        obtain rfl := Option.some.inj h8_
        exact ⟨step_pc 3000 (bT 1 (bF 1 [])) [.one (.int .i64 v0)] [c_d b1_, c_f f3_, c_f f5_, c_bn b9_] [] _ rfl (by kernel_rfl) (by kernel_rfl) (by kernel_rfl) (by kernel_rfl) (by kernel_rfl) (by kernel_rfl), trivial⟩
    · have h2_ := (if_neg b1_).symm.trans h0
      obtain rfl := Option.some.inj h2_
      exact ⟨step_pc 3000 (bF 1 []) [] [c_n b1_] [] _ rfl (by kernel_rfl) (by kernel_rfl) (by kernel_rfl) (by kernel_rfl) (by kernel_rfl) (by kernel_rfl), by kernel_rfl, by kernel_rfl⟩
  | .next (_ + 1) _, _, h => by cases h
  | .out _ _, _, h => by cases h
theorem firstOf_L2_go (k : Nat) (c : List D)  {q : Nat} {ds : List D} {j : Nat} {es : List D} (h : runR (firstOf_L2_S k c) (.next q ds) = some (.out j es)) : Runs (ctx [83] firstOf_sp) Tabs firstOf_L2_A (stateOf (firstOf_L2_gs k c (.next q ds))) (stateOf (firstOf_L2_gs k c (.out j es))) (firstOf_L2_ax (.out j es)) ∧ (nxtOf (firstOf_L2_gs k c (.out j es)), lowGS (firstOf_L2_gs k c (.out j es))) = (firstOf_L2_A.nx, firstOf_L2_A.low) :=
  runs_of' (good true _ _) firstOf_L2_ok (ax := firstOf_L2_ax) (fun _ _ => rfl) (fun _ _ => axOf_end _) (firstOf_L2_S_ok k c) h
theorem firstOf_L2_in0 (k : Nat) (c : List D)  {es : List D} (h : runR (firstOf_L2_S k c) (.next 0 [.one (.int .i64 ((0 : Int)))]) = some (.out 0 es)) : LoopC (loopAt Try.prog 83 0) (firstOf_L2_E k c) 1 noFrame firstOf_x2_0 es :=
  have r := firstOf_L2_go k c h
  loopin_as rfl (loop_in (l := firstOf_L2_A) (E := (firstOf_L2_E k c)) (S := stateOf (firstOf_L2_gs k c (.next 0 [.one (.int .i64 ((0 : Int)))]))) (ns := nsOf (firstOf_L2_gs k c (.next 0 [.one (.int .i64 ((0 : Int)))]))) firstOf_L2_ok r.1 r.2 (by kernel_rfl) (by kernel_rfl) (by kernel_rfl) (by kernel_rfl))
theorem firstOf_L2_in1 (k : Nat) (c : List D)  {es : List D} (h : runR (firstOf_L2_S k c) (.next 0 [.one (.int .i64 ((0 : Int)))]) = some (.out 1 es)) : LoopC (loopAt Try.prog 83 0) (firstOf_L2_E k c) 1 noFrame firstOf_x2_1 es :=
  have r := firstOf_L2_go k c h
  loopin_as rfl (loop_in (l := firstOf_L2_A) (E := (firstOf_L2_E k c)) (S := stateOf (firstOf_L2_gs k c (.next 0 [.one (.int .i64 ((0 : Int)))]))) (ns := nsOf (firstOf_L2_gs k c (.next 0 [.one (.int .i64 ((0 : Int)))]))) firstOf_L2_ok r.1 r.2 (by kernel_rfl) (by kernel_rfl) (by kernel_rfl) (by kernel_rfl))
def firstOf_M (k : Nat) (c : List D) : Option D := bindL (runR (firstOf_L2_S k c) (.next 0 [.one (.int .i64 ((0 : Int)))])) fun j ds => (if j = 0 then pullD (some (.tup ds)) (fun _ => ()) (fun _ => .tup []) fun _ => (some (.one (.int .i64 (0 : Int)))) else if j = 1 then pullD (α := Int) (some (.tup ds)) (fun d => ((D.vi (D.at d 0)))) (fun l0 => .tup [.one (.int .i64 l0)]) fun l0 => (some (.one (.int .i64 l0))) else none)
theorem firstOf_M_ok (k : Nat) (c : List D) {r : D} (h : firstOf_M k c = some r) : Con 83 [.list k c] r := by
  unfold firstOf_M at h
  obtain ⟨j, ds, e1_, h2_⟩ := bindL_elim h
  by_cases j3_ : j = 0
  · have h6_ := (if_pos j3_).symm.trans h2_
    clear h2_
    subst j3_
    obtain ⟨⟨⟩, e4_, h7_⟩ := pullD_elim h6_
    clear h6_
    obtain rfl := tup_inj e4_
    have k5_ := firstOf_L2_in0 k c e1_
    obtain rfl := Option.some.inj h7_
    exact con_pc (op := true) (I := [83]) (sp := firstOf_sp) 3000 [] [.tup [.one (.int .i64 (Int.ofNat 0))]] [] [k_l k5_ [] [.tup [.one (.int .i64 (Int.ofNat 0))]] []] (by kernel_rfl)
  have h8_ := (if_neg j3_).symm.trans h2_
  clear h2_
  by_cases j9_ : j = 1
  · have h12_ := (if_pos j9_).symm.trans h8_
    clear h8_
    subst j9_
    obtain ⟨l0, e10_, h13_⟩ := pullD_elim h12_
    clear h12_
    obtain rfl := tup_inj e10_
    have k11_ := firstOf_L2_in1 k c e1_
    obtain rfl := Option.some.inj h13_
    exact con_pc (op := true) (I := [83]) (sp := firstOf_sp) 3000 [] [.tup [.one (.int .i64 (Int.ofNat 1)), .one (.int .i64 l0)]] [] [k_l k11_ [] [.tup [.one (.int .i64 (Int.ofNat 1)), .one (.int .i64 l0)]] []] (by kernel_rfl)
  have h14_ := (if_neg j9_).symm.trans h8_
  clear h8_
  cases h14_
def m_83 (ds : List D) : Option D := pullD (α := Nat × (List D)) (some (.tup ds)) (fun d => ((D.ln (D.at d 0)), (D.lc (D.at d 0)))) (fun (k, c) => .tup [.list k c]) fun (k, c) => firstOf_M k c
theorem m_83_ok {ds : List D} {r : D} (h : m_83 ds = some r) : Con 83 ds r := by
  unfold m_83 at h
  obtain ⟨⟨k, c⟩, e0, h0⟩ := pullD_elim h
  obtain rfl := tup_inj e0
  exact firstOf_M_ok k c h0
theorem m_83_eq (k : Nat) (c : List D) : m_83 [.list k c] = firstOf_M k c := pullD_some (k, c) rfl rfl
def divisor_x1_0 : LExit := ⟨some 0, [.val 0], (1 :: (List.range' 5 6))⟩
def divisor_sp : List LSpec := [⟨137, 1, [divisor_x1_0]⟩]
def divisor_L1_E (a b : Int)  : List AV × AHeap := ([.pure (.int .i64 a), .pure (.int .i64 b), .pure (.tuple #[]), .pure (.tuple #[]), .pure (.int .i64 (0 : Int)), .pure (.tuple #[]), .pure (.tuple #[]), .pure (.tuple #[]), .pure (.tuple #[]), .pure (.tuple #[]), .pure (.tuple #[]), .pure (.tuple #[]), .pure (.tuple #[]), .pure (.tuple #[]), .pure (.tuple #[])], [])
def divisor_L1_A : LoopAt := ⟨137, loopAt Try.prog 137 0, 0, 8, 0, noFrame⟩
theorem divisor_L1_ok : (divisor_L1_A).OK := ⟨by show 0 ≤ 8; decide, by show 0 ≤ 0; decide, by kernel_rfl, rfl⟩
def divisor_L1_gs (a b : Int)  : Go.Ev.Rd → Option GS
  | .next 0 ds => ghost [.val 0, .val 1] (List.range' 5 6) (divisor_L1_E a b).1 (divisor_L1_E a b).2 0 ds
  | .out 0 ds => ghost divisor_x1_0.live divisor_x1_0.junk (divisor_L1_E a b).1 (divisor_L1_E a b).2 0 ds
  | _ => none
def divisor_L1_ex : Nat → Option Nat
  | 0 => divisor_x1_0.ex
  | _ => none
def divisor_L1_ax : Go.Ev.Rd → AX
  | .next _ _ => .normal
  | .out j _ => axOf (divisor_L1_ex j)
def divisor_L1_S0 (a b : Int)  (ds : List D) : Option Go.Ev.Rd := pullD (α := Int × Int) (some (.tup ds)) (fun d => ((D.vi (D.at d 0)), (D.vi (D.at d 1)))) (fun (s0, s1) => .tup [.one (.int .i64 s0), .one (.int .i64 s1)]) fun (s0, s1) => ((if s1 ≠ (0 : Int) then some (.next 0 [.one (.int .i64 s1), .one (.int .i64 (s0.tmod s1))]) else some (.out 0 [.one (.int .i64 s0)])))
def divisor_L1_S (a b : Int)  : Go.Ev.Rd → Option Go.Ev.Rd
  | .next 0 ds => divisor_L1_S0 a b ds
  | _ => none
theorem divisor_L1_S_ok (a b : Int)  : ∀ s_ t_, divisor_L1_S a b s_ = some t_ → Step (ctx [137] divisor_sp) Tabs divisor_L1_A (stateOf (divisor_L1_gs a b s_)) (stateOf (divisor_L1_gs a b t_)) (divisor_L1_ax t_) ∧ EndOK divisor_L1_A.nx divisor_L1_A.low (divisor_L1_gs a b) t_
  | .next 0 ds, t_, h => by
    have h_ : divisor_L1_S0 a b ds = some t_ := h
    clear h
    unfold divisor_L1_S0 at h_
    obtain ⟨⟨s0, s1⟩, e0, h0⟩ := pullD_elim h_
    clear h_
    obtain rfl := tup_inj e0
    by_cases b1_ : s1 ≠ (0 : Int)
    · have h2_ := (if_pos b1_).symm.trans h0
      obtain rfl := Option.some.inj h2_
      exact ⟨step_pc 3000 (bT 1 []) [] [c_b b1_, c_en b1_] [] _ rfl (by kernel_rfl) (by kernel_rfl) (by kernel_rfl) (by kernel_rfl) (by kernel_rfl) (by kernel_rfl), trivial⟩
    · have h2_ := (if_neg b1_).symm.trans h0
      have b3_ : s1 = (0 : Int) := by first | exact b1_ | simpa using b1_
      obtain rfl := Option.some.inj h2_
      exact ⟨step_pc 3000 (bF 1 []) [] [c_bn b3_] [] _ rfl (by kernel_rfl) (by kernel_rfl) (by kernel_rfl) (by kernel_rfl) (by kernel_rfl) (by kernel_rfl), by kernel_rfl, by kernel_rfl⟩
  | .next (_ + 1) _, _, h => by cases h
  | .out _ _, _, h => by cases h
theorem divisor_L1_go (a b : Int)  {q : Nat} {ds : List D} {j : Nat} {es : List D} (h : runR (divisor_L1_S a b) (.next q ds) = some (.out j es)) : Runs (ctx [137] divisor_sp) Tabs divisor_L1_A (stateOf (divisor_L1_gs a b (.next q ds))) (stateOf (divisor_L1_gs a b (.out j es))) (divisor_L1_ax (.out j es)) ∧ (nxtOf (divisor_L1_gs a b (.out j es)), lowGS (divisor_L1_gs a b (.out j es))) = (divisor_L1_A.nx, divisor_L1_A.low) :=
  runs_of' (good true _ _) divisor_L1_ok (ax := divisor_L1_ax) (fun _ _ => rfl) (fun _ _ => axOf_end _) (divisor_L1_S_ok a b) h
theorem divisor_L1_in0 (a b : Int)  {es : List D} (h : runR (divisor_L1_S a b) (.next 0 [.one (.int .i64 (a)), .one (.int .i64 (b))]) = some (.out 0 es)) : LoopC (loopAt Try.prog 137 0) (divisor_L1_E a b) 0 noFrame divisor_x1_0 es :=
  have r := divisor_L1_go a b h
  loopin_as rfl (loop_in (l := divisor_L1_A) (E := (divisor_L1_E a b)) (S := stateOf (divisor_L1_gs a b (.next 0 [.one (.int .i64 (a)), .one (.int .i64 (b))]))) (ns := nsOf (divisor_L1_gs a b (.next 0 [.one (.int .i64 (a)), .one (.int .i64 (b))]))) divisor_L1_ok r.1 r.2 (by kernel_rfl) (by kernel_rfl) (by kernel_rfl) (by kernel_rfl))
def divisor_M (a b : Int) : Option D := bindL (runR (divisor_L1_S a b) (.next 0 [.one (.int .i64 (a)), .one (.int .i64 (b))])) fun j ds => (if j = 0 then pullD (α := Int) (some (.tup ds)) (fun d => ((D.vi (D.at d 0)))) (fun l0 => .tup [.one (.int .i64 l0)]) fun l0 => (some (.one (.int .i64 (if IntKind.i64.wrap ((0 : Int) - l0) > l0 then IntKind.i64.wrap ((0 : Int) - l0) else l0)))) else none)
theorem divisor_M_ok (a b : Int) {r : D} (h : divisor_M a b = some r) : Con 137 [.one (.int .i64 a), .one (.int .i64 b)] r := by
  unfold divisor_M at h
  obtain ⟨j, ds, e1_, h2_⟩ := bindL_elim h
  by_cases j3_ : j = 0
  · have h6_ := (if_pos j3_).symm.trans h2_
    clear h2_
    subst j3_
    obtain ⟨l0, e4_, h7_⟩ := pullD_elim h6_
    clear h6_
    obtain rfl := tup_inj e4_
    have k5_ := divisor_L1_in0 a b e1_
    obtain rfl := Option.some.inj h7_
    exact con_pc (op := true) (I := [137]) (sp := divisor_sp) 3000 [] [.tup [.one (.int .i64 (Int.ofNat 0)), .one (.int .i64 l0)]] [] [k_l k5_ [] [.tup [.one (.int .i64 (Int.ofNat 0)), .one (.int .i64 l0)]] []] (by kernel_rfl)
  have h8_ := (if_neg j3_).symm.trans h2_
  clear h2_
  cases h8_
def m_137 (ds : List D) : Option D := pullD (α := Int × Int) (some (.tup ds)) (fun d => ((D.vi (D.at d 0)), (D.vi (D.at d 1)))) (fun (a, b) => .tup [.one (.int .i64 a), .one (.int .i64 b)]) fun (a, b) => divisor_M a b
theorem m_137_ok {ds : List D} {r : D} (h : m_137 ds = some r) : Con 137 ds r := by
  unfold m_137 at h
  obtain ⟨⟨a, b⟩, e0, h0⟩ := pullD_elim h
  obtain rfl := tup_inj e0
  exact divisor_M_ok a b h0
theorem m_137_eq (a b : Int) : m_137 [.one (.int .i64 a), .one (.int .i64 b)] = divisor_M a b := pullD_some (a, b) rfl rfl
def size_sp : List LSpec := []
def size_M (n : Int) : Option D := some (.one (.int .i64 (if IntKind.i64.wrap ((0 : Int) - n) > n then IntKind.i64.wrap ((0 : Int) - n) else n)))
theorem size_M_ok (n : Int) {r : D} (h : size_M n = some r) : Con 91 [.one (.int .i64 n)] r := by
  unfold size_M at h
  obtain rfl := Option.some.inj h
  exact con_pc (op := true) (I := [91]) (sp := size_sp) 3000 [] [] [] [] (by kernel_rfl)
def m_91 (ds : List D) : Option D := pullD (α := Int) (some (.tup ds)) (fun d => ((D.vi (D.at d 0)))) (fun n => .tup [.one (.int .i64 n)]) fun n => size_M n
theorem m_91_ok {ds : List D} {r : D} (h : m_91 ds = some r) : Con 91 ds r := by
  unfold m_91 at h
  obtain ⟨n, e0, h0⟩ := pullD_elim h
  obtain rfl := tup_inj e0
  exact size_M_ok n h0
theorem m_91_eq (n : Int) : m_91 [.one (.int .i64 n)] = size_M n := pullD_some n rfl rfl
def gcd_x1_0 : LExit := ⟨some 0, [.val 0], (1 :: (List.range' 5 6))⟩
def gcd_sp : List LSpec := [⟨106, 1, [gcd_x1_0]⟩]
def gcd_L1_E (a b : Int)  : List AV × AHeap := ([.pure (.int .i64 a), .pure (.int .i64 b), .pure (.tuple #[]), .pure (.tuple #[]), .pure (.int .i64 (0 : Int)), .pure (.tuple #[]), .pure (.tuple #[]), .pure (.tuple #[]), .pure (.tuple #[]), .pure (.tuple #[]), .pure (.tuple #[]), .pure (.tuple #[]), .pure (.tuple #[])], [])
def gcd_L1_A : LoopAt := ⟨106, loopAt Try.prog 106 0, 0, 8, 0, noFrame⟩
theorem gcd_L1_ok : (gcd_L1_A).OK := ⟨by show 0 ≤ 8; decide, by show 0 ≤ 0; decide, by kernel_rfl, rfl⟩
def gcd_L1_gs (a b : Int)  : Go.Ev.Rd → Option GS
  | .next 0 ds => ghost [.val 0, .val 1] (List.range' 5 6) (gcd_L1_E a b).1 (gcd_L1_E a b).2 0 ds
  | .out 0 ds => ghost gcd_x1_0.live gcd_x1_0.junk (gcd_L1_E a b).1 (gcd_L1_E a b).2 0 ds
  | _ => none
def gcd_L1_ex : Nat → Option Nat
  | 0 => gcd_x1_0.ex
  | _ => none
def gcd_L1_ax : Go.Ev.Rd → AX
  | .next _ _ => .normal
  | .out j _ => axOf (gcd_L1_ex j)
def gcd_L1_S0 (a b : Int)  (ds : List D) : Option Go.Ev.Rd := pullD (α := Int × Int) (some (.tup ds)) (fun d => ((D.vi (D.at d 0)), (D.vi (D.at d 1)))) (fun (s0, s1) => .tup [.one (.int .i64 s0), .one (.int .i64 s1)]) fun (s0, s1) => ((if s1 ≠ (0 : Int) then some (.next 0 [.one (.int .i64 s1), .one (.int .i64 (s0.tmod s1))]) else some (.out 0 [.one (.int .i64 s0)])))
def gcd_L1_S (a b : Int)  : Go.Ev.Rd → Option Go.Ev.Rd
  | .next 0 ds => gcd_L1_S0 a b ds
  | _ => none
theorem gcd_L1_S_ok (a b : Int)  : ∀ s_ t_, gcd_L1_S a b s_ = some t_ → Step (ctx [106] gcd_sp) Tabs gcd_L1_A (stateOf (gcd_L1_gs a b s_)) (stateOf (gcd_L1_gs a b t_)) (gcd_L1_ax t_) ∧ EndOK gcd_L1_A.nx gcd_L1_A.low (gcd_L1_gs a b) t_
  | .next 0 ds, t_, h => by
    have h_ : gcd_L1_S0 a b ds = some t_ := h
    clear h
    unfold gcd_L1_S0 at h_
    obtain ⟨⟨s0, s1⟩, e0, h0⟩ := pullD_elim h_
    clear h_
    obtain rfl := tup_inj e0
    by_cases b1_ : s1 ≠ (0 : Int)
    · have h2_ := (if_pos b1_).symm.trans h0
      obtain rfl := Option.some.inj h2_
      exact ⟨step_pc 3000 (bT 1 []) [] [c_b b1_, c_en b1_] [] _ rfl (by kernel_rfl) (by kernel_rfl) (by kernel_rfl) (by kernel_rfl) (by kernel_rfl) (by kernel_rfl), trivial⟩
    · have h2_ := (if_neg b1_).symm.trans h0
      have b3_ : s1 = (0 : Int) := by first | exact b1_ | simpa using b1_
      obtain rfl := Option.some.inj h2_
      exact ⟨step_pc 3000 (bF 1 []) [] [c_bn b3_] [] _ rfl (by kernel_rfl) (by kernel_rfl) (by kernel_rfl) (by kernel_rfl) (by kernel_rfl) (by kernel_rfl), by kernel_rfl, by kernel_rfl⟩
  | .next (_ + 1) _, _, h => by cases h
  | .out _ _, _, h => by cases h
theorem gcd_L1_go (a b : Int)  {q : Nat} {ds : List D} {j : Nat} {es : List D} (h : runR (gcd_L1_S a b) (.next q ds) = some (.out j es)) : Runs (ctx [106] gcd_sp) Tabs gcd_L1_A (stateOf (gcd_L1_gs a b (.next q ds))) (stateOf (gcd_L1_gs a b (.out j es))) (gcd_L1_ax (.out j es)) ∧ (nxtOf (gcd_L1_gs a b (.out j es)), lowGS (gcd_L1_gs a b (.out j es))) = (gcd_L1_A.nx, gcd_L1_A.low) :=
  runs_of' (good true _ _) gcd_L1_ok (ax := gcd_L1_ax) (fun _ _ => rfl) (fun _ _ => axOf_end _) (gcd_L1_S_ok a b) h
theorem gcd_L1_in0 (a b : Int)  {es : List D} (h : runR (gcd_L1_S a b) (.next 0 [.one (.int .i64 (a)), .one (.int .i64 (b))]) = some (.out 0 es)) : LoopC (loopAt Try.prog 106 0) (gcd_L1_E a b) 0 noFrame gcd_x1_0 es :=
  have r := gcd_L1_go a b h
  loopin_as rfl (loop_in (l := gcd_L1_A) (E := (gcd_L1_E a b)) (S := stateOf (gcd_L1_gs a b (.next 0 [.one (.int .i64 (a)), .one (.int .i64 (b))]))) (ns := nsOf (gcd_L1_gs a b (.next 0 [.one (.int .i64 (a)), .one (.int .i64 (b))]))) gcd_L1_ok r.1 r.2 (by kernel_rfl) (by kernel_rfl) (by kernel_rfl) (by kernel_rfl))
def gcd_M (a b : Int) : Option D := bindL (runR (gcd_L1_S a b) (.next 0 [.one (.int .i64 (a)), .one (.int .i64 (b))])) fun j ds => (if j = 0 then pullD (α := Int) (some (.tup ds)) (fun d => ((D.vi (D.at d 0)))) (fun l0 => .tup [.one (.int .i64 l0)]) fun l0 => (pullD (α := Int) (m_91 [.one (.int .i64 l0)]) (fun d => ((D.vi d))) (fun r1 => .one (.int .i64 r1)) fun r1 => (some (.one (.int .i64 r1)))) else none)
theorem gcd_M_ok (a b : Int) {r : D} (h : gcd_M a b = some r) : Con 106 [.one (.int .i64 a), .one (.int .i64 b)] r := by
  unfold gcd_M at h
  obtain ⟨j, ds, e1_, h2_⟩ := bindL_elim h
  by_cases j3_ : j = 0
  · have h6_ := (if_pos j3_).symm.trans h2_
    clear h2_
    subst j3_
    obtain ⟨l0, e4_, h7_⟩ := pullD_elim h6_
    clear h6_
    obtain rfl := tup_inj e4_
    have k5_ := gcd_L1_in0 a b e1_
    obtain ⟨r1, f8_, h9_⟩ := pullD_elim h7_
    replace f8_ := m_91_ok f8_
    obtain rfl := Option.some.inj h9_
    exact con_pc (op := true) (I := [106]) (sp := gcd_sp) 3000 [] [.tup [.one (.int .i64 (Int.ofNat 0)), .one (.int .i64 l0)], .one (.int .i64 r1)] [] [k_l k5_ [] [.tup [.one (.int .i64 (Int.ofNat 0)), .one (.int .i64 l0)], .one (.int .i64 r1)] [.one (.int .i64 r1)], k_c f8_] (by kernel_rfl)
  have h10_ := (if_neg j3_).symm.trans h2_
  clear h2_
  cases h10_
def m_106 (ds : List D) : Option D := pullD (α := Int × Int) (some (.tup ds)) (fun d => ((D.vi (D.at d 0)), (D.vi (D.at d 1)))) (fun (a, b) => .tup [.one (.int .i64 a), .one (.int .i64 b)]) fun (a, b) => gcd_M a b
theorem m_106_ok {ds : List D} {r : D} (h : m_106 ds = some r) : Con 106 ds r := by
  unfold m_106 at h
  obtain ⟨⟨a, b⟩, e0, h0⟩ := pullD_elim h
  obtain rfl := tup_inj e0
  exact gcd_M_ok a b h0
theorem m_106_eq (a b : Int) : m_106 [.one (.int .i64 a), .one (.int .i64 b)] = gcd_M a b := pullD_some (a, b) rfl rfl
def reduced_sp : List LSpec := []
def reduced_M (n d : Int) : Option D := pullD (α := Int) (m_137 [.one (.int .i64 n), .one (.int .i64 d)]) (fun d => ((D.vi d))) (fun r0 => .one (.int .i64 r0)) fun r0 => (guardP (r0 ≠ (0 : Int)) (some (.agg [.one (.int .i64 (IntKind.i64.wrap (n.tdiv r0))), .one (.int .i64 (IntKind.i64.wrap (d.tdiv r0)))])))
theorem reduced_M_ok (n d : Int) {r : D} (h : reduced_M n d = some r) : Con 119 [.one (.int .i64 n), .one (.int .i64 d)] r := by
  unfold reduced_M at h
  obtain ⟨r0, f1_, h2_⟩ := pullD_elim h
  replace f1_ := m_137_ok f1_
  obtain ⟨f3_, h4_⟩ := guardP_elim h2_
  obtain rfl := Option.some.inj h4_
  exact con_pc (op := true) (I := [119]) (sp := reduced_sp) 3000 [] [.one (.int .i64 r0)] [c_en f3_, c_en f3_] [k_c f1_] (by kernel_rfl)
def m_119 (ds : List D) : Option D := pullD (α := Int × Int) (some (.tup ds)) (fun d => ((D.vi (D.at d 0)), (D.vi (D.at d 1)))) (fun (n, d) => .tup [.one (.int .i64 n), .one (.int .i64 d)]) fun (n, d) => reduced_M n d
theorem m_119_ok {ds : List D} {r : D} (h : m_119 ds = some r) : Con 119 ds r := by
  unfold m_119 at h
  obtain ⟨⟨n, d⟩, e0, h0⟩ := pullD_elim h
  obtain rfl := tup_inj e0
  exact reduced_M_ok n d h0
theorem m_119_eq (n d : Int) : m_119 [.one (.int .i64 n), .one (.int .i64 d)] = reduced_M n d := pullD_some (n, d) rfl rfl
def isLowest_sp : List LSpec := []
def isLowest_M (n d : Int) : Option D := (if d > (0 : Int) then pullD (α := Int) (m_106 [.one (.int .i64 n), .one (.int .i64 d)]) (fun d => ((D.vi d))) (fun r0 => .one (.int .i64 r0)) fun r0 => (some (.one (.bool (r0 == (1 : Int))))) else some (.one (.bool false)))
theorem isLowest_M_ok (n d : Int) {r : D} (h : isLowest_M n d = some r) : Con 47 [.agg [.one (.int .i64 n), .one (.int .i64 d)]] r := by
  unfold isLowest_M at h
  by_cases b1_ : d > (0 : Int)
  · have h2_ := (if_pos b1_).symm.trans h
    obtain ⟨r0, f3_, h4_⟩ := pullD_elim h2_
    replace f3_ := m_106_ok f3_
    obtain rfl := Option.some.inj h4_
    exact con_pc (op := true) (I := [47]) (sp := isLowest_sp) 3000 (bT 7 []) [.one (.int .i64 r0)] [c_d b1_, c_d b1_, c_d b1_, c_d b1_, c_d b1_, c_d b1_, c_d b1_] [k_c f3_] (by kernel_rfl)
  · have h2_ := (if_neg b1_).symm.trans h
    obtain rfl := Option.some.inj h2_
    exact con_pc (op := true) (I := [47]) (sp := isLowest_sp) 3000 (bF 7 []) [] [c_n b1_, c_n b1_, c_n b1_, c_n b1_, c_n b1_, c_n b1_, c_n b1_] [] (by kernel_rfl)
def m_47 (ds : List D) : Option D := pullD (α := Int × Int) (some (.tup ds)) (fun d => ((D.vi (D.at (D.at d 0) 0)), (D.vi (D.at (D.at d 0) 1)))) (fun (n, d) => .tup [.agg [.one (.int .i64 n), .one (.int .i64 d)]]) fun (n, d) => isLowest_M n d
theorem m_47_ok {ds : List D} {r : D} (h : m_47 ds = some r) : Con 47 ds r := by
  unfold m_47 at h
  obtain ⟨⟨n, d⟩, e0, h0⟩ := pullD_elim h
  obtain rfl := tup_inj e0
  exact isLowest_M_ok n d h0
theorem m_47_eq (n d : Int) : m_47 [.agg [.one (.int .i64 n), .one (.int .i64 d)]] = isLowest_M n d := pullD_some (n, d) rfl rfl
def isSmall_sp : List LSpec := []
def isSmall_M (n d : Int) : Option D := pullD (α := Bool) (m_30 [.one (.int .i64 n), .one (.int .i64 (-1000000000 : Int)), .one (.int .i64 (1000000000 : Int))]) (fun d => ((D.vb d))) (fun r0 => .one (.bool r0)) fun r0 => ((if (r0) = true then pullD (α := Bool) (m_30 [.one (.int .i64 d), .one (.int .i64 (1 : Int)), .one (.int .i64 (1000000000 : Int))]) (fun d => ((D.vb d))) (fun r1 => .one (.bool r1)) fun r1 => (some (.one (.bool r1))) else some (.one (.bool false))))
theorem isSmall_M_ok (n d : Int) {r : D} (h : isSmall_M n d = some r) : Con 48 [.agg [.one (.int .i64 n), .one (.int .i64 d)]] r := by
  unfold isSmall_M at h
  obtain ⟨r0, f1_, h2_⟩ := pullD_elim h
  replace f1_ := m_30_ok f1_
  by_cases b3_ : (r0) = true
  · have h4_ := (if_pos b3_).symm.trans h2_
    obtain ⟨r1, f5_, h6_⟩ := pullD_elim h4_
    replace f5_ := m_30_ok f5_
    obtain rfl := Option.some.inj h6_
    exact con_pc (op := true) (I := [48]) (sp := isSmall_sp) 3000 (bT 4 []) [.one (.bool r0), .one (.bool r1)] [c_q b3_, c_q b3_, c_q b3_, c_q b3_] [k_c f1_, k_c f5_] (by kernel_rfl)
  · have h4_ := (if_neg b3_).symm.trans h2_
    have b7_ : (r0) = false := by first | exact b3_ | simpa using b3_
    obtain rfl := Option.some.inj h4_
    exact con_pc (op := true) (I := [48]) (sp := isSmall_sp) 3000 (bF 4 []) [.one (.bool r0)] [c_q b7_, c_q b7_, c_q b7_, c_q b7_] [k_c f1_] (by kernel_rfl)
def m_48 (ds : List D) : Option D := pullD (α := Int × Int) (some (.tup ds)) (fun d => ((D.vi (D.at (D.at d 0) 0)), (D.vi (D.at (D.at d 0) 1)))) (fun (n, d) => .tup [.agg [.one (.int .i64 n), .one (.int .i64 d)]]) fun (n, d) => isSmall_M n d
theorem m_48_ok {ds : List D} {r : D} (h : m_48 ds = some r) : Con 48 ds r := by
  unfold m_48 at h
  obtain ⟨⟨n, d⟩, e0, h0⟩ := pullD_elim h
  obtain rfl := tup_inj e0
  exact isSmall_M_ok n d h0
theorem m_48_eq (n d : Int) : m_48 [.agg [.one (.int .i64 n), .one (.int .i64 d)]] = isSmall_M n d := pullD_some (n, d) rfl rfl
def cmp_sp : List LSpec := []
def cmp_M (n d m e : Int) : Option D := (if IntKind.i64.wrap (n * e) < IntKind.i64.wrap (m * d) then some (.one (.int .i64 (-1 : Int))) else (if IntKind.i64.wrap (n * e) > IntKind.i64.wrap (m * d) then some (.one (.int .i64 (1 : Int))) else some (.one (.int .i64 (0 : Int)))))
theorem cmp_M_ok (n d m e : Int) {r : D} (h : cmp_M n d m e = some r) : Con 49 [.agg [.one (.int .i64 n), .one (.int .i64 d)], .agg [.one (.int .i64 m), .one (.int .i64 e)]] r := by
  unfold cmp_M at h
  by_cases b1_ : IntKind.i64.wrap (n * e) < IntKind.i64.wrap (m * d)
  · have h2_ := (if_pos b1_).symm.trans h
    obtain rfl := Option.some.inj h2_
    exact con_pc (op := true) (I := [49]) (sp := cmp_sp) 3000 (bT 1 []) [] [c_d b1_] [] (by kernel_rfl)
  · have h2_ := (if_neg b1_).symm.trans h
    by_cases b3_ : IntKind.i64.wrap (n * e) > IntKind.i64.wrap (m * d)
    · have h4_ := (if_pos b3_).symm.trans h2_
      obtain rfl := Option.some.inj h4_
      exact con_pc (op := true) (I := [49]) (sp := cmp_sp) 3000 (bF 1 (bT 1 [])) [] [c_n b1_, c_d b3_] [] (by kernel_rfl)
    · have h4_ := (if_neg b3_).symm.trans h2_
      obtain rfl := Option.some.inj h4_
      exact con_pc (op := true) (I := [49]) (sp := cmp_sp) 3000 (bF 2 []) [] [c_n b1_, c_n b3_] [] (by kernel_rfl)
def m_49 (ds : List D) : Option D := pullD (α := Int × Int × Int × Int) (some (.tup ds)) (fun d => ((D.vi (D.at (D.at d 0) 0)), (D.vi (D.at (D.at d 0) 1)), (D.vi (D.at (D.at d 1) 0)), (D.vi (D.at (D.at d 1) 1)))) (fun (n, d, m, e) => .tup [.agg [.one (.int .i64 n), .one (.int .i64 d)], .agg [.one (.int .i64 m), .one (.int .i64 e)]]) fun (n, d, m, e) => cmp_M n d m e
theorem m_49_ok {ds : List D} {r : D} (h : m_49 ds = some r) : Con 49 ds r := by
  unfold m_49 at h
  obtain ⟨⟨n, d, m, e⟩, e0, h0⟩ := pullD_elim h
  obtain rfl := tup_inj e0
  exact cmp_M_ok n d m e h0
theorem m_49_eq (n d m e : Int) : m_49 [.agg [.one (.int .i64 n), .one (.int .i64 d)], .agg [.one (.int .i64 m), .one (.int .i64 e)]] = cmp_M n d m e := pullD_some (n, d, m, e) rfl rfl
def roundedUp_sp : List LSpec := []
def roundedUp_M (n d : Int) : Option D := guardP (d ≠ (0 : Int)) (some (.one (.int .i64 (IntKind.i64.wrap ((IntKind.i64.wrap (IntKind.i64.wrap (n + d) - (1 : Int))).tdiv d)))))
theorem roundedUp_M_ok (n d : Int) {r : D} (h : roundedUp_M n d = some r) : Con 154 [.one (.int .i64 n), .one (.int .i64 d)] r := by
  unfold roundedUp_M at h
  obtain ⟨f1_, h2_⟩ := guardP_elim h
  obtain rfl := Option.some.inj h2_
  exact con_pc (op := true) (I := [154]) (sp := roundedUp_sp) 3000 [] [] [c_en f1_] [] (by kernel_rfl)
def m_154 (ds : List D) : Option D := pullD (α := Int × Int) (some (.tup ds)) (fun d => ((D.vi (D.at d 0)), (D.vi (D.at d 1)))) (fun (n, d) => .tup [.one (.int .i64 n), .one (.int .i64 d)]) fun (n, d) => roundedUp_M n d
theorem m_154_ok {ds : List D} {r : D} (h : m_154 ds = some r) : Con 154 ds r := by
  unfold m_154 at h
  obtain ⟨⟨n, d⟩, e0, h0⟩ := pullD_elim h
  obtain rfl := tup_inj e0
  exact roundedUp_M_ok n d h0
theorem m_154_eq (n d : Int) : m_154 [.one (.int .i64 n), .one (.int .i64 d)] = roundedUp_M n d := pullD_some (n, d) rfl rfl
def forceAt_sp : List LSpec := []
def forceAt_M (u n d : Int) : Option D := pullD (α := Int) (m_154 [.one (.int .i64 (IntKind.i64.wrap (IntKind.i64.wrap (u * n) * n))), .one (.int .i64 (IntKind.i64.wrap (d * d)))]) (fun d => ((D.vi d))) (fun r0 => .one (.int .i64 r0)) fun r0 => (some (.one (.int .i64 r0)))
theorem forceAt_M_ok (u n d : Int) {r : D} (h : forceAt_M u n d = some r) : Con 144 [.one (.int .i64 u), .agg [.one (.int .i64 n), .one (.int .i64 d)]] r := by
  unfold forceAt_M at h
  obtain ⟨r0, f1_, h2_⟩ := pullD_elim h
  replace f1_ := m_154_ok f1_
  obtain rfl := Option.some.inj h2_
  exact con_pc (op := true) (I := [144]) (sp := forceAt_sp) 3000 [] [.one (.int .i64 r0)] [] [k_c f1_] (by kernel_rfl)
def m_144 (ds : List D) : Option D := pullD (α := Int × Int × Int) (some (.tup ds)) (fun d => ((D.vi (D.at d 0)), (D.vi (D.at (D.at d 1) 0)), (D.vi (D.at (D.at d 1) 1)))) (fun (u, n, d) => .tup [.one (.int .i64 u), .agg [.one (.int .i64 n), .one (.int .i64 d)]]) fun (u, n, d) => forceAt_M u n d
theorem m_144_ok {ds : List D} {r : D} (h : m_144 ds = some r) : Con 144 ds r := by
  unfold m_144 at h
  obtain ⟨⟨u, n, d⟩, e0, h0⟩ := pullD_elim h
  obtain rfl := tup_inj e0
  exact forceAt_M_ok u n d h0
theorem m_144_eq (u n d : Int) : m_144 [.one (.int .i64 u), .agg [.one (.int .i64 n), .one (.int .i64 d)]] = forceAt_M u n d := pullD_some (u, n, d) rfl rfl
def answerOf_sp : List LSpec := []
def answerOf_M (a b c d : Int) : Option D := (if a ≥ d then some (.one (.int .i64 (2 : Int))) else (if b < c then some (.one (.int .i64 (0 : Int))) else some (.one (.int .i64 (1 : Int)))))
theorem answerOf_M_ok (a b c d : Int) {r : D} (h : answerOf_M a b c d = some r) : Con 117 [.agg [.one (.int .i64 a), .one (.int .i64 b)], .agg [.one (.int .i64 c), .one (.int .i64 d)]] r := by
  unfold answerOf_M at h
  by_cases b1_ : a ≥ d
  · have h2_ := (if_pos b1_).symm.trans h
    obtain rfl := Option.some.inj h2_
    exact con_pc (op := true) (I := [117]) (sp := answerOf_sp) 3000 (bT 1 []) [] [c_d b1_] [] (by kernel_rfl)
  · have h2_ := (if_neg b1_).symm.trans h
    by_cases b3_ : b < c
    · have h4_ := (if_pos b3_).symm.trans h2_
      obtain rfl := Option.some.inj h4_
      exact con_pc (op := true) (I := [117]) (sp := answerOf_sp) 3000 (bF 1 (bT 1 [])) [] [c_n b1_, c_d b3_] [] (by kernel_rfl)
    · have h4_ := (if_neg b3_).symm.trans h2_
      obtain rfl := Option.some.inj h4_
      exact con_pc (op := true) (I := [117]) (sp := answerOf_sp) 3000 (bF 2 []) [] [c_n b1_, c_n b3_] [] (by kernel_rfl)
def m_117 (ds : List D) : Option D := pullD (α := Int × Int × Int × Int) (some (.tup ds)) (fun d => ((D.vi (D.at (D.at d 0) 0)), (D.vi (D.at (D.at d 0) 1)), (D.vi (D.at (D.at d 1) 0)), (D.vi (D.at (D.at d 1) 1)))) (fun (a, b, c, d) => .tup [.agg [.one (.int .i64 a), .one (.int .i64 b)], .agg [.one (.int .i64 c), .one (.int .i64 d)]]) fun (a, b, c, d) => answerOf_M a b c d
theorem m_117_ok {ds : List D} {r : D} (h : m_117 ds = some r) : Con 117 ds r := by
  unfold m_117 at h
  obtain ⟨⟨a, b, c, d⟩, e0, h0⟩ := pullD_elim h
  obtain rfl := tup_inj e0
  exact answerOf_M_ok a b c d h0
theorem m_117_eq (a b c d : Int) : m_117 [.agg [.one (.int .i64 a), .one (.int .i64 b)], .agg [.one (.int .i64 c), .one (.int .i64 d)]] = answerOf_M a b c d := pullD_some (a, b, c, d) rfl rfl
def inOrder_x2_0 : LExit := ⟨some 0, [], (2 :: (4 :: (List.range' 7 10)))⟩
def inOrder_x2_1 : LExit := ⟨none, [.val 2], (4 :: (List.range' 7 10))⟩
def inOrder_sp : List LSpec := [⟨102, 2, [inOrder_x2_0, inOrder_x2_1]⟩]
def inOrder_L2_E (k : Nat) (c : List D)  : List AV × AHeap := ([.dsl 0, .pure (.tuple #[]), .pure (.int .i64 (0 : Int)), .pure (.tuple #[]), .pure (.tuple #[]), .dsl 0, .pure (.int .i64 (k : Int)), .pure (.int .i64 (0 : Int)), .pure (.tuple #[]), .pure (.tuple #[]), .pure (.tuple #[]), .pure (.tuple #[]), .pure (.tuple #[]), .pure (.tuple #[]), .pure (.tuple #[]), .pure (.tuple #[]), .pure (.tuple #[])], [(0, { cells := [], opn := none, kind := .deep k c })])
def inOrder_L2_A : LoopAt := ⟨102, loopAt Try.prog 102 0, 1, 13, 1, noFrame⟩
theorem inOrder_L2_ok : (inOrder_L2_A).OK := ⟨by show 1 ≤ 13; decide, by show 1 ≤ 1; decide, by kernel_rfl, rfl⟩
def inOrder_L2_gs (k : Nat) (c : List D)  : Go.Ev.Rd → Option GS
  | .next 0 ds => ghost [.val 7] (2 :: (4 :: (List.range' 8 9))) (inOrder_L2_E k c).1 (inOrder_L2_E k c).2 1 ds
  | .out 0 ds => ghost inOrder_x2_0.live inOrder_x2_0.junk (inOrder_L2_E k c).1 (inOrder_L2_E k c).2 1 ds
  | .out 1 ds => ghost inOrder_x2_1.live inOrder_x2_1.junk (inOrder_L2_E k c).1 (inOrder_L2_E k c).2 1 ds
  | _ => none
def inOrder_L2_ex : Nat → Option Nat
  | 0 => inOrder_x2_0.ex
  | 1 => inOrder_x2_1.ex
  | _ => none
def inOrder_L2_ax : Go.Ev.Rd → AX
  | .next _ _ => .normal
  | .out j _ => axOf (inOrder_L2_ex j)
def inOrder_L2_S0 (k : Nat) (c : List D)  (ds : List D) : Option Go.Ev.Rd := pullD (α := Int) (some (.tup ds)) (fun d => ((D.vi (D.at d 0)))) (fun s7 => .tup [.one (.int .i64 s7)]) fun s7 => ((if s7 < (k : Int) then guardP ((0 : Int) ≤ s7 ∧ s7.toNat < k) (pullD (α := Int × Int) (readD c (s7.toNat * 2) 2 true) (fun d => ((D.vi (D.at d 0)), (D.vi (D.at d 1)))) (fun (v0, v1) => .agg [.one (.int .i64 v0), .one (.int .i64 v1)]) fun (v0, v1) => ((if v0 > v1 then some (.out 1 [.one (.int .i64 (9 : Int))]) else some (.next 0 [.one (.int .i64 (IntKind.i64.wrap (s7 + (1 : Int))))])))) else some (.out 0 [])))
def inOrder_L2_S (k : Nat) (c : List D)  : Go.Ev.Rd → Option Go.Ev.Rd
  | .next 0 ds => inOrder_L2_S0 k c ds
  | _ => none
theorem inOrder_L2_S_ok (k : Nat) (c : List D)  : ∀ s_ t_, inOrder_L2_S k c s_ = some t_ → Step (ctx [102] inOrder_sp) Tabs inOrder_L2_A (stateOf (inOrder_L2_gs k c s_)) (stateOf (inOrder_L2_gs k c t_)) (inOrder_L2_ax t_) ∧ EndOK inOrder_L2_A.nx inOrder_L2_A.low (inOrder_L2_gs k c) t_
  | .next 0 ds, t_, h => by
    have h_ : inOrder_L2_S0 k c ds = some t_ := h
    clear h
    unfold inOrder_L2_S0 at h_
    obtain ⟨s7, e0, h0⟩ := pullD_elim h_
    clear h_
    obtain rfl := tup_inj e0
    by_cases b1_ : s7 < (k : Int)
    · have h2_ := (if_pos b1_).symm.trans h0
      obtain ⟨f3_, h4_⟩ := guardP_elim h2_
      obtain ⟨⟨v0, v1⟩, f5_, h6_⟩ := pullD_elim h4_
      replace f5_ := readD_elim f5_
      by_cases b7_ : v0 > v1
      · have h8_ := (if_pos b7_).symm.trans h6_
        obtain rfl := Option.some.inj h8_
        exact ⟨step_pc 3000 (bT 2 []) [.agg [.one (.int .i64 v0), .one (.int .i64 v1)]] [c_d b1_, c_f f3_, c_f f5_, c_d b7_] [] _ rfl (by kernel_rfl) (by kernel_rfl) (by kernel_rfl) (by kernel_rfl) (by kernel_rfl) (by kernel_rfl), by kernel_rfl, by kernel_rfl⟩
      · have h8_ := (if_neg b7_).symm.trans h6_
        obtain rfl := Option.some.inj h8_
        exact ⟨step_pc 3000 (bT 1 (bF 1 [])) [.agg [.one (.int .i64 v0), .one (.int .i64 v1)]] [c_d b1_, c_f f3_, c_f f5_, c_n b7_] [] _ rfl (by kernel_rfl) (by kernel_rfl) (by kernel_rfl) (by kernel_rfl) (by kernel_rfl) (by kernel_rfl), trivial⟩
    · have h2_ := (if_neg b1_).symm.trans h0
      obtain rfl := Option.some.inj h2_
      exact ⟨step_pc 3000 (bF 1 []) [] [c_n b1_] [] _ rfl (by kernel_rfl) (by kernel_rfl) (by kernel_rfl) (by kernel_rfl) (by kernel_rfl) (by kernel_rfl), by kernel_rfl, by kernel_rfl⟩
  | .next (_ + 1) _, _, h => by cases h
  | .out _ _, _, h => by cases h
theorem inOrder_L2_go (k : Nat) (c : List D)  {q : Nat} {ds : List D} {j : Nat} {es : List D} (h : runR (inOrder_L2_S k c) (.next q ds) = some (.out j es)) : Runs (ctx [102] inOrder_sp) Tabs inOrder_L2_A (stateOf (inOrder_L2_gs k c (.next q ds))) (stateOf (inOrder_L2_gs k c (.out j es))) (inOrder_L2_ax (.out j es)) ∧ (nxtOf (inOrder_L2_gs k c (.out j es)), lowGS (inOrder_L2_gs k c (.out j es))) = (inOrder_L2_A.nx, inOrder_L2_A.low) :=
  runs_of' (good true _ _) inOrder_L2_ok (ax := inOrder_L2_ax) (fun _ _ => rfl) (fun _ _ => axOf_end _) (inOrder_L2_S_ok k c) h
theorem inOrder_L2_in0 (k : Nat) (c : List D)  {es : List D} (h : runR (inOrder_L2_S k c) (.next 0 [.one (.int .i64 ((0 : Int)))]) = some (.out 0 es)) : LoopC (loopAt Try.prog 102 0) (inOrder_L2_E k c) 1 noFrame inOrder_x2_0 es :=
  have r := inOrder_L2_go k c h
  loopin_as rfl (loop_in (l := inOrder_L2_A) (E := (inOrder_L2_E k c)) (S := stateOf (inOrder_L2_gs k c (.next 0 [.one (.int .i64 ((0 : Int)))]))) (ns := nsOf (inOrder_L2_gs k c (.next 0 [.one (.int .i64 ((0 : Int)))]))) inOrder_L2_ok r.1 r.2 (by kernel_rfl) (by kernel_rfl) (by kernel_rfl) (by kernel_rfl))
theorem inOrder_L2_in1 (k : Nat) (c : List D)  {es : List D} (h : runR (inOrder_L2_S k c) (.next 0 [.one (.int .i64 ((0 : Int)))]) = some (.out 1 es)) : LoopC (loopAt Try.prog 102 0) (inOrder_L2_E k c) 1 noFrame inOrder_x2_1 es :=
  have r := inOrder_L2_go k c h
  loopin_as rfl (loop_in (l := inOrder_L2_A) (E := (inOrder_L2_E k c)) (S := stateOf (inOrder_L2_gs k c (.next 0 [.one (.int .i64 ((0 : Int)))]))) (ns := nsOf (inOrder_L2_gs k c (.next 0 [.one (.int .i64 ((0 : Int)))]))) inOrder_L2_ok r.1 r.2 (by kernel_rfl) (by kernel_rfl) (by kernel_rfl) (by kernel_rfl))
def inOrder_M (k : Nat) (c : List D) : Option D := bindL (runR (inOrder_L2_S k c) (.next 0 [.one (.int .i64 ((0 : Int)))])) fun j ds => (if j = 0 then pullD (some (.tup ds)) (fun _ => ()) (fun _ => .tup []) fun _ => (some (.one (.int .i64 (0 : Int)))) else if j = 1 then pullD (α := Int) (some (.tup ds)) (fun d => ((D.vi (D.at d 0)))) (fun l0 => .tup [.one (.int .i64 l0)]) fun l0 => (some (.one (.int .i64 l0))) else none)
theorem inOrder_M_ok (k : Nat) (c : List D) {r : D} (h : inOrder_M k c = some r) : Con 102 [.list k c] r := by
  unfold inOrder_M at h
  obtain ⟨j, ds, e1_, h2_⟩ := bindL_elim h
  by_cases j3_ : j = 0
  · have h6_ := (if_pos j3_).symm.trans h2_
    clear h2_
    subst j3_
    obtain ⟨⟨⟩, e4_, h7_⟩ := pullD_elim h6_
    clear h6_
    obtain rfl := tup_inj e4_
    have k5_ := inOrder_L2_in0 k c e1_
    obtain rfl := Option.some.inj h7_
    exact con_pc (op := true) (I := [102]) (sp := inOrder_sp) 3000 [] [.tup [.one (.int .i64 (Int.ofNat 0))]] [] [k_l k5_ [] [.tup [.one (.int .i64 (Int.ofNat 0))]] []] (by kernel_rfl)
  have h8_ := (if_neg j3_).symm.trans h2_
  clear h2_
  by_cases j9_ : j = 1
  · have h12_ := (if_pos j9_).symm.trans h8_
    clear h8_
    subst j9_
    obtain ⟨l0, e10_, h13_⟩ := pullD_elim h12_
    clear h12_
    obtain rfl := tup_inj e10_
    have k11_ := inOrder_L2_in1 k c e1_
    obtain rfl := Option.some.inj h13_
    exact con_pc (op := true) (I := [102]) (sp := inOrder_sp) 3000 [] [.tup [.one (.int .i64 (Int.ofNat 1)), .one (.int .i64 l0)]] [] [k_l k11_ [] [.tup [.one (.int .i64 (Int.ofNat 1)), .one (.int .i64 l0)]] []] (by kernel_rfl)
  have h14_ := (if_neg j9_).symm.trans h8_
  clear h8_
  cases h14_
def m_102 (ds : List D) : Option D := pullD (α := Nat × (List D)) (some (.tup ds)) (fun d => ((D.ln (D.at d 0)), (D.lc (D.at d 0)))) (fun (k, c) => .tup [.list k c]) fun (k, c) => inOrder_M k c
theorem m_102_ok {ds : List D} {r : D} (h : m_102 ds = some r) : Con 102 ds r := by
  unfold m_102 at h
  obtain ⟨⟨k, c⟩, e0, h0⟩ := pullD_elim h
  obtain rfl := tup_inj e0
  exact inOrder_M_ok k c h0
theorem m_102_eq (k : Nat) (c : List D) : m_102 [.list k c] = inOrder_M k c := pullD_some (k, c) rfl rfl
def peak_sp : List LSpec := []
def peak_M (a b c d n m : Int) : Option D := pullD (α := Int × Int) (m_119 [.one (.int .i64 (IntKind.i64.wrap (a * n))), .one (.int .i64 (IntKind.i64.wrap (d * m)))]) (fun d => ((D.vi (D.at d 0)), (D.vi (D.at d 1)))) (fun (r0, r1) => .agg [.one (.int .i64 r0), .one (.int .i64 r1)]) fun (r0, r1) => (pullD (α := Int × Int) (m_119 [.one (.int .i64 (IntKind.i64.wrap (b * n))), .one (.int .i64 (IntKind.i64.wrap (c * m)))]) (fun d => ((D.vi (D.at d 0)), (D.vi (D.at d 1)))) (fun (r2, r3) => .agg [.one (.int .i64 r2), .one (.int .i64 r3)]) fun (r2, r3) => (some ((shNF1_0 r0 r1 r2 r3))))
theorem peak_M_ok (a b c d n m : Int) {r : D} (h : peak_M a b c d n m = some r) : Con 99 [(shNF1_1 a b c d n m)] r := by
  unfold peak_M at h
  obtain ⟨⟨r0, r1⟩, f1_, h2_⟩ := pullD_elim h
  replace f1_ := m_119_ok f1_
  obtain ⟨⟨r2, r3⟩, f3_, h4_⟩ := pullD_elim h2_
  replace f3_ := m_119_ok f3_
  obtain rfl := Option.some.inj h4_
  exact con_pc (op := true) (I := [99]) (sp := peak_sp) 3000 [] [.agg [.one (.int .i64 r0), .one (.int .i64 r1)], .agg [.one (.int .i64 r2), .one (.int .i64 r3)]] [] [k_c f1_, k_c f3_] (by kernel_rfl)
def m_99 (ds : List D) : Option D := pullD (α := Int × Int × Int × Int × Int × Int) (some (.tup ds)) (fun d => ((D.vi (D.at (D.at d 0) 0)), (D.vi (D.at (D.at d 0) 1)), (D.vi (D.at (D.at d 0) 2)), (D.vi (D.at (D.at d 0) 3)), (D.vi (D.at (D.at d 0) 4)), (D.vi (D.at (D.at d 0) 5)))) (fun (a, b, c, d, n, m) => .tup [(shNF1_1 a b c d n m)]) fun (a, b, c, d, n, m) => peak_M a b c d n m
theorem m_99_ok {ds : List D} {r : D} (h : m_99 ds = some r) : Con 99 ds r := by
  unfold m_99 at h
  obtain ⟨⟨a, b, c, d, n, m⟩, e0, h0⟩ := pullD_elim h
  obtain rfl := tup_inj e0
  exact peak_M_ok a b c d n m h0
theorem m_99_eq (a b c d n m : Int) : m_99 [(shNF1_1 a b c d n m)] = peak_M a b c d n m := pullD_some (a, b, c, d, n, m) rfl rfl
def forces_sp : List LSpec := []
def forces_M (a b c d n m u : Int) : Option D := pullD (m_99 [(shNF1_1 a b c d n m)]) shNF1_0P (fun (r0, r1, r2, r3) => (shNF1_0 r0 r1 r2 r3)) fun (r0, r1, r2, r3) => (pullD (α := Int) (m_144 [.one (.int .i64 u), .agg [.one (.int .i64 r0), .one (.int .i64 r1)]]) (fun d => ((D.vi d))) (fun r4 => .one (.int .i64 r4)) fun r4 => (pullD (α := Int) (m_144 [.one (.int .i64 u), .agg [.one (.int .i64 r2), .one (.int .i64 r3)]]) (fun d => ((D.vi d))) (fun r5 => .one (.int .i64 r5)) fun r5 => (some (.agg [.one (.int .i64 r4), .one (.int .i64 r5)]))))
theorem forces_M_ok (a b c d n m u : Int) {r : D} (h : forces_M a b c d n m u = some r) : Con 118 [(shNF1_1 a b c d n m), .one (.int .i64 u)] r := by
  unfold forces_M at h
  obtain ⟨⟨r0, r1, r2, r3⟩, f1_, h2_⟩ := pullD_elim h
  replace f1_ := m_99_ok f1_
  obtain ⟨r4, f3_, h4_⟩ := pullD_elim h2_
  replace f3_ := m_144_ok f3_
  obtain ⟨r5, f5_, h6_⟩ := pullD_elim h4_
  replace f5_ := m_144_ok f5_
  obtain rfl := Option.some.inj h6_
  exact con_pc (op := true) (I := [118]) (sp := forces_sp) 3000 [] [(shNF1_0 r0 r1 r2 r3), .one (.int .i64 r4), .one (.int .i64 r5)] [] [k_c f1_, k_c f3_, k_c f5_] (by kernel_rfl)
def m_118 (ds : List D) : Option D := pullD (α := Int × Int × Int × Int × Int × Int × Int) (some (.tup ds)) (fun d => ((D.vi (D.at (D.at d 0) 0)), (D.vi (D.at (D.at d 0) 1)), (D.vi (D.at (D.at d 0) 2)), (D.vi (D.at (D.at d 0) 3)), (D.vi (D.at (D.at d 0) 4)), (D.vi (D.at (D.at d 0) 5)), (D.vi (D.at d 1)))) (fun (a, b, c, d, n, m, u) => .tup [(shNF1_1 a b c d n m), .one (.int .i64 u)]) fun (a, b, c, d, n, m, u) => forces_M a b c d n m u
theorem m_118_ok {ds : List D} {r : D} (h : m_118 ds = some r) : Con 118 ds r := by
  unfold m_118 at h
  obtain ⟨⟨a, b, c, d, n, m, u⟩, e0, h0⟩ := pullD_elim h
  obtain rfl := tup_inj e0
  exact forces_M_ok a b c d n m u h0
theorem m_118_eq (a b c d n m u : Int) : m_118 [(shNF1_1 a b c d n m), .one (.int .i64 u)] = forces_M a b c d n m u := pullD_some (a, b, c, d, n, m, u) rfl rfl
def holds_sp : List LSpec := []
def holds_M (a b c d n m u l : Int) : Option D := pullD (α := Int × Int) (m_118 [(shNF1_1 a b c d n m), .one (.int .i64 u)]) (fun d => ((D.vi (D.at d 0)), (D.vi (D.at d 1)))) (fun (r0, r1) => .agg [.one (.int .i64 r0), .one (.int .i64 r1)]) fun (r0, r1) => (pullD (α := Int) (m_117 [.agg [.one (.int .i64 l), .one (.int .i64 l)], .agg [.one (.int .i64 r0), .one (.int .i64 r1)]]) (fun d => ((D.vi d))) (fun r2 => .one (.int .i64 r2)) fun r2 => (some (.one (.int .i64 r2))))
theorem holds_M_ok (a b c d n m u l : Int) {r : D} (h : holds_M a b c d n m u l = some r) : Con 101 [(shNF1_1 a b c d n m), .one (.int .i64 u), .one (.int .i64 l)] r := by
  unfold holds_M at h
  obtain ⟨⟨r0, r1⟩, f1_, h2_⟩ := pullD_elim h
  replace f1_ := m_118_ok f1_
  obtain ⟨r2, f3_, h4_⟩ := pullD_elim h2_
  replace f3_ := m_117_ok f3_
  obtain rfl := Option.some.inj h4_
  exact con_pc (op := true) (I := [101]) (sp := holds_sp) 3000 [] [.agg [.one (.int .i64 r0), .one (.int .i64 r1)], .one (.int .i64 r2)] [] [k_c f1_, k_c f3_] (by kernel_rfl)
def m_101 (ds : List D) : Option D := pullD (α := Int × Int × Int × Int × Int × Int × Int × Int) (some (.tup ds)) (fun d => ((D.vi (D.at (D.at d 0) 0)), (D.vi (D.at (D.at d 0) 1)), (D.vi (D.at (D.at d 0) 2)), (D.vi (D.at (D.at d 0) 3)), (D.vi (D.at (D.at d 0) 4)), (D.vi (D.at (D.at d 0) 5)), (D.vi (D.at d 1)), (D.vi (D.at d 2)))) (fun (a, b, c, d, n, m, u, l) => .tup [(shNF1_1 a b c d n m), .one (.int .i64 u), .one (.int .i64 l)]) fun (a, b, c, d, n, m, u, l) => holds_M a b c d n m u l
theorem m_101_ok {ds : List D} {r : D} (h : m_101 ds = some r) : Con 101 ds r := by
  unfold m_101 at h
  obtain ⟨⟨a, b, c, d, n, m, u, l⟩, e0, h0⟩ := pullD_elim h
  obtain rfl := tup_inj e0
  exact holds_M_ok a b c d n m u l h0
theorem m_101_eq (a b c d n m u l : Int) : m_101 [(shNF1_1 a b c d n m), .one (.int .i64 u), .one (.int .i64 l)] = holds_M a b c d n m u l := pullD_some (a, b, c, d, n, m, u, l) rfl rfl
def chkUnit_sp : List LSpec := []
def chkUnit_M (u : Int) : Option D := (if u < (0 : Int) then some (.one (.int .i64 (2 : Int))) else (if u > (10000000 : Int) then some (.one (.int .i64 (2 : Int))) else some (.one (.int .i64 (0 : Int)))))
theorem chkUnit_M_ok (u : Int) {r : D} (h : chkUnit_M u = some r) : Con 100 [.one (.int .i64 u)] r := by
  unfold chkUnit_M at h
  by_cases b1_ : u < (0 : Int)
  · have h2_ := (if_pos b1_).symm.trans h
    obtain rfl := Option.some.inj h2_
    exact con_pc (op := true) (I := [100, 95, 132]) (sp := chkUnit_sp) 3000 (bT 6 []) [] [c_T, c_d b1_, c_d b1_, c_d b1_, c_d b1_, c_T] [] (by kernel_rfl)
  · have h2_ := (if_neg b1_).symm.trans h
    by_cases b3_ : u > (10000000 : Int)
    · have h4_ := (if_pos b3_).symm.trans h2_
      obtain rfl := Option.some.inj h4_
      exact con_pc (op := true) (I := [100, 95, 132]) (sp := chkUnit_sp) 3000 (bT 1 (bF 4 (bT 1 []))) [] [c_T, c_n b1_, c_n b1_, c_n b1_, c_n b1_, c_d b3_] [] (by kernel_rfl)
    · have h4_ := (if_neg b3_).symm.trans h2_
      obtain rfl := Option.some.inj h4_
      exact con_pc (op := true) (I := [100, 95, 132]) (sp := chkUnit_sp) 3000 (bT 1 (bF 6 [])) [] [c_T, c_n b1_, c_n b1_, c_n b1_, c_n b1_, c_n b3_, c_F] [] (by kernel_rfl)
def m_100 (ds : List D) : Option D := pullD (α := Int) (some (.tup ds)) (fun d => ((D.vi (D.at d 0)))) (fun u => .tup [.one (.int .i64 u)]) fun u => chkUnit_M u
theorem m_100_ok {ds : List D} {r : D} (h : m_100 ds = some r) : Con 100 ds r := by
  unfold m_100 at h
  obtain ⟨u, e0, h0⟩ := pullD_elim h
  obtain rfl := tup_inj e0
  exact chkUnit_M_ok u h0
theorem m_100_eq (u : Int) : m_100 [.one (.int .i64 u)] = chkUnit_M u := pullD_some u rfl rfl
def chkFactor_sp : List LSpec := []
def chkFactor_M (n d : Int) : Option D := (if d ≤ (0 : Int) then some (.one (.int .i64 (3 : Int))) else pullD (α := Int) (m_137 [.one (.int .i64 n), .one (.int .i64 d)]) (fun d => ((D.vi d))) (fun r0 => .one (.int .i64 r0)) fun r0 => ((if r0 ≠ (1 : Int) then some (.one (.int .i64 (3 : Int))) else (if n < (1 : Int) then some (.one (.int .i64 (2 : Int))) else (if n > (100 : Int) then some (.one (.int .i64 (2 : Int))) else (if d < (1 : Int) then some (.one (.int .i64 (2 : Int))) else (if d > (100 : Int) then some (.one (.int .i64 (2 : Int))) else some (.one (.int .i64 (0 : Int))))))))))
theorem chkFactor_M_ok (n d : Int) {r : D} (h : chkFactor_M n d = some r) : Con 103 [.agg [.one (.int .i64 n), .one (.int .i64 d)]] r := by
  unfold chkFactor_M at h
  by_cases b1_ : d ≤ (0 : Int)
  · have h2_ := (if_pos b1_).symm.trans h
    obtain rfl := Option.some.inj h2_
    exact con_pc (op := true) (I := [103, 95, 132]) (sp := chkFactor_sp) 3000 (bT 8 []) [] [c_d b1_, c_d b1_, c_d b1_, c_d b1_, c_d b1_, c_d b1_, c_d b1_, c_T] [] (by kernel_rfl)
  · have h2_ := (if_neg b1_).symm.trans h
    obtain ⟨r0, f3_, h4_⟩ := pullD_elim h2_
    replace f3_ := m_137_ok f3_
    by_cases b5_ : r0 ≠ (1 : Int)
    · have h6_ := (if_pos b5_).symm.trans h4_
      obtain rfl := Option.some.inj h6_
      exact con_pc (op := true) (I := [103, 95, 132]) (sp := chkFactor_sp) 3000 (bF 7 (bT 1 [])) [.one (.int .i64 r0)] [c_n b1_, c_n b1_, c_n b1_, c_n b1_, c_n b1_, c_n b1_, c_n b1_, c_b b5_] [k_c f3_] (by kernel_rfl)
    · have h6_ := (if_neg b5_).symm.trans h4_
      have b7_ : r0 = (1 : Int) := by first | exact b5_ | simpa using b5_
      by_cases b8_ : n < (1 : Int)
      · have h9_ := (if_pos b8_).symm.trans h6_
        obtain rfl := Option.some.inj h9_
        exact con_pc (op := true) (I := [103, 95, 132]) (sp := chkFactor_sp) 3000 (bF 8 (bT 6 [])) [.one (.int .i64 r0)] [c_n b1_, c_n b1_, c_n b1_, c_n b1_, c_n b1_, c_n b1_, c_n b1_, c_bn b7_, c_T, c_d b8_, c_d b8_, c_d b8_, c_d b8_, c_T] [k_c f3_] (by kernel_rfl)
      · have h9_ := (if_neg b8_).symm.trans h6_
        by_cases b10_ : n > (100 : Int)
        · have h11_ := (if_pos b10_).symm.trans h9_
          obtain rfl := Option.some.inj h11_
          exact con_pc (op := true) (I := [103, 95, 132]) (sp := chkFactor_sp) 3000 (bF 8 (bT 1 (bF 4 (bT 1 [])))) [.one (.int .i64 r0)] [c_n b1_, c_n b1_, c_n b1_, c_n b1_, c_n b1_, c_n b1_, c_n b1_, c_bn b7_, c_T, c_n b8_, c_n b8_, c_n b8_, c_n b8_, c_d b10_] [k_c f3_] (by kernel_rfl)
        · have h11_ := (if_neg b10_).symm.trans h9_
          by_cases b12_ : d < (1 : Int)
          · have h13_ := (if_pos b12_).symm.trans h11_
            obtain rfl := Option.some.inj h13_
            exact con_pc (op := true) (I := [103, 95, 132]) (sp := chkFactor_sp) 3000 (bF 8 (bT 1 (bF 5 (bT 6 [])))) [.one (.int .i64 r0)] [c_n b1_, c_n b1_, c_n b1_, c_n b1_, c_n b1_, c_n b1_, c_n b1_, c_bn b7_, c_T, c_n b8_, c_n b8_, c_n b8_, c_n b8_, c_n b10_, c_T, c_d b12_, c_d b12_, c_d b12_, c_d b12_, c_T] [k_c f3_] (by kernel_rfl)
          · have h13_ := (if_neg b12_).symm.trans h11_
            by_cases b14_ : d > (100 : Int)
            · have h15_ := (if_pos b14_).symm.trans h13_
              obtain rfl := Option.some.inj h15_
              exact con_pc (op := true) (I := [103, 95, 132]) (sp := chkFactor_sp) 3000 (bF 8 (bT 1 (bF 5 (bT 1 (bF 4 (bT 1 [])))))) [.one (.int .i64 r0)] [c_n b1_, c_n b1_, c_n b1_, c_n b1_, c_n b1_, c_n b1_, c_n b1_, c_bn b7_, c_T, c_n b8_, c_n b8_, c_n b8_, c_n b8_, c_n b10_, c_T, c_n b12_, c_n b12_, c_n b12_, c_n b12_, c_d b14_] [k_c f3_] (by kernel_rfl)
            · have h15_ := (if_neg b14_).symm.trans h13_
              obtain rfl := Option.some.inj h15_
              exact con_pc (op := true) (I := [103, 95, 132]) (sp := chkFactor_sp) 3000 (bF 8 (bT 1 (bF 5 (bT 1 (bF 6 []))))) [.one (.int .i64 r0)] [c_n b1_, c_n b1_, c_n b1_, c_n b1_, c_n b1_, c_n b1_, c_n b1_, c_bn b7_, c_T, c_n b8_, c_n b8_, c_n b8_, c_n b8_, c_n b10_, c_T, c_n b12_, c_n b12_, c_n b12_, c_n b12_, c_n b14_, c_F] [k_c f3_] (by kernel_rfl)
def m_103 (ds : List D) : Option D := pullD (α := Int × Int) (some (.tup ds)) (fun d => ((D.vi (D.at (D.at d 0) 0)), (D.vi (D.at (D.at d 0) 1)))) (fun (n, d) => .tup [.agg [.one (.int .i64 n), .one (.int .i64 d)]]) fun (n, d) => chkFactor_M n d
theorem m_103_ok {ds : List D} {r : D} (h : m_103 ds = some r) : Con 103 ds r := by
  unfold m_103 at h
  obtain ⟨⟨n, d⟩, e0, h0⟩ := pullD_elim h
  obtain rfl := tup_inj e0
  exact chkFactor_M_ok n d h0
theorem m_103_eq (n d : Int) : m_103 [.agg [.one (.int .i64 n), .one (.int .i64 d)]] = chkFactor_M n d := pullD_some (n, d) rfl rfl
def chkFault_sp : List LSpec := []
def chkFault_M (a b c d n m : Int) : Option D := (if a < (0 : Int) then (if c < (1 : Int) then pullD (α := Int) (m_102 [.list 2 [.one (.int .i64 a), .one (.int .i64 b), .one (.int .i64 c), .one (.int .i64 d)]]) (fun d => ((D.vi d))) (fun r0 => .one (.int .i64 r0)) fun r0 => (pullD (α := Int) (m_103 [.agg [.one (.int .i64 n), .one (.int .i64 m)]]) (fun d => ((D.vi d))) (fun r1 => .one (.int .i64 r1)) fun r1 => (pullD (α := Int) (m_83 [.list 4 [.one (.int .i64 (2 : Int)), .one (.int .i64 (2 : Int)), .one (.int .i64 r0), .one (.int .i64 r1)]]) (fun d => ((D.vi d))) (fun r2 => .one (.int .i64 r2)) fun r2 => (some (.one (.int .i64 r2))))) else (if c > (1000 : Int) then pullD (α := Int) (m_102 [.list 2 [.one (.int .i64 a), .one (.int .i64 b), .one (.int .i64 c), .one (.int .i64 d)]]) (fun d => ((D.vi d))) (fun r3 => .one (.int .i64 r3)) fun r3 => (pullD (α := Int) (m_103 [.agg [.one (.int .i64 n), .one (.int .i64 m)]]) (fun d => ((D.vi d))) (fun r4 => .one (.int .i64 r4)) fun r4 => (pullD (α := Int) (m_83 [.list 4 [.one (.int .i64 (2 : Int)), .one (.int .i64 (2 : Int)), .one (.int .i64 r3), .one (.int .i64 r4)]]) (fun d => ((D.vi d))) (fun r5 => .one (.int .i64 r5)) fun r5 => (some (.one (.int .i64 r5))))) else (if d < (1 : Int) then pullD (α := Int) (m_102 [.list 2 [.one (.int .i64 a), .one (.int .i64 b), .one (.int .i64 c), .one (.int .i64 d)]]) (fun d => ((D.vi d))) (fun r6 => .one (.int .i64 r6)) fun r6 => (pullD (α := Int) (m_103 [.agg [.one (.int .i64 n), .one (.int .i64 m)]]) (fun d => ((D.vi d))) (fun r7 => .one (.int .i64 r7)) fun r7 => (pullD (α := Int) (m_83 [.list 4 [.one (.int .i64 (2 : Int)), .one (.int .i64 (2 : Int)), .one (.int .i64 r6), .one (.int .i64 r7)]]) (fun d => ((D.vi d))) (fun r8 => .one (.int .i64 r8)) fun r8 => (some (.one (.int .i64 r8))))) else (if d > (1000 : Int) then pullD (α := Int) (m_102 [.list 2 [.one (.int .i64 a), .one (.int .i64 b), .one (.int .i64 c), .one (.int .i64 d)]]) (fun d => ((D.vi d))) (fun r9 => .one (.int .i64 r9)) fun r9 => (pullD (α := Int) (m_103 [.agg [.one (.int .i64 n), .one (.int .i64 m)]]) (fun d => ((D.vi d))) (fun r10 => .one (.int .i64 r10)) fun r10 => (pullD (α := Int) (m_83 [.list 4 [.one (.int .i64 (2 : Int)), .one (.int .i64 (2 : Int)), .one (.int .i64 r9), .one (.int .i64 r10)]]) (fun d => ((D.vi d))) (fun r11 => .one (.int .i64 r11)) fun r11 => (some (.one (.int .i64 r11))))) else pullD (α := Int) (m_102 [.list 2 [.one (.int .i64 a), .one (.int .i64 b), .one (.int .i64 c), .one (.int .i64 d)]]) (fun d => ((D.vi d))) (fun r12 => .one (.int .i64 r12)) fun r12 => (pullD (α := Int) (m_103 [.agg [.one (.int .i64 n), .one (.int .i64 m)]]) (fun d => ((D.vi d))) (fun r13 => .one (.int .i64 r13)) fun r13 => (pullD (α := Int) (m_83 [.list 4 [.one (.int .i64 (2 : Int)), .one (.int .i64 (0 : Int)), .one (.int .i64 r12), .one (.int .i64 r13)]]) (fun d => ((D.vi d))) (fun r14 => .one (.int .i64 r14)) fun r14 => (some (.one (.int .i64 r14))))))))) else (if a > (1000 : Int) then (if c < (1 : Int) then pullD (α := Int) (m_102 [.list 2 [.one (.int .i64 a), .one (.int .i64 b), .one (.int .i64 c), .one (.int .i64 d)]]) (fun d => ((D.vi d))) (fun r15 => .one (.int .i64 r15)) fun r15 => (pullD (α := Int) (m_103 [.agg [.one (.int .i64 n), .one (.int .i64 m)]]) (fun d => ((D.vi d))) (fun r16 => .one (.int .i64 r16)) fun r16 => (pullD (α := Int) (m_83 [.list 4 [.one (.int .i64 (2 : Int)), .one (.int .i64 (2 : Int)), .one (.int .i64 r15), .one (.int .i64 r16)]]) (fun d => ((D.vi d))) (fun r17 => .one (.int .i64 r17)) fun r17 => (some (.one (.int .i64 r17))))) else (if c > (1000 : Int) then pullD (α := Int) (m_102 [.list 2 [.one (.int .i64 a), .one (.int .i64 b), .one (.int .i64 c), .one (.int .i64 d)]]) (fun d => ((D.vi d))) (fun r18 => .one (.int .i64 r18)) fun r18 => (pullD (α := Int) (m_103 [.agg [.one (.int .i64 n), .one (.int .i64 m)]]) (fun d => ((D.vi d))) (fun r19 => .one (.int .i64 r19)) fun r19 => (pullD (α := Int) (m_83 [.list 4 [.one (.int .i64 (2 : Int)), .one (.int .i64 (2 : Int)), .one (.int .i64 r18), .one (.int .i64 r19)]]) (fun d => ((D.vi d))) (fun r20 => .one (.int .i64 r20)) fun r20 => (some (.one (.int .i64 r20))))) else (if d < (1 : Int) then pullD (α := Int) (m_102 [.list 2 [.one (.int .i64 a), .one (.int .i64 b), .one (.int .i64 c), .one (.int .i64 d)]]) (fun d => ((D.vi d))) (fun r21 => .one (.int .i64 r21)) fun r21 => (pullD (α := Int) (m_103 [.agg [.one (.int .i64 n), .one (.int .i64 m)]]) (fun d => ((D.vi d))) (fun r22 => .one (.int .i64 r22)) fun r22 => (pullD (α := Int) (m_83 [.list 4 [.one (.int .i64 (2 : Int)), .one (.int .i64 (2 : Int)), .one (.int .i64 r21), .one (.int .i64 r22)]]) (fun d => ((D.vi d))) (fun r23 => .one (.int .i64 r23)) fun r23 => (some (.one (.int .i64 r23))))) else (if d > (1000 : Int) then pullD (α := Int) (m_102 [.list 2 [.one (.int .i64 a), .one (.int .i64 b), .one (.int .i64 c), .one (.int .i64 d)]]) (fun d => ((D.vi d))) (fun r24 => .one (.int .i64 r24)) fun r24 => (pullD (α := Int) (m_103 [.agg [.one (.int .i64 n), .one (.int .i64 m)]]) (fun d => ((D.vi d))) (fun r25 => .one (.int .i64 r25)) fun r25 => (pullD (α := Int) (m_83 [.list 4 [.one (.int .i64 (2 : Int)), .one (.int .i64 (2 : Int)), .one (.int .i64 r24), .one (.int .i64 r25)]]) (fun d => ((D.vi d))) (fun r26 => .one (.int .i64 r26)) fun r26 => (some (.one (.int .i64 r26))))) else pullD (α := Int) (m_102 [.list 2 [.one (.int .i64 a), .one (.int .i64 b), .one (.int .i64 c), .one (.int .i64 d)]]) (fun d => ((D.vi d))) (fun r27 => .one (.int .i64 r27)) fun r27 => (pullD (α := Int) (m_103 [.agg [.one (.int .i64 n), .one (.int .i64 m)]]) (fun d => ((D.vi d))) (fun r28 => .one (.int .i64 r28)) fun r28 => (pullD (α := Int) (m_83 [.list 4 [.one (.int .i64 (2 : Int)), .one (.int .i64 (0 : Int)), .one (.int .i64 r27), .one (.int .i64 r28)]]) (fun d => ((D.vi d))) (fun r29 => .one (.int .i64 r29)) fun r29 => (some (.one (.int .i64 r29))))))))) else (if b < (0 : Int) then (if c < (1 : Int) then pullD (α := Int) (m_102 [.list 2 [.one (.int .i64 a), .one (.int .i64 b), .one (.int .i64 c), .one (.int .i64 d)]]) (fun d => ((D.vi d))) (fun r30 => .one (.int .i64 r30)) fun r30 => (pullD (α := Int) (m_103 [.agg [.one (.int .i64 n), .one (.int .i64 m)]]) (fun d => ((D.vi d))) (fun r31 => .one (.int .i64 r31)) fun r31 => (pullD (α := Int) (m_83 [.list 4 [.one (.int .i64 (2 : Int)), .one (.int .i64 (2 : Int)), .one (.int .i64 r30), .one (.int .i64 r31)]]) (fun d => ((D.vi d))) (fun r32 => .one (.int .i64 r32)) fun r32 => (some (.one (.int .i64 r32))))) else (if c > (1000 : Int) then pullD (α := Int) (m_102 [.list 2 [.one (.int .i64 a), .one (.int .i64 b), .one (.int .i64 c), .one (.int .i64 d)]]) (fun d => ((D.vi d))) (fun r33 => .one (.int .i64 r33)) fun r33 => (pullD (α := Int) (m_103 [.agg [.one (.int .i64 n), .one (.int .i64 m)]]) (fun d => ((D.vi d))) (fun r34 => .one (.int .i64 r34)) fun r34 => (pullD (α := Int) (m_83 [.list 4 [.one (.int .i64 (2 : Int)), .one (.int .i64 (2 : Int)), .one (.int .i64 r33), .one (.int .i64 r34)]]) (fun d => ((D.vi d))) (fun r35 => .one (.int .i64 r35)) fun r35 => (some (.one (.int .i64 r35))))) else (if d < (1 : Int) then pullD (α := Int) (m_102 [.list 2 [.one (.int .i64 a), .one (.int .i64 b), .one (.int .i64 c), .one (.int .i64 d)]]) (fun d => ((D.vi d))) (fun r36 => .one (.int .i64 r36)) fun r36 => (pullD (α := Int) (m_103 [.agg [.one (.int .i64 n), .one (.int .i64 m)]]) (fun d => ((D.vi d))) (fun r37 => .one (.int .i64 r37)) fun r37 => (pullD (α := Int) (m_83 [.list 4 [.one (.int .i64 (2 : Int)), .one (.int .i64 (2 : Int)), .one (.int .i64 r36), .one (.int .i64 r37)]]) (fun d => ((D.vi d))) (fun r38 => .one (.int .i64 r38)) fun r38 => (some (.one (.int .i64 r38))))) else (if d > (1000 : Int) then pullD (α := Int) (m_102 [.list 2 [.one (.int .i64 a), .one (.int .i64 b), .one (.int .i64 c), .one (.int .i64 d)]]) (fun d => ((D.vi d))) (fun r39 => .one (.int .i64 r39)) fun r39 => (pullD (α := Int) (m_103 [.agg [.one (.int .i64 n), .one (.int .i64 m)]]) (fun d => ((D.vi d))) (fun r40 => .one (.int .i64 r40)) fun r40 => (pullD (α := Int) (m_83 [.list 4 [.one (.int .i64 (2 : Int)), .one (.int .i64 (2 : Int)), .one (.int .i64 r39), .one (.int .i64 r40)]]) (fun d => ((D.vi d))) (fun r41 => .one (.int .i64 r41)) fun r41 => (some (.one (.int .i64 r41))))) else pullD (α := Int) (m_102 [.list 2 [.one (.int .i64 a), .one (.int .i64 b), .one (.int .i64 c), .one (.int .i64 d)]]) (fun d => ((D.vi d))) (fun r42 => .one (.int .i64 r42)) fun r42 => (pullD (α := Int) (m_103 [.agg [.one (.int .i64 n), .one (.int .i64 m)]]) (fun d => ((D.vi d))) (fun r43 => .one (.int .i64 r43)) fun r43 => (pullD (α := Int) (m_83 [.list 4 [.one (.int .i64 (2 : Int)), .one (.int .i64 (0 : Int)), .one (.int .i64 r42), .one (.int .i64 r43)]]) (fun d => ((D.vi d))) (fun r44 => .one (.int .i64 r44)) fun r44 => (some (.one (.int .i64 r44))))))))) else (if b > (1000 : Int) then (if c < (1 : Int) then pullD (α := Int) (m_102 [.list 2 [.one (.int .i64 a), .one (.int .i64 b), .one (.int .i64 c), .one (.int .i64 d)]]) (fun d => ((D.vi d))) (fun r45 => .one (.int .i64 r45)) fun r45 => (pullD (α := Int) (m_103 [.agg [.one (.int .i64 n), .one (.int .i64 m)]]) (fun d => ((D.vi d))) (fun r46 => .one (.int .i64 r46)) fun r46 => (pullD (α := Int) (m_83 [.list 4 [.one (.int .i64 (2 : Int)), .one (.int .i64 (2 : Int)), .one (.int .i64 r45), .one (.int .i64 r46)]]) (fun d => ((D.vi d))) (fun r47 => .one (.int .i64 r47)) fun r47 => (some (.one (.int .i64 r47))))) else (if c > (1000 : Int) then pullD (α := Int) (m_102 [.list 2 [.one (.int .i64 a), .one (.int .i64 b), .one (.int .i64 c), .one (.int .i64 d)]]) (fun d => ((D.vi d))) (fun r48 => .one (.int .i64 r48)) fun r48 => (pullD (α := Int) (m_103 [.agg [.one (.int .i64 n), .one (.int .i64 m)]]) (fun d => ((D.vi d))) (fun r49 => .one (.int .i64 r49)) fun r49 => (pullD (α := Int) (m_83 [.list 4 [.one (.int .i64 (2 : Int)), .one (.int .i64 (2 : Int)), .one (.int .i64 r48), .one (.int .i64 r49)]]) (fun d => ((D.vi d))) (fun r50 => .one (.int .i64 r50)) fun r50 => (some (.one (.int .i64 r50))))) else (if d < (1 : Int) then pullD (α := Int) (m_102 [.list 2 [.one (.int .i64 a), .one (.int .i64 b), .one (.int .i64 c), .one (.int .i64 d)]]) (fun d => ((D.vi d))) (fun r51 => .one (.int .i64 r51)) fun r51 => (pullD (α := Int) (m_103 [.agg [.one (.int .i64 n), .one (.int .i64 m)]]) (fun d => ((D.vi d))) (fun r52 => .one (.int .i64 r52)) fun r52 => (pullD (α := Int) (m_83 [.list 4 [.one (.int .i64 (2 : Int)), .one (.int .i64 (2 : Int)), .one (.int .i64 r51), .one (.int .i64 r52)]]) (fun d => ((D.vi d))) (fun r53 => .one (.int .i64 r53)) fun r53 => (some (.one (.int .i64 r53))))) else (if d > (1000 : Int) then pullD (α := Int) (m_102 [.list 2 [.one (.int .i64 a), .one (.int .i64 b), .one (.int .i64 c), .one (.int .i64 d)]]) (fun d => ((D.vi d))) (fun r54 => .one (.int .i64 r54)) fun r54 => (pullD (α := Int) (m_103 [.agg [.one (.int .i64 n), .one (.int .i64 m)]]) (fun d => ((D.vi d))) (fun r55 => .one (.int .i64 r55)) fun r55 => (pullD (α := Int) (m_83 [.list 4 [.one (.int .i64 (2 : Int)), .one (.int .i64 (2 : Int)), .one (.int .i64 r54), .one (.int .i64 r55)]]) (fun d => ((D.vi d))) (fun r56 => .one (.int .i64 r56)) fun r56 => (some (.one (.int .i64 r56))))) else pullD (α := Int) (m_102 [.list 2 [.one (.int .i64 a), .one (.int .i64 b), .one (.int .i64 c), .one (.int .i64 d)]]) (fun d => ((D.vi d))) (fun r57 => .one (.int .i64 r57)) fun r57 => (pullD (α := Int) (m_103 [.agg [.one (.int .i64 n), .one (.int .i64 m)]]) (fun d => ((D.vi d))) (fun r58 => .one (.int .i64 r58)) fun r58 => (pullD (α := Int) (m_83 [.list 4 [.one (.int .i64 (2 : Int)), .one (.int .i64 (0 : Int)), .one (.int .i64 r57), .one (.int .i64 r58)]]) (fun d => ((D.vi d))) (fun r59 => .one (.int .i64 r59)) fun r59 => (some (.one (.int .i64 r59))))))))) else (if c < (1 : Int) then pullD (α := Int) (m_102 [.list 2 [.one (.int .i64 a), .one (.int .i64 b), .one (.int .i64 c), .one (.int .i64 d)]]) (fun d => ((D.vi d))) (fun r60 => .one (.int .i64 r60)) fun r60 => (pullD (α := Int) (m_103 [.agg [.one (.int .i64 n), .one (.int .i64 m)]]) (fun d => ((D.vi d))) (fun r61 => .one (.int .i64 r61)) fun r61 => (pullD (α := Int) (m_83 [.list 4 [.one (.int .i64 (0 : Int)), .one (.int .i64 (2 : Int)), .one (.int .i64 r60), .one (.int .i64 r61)]]) (fun d => ((D.vi d))) (fun r62 => .one (.int .i64 r62)) fun r62 => (some (.one (.int .i64 r62))))) else (if c > (1000 : Int) then pullD (α := Int) (m_102 [.list 2 [.one (.int .i64 a), .one (.int .i64 b), .one (.int .i64 c), .one (.int .i64 d)]]) (fun d => ((D.vi d))) (fun r63 => .one (.int .i64 r63)) fun r63 => (pullD (α := Int) (m_103 [.agg [.one (.int .i64 n), .one (.int .i64 m)]]) (fun d => ((D.vi d))) (fun r64 => .one (.int .i64 r64)) fun r64 => (pullD (α := Int) (m_83 [.list 4 [.one (.int .i64 (0 : Int)), .one (.int .i64 (2 : Int)), .one (.int .i64 r63), .one (.int .i64 r64)]]) (fun d => ((D.vi d))) (fun r65 => .one (.int .i64 r65)) fun r65 => (some (.one (.int .i64 r65))))) else (if d < (1 : Int) then pullD (α := Int) (m_102 [.list 2 [.one (.int .i64 a), .one (.int .i64 b), .one (.int .i64 c), .one (.int .i64 d)]]) (fun d => ((D.vi d))) (fun r66 => .one (.int .i64 r66)) fun r66 => (pullD (α := Int) (m_103 [.agg [.one (.int .i64 n), .one (.int .i64 m)]]) (fun d => ((D.vi d))) (fun r67 => .one (.int .i64 r67)) fun r67 => (pullD (α := Int) (m_83 [.list 4 [.one (.int .i64 (0 : Int)), .one (.int .i64 (2 : Int)), .one (.int .i64 r66), .one (.int .i64 r67)]]) (fun d => ((D.vi d))) (fun r68 => .one (.int .i64 r68)) fun r68 => (some (.one (.int .i64 r68))))) else (if d > (1000 : Int) then pullD (α := Int) (m_102 [.list 2 [.one (.int .i64 a), .one (.int .i64 b), .one (.int .i64 c), .one (.int .i64 d)]]) (fun d => ((D.vi d))) (fun r69 => .one (.int .i64 r69)) fun r69 => (pullD (α := Int) (m_103 [.agg [.one (.int .i64 n), .one (.int .i64 m)]]) (fun d => ((D.vi d))) (fun r70 => .one (.int .i64 r70)) fun r70 => (pullD (α := Int) (m_83 [.list 4 [.one (.int .i64 (0 : Int)), .one (.int .i64 (2 : Int)), .one (.int .i64 r69), .one (.int .i64 r70)]]) (fun d => ((D.vi d))) (fun r71 => .one (.int .i64 r71)) fun r71 => (some (.one (.int .i64 r71))))) else pullD (α := Int) (m_102 [.list 2 [.one (.int .i64 a), .one (.int .i64 b), .one (.int .i64 c), .one (.int .i64 d)]]) (fun d => ((D.vi d))) (fun r72 => .one (.int .i64 r72)) fun r72 => (pullD (α := Int) (m_103 [.agg [.one (.int .i64 n), .one (.int .i64 m)]]) (fun d => ((D.vi d))) (fun r73 => .one (.int .i64 r73)) fun r73 => (pullD (α := Int) (m_83 [.list 4 [.one (.int .i64 (0 : Int)), .one (.int .i64 (0 : Int)), .one (.int .i64 r72), .one (.int .i64 r73)]]) (fun d => ((D.vi d))) (fun r74 => .one (.int .i64 r74)) fun r74 => (some (.one (.int .i64 r74)))))))))))))
theorem chkFault_M_ok (a b c d n m : Int) {r : D} (h : chkFault_M a b c d n m = some r) : Con 43 [(shNF1_1 a b c d n m)] r := by
  unfold chkFault_M at h
  by_cases b1_ : a < (0 : Int)
  · have h2_ := (if_pos b1_).symm.trans h
    by_cases b3_ : c < (1 : Int)
    · have h4_ := (if_pos b3_).symm.trans h2_
      obtain ⟨r0, f5_, h6_⟩ := pullD_elim h4_
      replace f5_ := m_102_ok f5_
      obtain ⟨r1, f7_, h8_⟩ := pullD_elim h6_
      replace f7_ := m_103_ok f7_
      obtain ⟨r2, f9_, h10_⟩ := pullD_elim h8_
      replace f9_ := m_83_ok f9_
      obtain rfl := Option.some.inj h10_
      exact con_pc (op := true) (I := [43, 95, 132]) (sp := chkFault_sp) 3000 (bT 12 []) [.one (.int .i64 r0), .one (.int .i64 r1), .one (.int .i64 r2)] [c_T, c_d b1_, c_d b1_, c_d b1_, c_d b1_, c_T, c_T, c_d b3_, c_d b3_, c_d b3_, c_d b3_, c_T, ⟨fact (1 + 1 ≤ 1 + 1), true, fact_mk (by decide)⟩, ⟨fact (3 + 1 ≤ 3 + 1), true, fact_mk (by decide)⟩] [k_c f5_, k_c f7_, k_c f9_] (by kernel_rfl)
    · have h4_ := (if_neg b3_).symm.trans h2_
      by_cases b11_ : c > (1000 : Int)
      · have h12_ := (if_pos b11_).symm.trans h4_
        obtain ⟨r3, f13_, h14_⟩ := pullD_elim h12_
        replace f13_ := m_102_ok f13_
        obtain ⟨r4, f15_, h16_⟩ := pullD_elim h14_
        replace f15_ := m_103_ok f15_
        obtain ⟨r5, f17_, h18_⟩ := pullD_elim h16_
        replace f17_ := m_83_ok f17_
        obtain rfl := Option.some.inj h18_
        exact con_pc (op := true) (I := [43, 95, 132]) (sp := chkFault_sp) 3000 (bT 7 (bF 4 (bT 1 []))) [.one (.int .i64 r3), .one (.int .i64 r4), .one (.int .i64 r5)] [c_T, c_d b1_, c_d b1_, c_d b1_, c_d b1_, c_T, c_T, c_n b3_, c_n b3_, c_n b3_, c_n b3_, c_d b11_, ⟨fact (1 + 1 ≤ 1 + 1), true, fact_mk (by decide)⟩, ⟨fact (3 + 1 ≤ 3 + 1), true, fact_mk (by decide)⟩] [k_c f13_, k_c f15_, k_c f17_] (by kernel_rfl)
      · have h12_ := (if_neg b11_).symm.trans h4_
        by_cases b19_ : d < (1 : Int)
        · have h20_ := (if_pos b19_).symm.trans h12_
          obtain ⟨r6, f21_, h22_⟩ := pullD_elim h20_
          replace f21_ := m_102_ok f21_
          obtain ⟨r7, f23_, h24_⟩ := pullD_elim h22_
          replace f23_ := m_103_ok f23_
          obtain ⟨r8, f25_, h26_⟩ := pullD_elim h24_
          replace f25_ := m_83_ok f25_
          obtain rfl := Option.some.inj h26_
          exact con_pc (op := true) (I := [43, 95, 132]) (sp := chkFault_sp) 3000 (bT 7 (bF 5 (bT 6 []))) [.one (.int .i64 r6), .one (.int .i64 r7), .one (.int .i64 r8)] [c_T, c_d b1_, c_d b1_, c_d b1_, c_d b1_, c_T, c_T, c_n b3_, c_n b3_, c_n b3_, c_n b3_, c_n b11_, c_T, c_d b19_, c_d b19_, c_d b19_, c_d b19_, c_T, ⟨fact (1 + 1 ≤ 1 + 1), true, fact_mk (by decide)⟩, ⟨fact (3 + 1 ≤ 3 + 1), true, fact_mk (by decide)⟩] [k_c f21_, k_c f23_, k_c f25_] (by kernel_rfl)
        · have h20_ := (if_neg b19_).symm.trans h12_
          by_cases b27_ : d > (1000 : Int)
          · have h28_ := (if_pos b27_).symm.trans h20_
            obtain ⟨r9, f29_, h30_⟩ := pullD_elim h28_
            replace f29_ := m_102_ok f29_
            obtain ⟨r10, f31_, h32_⟩ := pullD_elim h30_
            replace f31_ := m_103_ok f31_
            obtain ⟨r11, f33_, h34_⟩ := pullD_elim h32_
            replace f33_ := m_83_ok f33_
            obtain rfl := Option.some.inj h34_
            exact con_pc (op := true) (I := [43, 95, 132]) (sp := chkFault_sp) 3000 (bT 7 (bF 5 (bT 1 (bF 4 (bT 1 []))))) [.one (.int .i64 r9), .one (.int .i64 r10), .one (.int .i64 r11)] [c_T, c_d b1_, c_d b1_, c_d b1_, c_d b1_, c_T, c_T, c_n b3_, c_n b3_, c_n b3_, c_n b3_, c_n b11_, c_T, c_n b19_, c_n b19_, c_n b19_, c_n b19_, c_d b27_, ⟨fact (1 + 1 ≤ 1 + 1), true, fact_mk (by decide)⟩, ⟨fact (3 + 1 ≤ 3 + 1), true, fact_mk (by decide)⟩] [k_c f29_, k_c f31_, k_c f33_] (by kernel_rfl)
          · have h28_ := (if_neg b27_).symm.trans h20_
            obtain ⟨r12, f35_, h36_⟩ := pullD_elim h28_
            replace f35_ := m_102_ok f35_
            obtain ⟨r13, f37_, h38_⟩ := pullD_elim h36_
            replace f37_ := m_103_ok f37_
            obtain ⟨r14, f39_, h40_⟩ := pullD_elim h38_
            replace f39_ := m_83_ok f39_
            obtain rfl := Option.some.inj h40_
            exact con_pc (op := true) (I := [43, 95, 132]) (sp := chkFault_sp) 3000 (bT 7 (bF 5 (bT 1 (bF 6 [])))) [.one (.int .i64 r12), .one (.int .i64 r13), .one (.int .i64 r14)] [c_T, c_d b1_, c_d b1_, c_d b1_, c_d b1_, c_T, c_T, c_n b3_, c_n b3_, c_n b3_, c_n b3_, c_n b11_, c_T, c_n b19_, c_n b19_, c_n b19_, c_n b19_, c_n b27_, c_F, ⟨fact (1 + 1 ≤ 1 + 1), true, fact_mk (by decide)⟩, ⟨fact (3 + 1 ≤ 3 + 1), true, fact_mk (by decide)⟩] [k_c f35_, k_c f37_, k_c f39_] (by kernel_rfl)
  · have h2_ := (if_neg b1_).symm.trans h
    by_cases b41_ : a > (1000 : Int)
    · have h42_ := (if_pos b41_).symm.trans h2_
      by_cases b43_ : c < (1 : Int)
      · have h44_ := (if_pos b43_).symm.trans h42_
        obtain ⟨r15, f45_, h46_⟩ := pullD_elim h44_
        replace f45_ := m_102_ok f45_
        obtain ⟨r16, f47_, h48_⟩ := pullD_elim h46_
        replace f47_ := m_103_ok f47_
        obtain ⟨r17, f49_, h50_⟩ := pullD_elim h48_
        replace f49_ := m_83_ok f49_
        obtain rfl := Option.some.inj h50_
        exact con_pc (op := true) (I := [43, 95, 132]) (sp := chkFault_sp) 3000 (bT 1 (bF 4 (bT 7 []))) [.one (.int .i64 r15), .one (.int .i64 r16), .one (.int .i64 r17)] [c_T, c_n b1_, c_n b1_, c_n b1_, c_n b1_, c_d b41_, c_T, c_d b43_, c_d b43_, c_d b43_, c_d b43_, c_T, ⟨fact (1 + 1 ≤ 1 + 1), true, fact_mk (by decide)⟩, ⟨fact (3 + 1 ≤ 3 + 1), true, fact_mk (by decide)⟩] [k_c f45_, k_c f47_, k_c f49_] (by kernel_rfl)
      · have h44_ := (if_neg b43_).symm.trans h42_
        by_cases b51_ : c > (1000 : Int)
        · have h52_ := (if_pos b51_).symm.trans h44_
          obtain ⟨r18, f53_, h54_⟩ := pullD_elim h52_
          replace f53_ := m_102_ok f53_
          obtain ⟨r19, f55_, h56_⟩ := pullD_elim h54_
          replace f55_ := m_103_ok f55_
          obtain ⟨r20, f57_, h58_⟩ := pullD_elim h56_
          replace f57_ := m_83_ok f57_
          obtain rfl := Option.some.inj h58_
          exact con_pc (op := true) (I := [43, 95, 132]) (sp := chkFault_sp) 3000 (bT 1 (bF 4 (bT 2 (bF 4 (bT 1 []))))) [.one (.int .i64 r18), .one (.int .i64 r19), .one (.int .i64 r20)] [c_T, c_n b1_, c_n b1_, c_n b1_, c_n b1_, c_d b41_, c_T, c_n b43_, c_n b43_, c_n b43_, c_n b43_, c_d b51_, ⟨fact (1 + 1 ≤ 1 + 1), true, fact_mk (by decide)⟩, ⟨fact (3 + 1 ≤ 3 + 1), true, fact_mk (by decide)⟩] [k_c f53_, k_c f55_, k_c f57_] (by kernel_rfl)
        · have h52_ := (if_neg b51_).symm.trans h44_
          by_cases b59_ : d < (1 : Int)
          · have h60_ := (if_pos b59_).symm.trans h52_
            obtain ⟨r21, f61_, h62_⟩ := pullD_elim h60_
            replace f61_ := m_102_ok f61_
            obtain ⟨r22, f63_, h64_⟩ := pullD_elim h62_
            replace f63_ := m_103_ok f63_
            obtain ⟨r23, f65_, h66_⟩ := pullD_elim h64_
            replace f65_ := m_83_ok f65_
            obtain rfl := Option.some.inj h66_
            exact con_pc (op := true) (I := [43, 95, 132]) (sp := chkFault_sp) 3000 (bT 1 (bF 4 (bT 2 (bF 5 (bT 6 []))))) [.one (.int .i64 r21), .one (.int .i64 r22), .one (.int .i64 r23)] [c_T, c_n b1_, c_n b1_, c_n b1_, c_n b1_, c_d b41_, c_T, c_n b43_, c_n b43_, c_n b43_, c_n b43_, c_n b51_, c_T, c_d b59_, c_d b59_, c_d b59_, c_d b59_, c_T, ⟨fact (1 + 1 ≤ 1 + 1), true, fact_mk (by decide)⟩, ⟨fact (3 + 1 ≤ 3 + 1), true, fact_mk (by decide)⟩] [k_c f61_, k_c f63_, k_c f65_] (by kernel_rfl)
          · have h60_ := (if_neg b59_).symm.trans h52_
            by_cases b67_ : d > (1000 : Int)
            · have h68_ := (if_pos b67_).symm.trans h60_
              obtain ⟨r24, f69_, h70_⟩ := pullD_elim h68_
              replace f69_ := m_102_ok f69_
              obtain ⟨r25, f71_, h72_⟩ := pullD_elim h70_
              replace f71_ := m_103_ok f71_
              obtain ⟨r26, f73_, h74_⟩ := pullD_elim h72_
              replace f73_ := m_83_ok f73_
              obtain rfl := Option.some.inj h74_
              exact con_pc (op := true) (I := [43, 95, 132]) (sp := chkFault_sp) 3000 (bT 1 (bF 4 (bT 2 (bF 5 (bT 1 (bF 4 (bT 1 []))))))) [.one (.int .i64 r24), .one (.int .i64 r25), .one (.int .i64 r26)] [c_T, c_n b1_, c_n b1_, c_n b1_, c_n b1_, c_d b41_, c_T, c_n b43_, c_n b43_, c_n b43_, c_n b43_, c_n b51_, c_T, c_n b59_, c_n b59_, c_n b59_, c_n b59_, c_d b67_, ⟨fact (1 + 1 ≤ 1 + 1), true, fact_mk (by decide)⟩, ⟨fact (3 + 1 ≤ 3 + 1), true, fact_mk (by decide)⟩] [k_c f69_, k_c f71_, k_c f73_] (by kernel_rfl)
            · have h68_ := (if_neg b67_).symm.trans h60_
              obtain ⟨r27, f75_, h76_⟩ := pullD_elim h68_
              replace f75_ := m_102_ok f75_
              obtain ⟨r28, f77_, h78_⟩ := pullD_elim h76_
              replace f77_ := m_103_ok f77_
              obtain ⟨r29, f79_, h80_⟩ := pullD_elim h78_
              replace f79_ := m_83_ok f79_
              obtain rfl := Option.some.inj h80_
              exact con_pc (op := true) (I := [43, 95, 132]) (sp := chkFault_sp) 3000 (bT 1 (bF 4 (bT 2 (bF 5 (bT 1 (bF 6 [])))))) [.one (.int .i64 r27), .one (.int .i64 r28), .one (.int .i64 r29)] [c_T, c_n b1_, c_n b1_, c_n b1_, c_n b1_, c_d b41_, c_T, c_n b43_, c_n b43_, c_n b43_, c_n b43_, c_n b51_, c_T, c_n b59_, c_n b59_, c_n b59_, c_n b59_, c_n b67_, c_F, ⟨fact (1 + 1 ≤ 1 + 1), true, fact_mk (by decide)⟩, ⟨fact (3 + 1 ≤ 3 + 1), true, fact_mk (by decide)⟩] [k_c f75_, k_c f77_, k_c f79_] (by kernel_rfl)
    · have h42_ := (if_neg b41_).symm.trans h2_
      by_cases b81_ : b < (0 : Int)
      · have h82_ := (if_pos b81_).symm.trans h42_
        by_cases b83_ : c < (1 : Int)
        · have h84_ := (if_pos b83_).symm.trans h82_
          obtain ⟨r30, f85_, h86_⟩ := pullD_elim h84_
          replace f85_ := m_102_ok f85_
          obtain ⟨r31, f87_, h88_⟩ := pullD_elim h86_
          replace f87_ := m_103_ok f87_
          obtain ⟨r32, f89_, h90_⟩ := pullD_elim h88_
          replace f89_ := m_83_ok f89_
          obtain rfl := Option.some.inj h90_
          exact con_pc (op := true) (I := [43, 95, 132]) (sp := chkFault_sp) 3000 (bT 1 (bF 5 (bT 12 []))) [.one (.int .i64 r30), .one (.int .i64 r31), .one (.int .i64 r32)] [c_T, c_n b1_, c_n b1_, c_n b1_, c_n b1_, c_n b41_, c_T, c_d b81_, c_d b81_, c_d b81_, c_d b81_, c_T, c_T, c_d b83_, c_d b83_, c_d b83_, c_d b83_, c_T, ⟨fact (1 + 1 ≤ 1 + 1), true, fact_mk (by decide)⟩, ⟨fact (3 + 1 ≤ 3 + 1), true, fact_mk (by decide)⟩] [k_c f85_, k_c f87_, k_c f89_] (by kernel_rfl)
        · have h84_ := (if_neg b83_).symm.trans h82_
          by_cases b91_ : c > (1000 : Int)
          · have h92_ := (if_pos b91_).symm.trans h84_
            obtain ⟨r33, f93_, h94_⟩ := pullD_elim h92_
            replace f93_ := m_102_ok f93_
            obtain ⟨r34, f95_, h96_⟩ := pullD_elim h94_
            replace f95_ := m_103_ok f95_
            obtain ⟨r35, f97_, h98_⟩ := pullD_elim h96_
            replace f97_ := m_83_ok f97_
            obtain rfl := Option.some.inj h98_
            exact con_pc (op := true) (I := [43, 95, 132]) (sp := chkFault_sp) 3000 (bT 1 (bF 5 (bT 7 (bF 4 (bT 1 []))))) [.one (.int .i64 r33), .one (.int .i64 r34), .one (.int .i64 r35)] [c_T, c_n b1_, c_n b1_, c_n b1_, c_n b1_, c_n b41_, c_T, c_d b81_, c_d b81_, c_d b81_, c_d b81_, c_T, c_T, c_n b83_, c_n b83_, c_n b83_, c_n b83_, c_d b91_, ⟨fact (1 + 1 ≤ 1 + 1), true, fact_mk (by decide)⟩, ⟨fact (3 + 1 ≤ 3 + 1), true, fact_mk (by decide)⟩] [k_c f93_, k_c f95_, k_c f97_] (by kernel_rfl)
          · have h92_ := (if_neg b91_).symm.trans h84_
            by_cases b99_ : d < (1 : Int)
            · have h100_ := (if_pos b99_).symm.trans h92_
              obtain ⟨r36, f101_, h102_⟩ := pullD_elim h100_
              replace f101_ := m_102_ok f101_
              obtain ⟨r37, f103_, h104_⟩ := pullD_elim h102_
              replace f103_ := m_103_ok f103_
              obtain ⟨r38, f105_, h106_⟩ := pullD_elim h104_
              replace f105_ := m_83_ok f105_
              obtain rfl := Option.some.inj h106_
              exact con_pc (op := true) (I := [43, 95, 132]) (sp := chkFault_sp) 3000 (bT 1 (bF 5 (bT 7 (bF 5 (bT 6 []))))) [.one (.int .i64 r36), .one (.int .i64 r37), .one (.int .i64 r38)] [c_T, c_n b1_, c_n b1_, c_n b1_, c_n b1_, c_n b41_, c_T, c_d b81_, c_d b81_, c_d b81_, c_d b81_, c_T, c_T, c_n b83_, c_n b83_, c_n b83_, c_n b83_, c_n b91_, c_T, c_d b99_, c_d b99_, c_d b99_, c_d b99_, c_T, ⟨fact (1 + 1 ≤ 1 + 1), true, fact_mk (by decide)⟩, ⟨fact (3 + 1 ≤ 3 + 1), true, fact_mk (by decide)⟩] [k_c f101_, k_c f103_, k_c f105_] (by kernel_rfl)
            · have h100_ := (if_neg b99_).symm.trans h92_
              by_cases b107_ : d > (1000 : Int)
              · have h108_ := (if_pos b107_).symm.trans h100_
                obtain ⟨r39, f109_, h110_⟩ := pullD_elim h108_
                replace f109_ := m_102_ok f109_
                obtain ⟨r40, f111_, h112_⟩ := pullD_elim h110_
                replace f111_ := m_103_ok f111_
                obtain ⟨r41, f113_, h114_⟩ := pullD_elim h112_
                replace f113_ := m_83_ok f113_
                obtain rfl := Option.some.inj h114_
                exact con_pc (op := true) (I := [43, 95, 132]) (sp := chkFault_sp) 3000 (bT 1 (bF 5 (bT 7 (bF 5 (bT 1 (bF 4 (bT 1 []))))))) [.one (.int .i64 r39), .one (.int .i64 r40), .one (.int .i64 r41)] [c_T, c_n b1_, c_n b1_, c_n b1_, c_n b1_, c_n b41_, c_T, c_d b81_, c_d b81_, c_d b81_, c_d b81_, c_T, c_T, c_n b83_, c_n b83_, c_n b83_, c_n b83_, c_n b91_, c_T, c_n b99_, c_n b99_, c_n b99_, c_n b99_, c_d b107_, ⟨fact (1 + 1 ≤ 1 + 1), true, fact_mk (by decide)⟩, ⟨fact (3 + 1 ≤ 3 + 1), true, fact_mk (by decide)⟩] [k_c f109_, k_c f111_, k_c f113_] (by kernel_rfl)
              · have h108_ := (if_neg b107_).symm.trans h100_
                obtain ⟨r42, f115_, h116_⟩ := pullD_elim h108_
                replace f115_ := m_102_ok f115_
                obtain ⟨r43, f117_, h118_⟩ := pullD_elim h116_
                replace f117_ := m_103_ok f117_
                obtain ⟨r44, f119_, h120_⟩ := pullD_elim h118_
                replace f119_ := m_83_ok f119_
                obtain rfl := Option.some.inj h120_
                exact con_pc (op := true) (I := [43, 95, 132]) (sp := chkFault_sp) 3000 (bT 1 (bF 5 (bT 7 (bF 5 (bT 1 (bF 6 [])))))) [.one (.int .i64 r42), .one (.int .i64 r43), .one (.int .i64 r44)] [c_T, c_n b1_, c_n b1_, c_n b1_, c_n b1_, c_n b41_, c_T, c_d b81_, c_d b81_, c_d b81_, c_d b81_, c_T, c_T, c_n b83_, c_n b83_, c_n b83_, c_n b83_, c_n b91_, c_T, c_n b99_, c_n b99_, c_n b99_, c_n b99_, c_n b107_, c_F, ⟨fact (1 + 1 ≤ 1 + 1), true, fact_mk (by decide)⟩, ⟨fact (3 + 1 ≤ 3 + 1), true, fact_mk (by decide)⟩] [k_c f115_, k_c f117_, k_c f119_] (by kernel_rfl)
      · have h82_ := (if_neg b81_).symm.trans h42_
        by_cases b121_ : b > (1000 : Int)
        · have h122_ := (if_pos b121_).symm.trans h82_
          by_cases b123_ : c < (1 : Int)
          · have h124_ := (if_pos b123_).symm.trans h122_
            obtain ⟨r45, f125_, h126_⟩ := pullD_elim h124_
            replace f125_ := m_102_ok f125_
            obtain ⟨r46, f127_, h128_⟩ := pullD_elim h126_
            replace f127_ := m_103_ok f127_
            obtain ⟨r47, f129_, h130_⟩ := pullD_elim h128_
            replace f129_ := m_83_ok f129_
            obtain rfl := Option.some.inj h130_
            exact con_pc (op := true) (I := [43, 95, 132]) (sp := chkFault_sp) 3000 (bT 1 (bF 5 (bT 1 (bF 4 (bT 7 []))))) [.one (.int .i64 r45), .one (.int .i64 r46), .one (.int .i64 r47)] [c_T, c_n b1_, c_n b1_, c_n b1_, c_n b1_, c_n b41_, c_T, c_n b81_, c_n b81_, c_n b81_, c_n b81_, c_d b121_, c_T, c_d b123_, c_d b123_, c_d b123_, c_d b123_, c_T, ⟨fact (1 + 1 ≤ 1 + 1), true, fact_mk (by decide)⟩, ⟨fact (3 + 1 ≤ 3 + 1), true, fact_mk (by decide)⟩] [k_c f125_, k_c f127_, k_c f129_] (by kernel_rfl)
          · have h124_ := (if_neg b123_).symm.trans h122_
            by_cases b131_ : c > (1000 : Int)
            · have h132_ := (if_pos b131_).symm.trans h124_
              obtain ⟨r48, f133_, h134_⟩ := pullD_elim h132_
              replace f133_ := m_102_ok f133_
              obtain ⟨r49, f135_, h136_⟩ := pullD_elim h134_
              replace f135_ := m_103_ok f135_
              obtain ⟨r50, f137_, h138_⟩ := pullD_elim h136_
              replace f137_ := m_83_ok f137_
              obtain rfl := Option.some.inj h138_
              exact con_pc (op := true) (I := [43, 95, 132]) (sp := chkFault_sp) 3000 (bT 1 (bF 5 (bT 1 (bF 4 (bT 2 (bF 4 (bT 1 []))))))) [.one (.int .i64 r48), .one (.int .i64 r49), .one (.int .i64 r50)] [c_T, c_n b1_, c_n b1_, c_n b1_, c_n b1_, c_n b41_, c_T, c_n b81_, c_n b81_, c_n b81_, c_n b81_, c_d b121_, c_T, c_n b123_, c_n b123_, c_n b123_, c_n b123_, c_d b131_, ⟨fact (1 + 1 ≤ 1 + 1), true, fact_mk (by decide)⟩, ⟨fact (3 + 1 ≤ 3 + 1), true, fact_mk (by decide)⟩] [k_c f133_, k_c f135_, k_c f137_] (by kernel_rfl)
            · have h132_ := (if_neg b131_).symm.trans h124_
              by_cases b139_ : d < (1 : Int)
              · have h140_ := (if_pos b139_).symm.trans h132_
                obtain ⟨r51, f141_, h142_⟩ := pullD_elim h140_
                replace f141_ := m_102_ok f141_
                obtain ⟨r52, f143_, h144_⟩ := pullD_elim h142_
                replace f143_ := m_103_ok f143_
                obtain ⟨r53, f145_, h146_⟩ := pullD_elim h144_
                replace f145_ := m_83_ok f145_
                obtain rfl := Option.some.inj h146_
                exact con_pc (op := true) (I := [43, 95, 132]) (sp := chkFault_sp) 3000 (bT 1 (bF 5 (bT 1 (bF 4 (bT 2 (bF 5 (bT 6 []))))))) [.one (.int .i64 r51), .one (.int .i64 r52), .one (.int .i64 r53)] [c_T, c_n b1_, c_n b1_, c_n b1_, c_n b1_, c_n b41_, c_T, c_n b81_, c_n b81_, c_n b81_, c_n b81_, c_d b121_, c_T, c_n b123_, c_n b123_, c_n b123_, c_n b123_, c_n b131_, c_T, c_d b139_, c_d b139_, c_d b139_, c_d b139_, c_T, ⟨fact (1 + 1 ≤ 1 + 1), true, fact_mk (by decide)⟩, ⟨fact (3 + 1 ≤ 3 + 1), true, fact_mk (by decide)⟩] [k_c f141_, k_c f143_, k_c f145_] (by kernel_rfl)
              · have h140_ := (if_neg b139_).symm.trans h132_
                by_cases b147_ : d > (1000 : Int)
                · have h148_ := (if_pos b147_).symm.trans h140_
                  obtain ⟨r54, f149_, h150_⟩ := pullD_elim h148_
                  replace f149_ := m_102_ok f149_
                  obtain ⟨r55, f151_, h152_⟩ := pullD_elim h150_
                  replace f151_ := m_103_ok f151_
                  obtain ⟨r56, f153_, h154_⟩ := pullD_elim h152_
                  replace f153_ := m_83_ok f153_
                  obtain rfl := Option.some.inj h154_
                  exact con_pc (op := true) (I := [43, 95, 132]) (sp := chkFault_sp) 3000 (bT 1 (bF 5 (bT 1 (bF 4 (bT 2 (bF 5 (bT 1 (bF 4 (bT 1 []))))))))) [.one (.int .i64 r54), .one (.int .i64 r55), .one (.int .i64 r56)] [c_T, c_n b1_, c_n b1_, c_n b1_, c_n b1_, c_n b41_, c_T, c_n b81_, c_n b81_, c_n b81_, c_n b81_, c_d b121_, c_T, c_n b123_, c_n b123_, c_n b123_, c_n b123_, c_n b131_, c_T, c_n b139_, c_n b139_, c_n b139_, c_n b139_, c_d b147_, ⟨fact (1 + 1 ≤ 1 + 1), true, fact_mk (by decide)⟩, ⟨fact (3 + 1 ≤ 3 + 1), true, fact_mk (by decide)⟩] [k_c f149_, k_c f151_, k_c f153_] (by kernel_rfl)
                · have h148_ := (if_neg b147_).symm.trans h140_
                  obtain ⟨r57, f155_, h156_⟩ := pullD_elim h148_
                  replace f155_ := m_102_ok f155_
                  obtain ⟨r58, f157_, h158_⟩ := pullD_elim h156_
                  replace f157_ := m_103_ok f157_
                  obtain ⟨r59, f159_, h160_⟩ := pullD_elim h158_
                  replace f159_ := m_83_ok f159_
                  obtain rfl := Option.some.inj h160_
                  exact con_pc (op := true) (I := [43, 95, 132]) (sp := chkFault_sp) 3000 (bT 1 (bF 5 (bT 1 (bF 4 (bT 2 (bF 5 (bT 1 (bF 6 [])))))))) [.one (.int .i64 r57), .one (.int .i64 r58), .one (.int .i64 r59)] [c_T, c_n b1_, c_n b1_, c_n b1_, c_n b1_, c_n b41_, c_T, c_n b81_, c_n b81_, c_n b81_, c_n b81_, c_d b121_, c_T, c_n b123_, c_n b123_, c_n b123_, c_n b123_, c_n b131_, c_T, c_n b139_, c_n b139_, c_n b139_, c_n b139_, c_n b147_, c_F, ⟨fact (1 + 1 ≤ 1 + 1), true, fact_mk (by decide)⟩, ⟨fact (3 + 1 ≤ 3 + 1), true, fact_mk (by decide)⟩] [k_c f155_, k_c f157_, k_c f159_] (by kernel_rfl)
        · have h122_ := (if_neg b121_).symm.trans h82_
          by_cases b161_ : c < (1 : Int)
          · have h162_ := (if_pos b161_).symm.trans h122_
            obtain ⟨r60, f163_, h164_⟩ := pullD_elim h162_
            replace f163_ := m_102_ok f163_
            obtain ⟨r61, f165_, h166_⟩ := pullD_elim h164_
            replace f165_ := m_103_ok f165_
            obtain ⟨r62, f167_, h168_⟩ := pullD_elim h166_
            replace f167_ := m_83_ok f167_
            obtain rfl := Option.some.inj h168_
            exact con_pc (op := true) (I := [43, 95, 132]) (sp := chkFault_sp) 3000 (bT 1 (bF 5 (bT 1 (bF 6 (bT 6 []))))) [.one (.int .i64 r60), .one (.int .i64 r61), .one (.int .i64 r62)] [c_T, c_n b1_, c_n b1_, c_n b1_, c_n b1_, c_n b41_, c_T, c_n b81_, c_n b81_, c_n b81_, c_n b81_, c_n b121_, c_F, c_T, c_d b161_, c_d b161_, c_d b161_, c_d b161_, c_T, ⟨fact (1 + 1 ≤ 1 + 1), true, fact_mk (by decide)⟩, ⟨fact (3 + 1 ≤ 3 + 1), true, fact_mk (by decide)⟩] [k_c f163_, k_c f165_, k_c f167_] (by kernel_rfl)
          · have h162_ := (if_neg b161_).symm.trans h122_
            by_cases b169_ : c > (1000 : Int)
            · have h170_ := (if_pos b169_).symm.trans h162_
              obtain ⟨r63, f171_, h172_⟩ := pullD_elim h170_
              replace f171_ := m_102_ok f171_
              obtain ⟨r64, f173_, h174_⟩ := pullD_elim h172_
              replace f173_ := m_103_ok f173_
              obtain ⟨r65, f175_, h176_⟩ := pullD_elim h174_
              replace f175_ := m_83_ok f175_
              obtain rfl := Option.some.inj h176_
              exact con_pc (op := true) (I := [43, 95, 132]) (sp := chkFault_sp) 3000 (bT 1 (bF 5 (bT 1 (bF 6 (bT 1 (bF 4 (bT 1 []))))))) [.one (.int .i64 r63), .one (.int .i64 r64), .one (.int .i64 r65)] [c_T, c_n b1_, c_n b1_, c_n b1_, c_n b1_, c_n b41_, c_T, c_n b81_, c_n b81_, c_n b81_, c_n b81_, c_n b121_, c_F, c_T, c_n b161_, c_n b161_, c_n b161_, c_n b161_, c_d b169_, ⟨fact (1 + 1 ≤ 1 + 1), true, fact_mk (by decide)⟩, ⟨fact (3 + 1 ≤ 3 + 1), true, fact_mk (by decide)⟩] [k_c f171_, k_c f173_, k_c f175_] (by kernel_rfl)
            · have h170_ := (if_neg b169_).symm.trans h162_
              by_cases b177_ : d < (1 : Int)
              · have h178_ := (if_pos b177_).symm.trans h170_
                obtain ⟨r66, f179_, h180_⟩ := pullD_elim h178_
                replace f179_ := m_102_ok f179_
                obtain ⟨r67, f181_, h182_⟩ := pullD_elim h180_
                replace f181_ := m_103_ok f181_
                obtain ⟨r68, f183_, h184_⟩ := pullD_elim h182_
                replace f183_ := m_83_ok f183_
                obtain rfl := Option.some.inj h184_
                exact con_pc (op := true) (I := [43, 95, 132]) (sp := chkFault_sp) 3000 (bT 1 (bF 5 (bT 1 (bF 6 (bT 1 (bF 5 (bT 6 []))))))) [.one (.int .i64 r66), .one (.int .i64 r67), .one (.int .i64 r68)] [c_T, c_n b1_, c_n b1_, c_n b1_, c_n b1_, c_n b41_, c_T, c_n b81_, c_n b81_, c_n b81_, c_n b81_, c_n b121_, c_F, c_T, c_n b161_, c_n b161_, c_n b161_, c_n b161_, c_n b169_, c_T, c_d b177_, c_d b177_, c_d b177_, c_d b177_, c_T, ⟨fact (1 + 1 ≤ 1 + 1), true, fact_mk (by decide)⟩, ⟨fact (3 + 1 ≤ 3 + 1), true, fact_mk (by decide)⟩] [k_c f179_, k_c f181_, k_c f183_] (by kernel_rfl)
              · have h178_ := (if_neg b177_).symm.trans h170_
                by_cases b185_ : d > (1000 : Int)
                · have h186_ := (if_pos b185_).symm.trans h178_
                  obtain ⟨r69, f187_, h188_⟩ := pullD_elim h186_
                  replace f187_ := m_102_ok f187_
                  obtain ⟨r70, f189_, h190_⟩ := pullD_elim h188_
                  replace f189_ := m_103_ok f189_
                  obtain ⟨r71, f191_, h192_⟩ := pullD_elim h190_
                  replace f191_ := m_83_ok f191_
                  obtain rfl := Option.some.inj h192_
                  exact con_pc (op := true) (I := [43, 95, 132]) (sp := chkFault_sp) 3000 (bT 1 (bF 5 (bT 1 (bF 6 (bT 1 (bF 5 (bT 1 (bF 4 (bT 1 []))))))))) [.one (.int .i64 r69), .one (.int .i64 r70), .one (.int .i64 r71)] [c_T, c_n b1_, c_n b1_, c_n b1_, c_n b1_, c_n b41_, c_T, c_n b81_, c_n b81_, c_n b81_, c_n b81_, c_n b121_, c_F, c_T, c_n b161_, c_n b161_, c_n b161_, c_n b161_, c_n b169_, c_T, c_n b177_, c_n b177_, c_n b177_, c_n b177_, c_d b185_, ⟨fact (1 + 1 ≤ 1 + 1), true, fact_mk (by decide)⟩, ⟨fact (3 + 1 ≤ 3 + 1), true, fact_mk (by decide)⟩] [k_c f187_, k_c f189_, k_c f191_] (by kernel_rfl)
                · have h186_ := (if_neg b185_).symm.trans h178_
                  obtain ⟨r72, f193_, h194_⟩ := pullD_elim h186_
                  replace f193_ := m_102_ok f193_
                  obtain ⟨r73, f195_, h196_⟩ := pullD_elim h194_
                  replace f195_ := m_103_ok f195_
                  obtain ⟨r74, f197_, h198_⟩ := pullD_elim h196_
                  replace f197_ := m_83_ok f197_
                  obtain rfl := Option.some.inj h198_
                  exact con_pc (op := true) (I := [43, 95, 132]) (sp := chkFault_sp) 3000 (bT 1 (bF 5 (bT 1 (bF 6 (bT 1 (bF 5 (bT 1 (bF 6 [])))))))) [.one (.int .i64 r72), .one (.int .i64 r73), .one (.int .i64 r74)] [c_T, c_n b1_, c_n b1_, c_n b1_, c_n b1_, c_n b41_, c_T, c_n b81_, c_n b81_, c_n b81_, c_n b81_, c_n b121_, c_F, c_T, c_n b161_, c_n b161_, c_n b161_, c_n b161_, c_n b169_, c_T, c_n b177_, c_n b177_, c_n b177_, c_n b177_, c_n b185_, c_F, ⟨fact (1 + 1 ≤ 1 + 1), true, fact_mk (by decide)⟩, ⟨fact (3 + 1 ≤ 3 + 1), true, fact_mk (by decide)⟩] [k_c f193_, k_c f195_, k_c f197_] (by kernel_rfl)
def m_43 (ds : List D) : Option D := pullD (α := Int × Int × Int × Int × Int × Int) (some (.tup ds)) (fun d => ((D.vi (D.at (D.at d 0) 0)), (D.vi (D.at (D.at d 0) 1)), (D.vi (D.at (D.at d 0) 2)), (D.vi (D.at (D.at d 0) 3)), (D.vi (D.at (D.at d 0) 4)), (D.vi (D.at (D.at d 0) 5)))) (fun (a, b, c, d, n, m) => .tup [(shNF1_1 a b c d n m)]) fun (a, b, c, d, n, m) => chkFault_M a b c d n m
theorem m_43_ok {ds : List D} {r : D} (h : m_43 ds = some r) : Con 43 ds r := by
  unfold m_43 at h
  obtain ⟨⟨a, b, c, d, n, m⟩, e0, h0⟩ := pullD_elim h
  obtain rfl := tup_inj e0
  exact chkFault_M_ok a b c d n m h0
theorem m_43_eq (a b c d n m : Int) : m_43 [(shNF1_1 a b c d n m)] = chkFault_M a b c d n m := pullD_some (a, b, c, d, n, m) rfl rfl
def chkdFault_sp : List LSpec := []
def chkdFault_M (a b c d n m : Int) : Option D := pullD (α := Int) (m_43 [(shNF1_1 a b c d n m)]) (fun d => ((D.vi d))) (fun r0 => .one (.int .i64 r0)) fun r0 => ((if r0 ≠ (0 : Int) then some (.tup [(shNF1_1 (0 : Int) (0 : Int) (0 : Int) (0 : Int) (0 : Int) (0 : Int)), .one (.int .i64 r0)]) else some (.tup [(shNF1_1 a b c d n m), .one (.int .i64 (0 : Int))])))
theorem chkdFault_M_ok (a b c d n m : Int) {r : D} (h : chkdFault_M a b c d n m = some r) : Con 98 [(shNF1_1 a b c d n m)] r := by
  unfold chkdFault_M at h
  obtain ⟨r0, f1_, h2_⟩ := pullD_elim h
  replace f1_ := m_43_ok f1_
  by_cases b3_ : r0 ≠ (0 : Int)
  · have h4_ := (if_pos b3_).symm.trans h2_
    obtain rfl := Option.some.inj h4_
    exact con_pc (op := true) (I := [98]) (sp := chkdFault_sp) 3000 (bT 1 []) [.one (.int .i64 r0)] [c_b b3_] [k_c f1_] (by kernel_rfl)
  · have h4_ := (if_neg b3_).symm.trans h2_
    have b5_ : r0 = (0 : Int) := by first | exact b3_ | simpa using b3_
    obtain rfl := Option.some.inj h4_
    exact con_pc (op := true) (I := [98]) (sp := chkdFault_sp) 3000 (bF 1 []) [.one (.int .i64 r0)] [c_bn b5_] [k_c f1_] (by kernel_rfl)
def m_98 (ds : List D) : Option D := pullD (α := Int × Int × Int × Int × Int × Int) (some (.tup ds)) (fun d => ((D.vi (D.at (D.at d 0) 0)), (D.vi (D.at (D.at d 0) 1)), (D.vi (D.at (D.at d 0) 2)), (D.vi (D.at (D.at d 0) 3)), (D.vi (D.at (D.at d 0) 4)), (D.vi (D.at (D.at d 0) 5)))) (fun (a, b, c, d, n, m) => .tup [(shNF1_1 a b c d n m)]) fun (a, b, c, d, n, m) => chkdFault_M a b c d n m
theorem m_98_ok {ds : List D} {r : D} (h : m_98 ds = some r) : Con 98 ds r := by
  unfold m_98 at h
  obtain ⟨⟨a, b, c, d, n, m⟩, e0, h0⟩ := pullD_elim h
  obtain rfl := tup_inj e0
  exact chkdFault_M_ok a b c d n m h0
theorem m_98_eq (a b c d n m : Int) : m_98 [(shNF1_1 a b c d n m)] = chkdFault_M a b c d n m := pullD_some (a, b, c, d, n, m) rfl rfl
def peakOf_sp : List LSpec := []
def peakOf_M (a b c d n m : Int) : Option D := pullD (α := Int × Int × Int × Int × Int × Int × Int) (m_98 [(shNF1_1 a b c d n m)]) (fun d => ((D.vi (D.at (D.at d 0) 0)), (D.vi (D.at (D.at d 0) 1)), (D.vi (D.at (D.at d 0) 2)), (D.vi (D.at (D.at d 0) 3)), (D.vi (D.at (D.at d 0) 4)), (D.vi (D.at (D.at d 0) 5)), (D.vi (D.at d 1)))) (fun (r0, r1, r2, r3, r4, r5, r6) => .tup [(shNF1_1 r0 r1 r2 r3 r4 r5), .one (.int .i64 r6)]) fun (r0, r1, r2, r3, r4, r5, r6) => ((if r6 ≠ (0 : Int) then some (.tup [(shNF1_0 (0 : Int) (0 : Int) (0 : Int) (0 : Int)), .one (.int .i64 r6)]) else pullD (m_99 [(shNF1_1 r0 r1 r2 r3 r4 r5)]) shNF1_0P (fun (r7, r8, r9, r10) => (shNF1_0 r7 r8 r9 r10)) fun (r7, r8, r9, r10) => (some (.tup [(shNF1_0 r7 r8 r9 r10), .one (.int .i64 (0 : Int))]))))
theorem peakOf_M_ok (a b c d n m : Int) {r : D} (h : peakOf_M a b c d n m = some r) : Con 40 [(shNF1_1 a b c d n m)] r := by
  unfold peakOf_M at h
  obtain ⟨⟨r0, r1, r2, r3, r4, r5, r6⟩, f1_, h2_⟩ := pullD_elim h
  replace f1_ := m_98_ok f1_
  by_cases b3_ : r6 ≠ (0 : Int)
  · have h4_ := (if_pos b3_).symm.trans h2_
    obtain rfl := Option.some.inj h4_
    exact con_pc (op := true) (I := [40]) (sp := peakOf_sp) 3000 (bT 1 []) [.tup [(shNF1_1 r0 r1 r2 r3 r4 r5), .one (.int .i64 r6)]] [c_b b3_] [k_c f1_] (by kernel_rfl)
  · have h4_ := (if_neg b3_).symm.trans h2_
    have b5_ : r6 = (0 : Int) := by first | exact b3_ | simpa using b3_
    obtain ⟨⟨r7, r8, r9, r10⟩, f6_, h7_⟩ := pullD_elim h4_
    replace f6_ := m_99_ok f6_
    obtain rfl := Option.some.inj h7_
    exact con_pc (op := true) (I := [40]) (sp := peakOf_sp) 3000 (bF 1 []) [.tup [(shNF1_1 r0 r1 r2 r3 r4 r5), .one (.int .i64 r6)], (shNF1_0 r7 r8 r9 r10)] [c_bn b5_] [k_c f1_, k_c f6_] (by kernel_rfl)
def m_40 (ds : List D) : Option D := pullD (α := Int × Int × Int × Int × Int × Int) (some (.tup ds)) (fun d => ((D.vi (D.at (D.at d 0) 0)), (D.vi (D.at (D.at d 0) 1)), (D.vi (D.at (D.at d 0) 2)), (D.vi (D.at (D.at d 0) 3)), (D.vi (D.at (D.at d 0) 4)), (D.vi (D.at (D.at d 0) 5)))) (fun (a, b, c, d, n, m) => .tup [(shNF1_1 a b c d n m)]) fun (a, b, c, d, n, m) => peakOf_M a b c d n m
theorem m_40_ok {ds : List D} {r : D} (h : m_40 ds = some r) : Con 40 ds r := by
  unfold m_40 at h
  obtain ⟨⟨a, b, c, d, n, m⟩, e0, h0⟩ := pullD_elim h
  obtain rfl := tup_inj e0
  exact peakOf_M_ok a b c d n m h0
theorem m_40_eq (a b c d n m : Int) : m_40 [(shNF1_1 a b c d n m)] = peakOf_M a b c d n m := pullD_some (a, b, c, d, n, m) rfl rfl
def holdsAt_sp : List LSpec := []
def holdsAt_M (a b c d n m u l : Int) : Option D := pullD (α := Int × Int × Int × Int × Int × Int × Int) (m_98 [(shNF1_1 a b c d n m)]) (fun d => ((D.vi (D.at (D.at d 0) 0)), (D.vi (D.at (D.at d 0) 1)), (D.vi (D.at (D.at d 0) 2)), (D.vi (D.at (D.at d 0) 3)), (D.vi (D.at (D.at d 0) 4)), (D.vi (D.at (D.at d 0) 5)), (D.vi (D.at d 1)))) (fun (r0, r1, r2, r3, r4, r5, r6) => .tup [(shNF1_1 r0 r1 r2 r3 r4 r5), .one (.int .i64 r6)]) fun (r0, r1, r2, r3, r4, r5, r6) => (pullD (α := Int) (m_100 [.one (.int .i64 u)]) (fun d => ((D.vi d))) (fun r7 => .one (.int .i64 r7)) fun r7 => ((if l < (1 : Int) then pullD (α := Int) (m_83 [.list 3 [.one (.int .i64 r6), .one (.int .i64 r7), .one (.int .i64 (2 : Int))]]) (fun d => ((D.vi d))) (fun r8 => .one (.int .i64 r8)) fun r8 => ((if r8 ≠ (0 : Int) then some (.tup [.one (.int .i64 (0 : Int)), .one (.int .i64 r8)]) else pullD (α := Int) (m_101 [(shNF1_1 r0 r1 r2 r3 r4 r5), .one (.int .i64 u), .one (.int .i64 l)]) (fun d => ((D.vi d))) (fun r9 => .one (.int .i64 r9)) fun r9 => (some (.tup [.one (.int .i64 r9), .one (.int .i64 (0 : Int))])))) else (if l > (100000000 : Int) then pullD (α := Int) (m_83 [.list 3 [.one (.int .i64 r6), .one (.int .i64 r7), .one (.int .i64 (2 : Int))]]) (fun d => ((D.vi d))) (fun r10 => .one (.int .i64 r10)) fun r10 => ((if r10 ≠ (0 : Int) then some (.tup [.one (.int .i64 (0 : Int)), .one (.int .i64 r10)]) else pullD (α := Int) (m_101 [(shNF1_1 r0 r1 r2 r3 r4 r5), .one (.int .i64 u), .one (.int .i64 l)]) (fun d => ((D.vi d))) (fun r11 => .one (.int .i64 r11)) fun r11 => (some (.tup [.one (.int .i64 r11), .one (.int .i64 (0 : Int))])))) else pullD (α := Int) (m_83 [.list 3 [.one (.int .i64 r6), .one (.int .i64 r7), .one (.int .i64 (0 : Int))]]) (fun d => ((D.vi d))) (fun r12 => .one (.int .i64 r12)) fun r12 => ((if r12 ≠ (0 : Int) then some (.tup [.one (.int .i64 (0 : Int)), .one (.int .i64 r12)]) else pullD (α := Int) (m_101 [(shNF1_1 r0 r1 r2 r3 r4 r5), .one (.int .i64 u), .one (.int .i64 l)]) (fun d => ((D.vi d))) (fun r13 => .one (.int .i64 r13)) fun r13 => (some (.tup [.one (.int .i64 r13), .one (.int .i64 (0 : Int))]))))))))
theorem holdsAt_M_ok (a b c d n m u l : Int) {r : D} (h : holdsAt_M a b c d n m u l = some r) : Con 41 [(shNF1_1 a b c d n m), .one (.int .i64 u), .one (.int .i64 l)] r := by
  unfold holdsAt_M at h
  obtain ⟨⟨r0, r1, r2, r3, r4, r5, r6⟩, f1_, h2_⟩ := pullD_elim h
  replace f1_ := m_98_ok f1_
  obtain ⟨r7, f3_, h4_⟩ := pullD_elim h2_
  replace f3_ := m_100_ok f3_
  by_cases b5_ : l < (1 : Int)
  · have h6_ := (if_pos b5_).symm.trans h4_
    obtain ⟨r8, f7_, h8_⟩ := pullD_elim h6_
    replace f7_ := m_83_ok f7_
    by_cases b9_ : r8 ≠ (0 : Int)
    · have h10_ := (if_pos b9_).symm.trans h8_
      obtain rfl := Option.some.inj h10_
      exact con_pc (op := true) (I := [41, 95, 132]) (sp := holdsAt_sp) 3000 (bT 7 []) [.tup [(shNF1_1 r0 r1 r2 r3 r4 r5), .one (.int .i64 r6)], .one (.int .i64 r7), .one (.int .i64 r8)] [c_T, c_d b5_, c_d b5_, c_d b5_, c_d b5_, c_T, ⟨fact (2 + 1 ≤ 2 + 1), true, fact_mk (by decide)⟩, c_b b9_] [k_c f1_, k_c f3_, k_c f7_] (by kernel_rfl)
    · have h10_ := (if_neg b9_).symm.trans h8_
      have b11_ : r8 = (0 : Int) := by first | exact b9_ | simpa using b9_
      obtain ⟨r9, f12_, h13_⟩ := pullD_elim h10_
      replace f12_ := m_101_ok f12_
      obtain rfl := Option.some.inj h13_
      exact con_pc (op := true) (I := [41, 95, 132]) (sp := holdsAt_sp) 3000 (bT 6 (bF 1 [])) [.tup [(shNF1_1 r0 r1 r2 r3 r4 r5), .one (.int .i64 r6)], .one (.int .i64 r7), .one (.int .i64 r8), .one (.int .i64 r9)] [c_T, c_d b5_, c_d b5_, c_d b5_, c_d b5_, c_T, ⟨fact (2 + 1 ≤ 2 + 1), true, fact_mk (by decide)⟩, c_bn b11_] [k_c f1_, k_c f3_, k_c f7_, k_c f12_] (by kernel_rfl)
  · have h6_ := (if_neg b5_).symm.trans h4_
    by_cases b14_ : l > (100000000 : Int)
    · have h15_ := (if_pos b14_).symm.trans h6_
      obtain ⟨r10, f16_, h17_⟩ := pullD_elim h15_
      replace f16_ := m_83_ok f16_
      by_cases b18_ : r10 ≠ (0 : Int)
      · have h19_ := (if_pos b18_).symm.trans h17_
        obtain rfl := Option.some.inj h19_
        exact con_pc (op := true) (I := [41, 95, 132]) (sp := holdsAt_sp) 3000 (bT 1 (bF 4 (bT 2 []))) [.tup [(shNF1_1 r0 r1 r2 r3 r4 r5), .one (.int .i64 r6)], .one (.int .i64 r7), .one (.int .i64 r10)] [c_T, c_n b5_, c_n b5_, c_n b5_, c_n b5_, c_d b14_, ⟨fact (2 + 1 ≤ 2 + 1), true, fact_mk (by decide)⟩, c_b b18_] [k_c f1_, k_c f3_, k_c f16_] (by kernel_rfl)
      · have h19_ := (if_neg b18_).symm.trans h17_
        have b20_ : r10 = (0 : Int) := by first | exact b18_ | simpa using b18_
        obtain ⟨r11, f21_, h22_⟩ := pullD_elim h19_
        replace f21_ := m_101_ok f21_
        obtain rfl := Option.some.inj h22_
        exact con_pc (op := true) (I := [41, 95, 132]) (sp := holdsAt_sp) 3000 (bT 1 (bF 4 (bT 1 (bF 1 [])))) [.tup [(shNF1_1 r0 r1 r2 r3 r4 r5), .one (.int .i64 r6)], .one (.int .i64 r7), .one (.int .i64 r10), .one (.int .i64 r11)] [c_T, c_n b5_, c_n b5_, c_n b5_, c_n b5_, c_d b14_, ⟨fact (2 + 1 ≤ 2 + 1), true, fact_mk (by decide)⟩, c_bn b20_] [k_c f1_, k_c f3_, k_c f16_, k_c f21_] (by kernel_rfl)
    · have h15_ := (if_neg b14_).symm.trans h6_
      obtain ⟨r12, f23_, h24_⟩ := pullD_elim h15_
      replace f23_ := m_83_ok f23_
      by_cases b25_ : r12 ≠ (0 : Int)
      · have h26_ := (if_pos b25_).symm.trans h24_
        obtain rfl := Option.some.inj h26_
        exact con_pc (op := true) (I := [41, 95, 132]) (sp := holdsAt_sp) 3000 (bT 1 (bF 6 (bT 1 []))) [.tup [(shNF1_1 r0 r1 r2 r3 r4 r5), .one (.int .i64 r6)], .one (.int .i64 r7), .one (.int .i64 r12)] [c_T, c_n b5_, c_n b5_, c_n b5_, c_n b5_, c_n b14_, c_F, ⟨fact (2 + 1 ≤ 2 + 1), true, fact_mk (by decide)⟩, c_b b25_] [k_c f1_, k_c f3_, k_c f23_] (by kernel_rfl)
      · have h26_ := (if_neg b25_).symm.trans h24_
        have b27_ : r12 = (0 : Int) := by first | exact b25_ | simpa using b25_
        obtain ⟨r13, f28_, h29_⟩ := pullD_elim h26_
        replace f28_ := m_101_ok f28_
        obtain rfl := Option.some.inj h29_
        exact con_pc (op := true) (I := [41, 95, 132]) (sp := holdsAt_sp) 3000 (bT 1 (bF 7 [])) [.tup [(shNF1_1 r0 r1 r2 r3 r4 r5), .one (.int .i64 r6)], .one (.int .i64 r7), .one (.int .i64 r12), .one (.int .i64 r13)] [c_T, c_n b5_, c_n b5_, c_n b5_, c_n b5_, c_n b14_, c_F, ⟨fact (2 + 1 ≤ 2 + 1), true, fact_mk (by decide)⟩, c_bn b27_] [k_c f1_, k_c f3_, k_c f23_, k_c f28_] (by kernel_rfl)
def m_41 (ds : List D) : Option D := pullD (α := Int × Int × Int × Int × Int × Int × Int × Int) (some (.tup ds)) (fun d => ((D.vi (D.at (D.at d 0) 0)), (D.vi (D.at (D.at d 0) 1)), (D.vi (D.at (D.at d 0) 2)), (D.vi (D.at (D.at d 0) 3)), (D.vi (D.at (D.at d 0) 4)), (D.vi (D.at (D.at d 0) 5)), (D.vi (D.at d 1)), (D.vi (D.at d 2)))) (fun (a, b, c, d, n, m, u, l) => .tup [(shNF1_1 a b c d n m), .one (.int .i64 u), .one (.int .i64 l)]) fun (a, b, c, d, n, m, u, l) => holdsAt_M a b c d n m u l
theorem m_41_ok {ds : List D} {r : D} (h : m_41 ds = some r) : Con 41 ds r := by
  unfold m_41 at h
  obtain ⟨⟨a, b, c, d, n, m, u, l⟩, e0, h0⟩ := pullD_elim h
  obtain rfl := tup_inj e0
  exact holdsAt_M_ok a b c d n m u l h0
theorem m_41_eq (a b c d n m u l : Int) : m_41 [(shNF1_1 a b c d n m), .one (.int .i64 u), .one (.int .i64 l)] = holdsAt_M a b c d n m u l := pullD_some (a, b, c, d, n, m, u, l) rfl rfl
def faultErr_sp : List LSpec := []
def faultErr_M (a b c d n m : Int) : Option D := pullD (α := Bool) (m_30 [.one (.int .i64 a), .one (.int .i64 (0 : Int)), .one (.int .i64 (1000 : Int))]) (fun d => ((D.vb d))) (fun r0 => .one (.bool r0)) fun r0 => ((if r0 = false then some (.one (.int .i64 (2 : Int))) else pullD (α := Bool) (m_30 [.one (.int .i64 b), .one (.int .i64 (0 : Int)), .one (.int .i64 (1000 : Int))]) (fun d => ((D.vb d))) (fun r1 => .one (.bool r1)) fun r1 => ((if r1 = false then some (.one (.int .i64 (2 : Int))) else pullD (α := Bool) (m_30 [.one (.int .i64 c), .one (.int .i64 (1 : Int)), .one (.int .i64 (1000 : Int))]) (fun d => ((D.vb d))) (fun r2 => .one (.bool r2)) fun r2 => ((if r2 = false then some (.one (.int .i64 (2 : Int))) else pullD (α := Bool) (m_30 [.one (.int .i64 d), .one (.int .i64 (1 : Int)), .one (.int .i64 (1000 : Int))]) (fun d => ((D.vb d))) (fun r3 => .one (.bool r3)) fun r3 => ((if r3 = false then some (.one (.int .i64 (2 : Int))) else (if a > b then some (.one (.int .i64 (9 : Int))) else (if c > d then some (.one (.int .i64 (9 : Int))) else pullD (α := Bool) (m_47 [.agg [.one (.int .i64 n), .one (.int .i64 m)]]) (fun d => ((D.vb d))) (fun r4 => .one (.bool r4)) fun r4 => ((if r4 = false then some (.one (.int .i64 (3 : Int))) else pullD (α := Bool) (m_30 [.one (.int .i64 n), .one (.int .i64 (1 : Int)), .one (.int .i64 (100 : Int))]) (fun d => ((D.vb d))) (fun r5 => .one (.bool r5)) fun r5 => ((if r5 = false then some (.one (.int .i64 (2 : Int))) else (if m > (100 : Int) then some (.one (.int .i64 (2 : Int))) else some (.one (.int .i64 (0 : Int))))))))))))))))))
theorem faultErr_M_ok (a b c d n m : Int) {r : D} (h : faultErr_M a b c d n m = some r) : Con 42 [(shNF1_1 a b c d n m)] r := by
  unfold faultErr_M at h
  obtain ⟨r0, f1_, h2_⟩ := pullD_elim h
  replace f1_ := m_30_ok f1_
  by_cases b3_ : r0 = false
  · have h4_ := (if_pos b3_).symm.trans h2_
    obtain rfl := Option.some.inj h4_
    exact con_pc (op := true) (I := [42]) (sp := faultErr_sp) 3000 (bT 19 []) [.one (.bool r0)] [c_no b3_, c_no b3_, c_no b3_, c_no b3_, c_no b3_, c_no b3_, c_T, c_T, c_T, c_T, c_T, c_T, c_T, c_T, c_T, c_T, c_T, c_T, c_T] [k_c f1_] (by kernel_rfl)
  · have h4_ := (if_neg b3_).symm.trans h2_
    have b5_ : r0 = true := by first | exact b3_ | simpa using b3_
    obtain ⟨r1, f6_, h7_⟩ := pullD_elim h4_
    replace f6_ := m_30_ok f6_
    by_cases b8_ : r1 = false
    · have h9_ := (if_pos b8_).symm.trans h7_
      obtain rfl := Option.some.inj h9_
      exact con_pc (op := true) (I := [42]) (sp := faultErr_sp) 3000 (bF 6 (bT 13 [])) [.one (.bool r0), .one (.bool r1)] [c_nn b5_, c_nn b5_, c_nn b5_, c_nn b5_, c_nn b5_, c_nn b5_, c_no b8_, c_no b8_, c_no b8_, c_no b8_, c_no b8_, c_no b8_, c_T, c_T, c_T, c_T, c_T, c_T, c_T] [k_c f1_, k_c f6_] (by kernel_rfl)
    · have h9_ := (if_neg b8_).symm.trans h7_
      have b10_ : r1 = true := by first | exact b8_ | simpa using b8_
      obtain ⟨r2, f11_, h12_⟩ := pullD_elim h9_
      replace f11_ := m_30_ok f11_
      by_cases b13_ : r2 = false
      · have h14_ := (if_pos b13_).symm.trans h12_
        obtain rfl := Option.some.inj h14_
        exact con_pc (op := true) (I := [42]) (sp := faultErr_sp) 3000 (bF 12 (bT 7 [])) [.one (.bool r0), .one (.bool r1), .one (.bool r2)] [c_nn b5_, c_nn b5_, c_nn b5_, c_nn b5_, c_nn b5_, c_nn b5_, c_nn b10_, c_nn b10_, c_nn b10_, c_nn b10_, c_nn b10_, c_nn b10_, c_no b13_, c_no b13_, c_no b13_, c_no b13_, c_no b13_, c_no b13_, c_T] [k_c f1_, k_c f6_, k_c f11_] (by kernel_rfl)
      · have h14_ := (if_neg b13_).symm.trans h12_
        have b15_ : r2 = true := by first | exact b13_ | simpa using b13_
        obtain ⟨r3, f16_, h17_⟩ := pullD_elim h14_
        replace f16_ := m_30_ok f16_
        by_cases b18_ : r3 = false
        · have h19_ := (if_pos b18_).symm.trans h17_
          obtain rfl := Option.some.inj h19_
          exact con_pc (op := true) (I := [42]) (sp := faultErr_sp) 3000 (bF 18 (bT 1 [])) [.one (.bool r0), .one (.bool r1), .one (.bool r2), .one (.bool r3)] [c_nn b5_, c_nn b5_, c_nn b5_, c_nn b5_, c_nn b5_, c_nn b5_, c_nn b10_, c_nn b10_, c_nn b10_, c_nn b10_, c_nn b10_, c_nn b10_, c_nn b15_, c_nn b15_, c_nn b15_, c_nn b15_, c_nn b15_, c_nn b15_, c_no b18_] [k_c f1_, k_c f6_, k_c f11_, k_c f16_] (by kernel_rfl)
        · have h19_ := (if_neg b18_).symm.trans h17_
          have b20_ : r3 = true := by first | exact b18_ | simpa using b18_
          by_cases b21_ : a > b
          · have h22_ := (if_pos b21_).symm.trans h19_
            obtain rfl := Option.some.inj h22_
            exact con_pc (op := true) (I := [42]) (sp := faultErr_sp) 3000 (bF 19 (bT 9 [])) [.one (.bool r0), .one (.bool r1), .one (.bool r2), .one (.bool r3)] [c_nn b5_, c_nn b5_, c_nn b5_, c_nn b5_, c_nn b5_, c_nn b5_, c_nn b10_, c_nn b10_, c_nn b10_, c_nn b10_, c_nn b10_, c_nn b10_, c_nn b15_, c_nn b15_, c_nn b15_, c_nn b15_, c_nn b15_, c_nn b15_, c_nn b20_, c_d b21_, c_d b21_, c_d b21_, c_d b21_, c_d b21_, c_d b21_, c_d b21_, c_d b21_, c_T] [k_c f1_, k_c f6_, k_c f11_, k_c f16_] (by kernel_rfl)
          · have h22_ := (if_neg b21_).symm.trans h19_
            by_cases b23_ : c > d
            · have h24_ := (if_pos b23_).symm.trans h22_
              obtain rfl := Option.some.inj h24_
              exact con_pc (op := true) (I := [42]) (sp := faultErr_sp) 3000 (bF 27 (bT 1 [])) [.one (.bool r0), .one (.bool r1), .one (.bool r2), .one (.bool r3)] [c_nn b5_, c_nn b5_, c_nn b5_, c_nn b5_, c_nn b5_, c_nn b5_, c_nn b10_, c_nn b10_, c_nn b10_, c_nn b10_, c_nn b10_, c_nn b10_, c_nn b15_, c_nn b15_, c_nn b15_, c_nn b15_, c_nn b15_, c_nn b15_, c_nn b20_, c_n b21_, c_n b21_, c_n b21_, c_n b21_, c_n b21_, c_n b21_, c_n b21_, c_n b21_, c_d b23_] [k_c f1_, k_c f6_, k_c f11_, k_c f16_] (by kernel_rfl)
            · have h24_ := (if_neg b23_).symm.trans h22_
              obtain ⟨r4, f25_, h26_⟩ := pullD_elim h24_
              replace f25_ := m_47_ok f25_
              by_cases b27_ : r4 = false
              · have h28_ := (if_pos b27_).symm.trans h26_
                obtain rfl := Option.some.inj h28_
                exact con_pc (op := true) (I := [42]) (sp := faultErr_sp) 3000 (bF 28 (bT 1 [])) [.one (.bool r0), .one (.bool r1), .one (.bool r2), .one (.bool r3), .one (.bool r4)] [c_nn b5_, c_nn b5_, c_nn b5_, c_nn b5_, c_nn b5_, c_nn b5_, c_nn b10_, c_nn b10_, c_nn b10_, c_nn b10_, c_nn b10_, c_nn b10_, c_nn b15_, c_nn b15_, c_nn b15_, c_nn b15_, c_nn b15_, c_nn b15_, c_nn b20_, c_n b21_, c_n b21_, c_n b21_, c_n b21_, c_n b21_, c_n b21_, c_n b21_, c_n b21_, c_n b23_, c_no b27_] [k_c f1_, k_c f6_, k_c f11_, k_c f16_, k_c f25_] (by kernel_rfl)
              · have h28_ := (if_neg b27_).symm.trans h26_
                have b29_ : r4 = true := by first | exact b27_ | simpa using b27_
                obtain ⟨r5, f30_, h31_⟩ := pullD_elim h28_
                replace f30_ := m_30_ok f30_
                by_cases b32_ : r5 = false
                · have h33_ := (if_pos b32_).symm.trans h31_
                  obtain rfl := Option.some.inj h33_
                  exact con_pc (op := true) (I := [42]) (sp := faultErr_sp) 3000 (bF 29 (bT 6 [])) [.one (.bool r0), .one (.bool r1), .one (.bool r2), .one (.bool r3), .one (.bool r4), .one (.bool r5)] [c_nn b5_, c_nn b5_, c_nn b5_, c_nn b5_, c_nn b5_, c_nn b5_, c_nn b10_, c_nn b10_, c_nn b10_, c_nn b10_, c_nn b10_, c_nn b10_, c_nn b15_, c_nn b15_, c_nn b15_, c_nn b15_, c_nn b15_, c_nn b15_, c_nn b20_, c_n b21_, c_n b21_, c_n b21_, c_n b21_, c_n b21_, c_n b21_, c_n b21_, c_n b21_, c_n b23_, c_nn b29_, c_no b32_, c_no b32_, c_no b32_, c_no b32_, c_no b32_, c_T] [k_c f1_, k_c f6_, k_c f11_, k_c f16_, k_c f25_, k_c f30_] (by kernel_rfl)
                · have h33_ := (if_neg b32_).symm.trans h31_
                  have b34_ : r5 = true := by first | exact b32_ | simpa using b32_
                  by_cases b35_ : m > (100 : Int)
                  · have h36_ := (if_pos b35_).symm.trans h33_
                    obtain rfl := Option.some.inj h36_
                    exact con_pc (op := true) (I := [42]) (sp := faultErr_sp) 3000 (bF 34 (bT 1 [])) [.one (.bool r0), .one (.bool r1), .one (.bool r2), .one (.bool r3), .one (.bool r4), .one (.bool r5)] [c_nn b5_, c_nn b5_, c_nn b5_, c_nn b5_, c_nn b5_, c_nn b5_, c_nn b10_, c_nn b10_, c_nn b10_, c_nn b10_, c_nn b10_, c_nn b10_, c_nn b15_, c_nn b15_, c_nn b15_, c_nn b15_, c_nn b15_, c_nn b15_, c_nn b20_, c_n b21_, c_n b21_, c_n b21_, c_n b21_, c_n b21_, c_n b21_, c_n b21_, c_n b21_, c_n b23_, c_nn b29_, c_nn b34_, c_nn b34_, c_nn b34_, c_nn b34_, c_nn b34_, c_d b35_] [k_c f1_, k_c f6_, k_c f11_, k_c f16_, k_c f25_, k_c f30_] (by kernel_rfl)
                  · have h36_ := (if_neg b35_).symm.trans h33_
                    obtain rfl := Option.some.inj h36_
                    exact con_pc (op := true) (I := [42]) (sp := faultErr_sp) 3000 (bF 35 []) [.one (.bool r0), .one (.bool r1), .one (.bool r2), .one (.bool r3), .one (.bool r4), .one (.bool r5)] [c_nn b5_, c_nn b5_, c_nn b5_, c_nn b5_, c_nn b5_, c_nn b5_, c_nn b10_, c_nn b10_, c_nn b10_, c_nn b10_, c_nn b10_, c_nn b10_, c_nn b15_, c_nn b15_, c_nn b15_, c_nn b15_, c_nn b15_, c_nn b15_, c_nn b20_, c_n b21_, c_n b21_, c_n b21_, c_n b21_, c_n b21_, c_n b21_, c_n b21_, c_n b21_, c_n b23_, c_nn b29_, c_nn b34_, c_nn b34_, c_nn b34_, c_nn b34_, c_nn b34_, c_n b35_] [k_c f1_, k_c f6_, k_c f11_, k_c f16_, k_c f25_, k_c f30_] (by kernel_rfl)
def m_42 (ds : List D) : Option D := pullD (α := Int × Int × Int × Int × Int × Int) (some (.tup ds)) (fun d => ((D.vi (D.at (D.at d 0) 0)), (D.vi (D.at (D.at d 0) 1)), (D.vi (D.at (D.at d 0) 2)), (D.vi (D.at (D.at d 0) 3)), (D.vi (D.at (D.at d 0) 4)), (D.vi (D.at (D.at d 0) 5)))) (fun (a, b, c, d, n, m) => .tup [(shNF1_1 a b c d n m)]) fun (a, b, c, d, n, m) => faultErr_M a b c d n m
theorem m_42_ok {ds : List D} {r : D} (h : m_42 ds = some r) : Con 42 ds r := by
  unfold m_42 at h
  obtain ⟨⟨a, b, c, d, n, m⟩, e0, h0⟩ := pullD_elim h
  obtain rfl := tup_inj e0
  exact faultErr_M_ok a b c d n m h0
theorem m_42_eq (a b c d n m : Int) : m_42 [(shNF1_1 a b c d n m)] = faultErr_M a b c d n m := pullD_some (a, b, c, d, n, m) rfl rfl
end
end Go.Proofs.Ytlnolhhoakmdhaa
/- Whole numbers as lists of digits to the base 10^9, and as values in depth. -/
namespace Go.Ev
open Go.RowKit
abbrev iD (x : Int) : D := .one (.int .i64 x)
abbrev lD (l : List Int) : D := .list l.length (l.map iD)
/-- The value of digits, the lowest one first. -/
def vl : List Int → Int
  | [] => 0
  | d :: l => d + (1000000000 : Int) * vl l
/-- The digits of a number. -/
def dg (n : Nat) : List Int := if n = 0 then [] else ((n % 1000000000 : Nat) : Int) :: dg (n / 1000000000)
termination_by n
decreasing_by omega
def Dig (l : List Int) : Prop := ∀ d ∈ l, 0 ≤ d ∧ d < (1000000000 : Int)
def Trim (l : List Int) : Prop := ∀ h : l ≠ [], l.getLast h ≠ 0
theorem dg_zero : dg 0 = [] := by unfold dg; simp
theorem dg_pos {n : Nat} (h : 0 < n) : dg n = ((n % 1000000000 : Nat) : Int) :: dg (n / 1000000000) := by
  conv => lhs; unfold dg
  rw [if_neg (by omega)]
theorem Dig.cons {d : Int} {l : List Int} (h : Dig (d :: l)) : (0 ≤ d ∧ d < (1000000000 : Int)) ∧ Dig l := ⟨h d List.mem_cons_self, fun x hx => h x (List.mem_cons_of_mem _ hx)⟩
theorem Dig.nil : Dig [] := fun _ h => by cases h
theorem Dig.append {a b : List Int} (ha : Dig a) (hb : Dig b) : Dig (a ++ b) := fun x hx => by
  rcases List.mem_append.1 hx with h | h
  · exact ha x h
  · exact hb x h
theorem Dig.one {d : Int} (h0 : 0 ≤ d) (h1 : d < (1000000000 : Int)) : Dig [d] := fun x hx => by simp at hx; subst hx; exact ⟨h0, h1⟩
theorem Dig.take {l : List Int} (h : Dig l) (n : Nat) : Dig (l.take n) := fun x hx => h x (List.mem_of_mem_take hx)
theorem Dig.drop {l : List Int} (h : Dig l) (n : Nat) : Dig (l.drop n) := fun x hx => h x (List.mem_of_mem_drop hx)
theorem vl_lt : ∀ {l : List Int}, Dig l → vl l < (1000000000 : Int) ^ l.length
  | [], _ => by simp [vl]
  | d :: l, h => by
    have h1 := vl_lt h.cons.2
    have := h.cons.1
    simp only [vl, List.length_cons, Int.pow_succ]
    rw [Int.mul_comm ((1000000000 : Int) ^ l.length) (1000000000 : Int)]
    omega
theorem dg_dig (n : Nat) : Dig (dg n) := by
  induction n using Nat.strongRecOn with
  | ind n ih =>
    rcases Nat.eq_zero_or_pos n with h | h
    · subst h; rw [dg_zero]; exact Dig.nil
    · rw [dg_pos h]
      intro x hx
      rcases List.mem_cons.1 hx with rfl | hx
      · have := Nat.mod_lt n (show 0 < 1000000000 by decide); show 0 ≤ _ ∧ _ < (1000000000 : Int); omega
      · exact ih (n / 1000000000) (by omega) x hx
theorem vl_dg (n : Nat) : vl (dg n) = n := by
  induction n using Nat.strongRecOn with
  | ind n ih =>
    rcases Nat.eq_zero_or_pos n with h | h
    · subst h; rw [dg_zero]; rfl
    · rw [dg_pos h, vl, ih (n / 1000000000) (by omega)]
      show _ + (1000000000 : Int) * _ = _
      omega
theorem Trim.cons {d : Int} {l : List Int} (h : Trim (d :: l)) : Trim l := fun hl => by
  have := h (by simp)
  rwa [List.getLast_cons hl] at this
/-- How many digits are kept where zeros at the end are cut off. -/
def keep : List Int → Nat
  | [] => 0
  | d :: l => if keep l = 0 ∧ d = 0 then 0 else keep l + 1
/-- How many digits. -/
abbrev nd (z : Int) : Nat := (dg z.natAbs).length
theorem dg_len_le {n k : Nat} (h : n < 1000000000 ^ k) : (dg n).length ≤ k := by
  induction k generalizing n with
  | zero => simp at h; subst h; simp [dg_zero]
  | succ k ih =>
    rcases Nat.eq_zero_or_pos n with h0 | h0
    · subst h0; simp [dg_zero]
    · rw [dg_pos h0, List.length_cons]
      have := ih (n := n / 1000000000) (by rw [Nat.pow_succ] at h; exact Nat.div_lt_of_lt_mul (by rw [Nat.mul_comm]; exact h))
      omega
theorem lt_of_dg_len (n : Nat) : n < 1000000000 ^ (dg n).length := by
  have h := vl_lt (dg_dig n)
  rw [vl_dg] at h
  have : ((1000000000 : Int) ^ (dg n).length) = ((1000000000 ^ (dg n).length : Nat) : Int) := by simp
  rw [this] at h
  exact Int.ofNat_lt.1 h
theorem Dig.at {a : List Int} (h : Dig a) (i : Nat) : 0 ≤ a[i]?.getD 0 ∧ a[i]?.getD 0 < (1000000000 : Int) := by
  by_cases hi : i < a.length
  · rw [List.getElem?_eq_getElem hi]; exact h _ (List.getElem_mem hi)
  · rw [List.getElem?_eq_none (by omega)]; decide
theorem pullI {β : Type} (x : Int) (k : Int → Option β) : pullD (some (.one (.int .i64 x))) (fun d => D.vi d) (fun r => .one (.int .i64 r)) k = k x := pullD_some x rfl rfl
theorem pullB {β : Type} (x : Bool) (k : Bool → Option β) : pullD (some (.one (.bool x))) (fun d => D.vb d) (fun r => .one (.bool r)) k = k x := pullD_some x rfl rfl
theorem Dig.set {l : List Int} (h : Dig l) (p : Nat) {x : Int} (h0 : 0 ≤ x) (h1 : x < 1000000000) : Dig (l.set p x) := fun y hy => by
  rcases List.mem_or_eq_of_mem_set hy with hy | rfl
  · exact h y hy
  · exact ⟨h0, h1⟩
theorem readW {l : List Int} {i : Nat} {v : Int} (h : l[i]? = some v) : readD (l.map iD) ((i : Int).toNat * 1) 1 false = some (iD v) := by
  unfold readD
  simp [h]
end Go.Ev
/- Numbers of any size: digits. -/
namespace Go.Proofs.Ytlnolhhoakmdhaa
open Go.Ev Go.RowKit
set_option maxRecDepth 100000
theorem wrapI (x : Int) (h1 : -9223372036854775808 ≤ x) (h2 : x < 9223372036854775808) : IntKind.i64.wrap x = x := by
  unfold IntKind.wrap
  show (if (true && _) then _ else _) = _
  simp only [Bool.true_and, decide_eq_true_eq]
  show (if x % 18446744073709551616 ≥ 9223372036854775808 then x % 18446744073709551616 - 18446744073709551616 else x % 18446744073709551616) = x
  split <;> omega
end Go.Proofs.Ytlnolhhoakmdhaa
/- Numbers of any size: of numbers, compared, added, subtracted. -/
namespace Go.Proofs.Ytlnolhhoakmdhaa
open Go.Ev Go.RowKit
set_option maxRecDepth 100000
end Go.Proofs.Ytlnolhhoakmdhaa
/- Numbers of any size: added, subtracted, compared. -/
namespace Go.Proofs.Ytlnolhhoakmdhaa
open Go.Ev Go.RowKit
set_option maxRecDepth 100000
end Go.Proofs.Ytlnolhhoakmdhaa
/- Numbers of any size: subtracted; sums, differences, which is greater. -/
namespace Go.Proofs.Ytlnolhhoakmdhaa
open Go.Ev Go.RowKit
set_option maxRecDepth 100000
theorem dg_len_mono {a b : Nat} (h : a ≤ b) : (dg a).length ≤ (dg b).length := dg_len_le (Nat.lt_of_le_of_lt h (lt_of_dg_len b))
end Go.Proofs.Ytlnolhhoakmdhaa
/- Numbers of any size: products. -/
namespace Go.Proofs.Ytlnolhhoakmdhaa
open Go.Ev Go.RowKit
set_option maxRecDepth 100000
end Go.Proofs.Ytlnolhhoakmdhaa
/- Numbers of any size: quotients, rounded down. -/
namespace Go.Proofs.Ytlnolhhoakmdhaa
open Go.Ev Go.RowKit
set_option maxRecDepth 100000
theorem drop_cons {l : List Int} {i : Nat} (h : i < l.length) : l.drop i = l[i] :: l.drop (i + 1) := List.drop_eq_getElem_cons h
end Go.Proofs.Ytlnolhhoakmdhaa
/- Fractions of numbers of any size. -/
namespace Go.Proofs.Ytlnolhhoakmdhaa
open Go.Ev Go.RowKit
set_option maxRecDepth 100000
theorem nd_neg (a : Int) : nd (-a) = nd a := by unfold nd; rw [Int.natAbs_neg]
theorem nd_mono {a b : Int} (h : a.natAbs ≤ b.natAbs) : nd a ≤ nd b := dg_len_mono h
theorem nd_one : nd 1 ≤ 1 := dg_len_le (by decide)
/-- A fraction in lowest terms, out of parts of which the lower one is above 0. -/
theorem low_parts (n d : Int) (hd : 0 < d) : (Rat.divInt n d).num = n / ((Int.gcd n d : Nat) : Int) ∧ ((Rat.divInt n d).den : Int) = d / ((Int.gcd n d : Nat) : Int) := by
  refine ⟨?_, ?_⟩
  · rw [Rat.num_divInt, Int.sign_eq_one_of_pos hd, Int.one_mul, Int.gcd_comm]
  · rw [Rat.den_divInt, if_neg (by omega), Int.gcd_comm]
    obtain ⟨k, rfl⟩ : ∃ k : Nat, d = (k : Int) := ⟨d.natAbs, by omega⟩
    simp
end Go.Proofs.Ytlnolhhoakmdhaa
/- Fractions: of numbers, compared, multiplied, divided. -/
namespace Go.Proofs.Ytlnolhhoakmdhaa
open Go.Ev Go.RowKit
set_option maxRecDepth 100000
theorem nd_len {z : Int} {k : Nat} (h : z.natAbs < 1000000000 ^ k) : nd z ≤ k := dg_len_le h
theorem nd_lt (z : Int) : z.natAbs < 1000000000 ^ nd z := lt_of_dg_len _
theorem nd_mul (a b : Int) : nd (a * b) ≤ nd a + nd b := nd_len (by
  rw [Int.natAbs_mul, Nat.pow_add]
  have h1 := nd_lt a
  have h2 := nd_lt b
  rcases Nat.eq_zero_or_pos b.natAbs with h | h
  · rw [h, Nat.mul_zero]; exact Nat.mul_pos (Nat.pow_pos (by decide)) (Nat.pow_pos (by decide))
  · exact Nat.lt_of_lt_of_le (Nat.mul_lt_mul_of_pos_right h1 h) (Nat.mul_le_mul_left _ (Nat.le_of_lt h2)))
/-- The parts of a fraction have so many digits at most. -/
structure SQ (k : Nat) (q : Rat) : Prop where
  num : nd q.num ≤ k
  den : nd (q.den : Int) ≤ k
theorem SQ.mono {k l : Nat} {q : Rat} (h : SQ k q) (hl : k ≤ l) : SQ l q := ⟨Nat.le_trans h.num hl, Nat.le_trans h.den hl⟩
theorem natAbs_ediv_le (a b : Int) (hb : 0 < b) : (a / b).natAbs ≤ a.natAbs := by
  rcases Int.lt_or_le a 0 with h | h
  · have h2 : a ≤ a / b := by
      have := Int.ediv_mul_le a (show b ≠ 0 by omega)
      have h3 : a / b < 0 := Int.ediv_neg_of_neg_of_pos h hb
      have : a / b * b ≤ a / b * 1 := Int.mul_le_mul_of_nonpos_left (by omega) (by omega)
      have h4 := Int.lt_ediv_add_one_mul_self a hb
      have h5 : (a / b + 1) * b ≤ (a / b + 1) * 1 := Int.mul_le_mul_of_nonpos_left (by omega) (by omega)
      omega
    have h3 : a / b < 0 := Int.ediv_neg_of_neg_of_pos h hb
    omega
  · have h2 : 0 ≤ a / b := Int.ediv_nonneg h (by omega)
    have h3 : a / b ≤ a := Int.ediv_le_self b h
    omega
theorem SQ.divInt {n d : Int} (hd : d ≠ 0) {k : Nat} (hn : nd n ≤ k) (hdd : nd d ≤ k) : SQ k (Rat.divInt n d) := by
  have core : ∀ n d : Int, 0 < d → nd n ≤ k → nd d ≤ k → SQ k (Rat.divInt n d) := fun n d hd hn hdd => by
    obtain ⟨p1, p2⟩ := low_parts n d hd
    have hg0 : 0 < Int.gcd n d := Int.gcd_pos_of_ne_zero_right _ (by omega)
    refine ⟨?_, ?_⟩
    · rw [p1]; exact Nat.le_trans (nd_mono (natAbs_ediv_le _ _ (by omega))) hn
    · rw [p2]; exact Nat.le_trans (nd_mono (natAbs_ediv_le _ _ (by omega))) hdd
  rcases Int.lt_or_gt_of_ne hd with h | h
  · rw [← Rat.neg_divInt_neg]
    exact core (-n) (-d) (by omega) (by rw [nd_neg]; exact hn) (by rw [nd_neg]; exact hdd)
  · exact core n d h hn hdd
theorem SQ.int {n : Int} {k : Nat} (hn : nd n ≤ k) (hk : 1 ≤ k) : SQ k (n : Rat) := ⟨by rw [Rat.num_intCast]; exact hn, by
  rw [Rat.den_intCast]; exact Nat.le_trans nd_one hk⟩
theorem mul_parts (p q : Rat) : Rat.divInt (p.num * q.num) ((p.den : Int) * (q.den : Int)) = p * q := by
  rw [← Rat.divInt_mul_divInt, Rat.num_divInt_den, Rat.num_divInt_den]
theorem den_pos' (q : Rat) : (0 : Int) < (q.den : Int) := by have := q.den_pos; omega
theorem SQ.mul {p q : Rat} {k l : Nat} (hp : SQ k p) (hq : SQ l q) : SQ (k + l) (p * q) := by
  rw [← mul_parts]
  exact SQ.divInt (Int.ne_of_gt (Int.mul_pos (den_pos' p) (den_pos' q))) (Nat.le_trans (nd_mul _ _) (Nat.add_le_add hp.num hq.num)) (Nat.le_trans (nd_mul _ _) (Nat.add_le_add hp.den hq.den))
/-! ### The functions -/
end Go.Proofs.Ytlnolhhoakmdhaa
/- Faults, peaks, forces: what the functions give. -/
namespace Go.Proofs.Ytlnolhhoakmdhaa
open Go.Ev Go.RowKit
set_option maxRecDepth 100000
/-! ### Divisors -/
/-- Where the division with a remainder ends. -/
def eu (a b : Int) : Int := if h : b = 0 then a else eu b (a.tmod b)
termination_by b.natAbs
decreasing_by
  rw [Int.natAbs_tmod]
  exact Nat.mod_lt _ (by omega)
theorem eu_zero (a : Int) : eu a 0 = a := by unfold eu; simp
theorem eu_step {a b : Int} (h : b ≠ 0) : eu a b = eu b (a.tmod b) := by
  conv => lhs; unfold eu
  rw [dif_neg h]
theorem eu_gcd (a b : Int) : (eu a b).natAbs = Int.gcd a b := by
  generalize hk : b.natAbs = k
  induction k using Nat.strongRecOn generalizing a b with
  | ind k ih =>
    by_cases h : b = 0
    · subst h; rw [eu_zero]; simp
    · have hlt : (a.tmod b).natAbs < b.natAbs := by rw [Int.natAbs_tmod]; exact Nat.mod_lt _ (by omega)
      rw [eu_step h, ih _ (by omega) b (a.tmod b) rfl]
      show Nat.gcd b.natAbs (a.tmod b).natAbs = Nat.gcd a.natAbs b.natAbs
      rw [Int.natAbs_tmod, Nat.gcd_comm a.natAbs, Nat.gcd_rec b.natAbs a.natAbs, Nat.gcd_comm]
def absW (r : Int) : Int := if IntKind.i64.wrap (0 - r) > r then IntKind.i64.wrap (0 - r) else r
theorem absW_eq {r : Int} (h : r.natAbs < 9223372036854775808) : absW r = (r.natAbs : Int) := by
  unfold absW
  rw [wrapI _ (by omega) (by omega)]
  split <;> omega
theorem div_go (x y : Int) : ∀ (k : Nat) (a b : Int), b.natAbs ≤ k → runR (divisor_L1_S x y) (.next 0 [iD a, iD b]) = some (.out 0 [iD (eu a b)]) := by
  intro k
  induction k with
  | zero =>
    intro a b h
    have hb : b = 0 := by omega
    subst hb
    refine runR_exit ?_
    show divisor_L1_S0 x y _ = _
    unfold divisor_L1_S0
    rw [pullD_some (a, (0 : Int)) (by rfl) (by rfl)]
    dsimp only
    rw [if_neg (by simp), eu_zero]
  | succ k ih =>
    intro a b h
    by_cases hb : b = 0
    · exact ih a b (by omega)
    · have st : divisor_L1_S x y (.next 0 [iD a, iD b]) = some (.next 0 [iD b, iD (a.tmod b)]) := by
        show divisor_L1_S0 x y _ = _
        unfold divisor_L1_S0
        rw [pullD_some (a, b) (by rfl) (by rfl)]
        dsimp only
        rw [if_pos hb]
      have hlt : (a.tmod b).natAbs < b.natAbs := by rw [Int.natAbs_tmod]; exact Nat.mod_lt _ (by omega)
      rw [runR_next st, ih b (a.tmod b) (by omega), ← eu_step hb]
theorem divisor_eq (a b : Int) : m_137 [iD a, iD b] = some (iD (absW (eu a b))) := by
  rw [m_137_eq]
  unfold divisor_M
  rw [div_go a b b.natAbs a b (Nat.le_refl _), bindL_some rfl, if_pos rfl, pullD_some (eu a b) (by rfl) (by rfl)]
  rfl
theorem gcd_loop (x y : Int) : ∀ (k : Nat) (a b : Int), b.natAbs ≤ k → runR (gcd_L1_S x y) (.next 0 [iD a, iD b]) = some (.out 0 [iD (eu a b)]) := by
  intro k
  induction k with
  | zero =>
    intro a b h
    have hb : b = 0 := by omega
    subst hb
    refine runR_exit ?_
    show gcd_L1_S0 x y _ = _
    unfold gcd_L1_S0
    rw [pullD_some (a, (0 : Int)) (by rfl) (by rfl)]
    dsimp only
    rw [if_neg (by simp), eu_zero]
  | succ k ih =>
    intro a b h
    by_cases hb : b = 0
    · exact ih a b (by omega)
    · have st : gcd_L1_S x y (.next 0 [iD a, iD b]) = some (.next 0 [iD b, iD (a.tmod b)]) := by
        show gcd_L1_S0 x y _ = _
        unfold gcd_L1_S0
        rw [pullD_some (a, b) (by rfl) (by rfl)]
        dsimp only
        rw [if_pos hb]
      have hlt : (a.tmod b).natAbs < b.natAbs := by rw [Int.natAbs_tmod]; exact Nat.mod_lt _ (by omega)
      rw [runR_next st, ih b (a.tmod b) (by omega), ← eu_step hb]
theorem gcdI_eq (a b : Int) : m_106 [iD a, iD b] = some (iD (absW (eu a b))) := by
  rw [m_106_eq]
  unfold gcd_M
  rw [gcd_loop a b b.natAbs a b (Nat.le_refl _), bindL_some rfl, if_pos rfl, pullD_some (eu a b) (by rfl) (by rfl), m_91_eq]
  unfold size_M
  rw [pullI]
  rfl
theorem absW_gcd {a b : Int} (h : 0 < b) (h2 : b < 9223372036854775808) : absW (eu a b) = ((Int.gcd a b : Nat) : Int) := by
  have h1 : Int.gcd a b ≤ b.natAbs := Nat.le_of_dvd (by omega) (Int.gcd_dvd_natAbs_right a b)
  rw [absW_eq (by rw [eu_gcd]; omega), eu_gcd]
theorem tdiv_gcd {a b g : Int} (hg : 0 < g) (h : g ∣ a) (_ : b = b) : a.tdiv g = a / g := by
  obtain ⟨k, rfl⟩ := h
  rw [Int.mul_tdiv_cancel_left _ (by omega), Int.mul_ediv_cancel_left _ (by omega)]
theorem low_bounds {n d : Int} (hd : 0 < d) : (n / ((Int.gcd n d : Nat) : Int)).natAbs ≤ n.natAbs ∧ (d / ((Int.gcd n d : Nat) : Int)).natAbs ≤ d.natAbs := by
  have hg0 : 0 < Int.gcd n d := Int.gcd_pos_of_ne_zero_right _ (by omega)
  exact ⟨natAbs_ediv_le _ _ (by omega), natAbs_ediv_le _ _ (by omega)⟩
theorem reduced_eq (n d : Int) (hd : 0 < d) (h1 : n.natAbs < 9223372036854775808) (h2 : d < 9223372036854775808) : m_119 [iD n, iD d] = some (.agg [iD (Rat.divInt n d).num, iD ((Rat.divInt n d).den : Int)]) := by
  obtain ⟨p1, p2⟩ := low_parts n d hd
  obtain ⟨b1, b2⟩ := low_bounds (n := n) hd
  have hg0 : 0 < Int.gcd n d := Int.gcd_pos_of_ne_zero_right _ (by omega)
  rw [m_119_eq]
  unfold reduced_M
  rw [divisor_eq, pullI, absW_gcd hd h2, guardP_pos (by omega), tdiv_gcd (b := 0) (by omega) (Int.gcd_dvd_left n d) rfl, tdiv_gcd (b := 0) (by omega) (Int.gcd_dvd_right n d) rfl, wrapI _ (by omega) (by omega), wrapI _ (by omega) (by omega), p1, p2]
theorem within_eq (n lo hi : Int) : m_30 [iD n, iD lo, iD hi] = some (.one (.bool (decide (lo ≤ n ∧ n ≤ hi)))) := by
  rw [m_30_eq]
  unfold w_within_M
  by_cases h : lo ≤ n
  · rw [if_pos h]; simp [h]
  · rw [if_neg h]; simp [h]
/-! ### Errors -/
def firstV : List Int → Int
  | [] => 0
  | x :: l => if x = 0 then firstV l else x
theorem first_go (k : Nat) : ∀ (pre l : List Int), k = (pre ++ l).length → k ≤ 1000000 → (∀ x ∈ pre, x = 0) →
    runR (firstOf_L2_S k ((pre ++ l).map iD)) (.next 0 [iD (pre.length : Int)]) = some (if firstV l = 0 then .out 0 [] else .out 1 [iD (firstV l)]) := by
  intro pre l
  induction l generalizing pre with
  | nil =>
    intro hk _ _
    rw [List.append_nil] at hk ⊢
    refine runR_exit ?_
    show firstOf_L2_S0 _ _ _ = _
    unfold firstOf_L2_S0
    rw [pullD_some (pre.length : Int) (by rfl) (by rfl), if_neg (by omega)]
  | cons x l ih =>
    intro hk hs hp
    have hg : (pre ++ x :: l)[pre.length]? = some x := by simp
    have hlt : pre.length < k := by rw [hk, List.length_append, List.length_cons]; omega
    by_cases hx : x = 0
    · have st : firstOf_L2_S k ((pre ++ x :: l).map iD) (.next 0 [iD (pre.length : Int)]) = some (.next 0 [iD (((pre ++ [x]).length : Nat) : Int)]) := by
        show firstOf_L2_S0 _ _ _ = _
        unfold firstOf_L2_S0
        rw [pullD_some (pre.length : Int) (by rfl) (by rfl), if_pos (by omega), guardP_pos (by omega), readW hg, pullI, if_neg (by simp [hx]), wrapI _ (by omega) (by omega), List.length_append, List.length_singleton]
        rfl
      have h2 := ih (pre ++ [x]) (by rw [hk]; simp) hs (fun y hy => by
        rcases List.mem_append.1 hy with h | h
        · exact hp y h
        · simp at h; rw [h]; exact hx)
      rw [List.append_assoc, List.singleton_append] at h2
      rw [runR_next st, h2]
      simp [firstV, hx]
    · refine (runR_exit (j := 1) (es := [iD x]) ?_).trans ?_
      · show firstOf_L2_S0 _ _ _ = _
        unfold firstOf_L2_S0
        rw [pullD_some (pre.length : Int) (by rfl) (by rfl), if_pos (by omega), guardP_pos (by omega), readW hg, pullI, if_pos hx]
      · simp [firstV, hx]
theorem firstOf_eq (l : List Int) (hl : l.length ≤ 1000000) : m_83 [lD l] = some (iD (firstV l)) := by
  have h := first_go l.length [] l rfl hl (fun _ h => by cases h)
  simp only [List.nil_append, List.length_nil] at h
  have h : runR (firstOf_L2_S l.length (l.map iD)) (.next 0 [.one (.int .i64 0)]) = some (if firstV l = 0 then .out 0 [] else .out 1 [iD (firstV l)]) := h
  rw [m_83_eq]
  unfold firstOf_M
  by_cases h0 : firstV l = 0
  · rw [if_pos h0] at h
    rw [bindL_some h, if_pos rfl, pullD_some () (by rfl) (by rfl), h0]
  · rw [if_neg h0] at h
    rw [bindL_some h, if_neg (by decide), if_pos rfl, pullD_some (firstV l) (by rfl) (by rfl)]
theorem inOrder2 (a b c d : Int) : m_102 [.list 2 [iD a, iD b, iD c, iD d]] = some (iD (if a > b ∨ c > d then 9 else 0)) := by
  rw [m_102_eq]
  unfold inOrder_M
  have r0 : readD [iD a, iD b, iD c, iD d] (((0 : Nat) : Int).toNat * 2) 2 true = some (.agg [iD a, iD b]) := by simp [readD]
  have r1 : readD [iD a, iD b, iD c, iD d] (((1 : Nat) : Int).toNat * 2) 2 true = some (.agg [iD c, iD d]) := by simp [readD]
  have s0 : inOrder_L2_S 2 [iD a, iD b, iD c, iD d] (.next 0 [iD ((0 : Nat) : Int)]) = some (if a > b then .out 1 [iD 9] else .next 0 [iD ((1 : Nat) : Int)]) := by
    show inOrder_L2_S0 _ _ _ = _
    unfold inOrder_L2_S0
    rw [pullD_some ((0 : Nat) : Int) (by rfl) (by rfl), if_pos (by decide), guardP_pos (by decide), r0, pullD_some (a, b) (by rfl) (by rfl)]
    dsimp only
    split <;> rfl
  have s1 : inOrder_L2_S 2 [iD a, iD b, iD c, iD d] (.next 0 [iD ((1 : Nat) : Int)]) = some (if c > d then .out 1 [iD 9] else .next 0 [iD ((2 : Nat) : Int)]) := by
    show inOrder_L2_S0 _ _ _ = _
    unfold inOrder_L2_S0
    rw [pullD_some ((1 : Nat) : Int) (by rfl) (by rfl), if_pos (by decide), guardP_pos (by decide), r1, pullD_some (c, d) (by rfl) (by rfl)]
    dsimp only
    split <;> rfl
  have s2 : inOrder_L2_S 2 [iD a, iD b, iD c, iD d] (.next 0 [iD ((2 : Nat) : Int)]) = some (.out 0 []) := by
    show inOrder_L2_S0 _ _ _ = _
    unfold inOrder_L2_S0
    rw [pullD_some ((2 : Nat) : Int) (by rfl) (by rfl), if_neg (by decide)]
  have h : runR (inOrder_L2_S 2 [iD a, iD b, iD c, iD d]) (.next 0 [.one (.int .i64 0)]) = some (if a > b ∨ c > d then .out 1 [iD 9] else .out 0 []) := by
    show runR _ (.next 0 [iD ((0 : Nat) : Int)]) = _
    by_cases h1 : a > b
    · rw [if_pos h1] at s0; rw [runR_exit s0, if_pos (.inl h1)]
    · rw [if_neg h1] at s0
      rw [runR_next s0]
      by_cases h2 : c > d
      · rw [if_pos h2] at s1; rw [runR_exit s1, if_pos (.inr h2)]
      · rw [if_neg h2] at s1; rw [runR_next s1, runR_exit s2, if_neg (by omega)]
  by_cases h1 : a > b ∨ c > d
  · rw [if_pos h1] at h ⊢
    rw [bindL_some h, if_neg (by decide), if_pos rfl, pullD_some (9 : Int) (by rfl) (by rfl)]
  · rw [if_neg h1] at h ⊢
    rw [bindL_some h, if_pos rfl, pullD_some () (by rfl) (by rfl)]
/-- Why a factor is refused. -/
def facE (n d : Int) : Int := if d ≤ 0 ∨ absW (eu n d) ≠ 1 then 3 else if n < 1 ∨ n > 100 ∨ d > 100 then 2 else 0
theorem chkFactor_eq (n d : Int) : m_103 [.agg [iD n, iD d]] = some (iD (facE n d)) := by
  rw [m_103_eq]
  unfold chkFactor_M facE
  rw [divisor_eq]
  simp only [pullI]
  repeat' split
  all_goals first | rfl | (exfalso; omega)
/-- Why a fault is refused. -/
def faultE (a b c d n m : Int) : Int := if a < 0 ∨ a > 1000 ∨ b < 0 ∨ b > 1000 ∨ c < 1 ∨ c > 1000 ∨ d < 1 ∨ d > 1000 then 2 else if a > b ∨ c > d then 9 else facE n m
theorem chkFault_eq (a b c d n m : Int) : m_43 [.agg [iD a, iD b, iD c, iD d, iD n, iD m]] = some (iD (faultE a b c d n m)) := by
  have f4 : ∀ x y z w : Int, m_83 [.list 4 [iD x, iD y, iD z, iD w]] = some (iD (firstV [x, y, z, w])) := fun x y z w => firstOf_eq [x, y, z, w] (by simp)
  rw [m_43_eq]
  unfold chkFault_M
  rw [inOrder2, chkFactor_eq]
  simp only [pullI, f4]
  unfold faultE
  repeat' split
  all_goals first
    | (simp only [firstV]; simp only [show (2 : Int) ≠ 0 by decide, if_false, if_true]; done)
    | (exfalso; omega)
    | (simp only [firstV]; simp_all)
theorem isLowest_eq (n d : Int) : m_47 [.agg [iD n, iD d]] = some (.one (.bool (decide (0 < d ∧ absW (eu n d) = 1)))) := by
  rw [m_47_eq]
  unfold isLowest_M
  rw [gcdI_eq, pullI]
  by_cases h : d > 0
  · rw [if_pos h]
    simp [show 0 < d from h]
    rw [Bool.eq_iff_iff]; simp
  · rw [if_neg h]
    simp [show ¬ 0 < d from h]
theorem faultErr_eq (a b c d n m : Int) : m_42 [.agg [iD a, iD b, iD c, iD d, iD n, iD m]] = some (iD (faultE a b c d n m)) := by
  rw [m_42_eq]
  unfold faultErr_M
  simp only [within_eq, isLowest_eq, pullB]
  unfold faultE facE
  repeat' split
  all_goals first
    | rfl
    | (exfalso; simp only [decide_eq_false_iff_not, decide_eq_true_eq, Bool.not_eq_false] at *; omega)
end Go.Proofs.Ytlnolhhoakmdhaa
/- Peaks, forces, answers. -/
namespace Go.Proofs.Ytlnolhhoakmdhaa
open Go.Ev Go.RowKit
set_option maxRecDepth 100000
theorem sq_le {x k : Int} (h0 : 0 ≤ x) (h : x ≤ k) : 0 ≤ x * x ∧ x * x ≤ k * k := ⟨Int.mul_nonneg h0 h0, Int.mul_le_mul h h h0 (by omega)⟩
theorem mul2_le {x y k l : Int} (h0 : 0 ≤ x) (h : x ≤ k) (g0 : 0 ≤ y) (g : y ≤ l) : 0 ≤ x * y ∧ x * y ≤ k * l := ⟨Int.mul_nonneg h0 g0, Int.mul_le_mul h g g0 (by omega)⟩
theorem int_divInt (l : Int) : (l : Rat) = Rat.divInt l 1 := by
  have := Rat.num_divInt_den (l : Rat)
  rw [Rat.num_intCast, Rat.den_intCast] at this
  exact this.symm
/-- A whole number times the square of a fraction. -/
theorem int_mul_sq (u n d : Int) : (u : Rat) * (Rat.divInt n d * Rat.divInt n d) = Rat.divInt (u * (n * n)) (d * d) := by
  rw [Rat.divInt_mul_divInt]
  have : (u : Rat) = Rat.divInt u 1 := int_divInt u
  rw [this, Rat.divInt_mul_divInt, Int.one_mul]
theorem divInt_le_int {x y l : Int} (hy : 0 < y) : Rat.divInt x y ≤ (l : Rat) ↔ x ≤ l * y := by
  have e : (l : Rat) = Rat.divInt (l * y) y := by
    have h1 : (l : Rat) = Rat.divInt l 1 := int_divInt l
    rw [h1, Rat.divInt_eq_divInt_iff (by decide) (by omega), Int.mul_one]
  have h2 : (l : Rat) - Rat.divInt x y = Rat.divInt ((l * y - x) * y) (y * y) := by
    rw [e, Rat.sub_eq_add_neg, Rat.neg_divInt, Rat.divInt_add_divInt _ _ (by omega) (by omega)]
    congr 1
    rw [Int.sub_mul, Int.neg_mul, Int.sub_eq_add_neg]
  rw [Rat.le_iff_sub_nonneg, h2, Rat.divInt_nonneg_iff_of_pos_right (Int.mul_pos hy hy)]
  constructor
  · intro h
    rcases Int.lt_or_le (l * y - x) 0 with h3 | h3
    · have := Int.mul_neg_of_neg_of_pos h3 hy
      omega
    · omega
  · intro h
    exact Int.mul_nonneg (by omega) (by omega)
/-- Rounded up. -/
theorem ceil_le {x y l : Int} (hy : 0 < y) : (x + y - 1) / y ≤ l ↔ x ≤ l * y := by
  rw [Int.ediv_le_iff_le_mul hy]
  omega
theorem roundedUp_eq (n d : Int) (hn : 0 ≤ n) (hd : 0 < d) (hb : n + d < 9223372036854775808) : m_154 [iD n, iD d] = some (iD ((n + d - 1) / d)) := by
  have h0 : 0 ≤ (n + d - 1) / d := Int.ediv_nonneg (by omega) (by omega)
  have h1 : (n + d - 1) / d ≤ n + d - 1 := Int.ediv_le_self _ (by omega)
  rw [m_154_eq]
  unfold roundedUp_M
  rw [guardP_pos (by omega), wrapI (n + d) (by omega) hb, wrapI (n + d - 1) (by omega) (by omega), Int.tdiv_eq_ediv_of_nonneg (by omega), wrapI _ (by omega) (by omega)]
/-- The force, rounded up. -/
def upF (u n d : Int) : Int := (u * (n * n) + d * d - 1) / (d * d)
theorem forceAt_eq (u n d : Int) (hu : 0 ≤ u) (hu2 : u ≤ 10000000) (hn : 0 ≤ n) (hn2 : n ≤ 100000) (hd : 0 < d) (hd2 : d ≤ 100000) : m_144 [iD u, .agg [iD n, iD d]] = some (iD (upF u n d)) := by
  have a1 := mul2_le hu hu2 hn hn2
  have a2 := sq_le hn hn2
  have a3 := mul2_le hu hu2 a2.1 a2.2
  have a4 := sq_le (by omega) hd2
  have a5 : 0 < d * d := Int.mul_pos hd hd
  rw [m_144_eq]
  unfold forceAt_M
  have e : u * n * n = u * (n * n) := Int.mul_assoc u n n
  rw [wrapI (u * n) (by omega) (by omega), wrapI (u * n * n) (by omega) (by omega), wrapI (d * d) (by omega) (by omega), e, roundedUp_eq _ _ a3.1 a5 (by omega), pullI]
  rfl
/-- A valid fault. -/
structure FaultOK (a b c d n m : Int) : Prop where
  a0 : 0 ≤ a
  ab : a ≤ b
  b1 : b ≤ 1000
  c0 : 1 ≤ c
  cd : c ≤ d
  d1 : d ≤ 1000
  n0 : 1 ≤ n
  n1 : n ≤ 100
  m0 : 1 ≤ m
  m1 : m ≤ 100
theorem fault_ok {a b c d n m : Int} (h : faultE a b c d n m = 0) : FaultOK a b c d n m := by
  unfold faultE facE at h
  split at h
  · cases h
  split at h
  · cases h
  split at h
  · cases h
  split at h
  · cases h
  constructor <;> omega
/-- A bound, and why it is so: parts of peaks. -/
theorem peak_parts {x y k l : Int} (hx0 : 0 ≤ x) (hx : x ≤ k) (hy0 : 0 < y) (hy : y ≤ l) : 0 ≤ (Rat.divInt x y).num ∧ (Rat.divInt x y).num ≤ k ∧ (0 : Int) < ((Rat.divInt x y).den : Int) ∧ ((Rat.divInt x y).den : Int) ≤ l := by
  obtain ⟨p1, p2⟩ := low_parts x y hy0
  obtain ⟨b1, b2⟩ := low_bounds (n := x) hy0
  have h0 : 0 ≤ (Rat.divInt x y).num := by rw [p1]; exact Int.ediv_nonneg hx0 (by omega)
  have h3 := den_pos' (Rat.divInt x y)
  rw [← p1] at b1
  rw [← p2] at b2
  exact ⟨h0, by omega, h3, by omega⟩
abbrev loQ (a d n m : Int) : Rat := Rat.divInt (a * n) (d * m)
structure PB (q : Rat) : Prop where
  n0 : 0 ≤ q.num
  n1 : q.num ≤ 100000
  d0 : (0 : Int) < (q.den : Int)
  d1 : (q.den : Int) ≤ 100000
theorem FaultOK.lo {a b c d n m : Int} (h : FaultOK a b c d n m) : PB (loQ a d n m) := by
  obtain ⟨a0, ab, b1, c0, cd, d1, n0, n1, m0, m1⟩ := h
  have e1 := mul2_le a0 (show a ≤ 1000 by omega) (show 0 ≤ n by omega) n1
  have e2 := mul2_le (show 0 ≤ d by omega) d1 (show 0 ≤ m by omega) m1
  have e3 : 0 < d * m := Int.mul_pos (by omega) (by omega)
  obtain ⟨x1, x2, x3, x4⟩ := peak_parts e1.1 e1.2 e3 e2.2
  exact ⟨x1, Int.le_trans x2 (by decide), x3, Int.le_trans x4 (by decide)⟩
theorem FaultOK.hi {a b c d n m : Int} (h : FaultOK a b c d n m) : PB (loQ b c n m) := by
  obtain ⟨a0, ab, b1, c0, cd, d1, n0, n1, m0, m1⟩ := h
  have e1 := mul2_le (show 0 ≤ b by omega) b1 (show 0 ≤ n by omega) n1
  have e2 := mul2_le (show 0 ≤ c by omega) (show c ≤ 1000 by omega) (show 0 ≤ m by omega) m1
  have e3 : 0 < c * m := Int.mul_pos (by omega) (by omega)
  obtain ⟨x1, x2, x3, x4⟩ := peak_parts e1.1 e1.2 e3 e2.2
  exact ⟨x1, Int.le_trans x2 (by decide), x3, Int.le_trans x4 (by decide)⟩
/-- The peak, as a value in depth. -/
abbrev pkD (a b c d n m : Int) : D := .agg [iD (loQ a d n m).num, iD ((loQ a d n m).den : Int), iD (loQ b c n m).num, iD ((loQ b c n m).den : Int)]
theorem prods {a b c d n m : Int} (h : FaultOK a b c d n m) : IntKind.i64.wrap (a * n) = a * n ∧ IntKind.i64.wrap (d * m) = d * m ∧ IntKind.i64.wrap (b * n) = b * n ∧ IntKind.i64.wrap (c * m) = c * m ∧ 0 < d * m ∧ 0 < c * m ∧ (a * n).natAbs < 9223372036854775808 ∧ (b * n).natAbs < 9223372036854775808 ∧ d * m < 9223372036854775808 ∧ c * m < 9223372036854775808 := by
  obtain ⟨a0, ab, b1, c0, cd, d1, n0, n1, m0, m1⟩ := h
  have e1 := mul2_le a0 (show a ≤ 1000 by omega) (show 0 ≤ n by omega) n1
  have e2 := mul2_le (show 0 ≤ d by omega) d1 (show 0 ≤ m by omega) m1
  have e3 : 0 < d * m := Int.mul_pos (by omega) (by omega)
  have f1 := mul2_le (show 0 ≤ b by omega) b1 (show 0 ≤ n by omega) n1
  have f2 := mul2_le (show 0 ≤ c by omega) (show c ≤ 1000 by omega) (show 0 ≤ m by omega) m1
  have f3 : 0 < c * m := Int.mul_pos (by omega) (by omega)
  exact ⟨wrapI _ (by omega) (by omega), wrapI _ (by omega) (by omega), wrapI _ (by omega) (by omega), wrapI _ (by omega) (by omega), e3, f3, by omega, by omega, by omega, by omega⟩
theorem peak_eq {a b c d n m : Int} (h : FaultOK a b c d n m) : m_99 [.agg [iD a, iD b, iD c, iD d, iD n, iD m]] = some (pkD a b c d n m) := by
  obtain ⟨w1, w2, w3, w4, p1, p2, q1, q2, q3, q4⟩ := prods h
  rw [m_99_eq]
  unfold peak_M
  rw [w1, w2, w3, w4, reduced_eq _ _ p1 q1 q3, pullD_some ((loQ a d n m).num, ((loQ a d n m).den : Int)) (by rfl) (by rfl)]
  dsimp only
  rw [reduced_eq _ _ p2 q2 q4, pullD_some ((loQ b c n m).num, ((loQ b c n m).den : Int)) (by rfl) (by rfl)]
/-- A force at a current, exactly. -/
def forceQ (u : Int) (q : Rat) : Rat := (u : Rat) * (q * q)
theorem forceQ_le {u l : Int} {q : Rat} : forceQ u q ≤ (l : Rat) ↔ upF u q.num (q.den : Int) ≤ l := by
  unfold forceQ upF
  have h1 := int_mul_sq u q.num (q.den : Int)
  rw [Rat.num_divInt_den] at h1
  have hd : (0 : Int) < (q.den : Int) * (q.den : Int) := Int.mul_pos (den_pos' q) (den_pos' q)
  rw [h1, divInt_le_int hd, ceil_le hd]
/-- Whether what stands against forces holds. -/
def ansV (lo hi : Int) (u : Int) (ql qh : Rat) : Int := if upF u qh.num (qh.den : Int) ≤ lo then 2 else if hi < upF u ql.num (ql.den : Int) then 0 else 1
theorem answerOf_eq (a b c d : Int) : m_117 [.agg [iD a, iD b], .agg [iD c, iD d]] = some (iD (if d ≤ a then 2 else if b < c then 0 else 1)) := by
  rw [m_117_eq]
  unfold answerOf_M
  repeat' split
  all_goals first | rfl | (exfalso; omega)
theorem forces_eq {a b c d n m u : Int} (h : FaultOK a b c d n m) (hu : 0 ≤ u) (hu2 : u ≤ 10000000) : m_118 [.agg [iD a, iD b, iD c, iD d, iD n, iD m], iD u] = some (.agg [iD (upF u (loQ a d n m).num ((loQ a d n m).den : Int)), iD (upF u (loQ b c n m).num ((loQ b c n m).den : Int))]) := by
  rw [m_118_eq]
  unfold forces_M
  obtain ⟨l1, l2, l3, l4⟩ := h.lo
  obtain ⟨h1, h2, h3, h4⟩ := h.hi
  have hp : m_99 [shNF1_1 a b c d n m] = some (pkD a b c d n m) := peak_eq h
  rw [hp, pullD_some ((loQ a d n m).num, ((loQ a d n m).den : Int), (loQ b c n m).num, ((loQ b c n m).den : Int)) (by rfl) (by rfl)]
  dsimp only
  rw [forceAt_eq u _ _ hu hu2 l1 l2 l3 l4, pullI, forceAt_eq u _ _ hu hu2 h1 h2 h3 h4, pullI]
theorem holds_eq {a b c d n m u : Int} (l : Int) (h : FaultOK a b c d n m) (hu : 0 ≤ u) (hu2 : u ≤ 10000000) : m_101 [.agg [iD a, iD b, iD c, iD d, iD n, iD m], iD u, iD l] = some (iD (ansV l l u (loQ a d n m) (loQ b c n m))) := by
  rw [m_101_eq]
  unfold holds_M
  have hp : m_118 [shNF1_1 a b c d n m, iD u] = _ := forces_eq h hu hu2
  rw [hp, pullD_some (upF u (loQ a d n m).num ((loQ a d n m).den : Int), upF u (loQ b c n m).num ((loQ b c n m).den : Int)) (by rfl) (by rfl)]
  dsimp only
  rw [answerOf_eq, pullI]
  rfl
end Go.Proofs.Ytlnolhhoakmdhaa
/- The stage's examples hold. -/
namespace Go.Proofs.Ytlnolhhoakmdhaa
open Go.Ev Go.RowKit
set_option maxRecDepth 100000
noncomputable section
theorem aw_all : Con 13 [] (.one (.bool true)) :=
  con_ofK (S := [(80, 3000041)]) (K := []) (sp := []) (n := 60000) (ora := []) (res := []) (conds := [(false, false), (false, false), (false, false), (false, false), (false, false), (false, false), (false, false), (false, false), (false, false), (false, false), (false, false), (false, false), (false, false), (false, false), (false, false), (false, false), (false, false), (false, false), (false, false), (false, false), (false, false), (false, false)]) (cls := [])
    (by kernel_rfl) ⟨rfl, rfl, rfl, rfl, rfl, rfl, rfl, rfl, rfl, rfl, rfl, rfl, rfl, rfl, rfl, rfl, rfl, rfl, rfl, rfl, rfl, rfl, trivial⟩ trivial
def m_13 (ds : List D) : Option D := pullD (some (.tup ds)) (fun _ => ()) (fun _ => .tup []) fun _ => some (.one (.bool true))
theorem m_13_ok {ds : List D} {r : D} (h : m_13 ds = some r) : Con 13 ds r := by
  unfold m_13 at h
  obtain ⟨⟨⟩, e0, h0⟩ := pullD_elim h
  obtain rfl := tup_inj e0
  obtain rfl := Option.some.inj h0
  exact aw_all
theorem m_13_eq : m_13 [] = some (.one (.bool true)) := pullD_some () rfl rfl
end
end Go.Proofs.Ytlnolhhoakmdhaa
namespace Go.Proofs.Ytlnolhhoakmdhaa
open Go.Ev Go.RowKit
set_option maxRecDepth 100000
set_option maxHeartbeats 8000000
set_option linter.all false
noncomputable section
end
end Go.Proofs.Ytlnolhhoakmdhaa
/- The law of currents. -/
namespace Go.Proofs.Ytlnolhhoakmdhaa
open Go.Ev Go.RowKit
set_option maxRecDepth 100000
def rngE (x lo hi : Int) : Int := if x < lo ∨ x > hi then 2 else 0
theorem chkUnit_eq (u : Int) : m_100 [iD u] = some (iD (rngE u 0 10000000)) := by
  rw [m_100_eq]
  unfold chkUnit_M rngE
  repeat' split
  all_goals first | rfl | (exfalso; omega)
abbrev fD (a b c d n m : Int) : D := .agg [iD a, iD b, iD c, iD d, iD n, iD m]
theorem chkdFault_eq (a b c d n m : Int) : m_98 [fD a b c d n m] = some (if faultE a b c d n m ≠ 0 then .tup [fD 0 0 0 0 0 0, iD (faultE a b c d n m)] else .tup [fD a b c d n m, iD 0]) := by
  rw [m_98_eq]
  unfold chkdFault_M
  have h : m_43 [shNF1_1 a b c d n m] = _ := chkFault_eq a b c d n m
  rw [h, pullI]
  split <;> rfl
theorem peakOf_ok {a b c d n m : Int} (h : faultE a b c d n m = 0) : m_40 [fD a b c d n m] = some (.tup [pkD a b c d n m, iD 0]) := by
  rw [m_40_eq]
  unfold peakOf_M
  have h1 : m_98 [shNF1_1 a b c d n m] = _ := chkdFault_eq a b c d n m
  rw [if_neg (by omega)] at h1
  have h2 : m_99 [shNF1_1 a b c d n m] = _ := peak_eq (fault_ok h)
  rw [h1, pullD_some (a, b, c, d, n, m, (0 : Int)) (by rfl) (by rfl)]
  dsimp only
  rw [if_neg (by decide), h2, pullD_some ((loQ a d n m).num, ((loQ a d n m).den : Int), (loQ b c n m).num, ((loQ b c n m).den : Int)) (by rfl) (by rfl)]
/-- Why an answer is refused. -/
def holdE (a b c d n m u l : Int) : Int := firstV [faultE a b c d n m, rngE u 0 10000000, rngE l 1 100000000]
theorem f3 (x y z : Int) : m_83 [.list 3 [iD x, iD y, iD z]] = some (iD (firstV [x, y, z])) := firstOf_eq [x, y, z] (by simp)
theorem holdE_ok {a b c d n m u l : Int} (h : holdE a b c d n m u l = 0) : faultE a b c d n m = 0 ∧ 0 ≤ u ∧ u ≤ 10000000 ∧ 1 ≤ l ∧ l ≤ 100000000 := by
  unfold holdE at h
  simp only [firstV] at h
  split at h
  · rename_i h1
    split at h
    · rename_i h2
      split at h
      · rename_i h3
        unfold rngE at h2 h3
        split at h2
        · cases h2
        split at h3
        · cases h3
        exact ⟨h1, by omega, by omega, by omega, by omega⟩
      · contradiction
    · contradiction
  · contradiction
theorem holdsAt_ok {a b c d n m u l : Int} (h : holdE a b c d n m u l = 0) : m_41 [fD a b c d n m, iD u, iD l] = some (.tup [iD (ansV l l u (loQ a d n m) (loQ b c n m)), iD 0]) := by
  obtain ⟨k1, k2, k3, k4, k5⟩ := holdE_ok h
  rw [m_41_eq]
  unfold holdsAt_M
  have h1 : m_98 [shNF1_1 a b c d n m] = _ := chkdFault_eq a b c d n m
  rw [if_neg (by omega)] at h1
  have h2 : m_101 [shNF1_1 a b c d n m, iD u, iD l] = _ := holds_eq l (fault_ok k1) k2 k3
  have e1 : rngE u 0 10000000 = 0 := by unfold rngE; rw [if_neg (by omega)]
  rw [h1, pullD_some (a, b, c, d, n, m, (0 : Int)) (by rfl) (by rfl)]
  dsimp only
  rw [chkUnit_eq, pullI, if_neg (by omega), if_neg (by omega), f3, pullI, e1, if_neg (by decide), h2, pullI]
end Go.Proofs.Ytlnolhhoakmdhaa
namespace Go.Proofs.Ytlnolhhoakmdhaa
open Go.Ev Go.RowKit
set_option maxRecDepth 100000
set_option maxHeartbeats 8000000
set_option linter.all false
noncomputable section
abbrev shNF3_0 (a0 : Int) (a1 : Int) (a2 : Int) (a3 : Int) (a4 : Int) (a5 : Int) : D := .agg [.one (.int .i64 a0), .one (.int .i64 a1), .one (.int .i64 a2), .one (.int .i64 a3), .one (.int .i64 a4), .one (.int .i64 a5)]
abbrev shNF3_1 (a0 : Int) (a1 : Int) (a2 : Int) (a3 : Int) : D := .agg [.one (.int .i64 a0), .one (.int .i64 a1), .one (.int .i64 a2), .one (.int .i64 a3)]
def law9_sp : List LSpec := []
def law9_M (a b c d n m ya yb ma mb mc md : Int) : Option D := pullD (α := Bool) (m_13 []) (fun d => ((D.vb d))) (fun r0 => .one (.bool r0)) fun r0 => ((if r0 = false then some (.one (.bool false)) else pullD (α := Bool) (m_30 [.one (.int .i64 ma), .one (.int .i64 (0 : Int)), .one (.int .i64 (100000 : Int))]) (fun d => ((D.vb d))) (fun r1 => .one (.bool r1)) fun r1 => ((if r1 = false then some (.one (.bool true)) else pullD (α := Bool) (m_30 [.one (.int .i64 mb), .one (.int .i64 (0 : Int)), .one (.int .i64 (100000 : Int))]) (fun d => ((D.vb d))) (fun r2 => .one (.bool r2)) fun r2 => ((if r2 = false then some (.one (.bool true)) else pullD (α := Bool) (m_30 [.one (.int .i64 mc), .one (.int .i64 (0 : Int)), .one (.int .i64 (100000 : Int))]) (fun d => ((D.vb d))) (fun r3 => .one (.bool r3)) fun r3 => ((if r3 = false then some (.one (.bool true)) else pullD (α := Bool) (m_30 [.one (.int .i64 md), .one (.int .i64 (0 : Int)), .one (.int .i64 (100000 : Int))]) (fun d => ((D.vb d))) (fun r4 => .one (.bool r4)) fun r4 => ((if r4 = false then some (.one (.bool true)) else pullD (α := Int) (m_42 [(shNF3_0 a b c d n m)]) (fun d => ((D.vi d))) (fun r5 => .one (.int .i64 r5)) fun r5 => ((if r5 ≠ (0 : Int) then some (.one (.bool true)) else pullD (α := Bool) (m_30 [.one (.int .i64 ya), .one (.int .i64 (0 : Int)), .one (.int .i64 (10000000 : Int))]) (fun d => ((D.vb d))) (fun r6 => .one (.bool r6)) fun r6 => ((if r6 = false then some (.one (.bool true)) else pullD (α := Bool) (m_30 [.one (.int .i64 yb), .one (.int .i64 (1 : Int)), .one (.int .i64 (100000000 : Int))]) (fun d => ((D.vb d))) (fun r7 => .one (.bool r7)) fun r7 => ((if r7 = false then some (.one (.bool true)) else pullD (α := Int × Int) (m_41 [(shNF3_0 a b c d n m), .one (.int .i64 ya), .one (.int .i64 yb)]) (fun d => ((D.vi (D.at d 0)), (D.vi (D.at d 1)))) (fun (r8, r9) => .tup [.one (.int .i64 r8), .one (.int .i64 r9)]) fun (r8, r9) => (pullD (α := Int × Int) (m_41 [(shNF3_0 a (if IntKind.i64.wrap (b + ma) < (1000 : Int) then IntKind.i64.wrap (b + ma) else (1000 : Int)) (if IntKind.i64.wrap (c - mb) > (1 : Int) then IntKind.i64.wrap (c - mb) else (1 : Int)) d n m), .one (.int .i64 (if IntKind.i64.wrap (ya + mc) < (10000000 : Int) then IntKind.i64.wrap (ya + mc) else (10000000 : Int))), .one (.int .i64 (if IntKind.i64.wrap (yb - md) > (1 : Int) then IntKind.i64.wrap (yb - md) else (1 : Int)))]) (fun d => ((D.vi (D.at d 0)), (D.vi (D.at d 1)))) (fun (r10, r11) => .tup [.one (.int .i64 r10), .one (.int .i64 r11)]) fun (r10, r11) => (pullD (α := Int × Int × Int × Int × Int) (m_40 [(shNF3_0 a b c d n m)]) (fun d => ((D.vi (D.at (D.at d 0) 0)), (D.vi (D.at (D.at d 0) 1)), (D.vi (D.at (D.at d 0) 2)), (D.vi (D.at (D.at d 0) 3)), (D.vi (D.at d 1)))) (fun (r12, r13, r14, r15, r16) => .tup [(shNF3_1 r12 r13 r14 r15), .one (.int .i64 r16)]) fun (r12, r13, r14, r15, r16) => (pullD (α := Int × Int × Int × Int × Int) (m_40 [(shNF3_0 a (if IntKind.i64.wrap (b + ma) < (1000 : Int) then IntKind.i64.wrap (b + ma) else (1000 : Int)) (if IntKind.i64.wrap (c - mb) > (1 : Int) then IntKind.i64.wrap (c - mb) else (1 : Int)) d n m)]) (fun d => ((D.vi (D.at (D.at d 0) 0)), (D.vi (D.at (D.at d 0) 1)), (D.vi (D.at (D.at d 0) 2)), (D.vi (D.at (D.at d 0) 3)), (D.vi (D.at d 1)))) (fun (r17, r18, r19, r20, r21) => .tup [(shNF3_1 r17 r18 r19 r20), .one (.int .i64 r21)]) fun (r17, r18, r19, r20, r21) => ((if r9 ≠ (0 : Int) then some (.one (.bool false)) else (if r11 ≠ (0 : Int) then some (.one (.bool false)) else (if r16 ≠ (0 : Int) then some (.one (.bool false)) else (if r21 ≠ (0 : Int) then some (.one (.bool false)) else (if r10 > r8 then some (.one (.bool false)) else pullD (α := Bool) (m_47 [.agg [.one (.int .i64 r12), .one (.int .i64 r13)]]) (fun d => ((D.vb d))) (fun r22 => .one (.bool r22)) fun r22 => ((if (r22) = true then pullD (α := Bool) (m_47 [.agg [.one (.int .i64 r14), .one (.int .i64 r15)]]) (fun d => ((D.vb d))) (fun r23 => .one (.bool r23)) fun r23 => ((if (r23) = true then pullD (α := Bool) (m_47 [.agg [.one (.int .i64 r17), .one (.int .i64 r18)]]) (fun d => ((D.vb d))) (fun r24 => .one (.bool r24)) fun r24 => ((if (r24) = true then pullD (α := Bool) (m_47 [.agg [.one (.int .i64 r19), .one (.int .i64 r20)]]) (fun d => ((D.vb d))) (fun r25 => .one (.bool r25)) fun r25 => ((if (r25) = true then pullD (α := Bool) (m_48 [.agg [.one (.int .i64 r14), .one (.int .i64 r15)]]) (fun d => ((D.vb d))) (fun r26 => .one (.bool r26)) fun r26 => ((if (r26) = true then pullD (α := Bool) (m_48 [.agg [.one (.int .i64 r19), .one (.int .i64 r20)]]) (fun d => ((D.vb d))) (fun r27 => .one (.bool r27)) fun r27 => ((if (r27) = true then pullD (α := Bool) (m_48 [.agg [.one (.int .i64 r12), .one (.int .i64 r13)]]) (fun d => ((D.vb d))) (fun r28 => .one (.bool r28)) fun r28 => ((if (r28) = true then (if (r12 == r17 && (r13 == r18 && true)) = true then pullD (α := Int) (m_49 [.agg [.one (.int .i64 r12), .one (.int .i64 r13)], .agg [.one (.int .i64 r14), .one (.int .i64 r15)]]) (fun d => ((D.vi d))) (fun r29 => .one (.int .i64 r29)) fun r29 => ((if r29 ≤ (0 : Int) then pullD (α := Int) (m_49 [.agg [.one (.int .i64 r14), .one (.int .i64 r15)], .agg [.one (.int .i64 r19), .one (.int .i64 r20)]]) (fun d => ((D.vi d))) (fun r30 => .one (.int .i64 r30)) fun r30 => (some (.one (.bool (decide (r30 ≤ (0 : Int)))))) else some (.one (.bool false)))) else some (.one (.bool false))) else some (.one (.bool false)))) else some (.one (.bool false)))) else some (.one (.bool false)))) else some (.one (.bool false)))) else some (.one (.bool false)))) else some (.one (.bool false)))) else some (.one (.bool false)))))))))))))))))))))))))))))
theorem law9_M_ok (a b c d n m ya yb ma mb mc md : Int) {r : D} (h : law9_M a b c d n m ya yb ma mb mc md = some r) : Con 9 [(shNF3_0 a b c d n m), .agg [.one (.int .i64 ya), .one (.int .i64 yb)], (shNF3_1 ma mb mc md)] r := by
  unfold law9_M at h
  obtain ⟨r0, f1_, h2_⟩ := pullD_elim h
  replace f1_ := m_13_ok f1_
  by_cases b3_ : r0 = false
  · have h4_ := (if_pos b3_).symm.trans h2_
    obtain rfl := Option.some.inj h4_
    exact con_pc (op := true) (I := [9]) (sp := law9_sp) 3000 (bT 1 []) [.one (.bool r0)] [c_no b3_] [k_c f1_] (by kernel_rfl)
  · have h4_ := (if_neg b3_).symm.trans h2_
    have b5_ : r0 = true := by first | exact b3_ | simpa using b3_
    obtain ⟨r1, f6_, h7_⟩ := pullD_elim h4_
    replace f6_ := m_30_ok f6_
    by_cases b8_ : r1 = false
    · have h9_ := (if_pos b8_).symm.trans h7_
      obtain rfl := Option.some.inj h9_
      exact con_pc (op := true) (I := [9]) (sp := law9_sp) 3000 (bF 1 (bT 2 [])) [.one (.bool r0), .one (.bool r1)] [c_nn b5_, c_T, c_no b8_] [k_c f1_, k_c f6_] (by kernel_rfl)
    · have h9_ := (if_neg b8_).symm.trans h7_
      have b10_ : r1 = true := by first | exact b8_ | simpa using b8_
      obtain ⟨r2, f11_, h12_⟩ := pullD_elim h9_
      replace f11_ := m_30_ok f11_
      by_cases b13_ : r2 = false
      · have h14_ := (if_pos b13_).symm.trans h12_
        obtain rfl := Option.some.inj h14_
        exact con_pc (op := true) (I := [9]) (sp := law9_sp) 3000 (bF 1 (bT 1 (bF 1 (bT 2 [])))) [.one (.bool r0), .one (.bool r1), .one (.bool r2)] [c_nn b5_, c_T, c_nn b10_, c_T, c_no b13_] [k_c f1_, k_c f6_, k_c f11_] (by kernel_rfl)
      · have h14_ := (if_neg b13_).symm.trans h12_
        have b15_ : r2 = true := by first | exact b13_ | simpa using b13_
        obtain ⟨r3, f16_, h17_⟩ := pullD_elim h14_
        replace f16_ := m_30_ok f16_
        by_cases b18_ : r3 = false
        · have h19_ := (if_pos b18_).symm.trans h17_
          obtain rfl := Option.some.inj h19_
          exact con_pc (op := true) (I := [9]) (sp := law9_sp) 3000 (bF 1 (bT 1 (bF 1 (bT 1 (bF 1 (bT 2 [])))))) [.one (.bool r0), .one (.bool r1), .one (.bool r2), .one (.bool r3)] [c_nn b5_, c_T, c_nn b10_, c_T, c_nn b15_, c_T, c_no b18_] [k_c f1_, k_c f6_, k_c f11_, k_c f16_] (by kernel_rfl)
        · have h19_ := (if_neg b18_).symm.trans h17_
          have b20_ : r3 = true := by first | exact b18_ | simpa using b18_
          obtain ⟨r4, f21_, h22_⟩ := pullD_elim h19_
          replace f21_ := m_30_ok f21_
          by_cases b23_ : r4 = false
          · have h24_ := (if_pos b23_).symm.trans h22_
            obtain rfl := Option.some.inj h24_
            exact con_pc (op := true) (I := [9]) (sp := law9_sp) 3000 (bF 1 (bT 1 (bF 1 (bT 1 (bF 1 (bT 1 (bF 1 (bT 2 [])))))))) [.one (.bool r0), .one (.bool r1), .one (.bool r2), .one (.bool r3), .one (.bool r4)] [c_nn b5_, c_T, c_nn b10_, c_T, c_nn b15_, c_T, c_nn b20_, c_T, c_no b23_] [k_c f1_, k_c f6_, k_c f11_, k_c f16_, k_c f21_] (by kernel_rfl)
          · have h24_ := (if_neg b23_).symm.trans h22_
            have b25_ : r4 = true := by first | exact b23_ | simpa using b23_
            obtain ⟨r5, f26_, h27_⟩ := pullD_elim h24_
            replace f26_ := m_42_ok f26_
            by_cases b28_ : r5 ≠ (0 : Int)
            · have h29_ := (if_pos b28_).symm.trans h27_
              obtain rfl := Option.some.inj h29_
              exact con_pc (op := true) (I := [9]) (sp := law9_sp) 3000 (bF 1 (bT 1 (bF 1 (bT 1 (bF 1 (bT 1 (bF 1 (bT 1 (bF 2 (bT 11 [])))))))))) [.one (.bool r0), .one (.bool r1), .one (.bool r2), .one (.bool r3), .one (.bool r4), .one (.int .i64 r5)] [c_nn b5_, c_T, c_nn b10_, c_T, c_nn b15_, c_T, c_nn b20_, c_T, c_nn b25_, c_F, c_b b28_, c_b b28_, c_b b28_, c_b b28_, c_b b28_, c_T, c_T, c_T, c_T, c_T, c_T] [k_c f1_, k_c f6_, k_c f11_, k_c f16_, k_c f21_, k_c f26_] (by kernel_rfl)
            · have h29_ := (if_neg b28_).symm.trans h27_
              have b30_ : r5 = (0 : Int) := by first | exact b28_ | simpa using b28_
              obtain ⟨r6, f31_, h32_⟩ := pullD_elim h29_
              replace f31_ := m_30_ok f31_
              by_cases b33_ : r6 = false
              · have h34_ := (if_pos b33_).symm.trans h32_
                obtain rfl := Option.some.inj h34_
                exact con_pc (op := true) (I := [9]) (sp := law9_sp) 3000 (bF 1 (bT 1 (bF 1 (bT 1 (bF 1 (bT 1 (bF 1 (bT 1 (bF 7 (bT 6 [])))))))))) [.one (.bool r0), .one (.bool r1), .one (.bool r2), .one (.bool r3), .one (.bool r4), .one (.int .i64 r5), .one (.bool r6)] [c_nn b5_, c_T, c_nn b10_, c_T, c_nn b15_, c_T, c_nn b20_, c_T, c_nn b25_, c_F, c_bn b30_, c_bn b30_, c_bn b30_, c_bn b30_, c_bn b30_, c_no b33_, c_no b33_, c_no b33_, c_no b33_, c_no b33_, c_T] [k_c f1_, k_c f6_, k_c f11_, k_c f16_, k_c f21_, k_c f26_, k_c f31_] (by kernel_rfl)
              · have h34_ := (if_neg b33_).symm.trans h32_
                have b35_ : r6 = true := by first | exact b33_ | simpa using b33_
                obtain ⟨r7, f36_, h37_⟩ := pullD_elim h34_
                replace f36_ := m_30_ok f36_
                by_cases b38_ : r7 = false
                · have h39_ := (if_pos b38_).symm.trans h37_
                  obtain rfl := Option.some.inj h39_
                  exact con_pc (op := true) (I := [9]) (sp := law9_sp) 3000 (bF 1 (bT 1 (bF 1 (bT 1 (bF 1 (bT 1 (bF 1 (bT 1 (bF 12 (bT 1 [])))))))))) [.one (.bool r0), .one (.bool r1), .one (.bool r2), .one (.bool r3), .one (.bool r4), .one (.int .i64 r5), .one (.bool r6), .one (.bool r7)] [c_nn b5_, c_T, c_nn b10_, c_T, c_nn b15_, c_T, c_nn b20_, c_T, c_nn b25_, c_F, c_bn b30_, c_bn b30_, c_bn b30_, c_bn b30_, c_bn b30_, c_nn b35_, c_nn b35_, c_nn b35_, c_nn b35_, c_nn b35_, c_no b38_] [k_c f1_, k_c f6_, k_c f11_, k_c f16_, k_c f21_, k_c f26_, k_c f31_, k_c f36_] (by kernel_rfl)
                · have h39_ := (if_neg b38_).symm.trans h37_
                  have b40_ : r7 = true := by first | exact b38_ | simpa using b38_
                  obtain ⟨⟨r8, r9⟩, f41_, h42_⟩ := pullD_elim h39_
                  replace f41_ := m_41_ok f41_
                  obtain ⟨⟨r10, r11⟩, f43_, h44_⟩ := pullD_elim h42_
                  replace f43_ := m_41_ok f43_
                  obtain ⟨⟨r12, r13, r14, r15, r16⟩, f45_, h46_⟩ := pullD_elim h44_
                  replace f45_ := m_40_ok f45_
                  obtain ⟨⟨r17, r18, r19, r20, r21⟩, f47_, h48_⟩ := pullD_elim h46_
                  replace f47_ := m_40_ok f47_
                  by_cases b49_ : r9 ≠ (0 : Int)
                  · have h50_ := (if_pos b49_).symm.trans h48_
                    obtain rfl := Option.some.inj h50_
                    exact con_pc (op := true) (I := [9]) (sp := law9_sp) 3000 (bF 1 (bT 1 (bF 1 (bT 1 (bF 1 (bT 1 (bF 1 (bT 1 (bF 13 (bT 14 [])))))))))) [.one (.bool r0), .one (.bool r1), .one (.bool r2), .one (.bool r3), .one (.bool r4), .one (.int .i64 r5), .one (.bool r6), .one (.bool r7), .tup [.one (.int .i64 r8), .one (.int .i64 r9)], .tup [.one (.int .i64 r10), .one (.int .i64 r11)], .tup [(shNF3_1 r12 r13 r14 r15), .one (.int .i64 r16)], .tup [(shNF3_1 r17 r18 r19 r20), .one (.int .i64 r21)]] [c_nn b5_, c_T, c_nn b10_, c_T, c_nn b15_, c_T, c_nn b20_, c_T, c_nn b25_, c_F, c_bn b30_, c_bn b30_, c_bn b30_, c_bn b30_, c_bn b30_, c_nn b35_, c_nn b35_, c_nn b35_, c_nn b35_, c_nn b35_, c_nn b40_, c_b b49_, c_b b49_, c_b b49_, c_T, c_T, c_T, c_T, c_T, c_T, c_T, c_T, c_T, c_T, c_T] [k_c f1_, k_c f6_, k_c f11_, k_c f16_, k_c f21_, k_c f26_, k_c f31_, k_c f36_, k_c f41_, k_c f43_, k_c f45_, k_c f47_] (by kernel_rfl)
                  · have h50_ := (if_neg b49_).symm.trans h48_
                    have b51_ : r9 = (0 : Int) := by first | exact b49_ | simpa using b49_
                    by_cases b52_ : r11 ≠ (0 : Int)
                    · have h53_ := (if_pos b52_).symm.trans h50_
                      obtain rfl := Option.some.inj h53_
                      exact con_pc (op := true) (I := [9]) (sp := law9_sp) 3000 (bF 1 (bT 1 (bF 1 (bT 1 (bF 1 (bT 1 (bF 1 (bT 1 (bF 16 (bT 11 [])))))))))) [.one (.bool r0), .one (.bool r1), .one (.bool r2), .one (.bool r3), .one (.bool r4), .one (.int .i64 r5), .one (.bool r6), .one (.bool r7), .tup [.one (.int .i64 r8), .one (.int .i64 r9)], .tup [.one (.int .i64 r10), .one (.int .i64 r11)], .tup [(shNF3_1 r12 r13 r14 r15), .one (.int .i64 r16)], .tup [(shNF3_1 r17 r18 r19 r20), .one (.int .i64 r21)]] [c_nn b5_, c_T, c_nn b10_, c_T, c_nn b15_, c_T, c_nn b20_, c_T, c_nn b25_, c_F, c_bn b30_, c_bn b30_, c_bn b30_, c_bn b30_, c_bn b30_, c_nn b35_, c_nn b35_, c_nn b35_, c_nn b35_, c_nn b35_, c_nn b40_, c_bn b51_, c_bn b51_, c_bn b51_, c_b b52_, c_b b52_, c_b b52_, c_T, c_T, c_T, c_T, c_T, c_T, c_T, c_T] [k_c f1_, k_c f6_, k_c f11_, k_c f16_, k_c f21_, k_c f26_, k_c f31_, k_c f36_, k_c f41_, k_c f43_, k_c f45_, k_c f47_] (by kernel_rfl)
                    · have h53_ := (if_neg b52_).symm.trans h50_
                      have b54_ : r11 = (0 : Int) := by first | exact b52_ | simpa using b52_
                      by_cases b55_ : r16 ≠ (0 : Int)
                      · have h56_ := (if_pos b55_).symm.trans h53_
                        obtain rfl := Option.some.inj h56_
                        exact con_pc (op := true) (I := [9]) (sp := law9_sp) 3000 (bF 1 (bT 1 (bF 1 (bT 1 (bF 1 (bT 1 (bF 1 (bT 1 (bF 19 (bT 8 [])))))))))) [.one (.bool r0), .one (.bool r1), .one (.bool r2), .one (.bool r3), .one (.bool r4), .one (.int .i64 r5), .one (.bool r6), .one (.bool r7), .tup [.one (.int .i64 r8), .one (.int .i64 r9)], .tup [.one (.int .i64 r10), .one (.int .i64 r11)], .tup [(shNF3_1 r12 r13 r14 r15), .one (.int .i64 r16)], .tup [(shNF3_1 r17 r18 r19 r20), .one (.int .i64 r21)]] [c_nn b5_, c_T, c_nn b10_, c_T, c_nn b15_, c_T, c_nn b20_, c_T, c_nn b25_, c_F, c_bn b30_, c_bn b30_, c_bn b30_, c_bn b30_, c_bn b30_, c_nn b35_, c_nn b35_, c_nn b35_, c_nn b35_, c_nn b35_, c_nn b40_, c_bn b51_, c_bn b51_, c_bn b51_, c_bn b54_, c_bn b54_, c_bn b54_, c_b b55_, c_b b55_, c_b b55_, c_T, c_T, c_T, c_T, c_T] [k_c f1_, k_c f6_, k_c f11_, k_c f16_, k_c f21_, k_c f26_, k_c f31_, k_c f36_, k_c f41_, k_c f43_, k_c f45_, k_c f47_] (by kernel_rfl)
                      · have h56_ := (if_neg b55_).symm.trans h53_
                        have b57_ : r16 = (0 : Int) := by first | exact b55_ | simpa using b55_
                        by_cases b58_ : r21 ≠ (0 : Int)
                        · have h59_ := (if_pos b58_).symm.trans h56_
                          obtain rfl := Option.some.inj h59_
                          exact con_pc (op := true) (I := [9]) (sp := law9_sp) 3000 (bF 1 (bT 1 (bF 1 (bT 1 (bF 1 (bT 1 (bF 1 (bT 1 (bF 22 (bT 5 [])))))))))) [.one (.bool r0), .one (.bool r1), .one (.bool r2), .one (.bool r3), .one (.bool r4), .one (.int .i64 r5), .one (.bool r6), .one (.bool r7), .tup [.one (.int .i64 r8), .one (.int .i64 r9)], .tup [.one (.int .i64 r10), .one (.int .i64 r11)], .tup [(shNF3_1 r12 r13 r14 r15), .one (.int .i64 r16)], .tup [(shNF3_1 r17 r18 r19 r20), .one (.int .i64 r21)]] [c_nn b5_, c_T, c_nn b10_, c_T, c_nn b15_, c_T, c_nn b20_, c_T, c_nn b25_, c_F, c_bn b30_, c_bn b30_, c_bn b30_, c_bn b30_, c_bn b30_, c_nn b35_, c_nn b35_, c_nn b35_, c_nn b35_, c_nn b35_, c_nn b40_, c_bn b51_, c_bn b51_, c_bn b51_, c_bn b54_, c_bn b54_, c_bn b54_, c_bn b57_, c_bn b57_, c_bn b57_, c_b b58_, c_b b58_, c_b b58_, c_b b58_, c_T] [k_c f1_, k_c f6_, k_c f11_, k_c f16_, k_c f21_, k_c f26_, k_c f31_, k_c f36_, k_c f41_, k_c f43_, k_c f45_, k_c f47_] (by kernel_rfl)
                        · have h59_ := (if_neg b58_).symm.trans h56_
                          have b60_ : r21 = (0 : Int) := by first | exact b58_ | simpa using b58_
                          by_cases b61_ : r10 > r8
                          · have h62_ := (if_pos b61_).symm.trans h59_
                            obtain rfl := Option.some.inj h62_
                            exact con_pc (op := true) (I := [9]) (sp := law9_sp) 3000 (bF 1 (bT 1 (bF 1 (bT 1 (bF 1 (bT 1 (bF 1 (bT 1 (bF 26 (bT 1 [])))))))))) [.one (.bool r0), .one (.bool r1), .one (.bool r2), .one (.bool r3), .one (.bool r4), .one (.int .i64 r5), .one (.bool r6), .one (.bool r7), .tup [.one (.int .i64 r8), .one (.int .i64 r9)], .tup [.one (.int .i64 r10), .one (.int .i64 r11)], .tup [(shNF3_1 r12 r13 r14 r15), .one (.int .i64 r16)], .tup [(shNF3_1 r17 r18 r19 r20), .one (.int .i64 r21)]] [c_nn b5_, c_T, c_nn b10_, c_T, c_nn b15_, c_T, c_nn b20_, c_T, c_nn b25_, c_F, c_bn b30_, c_bn b30_, c_bn b30_, c_bn b30_, c_bn b30_, c_nn b35_, c_nn b35_, c_nn b35_, c_nn b35_, c_nn b35_, c_nn b40_, c_bn b51_, c_bn b51_, c_bn b51_, c_bn b54_, c_bn b54_, c_bn b54_, c_bn b57_, c_bn b57_, c_bn b57_, c_bn b60_, c_bn b60_, c_bn b60_, c_bn b60_, c_d b61_] [k_c f1_, k_c f6_, k_c f11_, k_c f16_, k_c f21_, k_c f26_, k_c f31_, k_c f36_, k_c f41_, k_c f43_, k_c f45_, k_c f47_] (by kernel_rfl)
                          · have h62_ := (if_neg b61_).symm.trans h59_
                            obtain ⟨r22, f63_, h64_⟩ := pullD_elim h62_
                            replace f63_ := m_47_ok f63_
                            by_cases b65_ : (r22) = true
                            · have h66_ := (if_pos b65_).symm.trans h64_
                              obtain ⟨r23, f67_, h68_⟩ := pullD_elim h66_
                              replace f67_ := m_47_ok f67_
                              by_cases b69_ : (r23) = true
                              · have h70_ := (if_pos b69_).symm.trans h68_
                                obtain ⟨r24, f71_, h72_⟩ := pullD_elim h70_
                                replace f71_ := m_47_ok f71_
                                by_cases b73_ : (r24) = true
                                · have h74_ := (if_pos b73_).symm.trans h72_
                                  obtain ⟨r25, f75_, h76_⟩ := pullD_elim h74_
                                  replace f75_ := m_47_ok f75_
                                  by_cases b77_ : (r25) = true
                                  · have h78_ := (if_pos b77_).symm.trans h76_
                                    obtain ⟨r26, f79_, h80_⟩ := pullD_elim h78_
                                    replace f79_ := m_48_ok f79_
                                    by_cases b81_ : (r26) = true
                                    · have h82_ := (if_pos b81_).symm.trans h80_
                                      obtain ⟨r27, f83_, h84_⟩ := pullD_elim h82_
                                      replace f83_ := m_48_ok f83_
                                      by_cases b85_ : (r27) = true
                                      · have h86_ := (if_pos b85_).symm.trans h84_
                                        obtain ⟨r28, f87_, h88_⟩ := pullD_elim h86_
                                        replace f87_ := m_48_ok f87_
                                        by_cases b89_ : (r28) = true
                                        · have h90_ := (if_pos b89_).symm.trans h88_
                                          by_cases b91_ : (r12 == r17 && (r13 == r18 && true)) = true
                                          · have h92_ := (if_pos b91_).symm.trans h90_
                                            obtain ⟨r29, f93_, h94_⟩ := pullD_elim h92_
                                            replace f93_ := m_49_ok f93_
                                            by_cases b95_ : r29 ≤ (0 : Int)
                                            · have h96_ := (if_pos b95_).symm.trans h94_
                                              obtain ⟨r30, f97_, h98_⟩ := pullD_elim h96_
                                              replace f97_ := m_49_ok f97_
                                              obtain rfl := Option.some.inj h98_
                                              exact con_pc (op := true) (I := [9]) (sp := law9_sp) 3000 (bF 1 (bT 1 (bF 1 (bT 1 (bF 1 (bT 1 (bF 1 (bT 1 (bF 27 (bT 44 [])))))))))) [.one (.bool r0), .one (.bool r1), .one (.bool r2), .one (.bool r3), .one (.bool r4), .one (.int .i64 r5), .one (.bool r6), .one (.bool r7), .tup [.one (.int .i64 r8), .one (.int .i64 r9)], .tup [.one (.int .i64 r10), .one (.int .i64 r11)], .tup [(shNF3_1 r12 r13 r14 r15), .one (.int .i64 r16)], .tup [(shNF3_1 r17 r18 r19 r20), .one (.int .i64 r21)], .one (.bool r22), .one (.bool r23), .one (.bool r24), .one (.bool r25), .one (.bool r26), .one (.bool r27), .one (.bool r28), .one (.int .i64 r29), .one (.int .i64 r30)] [c_nn b5_, c_T, c_nn b10_, c_T, c_nn b15_, c_T, c_nn b20_, c_T, c_nn b25_, c_F, c_bn b30_, c_bn b30_, c_bn b30_, c_bn b30_, c_bn b30_, c_nn b35_, c_nn b35_, c_nn b35_, c_nn b35_, c_nn b35_, c_nn b40_, c_bn b51_, c_bn b51_, c_bn b51_, c_bn b54_, c_bn b54_, c_bn b54_, c_bn b57_, c_bn b57_, c_bn b57_, c_bn b60_, c_bn b60_, c_bn b60_, c_bn b60_, c_n b61_, c_q b65_, c_q b65_, c_q b65_, c_q b65_, c_q b69_, c_q b69_, c_q b69_, c_q b69_, c_q b73_, c_q b73_, c_q b73_, c_q b73_, c_q b77_, c_q b77_, c_q b77_, c_q b77_, c_q b81_, c_q b81_, c_q b81_, c_q b81_, c_q b85_, c_q b85_, c_q b85_, c_q b85_, c_q b89_, c_q b89_, c_q b89_, c_q b89_, c_q b89_, c_q b89_, c_q b91_, c_q b91_, c_q b91_, c_q b91_, c_q b91_, c_q b91_, c_q b91_, c_d b95_, c_d b95_, c_d b95_, c_d b95_, c_d b95_, c_d b95_, c_d b95_] [k_c f1_, k_c f6_, k_c f11_, k_c f16_, k_c f21_, k_c f26_, k_c f31_, k_c f36_, k_c f41_, k_c f43_, k_c f45_, k_c f47_, k_c f63_, k_c f67_, k_c f71_, k_c f75_, k_c f79_, k_c f83_, k_c f87_, k_c f93_, k_c f97_] (by kernel_rfl)
                                            · have h96_ := (if_neg b95_).symm.trans h94_
                                              obtain rfl := Option.some.inj h96_
                                              exact con_pc (op := true) (I := [9]) (sp := law9_sp) 3000 (bF 1 (bT 1 (bF 1 (bT 1 (bF 1 (bT 1 (bF 1 (bT 1 (bF 27 (bT 37 (bF 7 []))))))))))) [.one (.bool r0), .one (.bool r1), .one (.bool r2), .one (.bool r3), .one (.bool r4), .one (.int .i64 r5), .one (.bool r6), .one (.bool r7), .tup [.one (.int .i64 r8), .one (.int .i64 r9)], .tup [.one (.int .i64 r10), .one (.int .i64 r11)], .tup [(shNF3_1 r12 r13 r14 r15), .one (.int .i64 r16)], .tup [(shNF3_1 r17 r18 r19 r20), .one (.int .i64 r21)], .one (.bool r22), .one (.bool r23), .one (.bool r24), .one (.bool r25), .one (.bool r26), .one (.bool r27), .one (.bool r28), .one (.int .i64 r29)] [c_nn b5_, c_T, c_nn b10_, c_T, c_nn b15_, c_T, c_nn b20_, c_T, c_nn b25_, c_F, c_bn b30_, c_bn b30_, c_bn b30_, c_bn b30_, c_bn b30_, c_nn b35_, c_nn b35_, c_nn b35_, c_nn b35_, c_nn b35_, c_nn b40_, c_bn b51_, c_bn b51_, c_bn b51_, c_bn b54_, c_bn b54_, c_bn b54_, c_bn b57_, c_bn b57_, c_bn b57_, c_bn b60_, c_bn b60_, c_bn b60_, c_bn b60_, c_n b61_, c_q b65_, c_q b65_, c_q b65_, c_q b65_, c_q b69_, c_q b69_, c_q b69_, c_q b69_, c_q b73_, c_q b73_, c_q b73_, c_q b73_, c_q b77_, c_q b77_, c_q b77_, c_q b77_, c_q b81_, c_q b81_, c_q b81_, c_q b81_, c_q b85_, c_q b85_, c_q b85_, c_q b85_, c_q b89_, c_q b89_, c_q b89_, c_q b89_, c_q b89_, c_q b89_, c_q b91_, c_q b91_, c_q b91_, c_q b91_, c_q b91_, c_q b91_, c_q b91_, c_n b95_, c_n b95_, c_n b95_, c_n b95_, c_n b95_, c_n b95_, c_n b95_] [k_c f1_, k_c f6_, k_c f11_, k_c f16_, k_c f21_, k_c f26_, k_c f31_, k_c f36_, k_c f41_, k_c f43_, k_c f45_, k_c f47_, k_c f63_, k_c f67_, k_c f71_, k_c f75_, k_c f79_, k_c f83_, k_c f87_, k_c f93_] (by kernel_rfl)
                                          · have h92_ := (if_neg b91_).symm.trans h90_
                                            have b99_ : (r12 == r17 && (r13 == r18 && true)) = false := by first | exact b91_ | simpa using b91_
                                            obtain rfl := Option.some.inj h92_
                                            exact con_pc (op := true) (I := [9]) (sp := law9_sp) 3000 (bF 1 (bT 1 (bF 1 (bT 1 (bF 1 (bT 1 (bF 1 (bT 1 (bF 27 (bT 30 (bF 14 []))))))))))) [.one (.bool r0), .one (.bool r1), .one (.bool r2), .one (.bool r3), .one (.bool r4), .one (.int .i64 r5), .one (.bool r6), .one (.bool r7), .tup [.one (.int .i64 r8), .one (.int .i64 r9)], .tup [.one (.int .i64 r10), .one (.int .i64 r11)], .tup [(shNF3_1 r12 r13 r14 r15), .one (.int .i64 r16)], .tup [(shNF3_1 r17 r18 r19 r20), .one (.int .i64 r21)], .one (.bool r22), .one (.bool r23), .one (.bool r24), .one (.bool r25), .one (.bool r26), .one (.bool r27), .one (.bool r28)] [c_nn b5_, c_T, c_nn b10_, c_T, c_nn b15_, c_T, c_nn b20_, c_T, c_nn b25_, c_F, c_bn b30_, c_bn b30_, c_bn b30_, c_bn b30_, c_bn b30_, c_nn b35_, c_nn b35_, c_nn b35_, c_nn b35_, c_nn b35_, c_nn b40_, c_bn b51_, c_bn b51_, c_bn b51_, c_bn b54_, c_bn b54_, c_bn b54_, c_bn b57_, c_bn b57_, c_bn b57_, c_bn b60_, c_bn b60_, c_bn b60_, c_bn b60_, c_n b61_, c_q b65_, c_q b65_, c_q b65_, c_q b65_, c_q b69_, c_q b69_, c_q b69_, c_q b69_, c_q b73_, c_q b73_, c_q b73_, c_q b73_, c_q b77_, c_q b77_, c_q b77_, c_q b77_, c_q b81_, c_q b81_, c_q b81_, c_q b81_, c_q b85_, c_q b85_, c_q b85_, c_q b85_, c_q b89_, c_q b89_, c_q b89_, c_q b89_, c_q b89_, c_q b89_, c_q b99_, c_q b99_, c_q b99_, c_q b99_, c_q b99_, c_q b99_, c_q b99_, c_F, c_F, c_F, c_F, c_F, c_F, c_F] [k_c f1_, k_c f6_, k_c f11_, k_c f16_, k_c f21_, k_c f26_, k_c f31_, k_c f36_, k_c f41_, k_c f43_, k_c f45_, k_c f47_, k_c f63_, k_c f67_, k_c f71_, k_c f75_, k_c f79_, k_c f83_, k_c f87_] (by kernel_rfl)
                                        · have h90_ := (if_neg b89_).symm.trans h88_
                                          have b100_ : (r28) = false := by first | exact b89_ | simpa using b89_
                                          obtain rfl := Option.some.inj h90_
                                          exact con_pc (op := true) (I := [9]) (sp := law9_sp) 3000 (bF 1 (bT 1 (bF 1 (bT 1 (bF 1 (bT 1 (bF 1 (bT 1 (bF 27 (bT 24 (bF 20 []))))))))))) [.one (.bool r0), .one (.bool r1), .one (.bool r2), .one (.bool r3), .one (.bool r4), .one (.int .i64 r5), .one (.bool r6), .one (.bool r7), .tup [.one (.int .i64 r8), .one (.int .i64 r9)], .tup [.one (.int .i64 r10), .one (.int .i64 r11)], .tup [(shNF3_1 r12 r13 r14 r15), .one (.int .i64 r16)], .tup [(shNF3_1 r17 r18 r19 r20), .one (.int .i64 r21)], .one (.bool r22), .one (.bool r23), .one (.bool r24), .one (.bool r25), .one (.bool r26), .one (.bool r27), .one (.bool r28)] [c_nn b5_, c_T, c_nn b10_, c_T, c_nn b15_, c_T, c_nn b20_, c_T, c_nn b25_, c_F, c_bn b30_, c_bn b30_, c_bn b30_, c_bn b30_, c_bn b30_, c_nn b35_, c_nn b35_, c_nn b35_, c_nn b35_, c_nn b35_, c_nn b40_, c_bn b51_, c_bn b51_, c_bn b51_, c_bn b54_, c_bn b54_, c_bn b54_, c_bn b57_, c_bn b57_, c_bn b57_, c_bn b60_, c_bn b60_, c_bn b60_, c_bn b60_, c_n b61_, c_q b65_, c_q b65_, c_q b65_, c_q b65_, c_q b69_, c_q b69_, c_q b69_, c_q b69_, c_q b73_, c_q b73_, c_q b73_, c_q b73_, c_q b77_, c_q b77_, c_q b77_, c_q b77_, c_q b81_, c_q b81_, c_q b81_, c_q b81_, c_q b85_, c_q b85_, c_q b85_, c_q b85_, c_q b100_, c_q b100_, c_q b100_, c_q b100_, c_q b100_, c_q b100_, c_F, c_F, c_F, c_F, c_F, c_F, c_F, c_F, c_F, c_F, c_F, c_F, c_F, c_F] [k_c f1_, k_c f6_, k_c f11_, k_c f16_, k_c f21_, k_c f26_, k_c f31_, k_c f36_, k_c f41_, k_c f43_, k_c f45_, k_c f47_, k_c f63_, k_c f67_, k_c f71_, k_c f75_, k_c f79_, k_c f83_, k_c f87_] (by kernel_rfl)
                                      · have h86_ := (if_neg b85_).symm.trans h84_
                                        have b101_ : (r27) = false := by first | exact b85_ | simpa using b85_
                                        obtain rfl := Option.some.inj h86_
                                        exact con_pc (op := true) (I := [9]) (sp := law9_sp) 3000 (bF 1 (bT 1 (bF 1 (bT 1 (bF 1 (bT 1 (bF 1 (bT 1 (bF 27 (bT 20 (bF 24 []))))))))))) [.one (.bool r0), .one (.bool r1), .one (.bool r2), .one (.bool r3), .one (.bool r4), .one (.int .i64 r5), .one (.bool r6), .one (.bool r7), .tup [.one (.int .i64 r8), .one (.int .i64 r9)], .tup [.one (.int .i64 r10), .one (.int .i64 r11)], .tup [(shNF3_1 r12 r13 r14 r15), .one (.int .i64 r16)], .tup [(shNF3_1 r17 r18 r19 r20), .one (.int .i64 r21)], .one (.bool r22), .one (.bool r23), .one (.bool r24), .one (.bool r25), .one (.bool r26), .one (.bool r27)] [c_nn b5_, c_T, c_nn b10_, c_T, c_nn b15_, c_T, c_nn b20_, c_T, c_nn b25_, c_F, c_bn b30_, c_bn b30_, c_bn b30_, c_bn b30_, c_bn b30_, c_nn b35_, c_nn b35_, c_nn b35_, c_nn b35_, c_nn b35_, c_nn b40_, c_bn b51_, c_bn b51_, c_bn b51_, c_bn b54_, c_bn b54_, c_bn b54_, c_bn b57_, c_bn b57_, c_bn b57_, c_bn b60_, c_bn b60_, c_bn b60_, c_bn b60_, c_n b61_, c_q b65_, c_q b65_, c_q b65_, c_q b65_, c_q b69_, c_q b69_, c_q b69_, c_q b69_, c_q b73_, c_q b73_, c_q b73_, c_q b73_, c_q b77_, c_q b77_, c_q b77_, c_q b77_, c_q b81_, c_q b81_, c_q b81_, c_q b81_, c_q b101_, c_q b101_, c_q b101_, c_q b101_, c_F, c_F, c_F, c_F, c_F, c_F, c_F, c_F, c_F, c_F, c_F, c_F, c_F, c_F, c_F, c_F, c_F, c_F, c_F, c_F] [k_c f1_, k_c f6_, k_c f11_, k_c f16_, k_c f21_, k_c f26_, k_c f31_, k_c f36_, k_c f41_, k_c f43_, k_c f45_, k_c f47_, k_c f63_, k_c f67_, k_c f71_, k_c f75_, k_c f79_, k_c f83_] (by kernel_rfl)
                                    · have h82_ := (if_neg b81_).symm.trans h80_
                                      have b102_ : (r26) = false := by first | exact b81_ | simpa using b81_
                                      obtain rfl := Option.some.inj h82_
                                      exact con_pc (op := true) (I := [9]) (sp := law9_sp) 3000 (bF 1 (bT 1 (bF 1 (bT 1 (bF 1 (bT 1 (bF 1 (bT 1 (bF 27 (bT 16 (bF 28 []))))))))))) [.one (.bool r0), .one (.bool r1), .one (.bool r2), .one (.bool r3), .one (.bool r4), .one (.int .i64 r5), .one (.bool r6), .one (.bool r7), .tup [.one (.int .i64 r8), .one (.int .i64 r9)], .tup [.one (.int .i64 r10), .one (.int .i64 r11)], .tup [(shNF3_1 r12 r13 r14 r15), .one (.int .i64 r16)], .tup [(shNF3_1 r17 r18 r19 r20), .one (.int .i64 r21)], .one (.bool r22), .one (.bool r23), .one (.bool r24), .one (.bool r25), .one (.bool r26)] [c_nn b5_, c_T, c_nn b10_, c_T, c_nn b15_, c_T, c_nn b20_, c_T, c_nn b25_, c_F, c_bn b30_, c_bn b30_, c_bn b30_, c_bn b30_, c_bn b30_, c_nn b35_, c_nn b35_, c_nn b35_, c_nn b35_, c_nn b35_, c_nn b40_, c_bn b51_, c_bn b51_, c_bn b51_, c_bn b54_, c_bn b54_, c_bn b54_, c_bn b57_, c_bn b57_, c_bn b57_, c_bn b60_, c_bn b60_, c_bn b60_, c_bn b60_, c_n b61_, c_q b65_, c_q b65_, c_q b65_, c_q b65_, c_q b69_, c_q b69_, c_q b69_, c_q b69_, c_q b73_, c_q b73_, c_q b73_, c_q b73_, c_q b77_, c_q b77_, c_q b77_, c_q b77_, c_q b102_, c_q b102_, c_q b102_, c_q b102_, c_F, c_F, c_F, c_F, c_F, c_F, c_F, c_F, c_F, c_F, c_F, c_F, c_F, c_F, c_F, c_F, c_F, c_F, c_F, c_F, c_F, c_F, c_F, c_F] [k_c f1_, k_c f6_, k_c f11_, k_c f16_, k_c f21_, k_c f26_, k_c f31_, k_c f36_, k_c f41_, k_c f43_, k_c f45_, k_c f47_, k_c f63_, k_c f67_, k_c f71_, k_c f75_, k_c f79_] (by kernel_rfl)
                                  · have h78_ := (if_neg b77_).symm.trans h76_
                                    have b103_ : (r25) = false := by first | exact b77_ | simpa using b77_
                                    obtain rfl := Option.some.inj h78_
                                    exact con_pc (op := true) (I := [9]) (sp := law9_sp) 3000 (bF 1 (bT 1 (bF 1 (bT 1 (bF 1 (bT 1 (bF 1 (bT 1 (bF 27 (bT 12 (bF 32 []))))))))))) [.one (.bool r0), .one (.bool r1), .one (.bool r2), .one (.bool r3), .one (.bool r4), .one (.int .i64 r5), .one (.bool r6), .one (.bool r7), .tup [.one (.int .i64 r8), .one (.int .i64 r9)], .tup [.one (.int .i64 r10), .one (.int .i64 r11)], .tup [(shNF3_1 r12 r13 r14 r15), .one (.int .i64 r16)], .tup [(shNF3_1 r17 r18 r19 r20), .one (.int .i64 r21)], .one (.bool r22), .one (.bool r23), .one (.bool r24), .one (.bool r25)] [c_nn b5_, c_T, c_nn b10_, c_T, c_nn b15_, c_T, c_nn b20_, c_T, c_nn b25_, c_F, c_bn b30_, c_bn b30_, c_bn b30_, c_bn b30_, c_bn b30_, c_nn b35_, c_nn b35_, c_nn b35_, c_nn b35_, c_nn b35_, c_nn b40_, c_bn b51_, c_bn b51_, c_bn b51_, c_bn b54_, c_bn b54_, c_bn b54_, c_bn b57_, c_bn b57_, c_bn b57_, c_bn b60_, c_bn b60_, c_bn b60_, c_bn b60_, c_n b61_, c_q b65_, c_q b65_, c_q b65_, c_q b65_, c_q b69_, c_q b69_, c_q b69_, c_q b69_, c_q b73_, c_q b73_, c_q b73_, c_q b73_, c_q b103_, c_q b103_, c_q b103_, c_q b103_, c_F, c_F, c_F, c_F, c_F, c_F, c_F, c_F, c_F, c_F, c_F, c_F, c_F, c_F, c_F, c_F, c_F, c_F, c_F, c_F, c_F, c_F, c_F, c_F, c_F, c_F, c_F, c_F] [k_c f1_, k_c f6_, k_c f11_, k_c f16_, k_c f21_, k_c f26_, k_c f31_, k_c f36_, k_c f41_, k_c f43_, k_c f45_, k_c f47_, k_c f63_, k_c f67_, k_c f71_, k_c f75_] (by kernel_rfl)
                                · have h74_ := (if_neg b73_).symm.trans h72_
                                  have b104_ : (r24) = false := by first | exact b73_ | simpa using b73_
                                  obtain rfl := Option.some.inj h74_
                                  exact con_pc (op := true) (I := [9]) (sp := law9_sp) 3000 (bF 1 (bT 1 (bF 1 (bT 1 (bF 1 (bT 1 (bF 1 (bT 1 (bF 27 (bT 8 (bF 36 []))))))))))) [.one (.bool r0), .one (.bool r1), .one (.bool r2), .one (.bool r3), .one (.bool r4), .one (.int .i64 r5), .one (.bool r6), .one (.bool r7), .tup [.one (.int .i64 r8), .one (.int .i64 r9)], .tup [.one (.int .i64 r10), .one (.int .i64 r11)], .tup [(shNF3_1 r12 r13 r14 r15), .one (.int .i64 r16)], .tup [(shNF3_1 r17 r18 r19 r20), .one (.int .i64 r21)], .one (.bool r22), .one (.bool r23), .one (.bool r24)] [c_nn b5_, c_T, c_nn b10_, c_T, c_nn b15_, c_T, c_nn b20_, c_T, c_nn b25_, c_F, c_bn b30_, c_bn b30_, c_bn b30_, c_bn b30_, c_bn b30_, c_nn b35_, c_nn b35_, c_nn b35_, c_nn b35_, c_nn b35_, c_nn b40_, c_bn b51_, c_bn b51_, c_bn b51_, c_bn b54_, c_bn b54_, c_bn b54_, c_bn b57_, c_bn b57_, c_bn b57_, c_bn b60_, c_bn b60_, c_bn b60_, c_bn b60_, c_n b61_, c_q b65_, c_q b65_, c_q b65_, c_q b65_, c_q b69_, c_q b69_, c_q b69_, c_q b69_, c_q b104_, c_q b104_, c_q b104_, c_q b104_, c_F, c_F, c_F, c_F, c_F, c_F, c_F, c_F, c_F, c_F, c_F, c_F, c_F, c_F, c_F, c_F, c_F, c_F, c_F, c_F, c_F, c_F, c_F, c_F, c_F, c_F, c_F, c_F, c_F, c_F, c_F, c_F] [k_c f1_, k_c f6_, k_c f11_, k_c f16_, k_c f21_, k_c f26_, k_c f31_, k_c f36_, k_c f41_, k_c f43_, k_c f45_, k_c f47_, k_c f63_, k_c f67_, k_c f71_] (by kernel_rfl)
                              · have h70_ := (if_neg b69_).symm.trans h68_
                                have b105_ : (r23) = false := by first | exact b69_ | simpa using b69_
                                obtain rfl := Option.some.inj h70_
                                exact con_pc (op := true) (I := [9]) (sp := law9_sp) 3000 (bF 1 (bT 1 (bF 1 (bT 1 (bF 1 (bT 1 (bF 1 (bT 1 (bF 27 (bT 4 (bF 40 []))))))))))) [.one (.bool r0), .one (.bool r1), .one (.bool r2), .one (.bool r3), .one (.bool r4), .one (.int .i64 r5), .one (.bool r6), .one (.bool r7), .tup [.one (.int .i64 r8), .one (.int .i64 r9)], .tup [.one (.int .i64 r10), .one (.int .i64 r11)], .tup [(shNF3_1 r12 r13 r14 r15), .one (.int .i64 r16)], .tup [(shNF3_1 r17 r18 r19 r20), .one (.int .i64 r21)], .one (.bool r22), .one (.bool r23)] [c_nn b5_, c_T, c_nn b10_, c_T, c_nn b15_, c_T, c_nn b20_, c_T, c_nn b25_, c_F, c_bn b30_, c_bn b30_, c_bn b30_, c_bn b30_, c_bn b30_, c_nn b35_, c_nn b35_, c_nn b35_, c_nn b35_, c_nn b35_, c_nn b40_, c_bn b51_, c_bn b51_, c_bn b51_, c_bn b54_, c_bn b54_, c_bn b54_, c_bn b57_, c_bn b57_, c_bn b57_, c_bn b60_, c_bn b60_, c_bn b60_, c_bn b60_, c_n b61_, c_q b65_, c_q b65_, c_q b65_, c_q b65_, c_q b105_, c_q b105_, c_q b105_, c_q b105_, c_F, c_F, c_F, c_F, c_F, c_F, c_F, c_F, c_F, c_F, c_F, c_F, c_F, c_F, c_F, c_F, c_F, c_F, c_F, c_F, c_F, c_F, c_F, c_F, c_F, c_F, c_F, c_F, c_F, c_F, c_F, c_F, c_F, c_F, c_F, c_F] [k_c f1_, k_c f6_, k_c f11_, k_c f16_, k_c f21_, k_c f26_, k_c f31_, k_c f36_, k_c f41_, k_c f43_, k_c f45_, k_c f47_, k_c f63_, k_c f67_] (by kernel_rfl)
                            · have h66_ := (if_neg b65_).symm.trans h64_
                              have b106_ : (r22) = false := by first | exact b65_ | simpa using b65_
                              obtain rfl := Option.some.inj h66_
                              exact con_pc (op := true) (I := [9]) (sp := law9_sp) 3000 (bF 1 (bT 1 (bF 1 (bT 1 (bF 1 (bT 1 (bF 1 (bT 1 (bF 71 []))))))))) [.one (.bool r0), .one (.bool r1), .one (.bool r2), .one (.bool r3), .one (.bool r4), .one (.int .i64 r5), .one (.bool r6), .one (.bool r7), .tup [.one (.int .i64 r8), .one (.int .i64 r9)], .tup [.one (.int .i64 r10), .one (.int .i64 r11)], .tup [(shNF3_1 r12 r13 r14 r15), .one (.int .i64 r16)], .tup [(shNF3_1 r17 r18 r19 r20), .one (.int .i64 r21)], .one (.bool r22)] [c_nn b5_, c_T, c_nn b10_, c_T, c_nn b15_, c_T, c_nn b20_, c_T, c_nn b25_, c_F, c_bn b30_, c_bn b30_, c_bn b30_, c_bn b30_, c_bn b30_, c_nn b35_, c_nn b35_, c_nn b35_, c_nn b35_, c_nn b35_, c_nn b40_, c_bn b51_, c_bn b51_, c_bn b51_, c_bn b54_, c_bn b54_, c_bn b54_, c_bn b57_, c_bn b57_, c_bn b57_, c_bn b60_, c_bn b60_, c_bn b60_, c_bn b60_, c_n b61_, c_q b106_, c_q b106_, c_q b106_, c_q b106_, c_F, c_F, c_F, c_F, c_F, c_F, c_F, c_F, c_F, c_F, c_F, c_F, c_F, c_F, c_F, c_F, c_F, c_F, c_F, c_F, c_F, c_F, c_F, c_F, c_F, c_F, c_F, c_F, c_F, c_F, c_F, c_F, c_F, c_F, c_F, c_F, c_F, c_F, c_F, c_F] [k_c f1_, k_c f6_, k_c f11_, k_c f16_, k_c f21_, k_c f26_, k_c f31_, k_c f36_, k_c f41_, k_c f43_, k_c f45_, k_c f47_, k_c f63_] (by kernel_rfl)
def m_9 (ds : List D) : Option D := pullD (α := Int × Int × Int × Int × Int × Int × Int × Int × Int × Int × Int × Int) (some (.tup ds)) (fun d => ((D.vi (D.at (D.at d 0) 0)), (D.vi (D.at (D.at d 0) 1)), (D.vi (D.at (D.at d 0) 2)), (D.vi (D.at (D.at d 0) 3)), (D.vi (D.at (D.at d 0) 4)), (D.vi (D.at (D.at d 0) 5)), (D.vi (D.at (D.at d 1) 0)), (D.vi (D.at (D.at d 1) 1)), (D.vi (D.at (D.at d 2) 0)), (D.vi (D.at (D.at d 2) 1)), (D.vi (D.at (D.at d 2) 2)), (D.vi (D.at (D.at d 2) 3)))) (fun (a, b, c, d, n, m, ya, yb, ma, mb, mc, md) => .tup [(shNF3_0 a b c d n m), .agg [.one (.int .i64 ya), .one (.int .i64 yb)], (shNF3_1 ma mb mc md)]) fun (a, b, c, d, n, m, ya, yb, ma, mb, mc, md) => law9_M a b c d n m ya yb ma mb mc md
theorem m_9_ok {ds : List D} {r : D} (h : m_9 ds = some r) : Con 9 ds r := by
  unfold m_9 at h
  obtain ⟨⟨a, b, c, d, n, m, ya, yb, ma, mb, mc, md⟩, e0, h0⟩ := pullD_elim h
  obtain rfl := tup_inj e0
  exact law9_M_ok a b c d n m ya yb ma mb mc md h0
theorem m_9_eq (a b c d n m ya yb ma mb mc md : Int) : m_9 [(shNF3_0 a b c d n m), .agg [.one (.int .i64 ya), .one (.int .i64 yb)], (shNF3_1 ma mb mc md)] = law9_M a b c d n m ya yb ma mb mc md := pullD_some (a, b, c, d, n, m, ya, yb, ma, mb, mc, md) rfl rfl
end
end Go.Proofs.Ytlnolhhoakmdhaa
/- The law that more is never better. -/
namespace Go.Proofs.Ytlnolhhoakmdhaa
open Go.Ev Go.RowKit
set_option maxRecDepth 100000
theorem divInt_le {x y x' y' : Int} (hy : 0 < y) (hy' : 0 < y') (h : x * y' ≤ x' * y) : Rat.divInt x y ≤ Rat.divInt x' y' := by
  have h2 : Rat.divInt x' y' - Rat.divInt x y = Rat.divInt (x' * y - x * y') (y' * y) := by
    rw [Rat.sub_eq_add_neg, Rat.neg_divInt, Rat.divInt_add_divInt _ _ (by omega) (by omega)]
    congr 1
    rw [Int.neg_mul, Int.sub_eq_add_neg]
  rw [Rat.le_iff_sub_nonneg, h2]
  exact Rat.divInt_nonneg (by omega) (Int.le_of_lt (Int.mul_pos hy' hy))
theorem forceQ_mono {u v : Int} {p q : Rat} (hu : 0 ≤ u) (huv : u ≤ v) (hp : 0 ≤ p) (hpq : p ≤ q) : forceQ u p ≤ forceQ v q := by
  unfold forceQ
  have hq : 0 ≤ q := Rat.le_trans hp hpq
  have h1 : p * p ≤ q * q := Rat.le_trans (Rat.mul_le_mul_of_nonneg_left hpq hp) (Rat.mul_le_mul_of_nonneg_right hpq hq)
  have h2 : (0 : Rat) ≤ (u : Rat) := by have := (Rat.intCast_le_intCast (a := 0) (b := u)).2 hu; simpa using this
  have h3 : (u : Rat) ≤ (v : Rat) := Rat.intCast_le_intCast.2 huv
  exact Rat.le_trans (Rat.mul_le_mul_of_nonneg_left h1 h2) (Rat.mul_le_mul_of_nonneg_right h3 (Rat.mul_nonneg hq hq))
theorem upF_mono {u v : Int} {p q : Rat} (hu : 0 ≤ u) (huv : u ≤ v) (hp : 0 ≤ p) (hpq : p ≤ q) : upF u p.num (p.den : Int) ≤ upF v q.num (q.den : Int) := by
  rw [← forceQ_le]
  exact Rat.le_trans (forceQ_mono hu huv hp hpq) (forceQ_le.2 (Int.le_refl _))
theorem isLowest_q {q : Rat} (h : PB q) : m_47 [.agg [iD q.num, iD (q.den : Int)]] = some (.one (.bool true)) := by
  obtain ⟨a, b, c, d⟩ := h
  rw [isLowest_eq, absW_gcd c (by omega)]
  have : Int.gcd q.num (q.den : Int) = 1 := q.reduced
  rw [this]
  show some (D.one (.bool (decide (0 < (q.den : Int) ∧ ((1 : Nat) : Int) = 1)))) = _
  rw [decide_eq_true ⟨c, rfl⟩]
theorem isSmall_q {q : Rat} (h : PB q) : m_48 [.agg [iD q.num, iD (q.den : Int)]] = some (.one (.bool true)) := by
  obtain ⟨a, b, c, d⟩ := h
  rw [m_48_eq]
  unfold isSmall_M
  rw [within_eq, pullB, within_eq, pullB, if_pos (by simp; omega)]
  congr 2
  simp; omega
theorem cmp_q {p q : Rat} (hp : PB p) (hq : PB q) (h : p ≤ q) : ∃ r : Int, m_49 [.agg [iD p.num, iD (p.den : Int)], .agg [iD q.num, iD (q.den : Int)]] = some (iD r) ∧ r ≤ 0 := by
  obtain ⟨a, b, c, d⟩ := hp
  obtain ⟨a', b', c', d'⟩ := hq
  rw [Rat.le_iff] at h
  have e1 := mul2_le a b (show (0 : Int) ≤ (q.den : Int) by omega) d'
  have e2 := mul2_le a' b' (show (0 : Int) ≤ (p.den : Int) by omega) d
  rw [m_49_eq]
  unfold cmp_M
  rw [wrapI _ (by omega) (by omega), wrapI _ (by omega) (by omega)]
  by_cases h1 : p.num * (q.den : Int) < q.num * (p.den : Int)
  · exact ⟨-1, by rw [if_pos h1], by decide⟩
  · exact ⟨0, by rw [if_neg h1, if_neg (by omega)], by decide⟩
theorem faultE_le {a b c d n m b' c' : Int} (h : faultE a b c d n m = 0) (hb : b ≤ b') (hb2 : b' ≤ 1000) (hc : c' ≤ c) (hc2 : 1 ≤ c') : faultE a b' c' d n m = 0 := by
  have hf := fault_ok h
  obtain ⟨a0, ab, b1, c0, cd, d1, n0, n1, m0, m1⟩ := hf
  unfold faultE at h ⊢
  rw [if_neg (by omega), if_neg (by omega)] at h ⊢
  exact h
theorem q_le {a b c d n m : Int} (h : FaultOK a b c d n m) : loQ a d n m ≤ loQ b c n m := by
  obtain ⟨a0, ab, b1, c0, cd, d1, n0, n1, m0, m1⟩ := h
  refine divInt_le (Int.mul_pos (by omega) (by omega)) (Int.mul_pos (by omega) (by omega)) ?_
  exact Int.mul_le_mul (Int.mul_le_mul_of_nonneg_right ab (by omega)) (Int.mul_le_mul_of_nonneg_right cd (by omega)) (Int.mul_nonneg (by omega) (by omega)) (Int.mul_nonneg (by omega) (by omega))
theorem h_le {a b c d n m b' c' : Int} (h : FaultOK a b c d n m) (hb : b ≤ b') (hc : c' ≤ c) (hc2 : 1 ≤ c') : loQ b c n m ≤ loQ b' c' n m := by
  obtain ⟨a0, ab, b1, c0, cd, d1, n0, n1, m0, m1⟩ := h
  refine divInt_le (Int.mul_pos (by omega) (by omega)) (Int.mul_pos (by omega) (by omega)) ?_
  exact Int.mul_le_mul (Int.mul_le_mul_of_nonneg_right hb (by omega)) (Int.mul_le_mul_of_nonneg_right hc (by omega)) (Int.mul_nonneg (by omega) (by omega)) (Int.mul_nonneg (by omega) (by omega))
theorem ans_le {u v l k : Int} {ql qh qh' : Rat} (hu : 0 ≤ u) (huv : u ≤ v) (hkl : k ≤ l) (h0 : 0 ≤ ql) (h1 : 0 ≤ qh) (h2 : qh ≤ qh') : ansV k k v ql qh' ≤ ansV l l u ql qh := by
  have m1 := upF_mono hu huv h1 h2
  have m2 := upF_mono hu huv h0 (Rat.le_refl (a := ql))
  unfold ansV
  repeat' split
  all_goals omega
theorem law9_eq (a b c d n m ya yb ma mb mc md : Int) : m_9 [fD a b c d n m, .agg [iD ya, iD yb], .agg [iD ma, iD mb, iD mc, iD md]] = some (.one (.bool true)) := by
  rw [m_9_eq]
  unfold law9_M
  rw [m_13_eq, pullB, if_neg (by decide)]
  rw [within_eq ma, pullB]
  by_cases g1 : 0 ≤ ma ∧ ma ≤ 100000
  rotate_left
  · rw [if_pos (decide_eq_false g1)]
  rw [if_neg (by rw [decide_eq_true g1]; decide)]
  rw [within_eq mb, pullB]
  by_cases g2 : 0 ≤ mb ∧ mb ≤ 100000
  rotate_left
  · rw [if_pos (decide_eq_false g2)]
  rw [if_neg (by rw [decide_eq_true g2]; decide)]
  rw [within_eq mc, pullB]
  by_cases g3 : 0 ≤ mc ∧ mc ≤ 100000
  rotate_left
  · rw [if_pos (decide_eq_false g3)]
  rw [if_neg (by rw [decide_eq_true g3]; decide)]
  rw [within_eq md, pullB]
  by_cases g4 : 0 ≤ md ∧ md ≤ 100000
  rotate_left
  · rw [if_pos (decide_eq_false g4)]
  rw [if_neg (by rw [decide_eq_true g4]; decide)]
  have c1 : m_42 [shNF3_0 a b c d n m] = _ := faultErr_eq a b c d n m
  rw [c1, pullI]
  by_cases hf : faultE a b c d n m = 0
  rotate_left
  · rw [if_pos hf]
  rw [if_neg (by simp [hf])]
  rw [within_eq ya, pullB]
  by_cases g5 : 0 ≤ ya ∧ ya ≤ 10000000
  rotate_left
  · rw [if_pos (decide_eq_false g5)]
  rw [if_neg (by rw [decide_eq_true g5]; decide)]
  rw [within_eq yb, pullB]
  by_cases g6 : 1 ≤ yb ∧ yb ≤ 100000000
  rotate_left
  · rw [if_pos (decide_eq_false g6)]
  rw [if_neg (by rw [decide_eq_true g6]; decide)]
  have hv := fault_ok hf
  have w1 : IntKind.i64.wrap (b + ma) = b + ma := wrapI _ (by have := hv.b1; have := hv.a0; have := hv.ab; omega) (by have := hv.b1; omega)
  have w2 : IntKind.i64.wrap (c - mb) = c - mb := wrapI _ (by have := hv.c0; omega) (by have := hv.cd; have := hv.d1; omega)
  have w3 : IntKind.i64.wrap (ya + mc) = ya + mc := wrapI _ (by omega) (by omega)
  have w4 : IntKind.i64.wrap (yb - md) = yb - md := wrapI _ (by omega) (by omega)
  rw [w1, w2, w3, w4]
  generalize hb' : (if b + ma < 1000 then b + ma else 1000) = b'
  generalize hc' : (if c - mb > 1 then c - mb else 1) = c'
  generalize hu' : (if ya + mc < 10000000 then ya + mc else 10000000) = u'
  generalize hl' : (if yb - md > 1 then yb - md else 1) = l'
  have x1 : b ≤ b' ∧ b' ≤ 1000 := by have := hv.b1; rw [← hb']; split <;> omega
  have x2 : c' ≤ c ∧ 1 ≤ c' := by have := hv.c0; rw [← hc']; split <;> omega
  have x3 : ya ≤ u' ∧ u' ≤ 10000000 := by rw [← hu']; split <;> omega
  have x4 : l' ≤ yb ∧ 1 ≤ l' := by rw [← hl']; split <;> omega
  have hf' := faultE_le hf x1.1 x1.2 x2.1 x2.2
  have hv' := fault_ok hf'
  have r0 : ∀ x lo hi : Int, lo ≤ x → x ≤ hi → rngE x lo hi = 0 := fun x lo hi h1 h2 => by unfold rngE; rw [if_neg (by omega)]
  have k1 : holdE a b c d n m ya yb = 0 := by
    unfold holdE
    simp [firstV, hf, r0 ya 0 10000000 (by omega) (by omega), r0 yb 1 100000000 (by omega) (by omega)]
  have k2 : holdE a b' c' d n m u' l' = 0 := by
    unfold holdE
    simp [firstV, hf', r0 u' 0 10000000 (by omega) (by omega), r0 l' 1 100000000 (by omega) (by omega)]
  have q1 : m_41 [shNF3_0 a b c d n m, iD ya, iD yb] = _ := holdsAt_ok k1
  have q2 : m_41 [shNF3_0 a b' c' d n m, iD u', iD l'] = _ := holdsAt_ok k2
  have q3 : m_40 [shNF3_0 a b c d n m] = _ := peakOf_ok hf
  have q4 : m_40 [shNF3_0 a b' c' d n m] = _ := peakOf_ok hf'
  rw [q1, pullD_some (ansV yb yb ya (loQ a d n m) (loQ b c n m), (0 : Int)) (by rfl) (by rfl)]
  dsimp only
  rw [q2, pullD_some (ansV l' l' u' (loQ a d n m) (loQ b' c' n m), (0 : Int)) (by rfl) (by rfl)]
  dsimp only
  rw [q3, pullD_some ((loQ a d n m).num, ((loQ a d n m).den : Int), (loQ b c n m).num, ((loQ b c n m).den : Int), (0 : Int)) (by rfl) (by rfl)]
  dsimp only
  rw [q4, pullD_some ((loQ a d n m).num, ((loQ a d n m).den : Int), (loQ b' c' n m).num, ((loQ b' c' n m).den : Int), (0 : Int)) (by rfl) (by rfl)]
  dsimp only
  have n0 : (0 : Rat) ≤ loQ a d n m := Rat.num_nonneg.1 hv.lo.n0
  have n1 : (0 : Rat) ≤ loQ b c n m := Rat.num_nonneg.1 hv.hi.n0
  have hle := h_le hv x1.1 x2.1 x2.2
  have hans := ans_le (u := ya) (v := u') (l := yb) (k := l') (ql := loQ a d n m) (by omega) x3.1 x4.1 n0 n1 hle
  obtain ⟨s1, t1, t2⟩ := cmp_q hv.lo hv.hi (q_le hv)
  obtain ⟨s2, t3, t4⟩ := cmp_q hv.hi hv'.hi hle
  rw [if_neg (by simp), if_neg (by simp), if_neg (by simp), if_neg (by simp), if_neg (by omega), isLowest_q hv.lo, pullB, if_pos rfl, isLowest_q hv.hi, pullB, if_pos rfl]
  simp only [pullB, if_true]
  rw [isLowest_q hv'.hi, pullB, if_pos rfl, isSmall_q hv.hi, pullB, if_pos rfl, isSmall_q hv'.hi, pullB, if_pos rfl, isSmall_q hv.lo, pullB, if_pos rfl, if_pos (by simp), t1, pullI, if_pos t2, t3, pullI]
  simp [t4]
theorem law9_con (a b c d n m ya yb ma mb mc md : Int) : Con 9 [fD a b c d n m, .agg [iD ya, iD yb], .agg [iD ma, iD mb, iD mc, iD md]] (.one (.bool true)) := m_9_ok (law9_eq a b c d n m ya yb ma mb mc md)
end Go.Proofs.Ytlnolhhoakmdhaa
/- ForceStronger: what the runs give, for every argument. -/
namespace Go.Proofs.Ytlnolhhoakmdhaa.forceStronger
open Go.ChangeShapes Go.WideShapes Go.ChangeAt Go.RowKit Go.Joins Go.Ev
set_option maxRecDepth 100000 in
/-- WHAT THE RUNS GIVE, FOR EVERY ARGUMENT AND EVERY WORLD THAT HOLDS THE TABLES. -/
theorem contract (H : Type) (enc : TypeId × Value → H) (W : World) (base : Nat) (args : Array Value) (ds gs : List (DataW H)) (before : List MemPlace)
    (hval : ∀ (j : Nat) t v, Try.f9.params[j]? = some t → args[j]? = some v → Value.okWide Try.prog W .any base t v)
    (hW : DataW.Whole enc Try.prog Try.f9.params.toList Rows.forceStrongerSpec.vars false W args.toList ds gs before) (hL : laidMetH Try.prog Rows.forceStrongerRow.laid W) :
    Calls Try.prog 9 args W fun e W' => ∃ v, e = .returned v ∧ Rows.forceStrongerSpec.post enc Try.prog Try.f9 false true false false W args v W' := by
  have hW' := hW
  have hlt := hW.lt
  obtain ⟨p, q, hA0, hV, rfl, hfz, hnd⟩ := hW
  have hA : DataW.TrodAll enc Try.prog W 0 (fun _ => true) true Try.f9.params.toList args.toList ds p := hA0
  rw [Try.params9] at hA hval
  obtain ⟨v0, vs0, d0, ds0, p0, q0, hargs, rfl, rfl, h0, r0⟩ := trodAll_cons hA
  obtain ⟨v1, vs1, d1, ds1, p1, q1, rfl, rfl, rfl, h1, r1⟩ := trodAll_cons r0
  obtain ⟨v2, vs2, d2, ds2, p2, q2, rfl, rfl, rfl, h2, r2⟩ := trodAll_cons r1
  obtain ⟨rfl, rfl, rfl⟩ := trodAll_nil r2
  obtain rfl : args = #[v0, v1, v2] := by cases args; simp_all
  obtain ⟨rfl, rfl⟩ := trodVars_none hV
  obtain ⟨e0, o0, k0⟩ := open_agg (ls := [.int .i64, .int .i64, .int .i64, .int .i64, .int .i64, .int .i64]) 8 (by kernel_rfl) (by kernel_rfl) (by kernel_rfl) (hval 0 62 v0 rfl rfl) h0
  obtain ⟨a, b, c, d, n, m, rfl⟩ := ints6_of o0
  obtain ⟨e1, o1, k1⟩ := open_agg (ls := [.int .i64, .int .i64]) 8 (by kernel_rfl) (by kernel_rfl) (by kernel_rfl) (hval 1 49 v1 rfl rfl) h1
  obtain ⟨ya, yb, rfl⟩ := ints2_of o1
  obtain ⟨e2, o2, k2⟩ := open_agg (ls := [.int .i64, .int .i64, .int .i64, .int .i64]) 8 (by kernel_rfl) (by kernel_rfl) (by kernel_rfl) (hval 2 74 v2 rfl rfl) h2
  obtain ⟨ma, mb, mc, md, rfl⟩ := ints4_of o2
  have hr : RpL (fun _ => True) W [.agg [.one (.int .i64 a), .one (.int .i64 b), .one (.int .i64 c), .one (.int .i64 d), .one (.int .i64 n), .one (.int .i64 m)], .agg [.one (.int .i64 ya), .one (.int .i64 yb)], .agg [.one (.int .i64 ma), .one (.int .i64 mb), .one (.int .i64 mc), .one (.int .i64 md)]] [v0, v1, v2] := by
    simp only [RpL]
    exact ⟨v0, _, rfl, k0, ⟨v1, _, rfl, k1, ⟨v2, _, rfl, k2, rfl⟩⟩⟩
  refine (law9_con a b c d n m ya yb ma mb mc md W (fun _ => True) _ tabs0 hr).mono fun e W' ⟨v, he, hv, hg⟩ => ?_
  simp only [Rp] at hv
  subst he
  subst hv
  have hlaid : laidOutB Try.prog = true := by kernel_rfl
  exact ⟨_, rfl, post_below (pa := (p0 ++ (p1 ++ (p2 ++ [])))) (pv := []) hW' (fun _ _ _ => trodAll_cons_mk (shut_bool Try.underlying4 _) trodAll_mk0) (fun sp hsp => by
    rw [Try.params9]
    exact trodAll_cons_mk (stays hlaid (by kernel_rfl) (of_decide_eq_true (by kernel_rfl)) h0 hg (fun x hx => hlt x (by simp only [List.mem_append]; left; left; exact hx)) (fun x hx => hsp x (by simp only [List.mem_append]; left; left; exact hx))) (trodAll_cons_mk (stays hlaid (by kernel_rfl) (of_decide_eq_true (by kernel_rfl)) h1 hg (fun x hx => hlt x (by simp only [List.mem_append]; left; right; left; exact hx)) (fun x hx => hsp x (by simp only [List.mem_append]; left; right; left; exact hx))) (trodAll_cons_mk (stays hlaid (by kernel_rfl) (of_decide_eq_true (by kernel_rfl)) h2 hg (fun x hx => hlt x (by simp only [List.mem_append]; left; right; right; left; exact hx)) (fun x hx => hsp x (by simp only [List.mem_append]; left; right; right; left; exact hx))) (trodAll_mk0)))) (fun _ _ => rfl) rfl
    hg (ok_one (by kernel_rfl) rfl (okWide_bool_mk Try.underlying4 _))⟩
end Go.Proofs.Ytlnolhhoakmdhaa.forceStronger
/- ForceStronger: closed facts of the witness. -/
namespace Go.Proofs.Ytlnolhhoakmdhaa.forceStronger
open Go.ChangeShapes Go.WideShapes Go.ChangeAt Go.RowKit Go.Joins
/-- THE WITNESS's ARGUMENTS. -/
noncomputable def args0 : Array Value := #[.agg #[.int .i64 0, .int .i64 0, .int .i64 0, .int .i64 0, .int .i64 0, .int .i64 0], .agg #[.int .i64 0, .int .i64 0], .agg #[.int .i64 0, .int .i64 0, .int .i64 0, .int .i64 0]]
/-- A WORLD FOR THE WITNESS: the heap that the program's own initialisers leave. -/
noncomputable def start (os : Os) : World := World.doorLaid Try.prog 400 os
theorem laid_met (os : Os) : laidMet Try.prog Rows.forceStrongerRow.laid ((start os).forCall (fun _ _ => 0) ⟨#[], args0, []⟩).memory := ⟨[], rfl, List.nodup_nil, fun _ _ h => by cases h⟩
theorem reads (os : Os) {H : Type} (enc : TypeId × Value → H) : ∃ places, DataW.whole enc Try.prog ((start os).forCall (fun _ _ => 0) ⟨#[], args0, []⟩).memory Try.f9.params.toList Rows.forceStrongerSpec.vars false args0.toList 8 = some ([.agg [.agg [.lit (.int .i64 0), .lit (.int .i64 0)], .agg [.lit (.int .i64 0), .lit (.int .i64 0)], .agg [.lit (.int .i64 0), .lit (.int .i64 0)]], .agg [.lit (.int .i64 0), .lit (.int .i64 0)], .agg [.lit (.int .i64 0), .lit (.int .i64 0), .lit (.int .i64 0), .lit (.int .i64 0)]], [], places) :=
  ⟨[], by kernel_rfl⟩
theorem vB (os : Os) : ((start os).forCall (fun _ _ => 0) ⟨#[], args0, []⟩).variablesB Try.prog = true := by kernel_rfl
theorem rB (os : Os) : (((start os).forCall (fun _ _ => 0) ⟨#[], args0, []⟩).heap.toList.drop Try.prog.globals.size).take ((begin Try.prog (fun _ _ => 0) default).world.heap.size - Try.prog.globals.size) = (begin Try.prog (fun _ _ => 0) default).world.heap.toList.drop Try.prog.globals.size := by kernel_rfl
theorem oB (os : Os) : Input.okWideB Try.prog ((start os).forCall (fun _ _ => 0) ⟨#[], args0, []⟩) 9 ⟨#[], args0, []⟩ = true := by kernel_rfl
theorem hB (os : Os) : (start os).os = os := by kernel_rfl
end Go.Proofs.Ytlnolhhoakmdhaa.forceStronger
/- For any fault, unit force, limit and changes, valid or not, the law ForceStronger of the program answers true, and its arguments read as they did. CONDITIONS: none. -/
namespace Go.Proofs.Ytlnolhhoakmdhaa.forceStronger
open Go.ChangeShapes Go.WideShapes Go.ChangeAt Go.RowKit Go.Joins
set_option maxRecDepth 100000 in
theorem lifted (os : Os) (started : os.Started) (H : Type) (enc : TypeId × Value → H) (F : Stop.Interp) :
    ReturnsInHanded {} Try.checked os 9 .any ((OpenSpec.ofChange Rows.forceStrongerSpec).preRow enc Try.prog Try.f9 Rows.forceStrongerRow.domain false Rows.forceStrongerRow.laid) (((OpenSpec.ofChange Rows.forceStrongerSpec).at F).post enc Try.prog Try.f9 false true false false) := by
  obtain ⟨places, hx⟩ := reads os enc
  refine returnsInHanded_of_row (C := Try.checked) (s := OpenSpec.ofChange Rows.forceStrongerSpec) own started (by kernel_rfl) Try.func9
    (witness_row_at (enc := enc) (C := Try.checked) false (start os) args0 (hB os) (vB os) (rB os) (oB os)
      (OpenSpec.preRow_of_cond 8 hx (by kernel_rfl) (fun k hk => by cases hk) (by kernel_rfl) (laid_met os))) ?_
  intro W base args ds gs before hval hW _ _ _ hL _ _
  exact contract H enc W base args ds gs before hval hW hL
theorem said : Rows.ForceStrongerSaid :=
  OpenClaim.holds_of_cond 9 Try.f9 rfl rfl rfl rfl rfl rfl rfl ⟨rfl, rfl, rfl, rfl, rfl⟩ rfl rfl rfl rfl rfl (by kernel_rfl) Try.func9 (by kernel_rfl)
    (of_decide_eq_true (by kernel_rfl)) (by unfold Func.isWrapper; first | (rw [if_pos (by decide +kernel)]; kernel_rfl) | (rw [if_neg (by decide +kernel)]; exact ⟨rfl, rfl⟩))
    (fun os started H enc _ F => by rw [OpenClaim.pre_eq_preRow]; exact lifted os started H enc F)
end Go.Proofs.Ytlnolhhoakmdhaa.forceStronger
