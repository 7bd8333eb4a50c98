/- The program of the seat, as runs on values known in part see it. -/
import Derived.Test.YtngjoconcgakpaaDoorChecked
import Derived.KernelRfl
import Derived.Test.YtngjoconcgakpaaDoorEVU
import Derived.Test.YtngjoconcgakpaaDoorEVSJ
import Derived.Test.YtngjoconcgakpaaDoorDSH
set_option linter.unusedVariables false
set_option linter.unusedSimpArgs false
set_option linter.unusedSectionVars false
set_option linter.unnecessarySimpa false
namespace Go.Proofs.YtngjoconcgakpaaDoor
open Go.Ev Go.RowKit
set_option maxRecDepth 100000
noncomputable section
def gtab : List (List Value) := [[.int .i64 0, .int .i64 0, .int .i64 1, .int .i64 1, .int .i64 2, .int .i64 2], [.string (bytesOf [107, 103]), .string (bytesOf [87]), .string (bytesOf [109, 109])], [.string (bytesOf [109, 97, 115, 115]), .string (bytesOf [99, 111, 112, 112, 101, 114]), .string (bytesOf [105, 100, 108, 101]), .string (bytesOf [108, 111, 97, 100]), .string (bytesOf [104, 101, 105, 103, 104, 116]), .string (bytesOf [119, 105, 100, 116, 104])]]
def BAD : List Nat := [100, 115]
def summ : FuncId → List AV → AHeap → Option Value := fun g vs h => match Nat.beq g 65 with
  | true => joinSum vs h
  | false => none
theorem summ_ok (g : FuncId) (vs : List AV) (h : AHeap) (v : Value) (e : summ g vs h = some v) : ∀ (lo : Nat) (ρ : Env) (nx : Nat) (w : World), TabsOf gtab w → Rep lo ρ h nx w →
    Calls Tryd.prog g (AV.denL ρ vs).toArray w fun e w' => e = .returned v ∧ Below w.heap.size w w' := fun lo ρ nx w _ hr => by
  unfold summ at e
  split at e
  · rename_i hg
    obtain rfl := Nat.eq_of_beq_eq_true hg
    exact joinSum_ok (fun bk o c xs sep w h1 h2 h3 h4 h5 => Tryd.strings_Join bk o c xs sep w h1 h2 h3 h4 h5) Tryd.strings_Join_none e lo ρ nx w hr
  · cases e
theorem summ_body (g : FuncId) (vs : List AV) (h : AHeap) (v : Value) (e : summ g vs h = some v) : ∃ fn, Tryd.prog.funcs[g]? = some fn ∧ fn.body.isSome = true := by
  unfold summ at e
  split at e
  · rename_i hg
    obtain rfl := Nat.eq_of_beq_eq_true hg
    exact ⟨_, Tryd.func65, by kernel_rfl⟩
  · cases e
def ctxL (L : FuncId → Code → List AV → AHeap → Nat → Option LoopEnd) (S : List (Nat × Nat)) (K : List Nat) : Ctx := ⟨Tryd.prog, tabOf gtab, hasP S, hasN K, fun g => !hasN BAD g, summ, L⟩
def ctx (S : List (Nat × Nat)) (K : List Nat) : Ctx := ctxL (fun _ _ _ _ _ => none) S K
abbrev Tabs (w : World) : Prop := TabsOf gtab w
def Con (g : FuncId) (args : List Value) (v : Value) : Prop := CallOK (ctx [] []) Tabs (g, args, v)
def Asked : Go.Ev.Ask → Prop
  | .call g vs v => Con g vs v
  | .loop c s x t low => LoopEnds (ctx [] []) Tabs c s x t low
def allK : List Go.Ev.Ask → Prop
  | [] => True
  | q :: qs => Asked q ∧ allK qs
theorem allK_mem : ∀ {l : List Go.Ev.Ask}, allK l → ∀ q ∈ l, Asked q
  | [], _, p, h => by cases h
  | q :: l, hq, p, h => by
    rcases List.mem_cons.1 h with rfl | h
    · exact hq.1
    · exact allK_mem hq.2 p h
def bodyAt (g : Nat) : Bool := match listGet Tryd.prog.funcs.toList g with
  | some fn => fn.body.isSome
  | none => false
def fineAt (g : Nat) : Bool := match listGet Tryd.prog.funcs.toList g with
  | some fn => match fn.body with
    | some c => okCode c
    | none => true
  | none => true
def nameAt (g : Nat) : Bool := match listGet Tryd.prog.funcs.toList g with
  | some fn => !(fn.name == "runtime.NumGoroutine")
  | none => true
theorem count : Tryd.prog.funcs.toList.length = 151 := by kernel_rfl
theorem mixed : Tryd.prog.follows .mixedOrders = true := by kernel_rfl
theorem namesOk : (List.range 151).all nameAt = true := by kernel_rfl
theorem fineOk : (List.range 151).all (fun g => hasN BAD g || fineAt g) = true := by kernel_rfl
theorem good (L : FuncId → Code → List AV → AHeap → Nat → Option LoopEnd) (S : List (Nat × Nat)) (K : List Nat) (hK : K.all bodyAt = true) : Good' (ctxL L S K) Tabs where
  fnp := fun g vs h v e lo ρ nx w hw hr => summ_ok g vs h v e lo ρ nx w hw hr
  fnpBody := fun g vs h v e => summ_body g vs h v e
  mixed := mixed
  names := fun g fn hg => by
    have hl : g < 151 := by
      rw [← count]
      rcases Nat.lt_or_ge g Tryd.prog.funcs.toList.length with h | h
      · exact h
      · have : Tryd.prog.funcs[g]? = some fn := hg
        rw [← Array.getElem?_toList, List.getElem?_eq_none h] at this; cases this
    have := List.all_eq_true.1 namesOk g (List.mem_range.2 hl)
    unfold nameAt at this
    have hg' : Tryd.prog.funcs[g]? = some fn := hg
    rw [listGet_eq, Array.getElem?_toList, hg'] at this
    simpa using this
  code := fun g fn c hf hg hc => by
    have hl : g < 151 := by
      rw [← count]
      rcases Nat.lt_or_ge g Tryd.prog.funcs.toList.length with h | h
      · exact h
      · have : Tryd.prog.funcs[g]? = some fn := hg
        rw [← Array.getElem?_toList, List.getElem?_eq_none h] at this; cases this
    have := List.all_eq_true.1 fineOk g (List.mem_range.2 hl)
    have hf' : (!hasN BAD g) = true := hf
    have hb : hasN BAD g = false := by simpa using hf'
    rw [hb, Bool.false_or] at this
    unfold fineAt at this
    have hg' : Tryd.prog.funcs[g]? = some fn := hg
    rw [listGet_eq, Array.getElem?_toList, hg'] at this
    simp only [hc] at this
    exact this
  tab := fun w h => h.tab
  stable := fun w w' h hb => h.below hb
  con := fun g hg => by
    have hg : hasN K g = true := hg
    have hmem : g ∈ K := hasN_mem K hg
    have := List.all_eq_true.1 hK g hmem
    unfold bodyAt at this
    split at this
    · rename_i fn hfn
      rw [listGet_eq, Array.getElem?_toList] at hfn
      exact ⟨fn, hfn, this⟩
    · cases this
theorem asked_ok {L : FuncId → Code → List AV → AHeap → Nat → Option LoopEnd} {S : List (Nat × Nat)} {K : List Nat} : ∀ {q : Go.Ev.Ask}, Asked q → AskOK (ctxL L S K) Tabs q
  | .call g vs v, h => h
  | .loop c s x t low, h => h
theorem con_ofL {L : FuncId → Code → List AV → AHeap → Nat → Option LoopEnd} {S : List (Nat × Nat)} {K : List Nat} {n : Nat} {g : FuncId} {vs : List Value} {ora : List Bool} {res : List Value} {v : Value} {conds : List (Bool × Bool)} {cls : List Go.Ev.Ask}
    (h : okOut3 (run (ctxL L S K) n (.enter g (vs.map .pure)) ⟨[], [], 0, ora, ⟨res, noFrame⟩⟩) = some (.val (.pure v), conds, cls)) (hK : K.all bodyAt = true) (hc : allC conds) (hk : allK cls) : Con g vs v :=
  calls3 (good L S K hK) h hc fun q hq => asked_ok (allK_mem hk q hq)
theorem con_of {S : List (Nat × Nat)} {K : List Nat} {n : Nat} {g : FuncId} {vs : List Value} {ora : List Bool} {res : List Value} {v : Value} {conds : List (Bool × Bool)} {cls : List Go.Ev.Ask}
    (h : okOut3 (run (ctx S K) n (.enter g (vs.map .pure)) ⟨[], [], 0, ora, ⟨res, noFrame⟩⟩) = some (.val (.pure v), conds, cls)) (hK : K.all bodyAt = true) (hc : allC conds) (hk : allK cls) : Con g vs v :=
  calls3 (good _ S K hK) h hc fun q hq => asked_ok (allK_mem hk q hq)
theorem con_val {g : FuncId} {vs : List Value} {v v' : Value} (h : Con g vs v) (e : v = v') : Con g vs v' := e ▸ h
theorem con_arg {g : FuncId} {vs vs' : List Value} {v : Value} (h : Con g vs v) (e : vs = vs') : Con g vs' v := e ▸ h
end
end Go.Proofs.YtngjoconcgakpaaDoor
