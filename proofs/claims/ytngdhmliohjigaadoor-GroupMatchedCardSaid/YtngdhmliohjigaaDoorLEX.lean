/- The program of the seat, as runs on values known in part see it. -/
import Derived.Test.YtngdhmliohjigaaDoorChecked
import Derived.KernelRfl
import Derived.Test.YtngdhmliohjigaaDoorEVU
set_option linter.unusedVariables false
set_option linter.unusedSimpArgs false
set_option linter.unusedSectionVars false
set_option linter.unnecessarySimpa false
namespace Go.Proofs.YtngdhmliohjigaaDoor
open Go.Ev Go.RowKit
set_option maxRecDepth 100000
noncomputable section
def gtab : List (List Value) := [[], [.int .i64 1, .int .i64 (-1), .int .i64 0, .int .i64 1, .int .i64 0, .int .i64 0, .int .i64 1, .int .i64 (-2), .int .i64 1], [.int .i64 1, .int .i64 0, .int .i64 (-1), .int .i64 (-1), .int .i64 0, .int .i64 1], [.int .i64 1, .int .i64 0, .int .i64 2, .int .i64 1, .int .i64 1, .int .i64 1, .int .i64 1, .int .i64 2, .int .i64 0, .int .i64 1, .int .i64 (-1), .int .i64 1, .int .i64 (-1), .int .i64 0, .int .i64 (-2), .int .i64 (-1), .int .i64 (-1), .int .i64 (-1), .int .i64 (-1), .int .i64 (-2), .int .i64 0, .int .i64 (-1), .int .i64 1, .int .i64 (-1)]]
def BAD : List Nat := [136, 151, 172, 184]
def ctx (S : List (Nat × Nat)) (K : List Nat) : Ctx := ⟨Tryd.prog, tabOf gtab, hasP S, hasN K, fun g => !hasN BAD g⟩
abbrev Tabs (w : World) : Prop := TabsOf gtab w
def Con (g : FuncId) (args : List Value) (v : Value) : Prop := CallOK (ctx [] []) Tabs (g, args, v)
def allK : List (FuncId × List Value × Value) → Prop
  | [] => True
  | q :: qs => Con q.1 q.2.1 q.2.2 ∧ allK qs
theorem allK_mem : ∀ {l : List (FuncId × List Value × Value)}, allK l → ∀ q ∈ l, Con q.1 q.2.1 q.2.2
  | [], _, p, h => by cases h
  | q :: l, hq, p, h => by
    rcases List.mem_cons.1 h with rfl | h
    · exact hq.1
    · exact allK_mem hq.2 p h
def bodyAt (g : Nat) : Bool := match listGet Tryd.prog.funcs.toList g with
  | some fn => fn.body.isSome
  | none => false
def fineAt (g : Nat) : Bool := match listGet Tryd.prog.funcs.toList g with
  | some fn => match fn.body with
    | some c => okCode c
    | none => true
  | none => true
def nameAt (g : Nat) : Bool := match listGet Tryd.prog.funcs.toList g with
  | some fn => !(fn.name == "runtime.NumGoroutine")
  | none => true
theorem count : Tryd.prog.funcs.toList.length = 234 := by kernel_rfl
theorem mixed : Tryd.prog.follows .mixedOrders = true := by kernel_rfl
theorem namesOk : (List.range 234).all nameAt = true := by kernel_rfl
theorem fineOk : (List.range 234).all (fun g => hasN BAD g || fineAt g) = true := by kernel_rfl
theorem good (S : List (Nat × Nat)) (K : List Nat) (hK : K.all bodyAt = true) : Good' (ctx S K) Tabs where
  mixed := mixed
  names := fun g fn hg => by
    have hl : g < 234 := by
      rw [← count]
      rcases Nat.lt_or_ge g Tryd.prog.funcs.toList.length with h | h
      · exact h
      · have : Tryd.prog.funcs[g]? = some fn := hg
        rw [← Array.getElem?_toList, List.getElem?_eq_none h] at this; cases this
    have := List.all_eq_true.1 namesOk g (List.mem_range.2 hl)
    unfold nameAt at this
    have hg' : Tryd.prog.funcs[g]? = some fn := hg
    rw [listGet_eq, Array.getElem?_toList, hg'] at this
    simpa using this
  code := fun g fn c hf hg hc => by
    have hl : g < 234 := by
      rw [← count]
      rcases Nat.lt_or_ge g Tryd.prog.funcs.toList.length with h | h
      · exact h
      · have : Tryd.prog.funcs[g]? = some fn := hg
        rw [← Array.getElem?_toList, List.getElem?_eq_none h] at this; cases this
    have := List.all_eq_true.1 fineOk g (List.mem_range.2 hl)
    have hf' : (!hasN BAD g) = true := hf
    have hb : hasN BAD g = false := by simpa using hf'
    rw [hb, Bool.false_or] at this
    unfold fineAt at this
    have hg' : Tryd.prog.funcs[g]? = some fn := hg
    rw [listGet_eq, Array.getElem?_toList, hg'] at this
    simp only [hc] at this
    exact this
  tab := fun w h => h.tab
  stable := fun w w' h hb => h.below hb
  con := fun g hg => by
    have hg : hasN K g = true := hg
    have hmem : g ∈ K := hasN_mem K hg
    have := List.all_eq_true.1 hK g hmem
    unfold bodyAt at this
    split at this
    · rename_i fn hfn
      rw [listGet_eq, Array.getElem?_toList] at hfn
      exact ⟨fn, hfn, this⟩
    · cases this
theorem con_of {S : List (Nat × Nat)} {K : List Nat} {n : Nat} {g : FuncId} {vs : List Value} {ora : List Bool} {res : List Value} {v : Value} {conds : List (Bool × Bool)} {cls : List (FuncId × List Value × Value)}
    (h : okOut3 (run (ctx S K) n (.enter g (vs.map .pure)) ⟨[], [], 0, ora, res⟩) = some (.val (.pure v), conds, cls)) (hK : K.all bodyAt = true) (hc : allC conds) (hk : allK cls) : Con g vs v :=
  calls3 (good S K hK) h hc fun q hq => allK_mem hk q hq
theorem con_val {g : FuncId} {vs : List Value} {v v' : Value} (h : Con g vs v) (e : v = v') : Con g vs v' := e ▸ h
theorem con_arg {g : FuncId} {vs vs' : List Value} {v : Value} (h : Con g vs v) (e : vs = vs') : Con g vs' v := e ▸ h
end
end Go.Proofs.YtngdhmliohjigaaDoor
