/- Windings: the rounds of the loops. -/
import Derived.Test.YtngjoconcgakpaaDoorDWS
import Derived.Test.YtngjoconcgakpaaDoorEVLS
set_option linter.unusedVariables false
set_option linter.unusedSimpArgs false
set_option linter.unusedSectionVars false
set_option linter.unnecessarySimpa false
namespace Go.Proofs.YtngjoconcgakpaaDoor
open Go.Ev Go.RowKit
set_option maxRecDepth 100000
noncomputable section
theorem mk_step {S : List (Nat × Nat)} {K : List Nat} {fuel : Nat} {f : FuncId} {c : Code} {base nx low : Nat} {J : List Nat} {q : Nat → Nat} {ora : List Bool} {vals : List Value} {S1 S2 S2' : List AV × AHeap} {x : AX} {conds : List (Bool × Bool)} {calls : List Go.Ev.Ask}
    (r : Option Out) (hr : r = run (ctx S K) fuel (.code f c) ⟨S1.1, S1.2, nx, ora, ⟨vals, noFrame⟩⟩) (h1 : r = some (outOf r))
    (h2 : ((outOf r).x, (outOf r).st.res.fr, (outOf r).log, (outOf r).st.tmps) = (x, noFrame, ⟨conds, calls⟩, AV.renL q (junkAt base J (outOf r).st.tmps) S2'.1))
    (h3 : S2'.2.map (fun e => hget (outOf r).st.heap (q e.1)) = S2'.2.map (fun e => some (⟨AV.renL q (junkAt base J (outOf r).st.tmps) e.2.cells, e.2.opn, e.2.kind⟩ : ABlock)))
    (h4 : (namesIn nx S2'.2 && distinctBy q S2'.2 && singles base nx (junkAt base J (outOf r).st.tmps) && AV.okL nx S1.1) = true)
    (hq : ∀ n, n < base → q n = n) (h5 : (List.range low).map (hget S2'.2) = (List.range low).map (hget S1.2)) (hS : S2' = S2) (hc : allC conds) (hk : allK calls) :
    Step (ctx S K) Tabs f c base nx low noFrame S1 S2 x := by
  subst hS
  simp only [Prod.mk.injEq] at h2
  simp only [Bool.and_eq_true] at h4
  refine ⟨⟨fuel, ora, vals, outOf r, q, _, hr ▸ h1, ?_, h2.2.1, h2.1, h2.2.2.2, sub_of h3 h4.1.1.1 h4.1.1.2 hq h4.1.2⟩, h4.2, keeps_of h5⟩
  rw [h2.2.2.1]
  exact ⟨allC_mem hc, fun p hp => asked_ok (allK_mem hk p hp)⟩
end
end Go.Proofs.YtngjoconcgakpaaDoor
