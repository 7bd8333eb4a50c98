/- Running the program's functions on values that are known in part: contracts out of runs. -/
import Derived.Test.YtngjoconcgakpaaDoorEVO
set_option linter.unusedVariables false
set_option linter.unusedSimpArgs false
set_option linter.unusedSectionVars false
set_option linter.unnecessarySimpa false
namespace Go.Ev
open Go.RowKit
noncomputable section

def okOut3 : Option Out → Option (AX × List (Bool × Bool) × List Ask)
  | some o => some (o.x, o.log.conds, o.log.calls)
  | none => none

def hasN (xs : List Nat) (n : Nat) : Bool := match xs with
  | [] => false
  | x :: xs => match Nat.beq x n with
    | true => true
    | false => hasN xs n

theorem hasN_mem : ∀ (K : List Nat) {g : Nat}, hasN K g = true → g ∈ K
  | [], g, h => by cases h
  | x :: xs, g, h => by
    unfold hasN at h
    split at h
    · rename_i e
      rw [Nat.eq_of_beq_eq_true e]; exact List.mem_cons_self
    · exact List.mem_cons_of_mem _ (hasN_mem xs h)

def hasP (xs : List (Nat × Nat)) (f t : Nat) : Bool := match xs with
  | [] => false
  | x :: xs => match Nat.beq x.1 f && Nat.beq x.2 t with
    | true => true
    | false => hasP xs f t

def tabOf (T : List (List Value)) (g o : Nat) : Option Value := match listGet T g with
  | some l => listGet l o
  | none => none

def allC : List (Bool × Bool) → Prop
  | [] => True
  | p :: ps => p.1 = p.2 ∧ allC ps

theorem allC_mem : ∀ {l : List (Bool × Bool)}, allC l → ∀ p ∈ l, p.1 = p.2
  | [], _, p, h => by cases h
  | q :: l, hq, p, h => by
    rcases List.mem_cons.1 h with rfl | h
    · exact hq.1
    · exact allC_mem hq.2 p h

theorem calls3 {C : Ctx} {G : World → Prop} (hg : Good' C G) {n : Nat} {g : FuncId} {vs : List Value} {ora : List Bool} {res : List Value} {v : Value} {conds : List (Bool × Bool)} {cls : List Ask}
    (h : okOut3 (run C n (.enter g (vs.map .pure)) ⟨[], [], 0, ora, ⟨res, noFrame⟩⟩) = some (.val (.pure v), conds, cls)) (hc : allC conds) (hk : ∀ q ∈ cls, AskOK C G q) : CallOK C G (g, vs, v) := by
  intro w hw
  cases ho : run C n (.enter g (vs.map .pure)) ⟨[], [], 0, ora, ⟨res, noFrame⟩⟩ with
  | none => rw [ho] at h; cases h
  | some o =>
    rw [ho] at h
    simp only [okOut3, Option.some.injEq, Prod.mk.injEq] at h
    obtain ⟨h1, h2, h3⟩ := h
    exact calls hg ho h1 ⟨fun p hp => allC_mem hc p (by rw [← h2]; exact hp), fun q hq => hk q (by rw [← h3]; exact hq)⟩ w hw

/-- The tables stand as they were laid. -/
structure TabsOf (T : List (List Value)) (w : World) : Prop where
  size : T.length ≤ w.heap.size
  cells : ∀ g L, T[g]? = some L → ∀ j v, L[j]? = some v → w.cell? ⟨g, j, none⟩ = some v

theorem TabsOf.tab {T : List (List Value)} {w : World} (h : TabsOf T w) : Tab (tabOf T) w := by
  intro g o v hv
  unfold tabOf at hv
  split at hv
  · rename_i l hl
    rw [listGet_eq] at hl hv
    exact h.cells g l hl o v hv
  · cases hv

theorem keepE {w w1 : World} {b o : Nat} {v : Value} (hb : Below w.heap.size w w1) (h : w.cell? ⟨b, o, none⟩ = some v) : w1.cell? ⟨b, o, none⟩ = some v :=
  (hb.cell (p := ⟨b, o, none⟩) (by
    rcases Nat.lt_or_ge b w.heap.size with h1 | h1
    · exact h1
    · simp [World.cell?, Array.getElem?_eq_none h1] at h)).trans h

theorem TabsOf.below {T : List (List Value)} {w w' : World} (h : TabsOf T w) (hb : Below w.heap.size w w') : TabsOf T w' :=
  ⟨Nat.le_trans h.size hb.size, fun g L hL j v hj => keepE hb (h.cells g L hL j v hj)⟩
end
end Go.Ev
