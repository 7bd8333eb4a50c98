/- Running the program's functions on values that are known in part: loops that count. -/
import Derived.Test.YtngjoconcgakpaaDoorEVLP
set_option linter.unusedVariables false
set_option linter.unusedSimpArgs false
set_option linter.unusedSectionVars false
set_option linter.unnecessarySimpa false
namespace Go.Ev
open Go.RowKit

noncomputable section
def outOf (r : Option Out) : Out := match r with
  | some o => o
  | none => ⟨.normal, ⟨[], [], 0, [], ⟨[], noFrame⟩⟩, 0, ⟨[], []⟩⟩
/-- What the open temporaries hold behind a round. -/
def junkAt (base : Nat) (J : List Nat) (tm : List AV) (n : Nat) : AV := match Nat.blt n base with
  | true => .any n
  | false => match listGet J (n - base) with
    | some k => slot tm k
    | none => .any n
/-- One name instead of another. -/
def swapTo (nb new : Nat) (n : Nat) : Nat := match Nat.beq n nb with
  | true => new
  | false => n
def distinctBy (q : Nat → Nat) (h : AHeap) : Bool := h.all fun e => h.all fun e' => !(Nat.beq (q e.1) (q e'.1)) || Nat.beq e.1 e'.1
def namesIn (nx : Nat) (h : AHeap) : Bool := h.all fun e => Nat.blt e.1 nx && AV.okL nx e.2.cells
def singles (base nx : Nat) (a : Nat → AV) : Bool := (List.range (nx - base)).all fun j => single (a (base + j))

theorem hget_mem : ∀ {h : AHeap} {n : Nat} {b : ABlock}, hget h n = some b → (n, b) ∈ h
  | [], _, _, e => by cases e
  | (m, c) :: h, n, b, e => by
    unfold hget at e
    split at e
    · rename_i hm
      cases e
      rw [Nat.eq_of_beq_eq_true hm]
      exact List.mem_cons_self
    · exact List.mem_cons_of_mem _ (hget_mem e)

theorem sub_of {base nx : Nat} {q : Nat → Nat} {J : List Nat} {tm : List AV} {h1 h2 : AHeap}
    (hh : h2.map (fun e => hget h1 (q e.1)) = h2.map (fun e => some (⟨AV.renL q (junkAt base J tm) e.2.cells, e.2.opn, e.2.kind⟩ : ABlock)))
    (hn : namesIn nx h2 = true) (hd : distinctBy q h2 = true) (hq : ∀ n, n < base → q n = n) (hs : singles base nx (junkAt base J tm) = true) : Sub base nx q (junkAt base J tm) h1 h2 := by
  refine ⟨fun n b hb => ?_, fun n m b c hb hc e => ?_, fun n h => ⟨hq n h, ?_⟩, fun n h1 h2 => ?_⟩
  · have hm := hget_mem hb
    have e := (List.map_inj_left.1 hh) _ hm
    have e2 := List.all_eq_true.1 hn _ hm
    simp only [Bool.and_eq_true] at e2
    exact ⟨e, blt_lt e2.1, e2.2⟩
  · have e1 := List.all_eq_true.1 (List.all_eq_true.1 hd _ (hget_mem hb)) _ (hget_mem hc)
    simp only [e, Bool.or_eq_true, Bool.not_eq_true'] at e1
    rcases e1 with e1 | e1
    · rw [Nat.beq_refl] at e1; cases e1
    · exact Nat.eq_of_beq_eq_true e1
  · unfold junkAt
    rw [show Nat.blt n base = true from by simpa [Nat.blt_eq] using h]
  · have := List.all_eq_true.1 hs (n - base) (List.mem_range.2 (by omega))
    rwa [show base + (n - base) = n from by omega] at this

theorem keeps_of {low base : Nat} {h h2 : AHeap} (e : (List.range low).map (hget h2) = (List.range low).map (hget h)) : Keeps low base h h2 := fun n hn _ =>
  (List.map_inj_left.1 e) n (List.mem_range.2 hn)

section
variable {C : Ctx} {G : World → Prop}
structure Step (C : Ctx) (G : World → Prop) (f : FuncId) (c : Code) (base nx low : Nat) (fr : AFrame) (S1 S2 : List AV × AHeap) (x : AX) : Prop where
  ran : ∃ (n : Nat) (ora : List Bool) (vals : List Value) (o : Out) (q : Nat → Nat) (a : Nat → AV), run C n (.code f c) ⟨S1.1, S1.2, nx, ora, ⟨vals, fr⟩⟩ = some o ∧ Holds C G o.log ∧ o.st.res.fr = fr ∧ o.x = x ∧
    o.st.tmps = AV.renL q a S2.1 ∧ Sub base nx q a o.st.heap S2.2
  ok : AV.okL nx S1.1 = true
  keeps : Keeps low base S1.2 S2.2

/-- A loop that counts. -/
theorem loop_nat (hg : Good' C G) {f : FuncId} {c : Code} {base nx low : Nat} {fr : AFrame} {ex : AX} (N : Nat) (S : Nat → List AV × AHeap) (T : List AV × AHeap) (M : Nat)
    (hle : base ≤ nx) (hok : okCode c = true) (hfr : frOK base fr = true) (hex : isVal ex = false ∧ ex ≠ .normal) (hN : N ≤ M)
    (hround : ∀ i, N ≤ i → i < M → Step C G f c base nx low fr (S i) (S (i + 1)) .normal) (hlast : Step C G f c base nx low fr (S M) T ex) (hT : AV.okL nx T.1 = true)
    {tm0 : List AV} {h0 : AHeap} {q : Nat → Nat} {a : Nat → AV} (htm : tm0 = AV.renL q a (S N).1) (hsub : Sub base nx q a h0 (S N).2) (hkeep : Keeps low base h0 (S N).2) :
    ∀ ora ora' vals vals', LoopEnds C G c ⟨tm0, h0, base, ora, ⟨vals, fr⟩⟩ ex ⟨T.1, T.2, nx, ora', ⟨vals', fr⟩⟩ low := by
  have h := loop_ends (X := Nat) (F := Unit) (S := S) (T := fun _ => T) (I := fun i => N ≤ i ∧ i ≤ M) (μ := fun i => M - i) (K := fun _ _ => True) (low := low) hg hle hok hfr hex (fun i hi => by
    rcases Nat.lt_or_ge i M with hlt | hge
    · obtain ⟨⟨n, ora, vals, o, q, a, h1, h2, h3, h4, h5, h6⟩, h7, h8⟩ := hround i hi.1 hlt
      exact ⟨n, ora, vals, o, h1, h2, h7, h3, .inl ⟨i + 1, q, a, h4, ⟨by omega, by omega⟩, by omega, h5, h6, h8, fun _ _ => trivial⟩⟩
    · have hd : i = M := by omega
      subst hd
      obtain ⟨⟨n, ora, vals, o, q, a, h1, h2, h3, h4, h5, h6⟩, h7, h8⟩ := hlast
      exact ⟨n, ora, vals, o, h1, h2, h7, h3, .inr ⟨(), q, a, h4, h5, h6, h8, hT, trivial⟩⟩) N ⟨Nat.le_refl _, hN⟩ htm hsub hkeep
  obtain ⟨_, _, h⟩ := h
  exact h
end
end
end Go.Ev
