/- Running the program's functions on values that are known in part: a region that draws its order, in every order. -/
import Derived.Test.YtngjoconcgakpaaDoorEVL
set_option linter.unusedVariables false
set_option linter.unusedSimpArgs false
set_option linter.unusedSectionVars false
set_option linter.unnecessarySimpa false
namespace Go.Ev
open Go.RowKit

theorem nxAt_mono {C : Ctx} {w0 : World} {ops : Array Oper} {base : Nat} {h0 : AHeap} {tm0 : List AV} {L : List Item} (hc : Chain C w0 ops base h0 tm0 L) (hlen : L.length ≤ ops.size) :
    ∀ {i j : Nat}, i ≤ j → j ≤ L.length → nxAt base L i ≤ nxAt base L j := by
  intro i j hij hj
  induction j with
  | zero => have : i = 0 := by omega
            subst this; exact Nat.le_refl _
  | succ j ih =>
    rcases Nat.lt_or_ge i (j + 1) with h | h
    · have h1 := ih (by omega) (by omega)
      have hl : j < L.length := by omega
      have hit : L[j]? = some L[j] := List.getElem?_eq_getElem hl
      have hp : ops[j]? = some ops[j] := by simp
      obtain ⟨-, h2, h3, -⟩ := hc.item j _ _ hit hp
      simp only [nxAt, hit]
      omega
    · have : i = j + 1 := by omega
      subst this; exact Nat.le_refl _

theorem heapWithin_get {p : Nat → Bool} : ∀ {h : AHeap} {n : Nat} {b : ABlock}, heapWithin p h = true → hget h n = some b → AV.withinL p b.cells = true
  | [], n, b, _, hn => by simp [hget] at hn
  | (k, c) :: h, n, b, hw, hn => by
    simp only [heapWithin, Bool.and_eq_true] at hw
    rw [hget_cons] at hn
    split at hn
    · cases hn; exact hw.1
    · exact heapWithin_get hw.2 hn

theorem seenBy_get {seen : List AHeap} : ∀ {js : List Nat} {n : Nat} {b : ABlock}, hget (seenBy seen js) n = some b → ∃ j ∈ js, hget (seen.getD j []) n = some b
  | [], n, b, h => by simp [seenBy, hget] at h
  | j :: js, n, b, h => by
    rw [seenBy, hget_append] at h
    cases hj : hget (seen.getD j []) n with
    | some c => rw [hj] at h; cases h; exact ⟨j, List.mem_cons_self, hj⟩
    | none =>
      rw [hj] at h
      obtain ⟨k, hk, hb⟩ := seenBy_get h
      exact ⟨k, List.mem_cons_of_mem _ hk, hb⟩

theorem flatten_get' : ∀ {hs : List AHeap} {n : Nat} {b : ABlock}, hget hs.flatten n = some b → ∃ (j : Nat) (h : AHeap), hs[j]? = some h ∧ hget h n = some b
  | [], n, b, h => by simp [hget] at h
  | x :: xs, n, b, h => by
    rw [List.flatten_cons, hget_append] at h
    cases hx : hget x n with
    | some c => rw [hx] at h; cases h; exact ⟨0, x, rfl, hx⟩
    | none =>
      rw [hx] at h
      obtain ⟨j, y, hj, hb⟩ := flatten_get' h
      exact ⟨j + 1, y, by simpa using hj, hb⟩

/-- A slot that no operation ahead writes holds what it held. -/
theorem tmAt_keep {ops : Array Oper} {tm0 : List AV} {L : List Item} {t : Nat} : ∀ {i : Nat}, (∀ j p, j < i → ops[j]? = some p → p.dst ≠ some t) → (tmAt ops tm0 L i)[t]? = tm0[t]?
  | 0, _ => rfl
  | i + 1, h => by
    have ih := tmAt_keep (ops := ops) (tm0 := tm0) (L := L) (i := i) (fun j p hj => h j p (by omega))
    simp only [tmAt]
    split
    · rename_i it p hit hp
      have hne := h i p (by omega) hp
      unfold setT
      split
      · rename_i d hd
        rw [List.getElem?_set_ne (fun e => hne (by rw [hd, e]))]; exact ih
      · exact ih
    · exact ih

theorem tmAt_length {ops : Array Oper} {tm0 : List AV} {L : List Item} : ∀ {i : Nat}, (tmAt ops tm0 L i).length = tm0.length
  | 0 => rfl
  | i + 1 => by
    have ih := tmAt_length (ops := ops) (tm0 := tm0) (L := L) (i := i)
    simp only [tmAt]
    split
    · unfold setT; split <;> simp [ih]
    · exact ih

/-- A slot that one operation ahead writes, and no other one, holds what it has written. -/
theorem tmAt_put {ops : Array Oper} {tm0 : List AV} {L : List Item} {t j : Nat} {it : Item} {p : Oper} (hit : L[j]? = some it) (hp : ops[j]? = some p) (hd : p.dst = some t) (ht : t < tm0.length)
    (hu : ∀ k q, k ≠ j → ops[k]? = some q → q.dst ≠ some t) : ∀ {i : Nat}, j < i → (tmAt ops tm0 L i)[t]? = some it.v
  | 0, h => by omega
  | i + 1, h => by
    rcases Nat.lt_or_ge j i with hj | hj
    · have ih := tmAt_put hit hp hd ht hu (i := i) hj
      simp only [tmAt]
      split
      · rename_i it' p' hit' hp'
        have hne := hu i p' (by omega) hp'
        unfold setT
        split
        · rename_i d hd'
          rw [List.getElem?_set_ne (fun e => hne (by rw [hd', e]))]; exact ih
        · exact ih
      · exact ih
    · have : i = j := by omega
      subst this
      simp only [tmAt, hit, hp, setT, hd]
      rw [List.getElem?_set_self (by rw [tmAt_length]; exact ht)]

section
variable {C : Ctx} {w0 : World} {ops : Array Oper} {base : Nat} {h0 : AHeap} {tm0 : List AV} {L : List Item}

/-- Which blocks are there when the operations of D have been carried out. -/
def There (h0 : AHeap) (L : List Item) (D : Nat → Prop) (n : Nat) (b : ABlock) : Prop := hget h0 n = some b ∨ ∃ j it, D j ∧ L[j]? = some it ∧ hget it.made n = some b

/-- What holds when the operations of D have been carried out, in whatever order. -/
structure Inv (w0 : World) (ops : Array Oper) (base : Nat) (h0 : AHeap) (tm0 : List AV) (L : List Item) (ρ0 : Env) (ws : World) (ds : List Deferred) (D : Nat → Prop) (ρ : Env) (a : Act) (w : World) : Prop where
  closed : ∀ i p, ops[i]? = some p → D i → ∀ d ∈ depsOf p, D d
  defers : a.defers = ds
  size : a.tmps.size = tm0.length
  put : ∀ j it p t, D j → L[j]? = some it → ops[j]? = some p → p.dst = some t → t < tm0.length → a.tmps[t]? = some (it.v.den ρ)
  left : ∀ t, (∀ j p, D j → ops[j]? = some p → p.dst ≠ some t) → a.tmps[t]? = (AV.denL ρ tm0)[t]?
  block : ∀ n b, There h0 L D n b → BlockOK ρ b ((ρ.kk n).cap) w.heap[ρ.σ n]?
  inj : ∀ n m b c, There h0 L D n b → There h0 L D m c → ρ.σ n = ρ.σ m → n = m
  above : ∀ n b, There h0 L D n b → w0.heap.size ≤ ρ.σ n
  made : ∀ j it n b, D j → L[j]? = some it → hget it.made n = some b → it.nx ≤ n ∧ n < it.nx' ∧ AV.okL it.nx' b.cells = true ∧ ws.heap.size ≤ ρ.σ n
  agree : ∀ n, n < base ∨ nxAt base L L.length ≤ n → ρ.σ n = ρ0.σ n ∧ ρ.kk n = ρ0.kk n
  os : w.os = ws.os
  tape : w.tape = ws.tape
  output : w.output = ws.output
  wsize : ws.heap.size ≤ w.heap.size
  frame : ∀ k, k < ws.heap.size → (∀ n b, hget h0 n = some b → ρ0.σ n ≠ k) → w.heap[k]? = ws.heap[k]?
  below : Below w0.heap.size w0 w

/-- What an operation sees has been made by operations that have been carried out. -/
theorem seen_there (hc : Chain C w0 ops base h0 tm0 L) (hlen : L.length ≤ ops.size) (hd : baseOk ops = true) {D : Nat → Prop} (hcl : ∀ i p, ops[i]? = some p → D i → ∀ d ∈ depsOf p, D d) :
    ∀ (i : Nat) (it : Item), D i → L[i]? = some it → ∀ n b, hget it.seen n = some b → ∃ j jt, j ≤ i ∧ D j ∧ L[j]? = some jt ∧ hget jt.made n = some b := by
  intro i
  induction i using Nat.strongRecOn with
  | _ i ih =>
    intro it hDi hit n b hn
    have hil := (List.getElem?_eq_some_iff.1 hit).1
    have hp : ops[i]? = some ops[i] := by simp
    obtain ⟨-, -, -, -, hf⟩ := hc.item i it _ hit hp
    rcases hf with ⟨-, -, -, -, hs⟩ | ⟨-, -, -, hs, -⟩ | ⟨-, -, -, -, -, hs⟩
    rotate_left 2
    · rw [hs] at hn; simp [hget] at hn
    · rw [hs] at hn; simp [hget] at hn
    · rw [hs, hget_append] at hn
      cases hm : hget it.made n with
      | some c => rw [hm] at hn; cases hn; exact ⟨i, it, Nat.le_refl _, hDi, hit, hm⟩
      | none =>
        rw [hm] at hn
        obtain ⟨d, hdm, hb⟩ := seenBy_get hn
        have hdi := (baseOk_spec hd hp).1 d hdm
        have hdl : d < L.length := by omega
        have hdt : L[d]? = some L[d] := List.getElem?_eq_getElem hdl
        rw [List.getD_eq_getElem?_getD, List.getElem?_map, List.getElem?_take, if_pos hdi, hdt] at hb
        obtain ⟨j, jt, h1, h2⟩ := ih d hdi _ (hcl i _ hp hDi d hdm) hdt n b (by simpa using hb)
        exact ⟨j, jt, by omega, h2⟩

theorem mine_there (hc : Chain C w0 ops base h0 tm0 L) (hlen : L.length ≤ ops.size) (hd : baseOk ops = true) {D : Nat → Prop} (hcl : ∀ i p, ops[i]? = some p → D i → ∀ d ∈ depsOf p, D d)
    {i : Nat} {p : Oper} (hp : ops[i]? = some p) (hil : i < L.length) (hdep : ∀ d ∈ depsOf p, D d) {n : Nat} {b : ABlock} (hn : hget (seenBy ((L.take i).map Item.seen) (depsOf p)) n = some b) :
    ∃ j jt, j < i ∧ D j ∧ L[j]? = some jt ∧ hget jt.made n = some b := by
  obtain ⟨d, hdm, hb⟩ := seenBy_get hn
  have hdi := (baseOk_spec hd hp).1 d hdm
  have hi : i < ops.size := by
    rcases Nat.lt_or_ge i ops.size with h | h
    · exact h
    · simp [Array.getElem?_eq_none h] at hp
  have hdl : d < L.length := by omega
  have hdt : L[d]? = some L[d] := List.getElem?_eq_getElem hdl
  rw [List.getD_eq_getElem?_getD, List.getElem?_map, List.getElem?_take, if_pos hdi, hdt] at hb
  obtain ⟨j, jt, h1, h2⟩ := seen_there hc hlen hd hcl d _ (hdep d hdm) hdt n b (by simpa using hb)
  exact ⟨j, jt, by omega, h2⟩

end
end Go.Ev
