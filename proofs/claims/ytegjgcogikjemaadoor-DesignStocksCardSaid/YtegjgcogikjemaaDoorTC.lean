import Derived.Test.YtegjgcogikjemaaDoorTB
import Derived.Test.YtegjgcogikjemaaDoorProg
import Derived.KernelRfl
import Derived.Test.YtegjgcogikjemaaDoorCards
import Derived.Test.YtegjgcogikjemaaDoorTie
import Derived.Test.YtegjgcogikjemaaDoorTA
import Derived.ProofKit
import Derived.OpenShut
import Derived.LaidMore
import Derived.Lib.SmallJoins
import Derived.Deep.DeepHandedRow
import Derived.Lib.LaidTab
set_option linter.unusedVariables false
set_option linter.unusedSimpArgs false
set_option linter.unusedSectionVars false
set_option linter.unnecessarySimpa false
/- Running the program's functions on values that are known in part: the theorem. -/
namespace Go.Ev
open Go.RowKit
section
variable {C : Ctx} {w0 : World} {ops : Array Oper} {base : Nat} {h0 : AHeap} {tm0 : List AV} {L : List Item} {ρ0 : Env} {ws : World} {ds : List Deferred} {rd : Option Nat}
/-- How many operations are left. -/
def leftOver (ops : Array Oper) (listed : Array Bool) : List Nat := (List.range ops.size).filter fun i => !listed.getD i true
theorem leftOver_lt {ops : Array Oper} {listed : Array Bool} {i : Nat} (hi : i < ops.size) (hl : listed.getD i true = false) (hs : listed.size = ops.size) :
    (leftOver ops (listed.setIfInBounds i true)).length < (leftOver ops listed).length := by
  unfold leftOver
  have hsub : ∀ j, (!(listed.setIfInBounds i true).getD j true) = (!listed.getD j true && !(j == i)) := by
    intro j
    by_cases hji : j = i
    · subst hji
      simp [hs, hi]
    · have : (listed.setIfInBounds i true).getD j true = listed.getD j true := by
        simp [Ne.symm hji]
      rw [this]; simp [hji]
  have heq : ((List.range ops.size).filter fun j => !(listed.setIfInBounds i true).getD j true) = ((List.range ops.size).filter fun j => !listed.getD j true).filter fun j => !(j == i) := by
    rw [List.filter_filter]
    apply List.filter_congr
    intro j _
    rw [hsub j, Bool.and_comm]
  rw [heq]
  refine Nat.lt_of_le_of_ne (List.length_filter_le _ _) (fun e => ?_)
  have hall := List.length_filter_eq_length_iff.1 e
  have := hall i (List.mem_filter.2 ⟨List.mem_range.2 hi, by simp [hl]⟩)
  simp at this
theorem mem_depsOf {p : Oper} {d : Nat} (h : d ∈ depsOf p) : ∃ e ∈ p.after, Region.binds .any e = true ∧ e.on = d := by
  unfold depsOf at h
  obtain ⟨e, he, hb⟩ := List.mem_filterMap.1 h
  split at hb
  · rename_i hb'
    exact ⟨e, by simpa using he, hb', by simpa using hb⟩
  · cases hb
theorem ready_spec {ops : Array Oper} {listed : Array Bool} {i : Nat} (hi : i ∈ Region.ready .any ops listed) : ∃ p, ops[i]? = some p ∧ i < ops.size ∧ listed.getD i true = false ∧ ∀ d ∈ depsOf p, listed[d]? = some true := by
  unfold Region.ready at hi
  simp only [List.mem_filter, List.mem_range, Bool.and_eq_true, Bool.not_eq_true'] at hi
  obtain ⟨h1, h2, h3⟩ := hi
  have hp : ops[i]? = some ops[i] := by simp
  rw [hp] at h3
  simp only [Option.map_some, Option.getD_some] at h3
  refine ⟨_, hp, h1, h2, fun d hdm => ?_⟩
  obtain ⟨e, he, hb, rfl⟩ := mem_depsOf hdm
  have := Array.all_eq_true'.1 h3 e he
  rw [hb] at this
  simp only [Bool.not_true, Bool.false_or] at this
  rw [Array.getD_eq_getD_getElem?] at this
  cases hx : listed[e.on]? with
  | none => rw [hx] at this; simp at this
  | some b => rw [hx] at this; simp at this; rw [this]
theorem ready_mk {ops : Array Oper} {listed : Array Bool} {i : Nat} {p : Oper} (hp : ops[i]? = some p) (hl : listed.getD i true = false) (hdep : ∀ d ∈ depsOf p, listed[d]? = some true) : i ∈ Region.ready .any ops listed := by
  have hi : i < ops.size := by
    rcases Nat.lt_or_ge i ops.size with h | h
    · exact h
    · simp [Array.getElem?_eq_none h] at hp
  unfold Region.ready
  simp only [List.mem_filter, List.mem_range, Bool.and_eq_true, Bool.not_eq_true']
  refine ⟨hi, hl, ?_⟩
  rw [hp]
  simp only [Option.map_some, Option.getD_some]
  refine Array.all_eq_true'.2 fun e he => ?_
  cases hbe : Region.binds .any e with
  | false => rfl
  | true =>
    have hdm : e.on ∈ depsOf p := by
      unfold depsOf
      exact List.mem_filterMap.2 ⟨e, by simpa using he, by simp [hbe]⟩
    simp [hdep _ hdm]
theorem ready_nil {ops : Array Oper} {listed : Array Bool} (hd : baseOk ops = true) (hs : listed.size = ops.size) (hr : Region.ready .any ops listed = []) : ∀ i, i < ops.size → listed[i]? = some true := by
  intro i
  induction i using Nat.strongRecOn with
  | _ i ih =>
    intro hi
    have hil : i < listed.size := by omega
    cases hb : listed[i] with
    | true => rw [Array.getElem?_eq_getElem hil, hb]
    | false =>
      exfalso
      have hp : ops[i]? = some ops[i] := by simp
      have : i ∈ Region.ready .any ops listed := ready_mk hp (by rw [Array.getD_eq_getD_getElem?, Array.getElem?_eq_getElem hil, hb]; rfl) fun d hdm => by
        have hlt := (baseOk_spec hd hp).1 d hdm
        exact ih d hlt (by omega)
      rw [hr] at this; cases this
theorem leftOver_ge {ops : Array Oper} {listed : Array Bool} {k : Nat} (hs : listed.size = ops.size) (hk : k ≤ ops.size) (hl : ∀ i, i < ops.size → (listed[i]? = some true ↔ i < k)) : ops.size - k ≤ (leftOver ops listed).length := by
  unfold leftOver
  have : List.range ops.size = List.range' 0 k ++ List.range' k (ops.size - k) := by
    rw [List.range_eq_range', show ops.size = k + (ops.size - k) by omega, ← List.range'_append]
    simp
  rw [this, List.filter_append, List.length_append]
  have h2 : (List.range' k (ops.size - k)).filter (fun i => !listed.getD i true) = List.range' k (ops.size - k) := by
    refine List.filter_eq_self.2 fun i hi => ?_
    rw [List.mem_range'_1] at hi
    have hlt : i < listed.size := by omega
    have : ¬ (listed[i]? = some true) := fun h => by have := (hl i (by omega)).1 h; omega
    rw [Array.getElem?_eq_getElem hlt] at this
    rw [Array.getD_eq_getD_getElem?, Array.getElem?_eq_getElem hlt]
    simpa using this
  rw [h2]
  simp
/-- What comes last comes in its order. -/
theorem tail_serial {P : Program} (hb : baseOk ops = true) {m : Nat} (htail : ∀ (i : Nat) (p : Oper), ops[i]? = some p → m ≤ i → ∀ j, j < i → j ∈ anc (before ops.toList []) i) {Q : Exit → Act → World → Prop} : ∀ (n k : Nat) (fuel : Nat) (listed : Array Bool) (a : Act) (w : World), k + n = ops.size → m ≤ k → listed.size = ops.size →
    (∀ i, i < ops.size → (listed[i]? = some true ↔ i < k)) → n ≤ fuel → wpOpsIn (fenceR rd) 0 P ops Q (List.range' k n) a w → wpAnyIn (fenceR rd) 0 P .any ops Q fuel listed a w := by
  have hclosed : ∀ (k : Nat) (listed : Array Bool), listed.size = ops.size → k ≤ ops.size → (∀ i, i < ops.size → (listed[i]? = some true ↔ i < k)) → ∀ (i : Nat) (p : Oper), ops[i]? = some p → listed[i]? = some true → ∀ d ∈ depsOf p, listed[d]? = some true := by
    intro k listed hs hks hl i p hp hi d hdm
    have hil : i < ops.size := by
      rcases Nat.lt_or_ge i ops.size with h | h
      · exact h
      · simp [Array.getElem?_eq_none h] at hp
    have := (hl i hil).1 hi
    have hlt := (baseOk_spec hb hp).1 d hdm
    exact (hl d (by omega)).2 (by omega)
  intro n
  induction n with
  | zero =>
    intro k fuel listed a w hkn hm hs hl hf hw
    have hr : Region.ready .any ops listed = [] := by
      cases hrr : Region.ready .any ops listed with
      | nil => rfl
      | cons i rest =>
        exfalso
        obtain ⟨p, hp, hi, hli, -⟩ := ready_spec (show i ∈ Region.ready .any ops listed by rw [hrr]; exact List.mem_cons_self)
        have := (hl i hi).2 (by omega)
        rw [Array.getD_eq_getD_getElem?, this] at hli; cases hli
    cases fuel with
    | zero => exact ⟨hr, hw⟩
    | succ f => exact ⟨fun _ => hw, fun i hi => by rw [hr] at hi; cases hi⟩
  | succ n ih =>
    intro k fuel listed a w hkn hm hs hl hf hw
    obtain ⟨f, rfl⟩ : ∃ f, fuel = f + 1 := ⟨fuel - 1, by omega⟩
    have hk : k < ops.size := by omega
    have hp : ops[k]? = some ops[k] := by simp
    have hlk : listed.getD k true = false := by
      have hlt : k < listed.size := by omega
      have : ¬ (listed[k]? = some true) := fun h => by have := (hl k hk).1 h; omega
      rw [Array.getElem?_eq_getElem hlt] at this
      rw [Array.getD_eq_getD_getElem?, Array.getElem?_eq_getElem hlt]
      simpa using this
    have hrk : k ∈ Region.ready .any ops listed := ready_mk hp hlk fun d hdm => by
      have hlt := (baseOk_spec hb hp).1 d hdm
      exact (hl d (by omega)).2 hlt
    refine ⟨fun hr => absurd hrk (by rw [hr]; exact List.not_mem_nil), fun i hi => ?_⟩
    obtain ⟨p, hpi, hil, hli, hdep⟩ := ready_spec hi
    have hik : i = k := by
      have hnot : ¬ i < k := fun h => by
        have := (hl i hil).2 h
        rw [Array.getD_eq_getD_getElem?, this] at hli; cases hli
      rcases Nat.lt_or_ge k i with h | h
      · exfalso
        have hka := htail i p hpi (by omega) k h
        have := anc_listed (D := fun j => listed[j]? = some true) (hclosed k listed hs (by omega) hl) i p hpi hdep k hka
        have := (hl k hk).1 this
        omega
      · omega
    subst hik
    rw [List.range'_succ, wpOpsIn_cons] at hw
    refine wpOpIn_mono (fun a' w' h' => ih (i + 1) f _ a' w' (by omega) (by omega) (by simp [hs]) (fun j hj => ?_) (by omega) h') hw
    rw [Array.getElem?_setIfInBounds]
    by_cases hji : i = j
    · subst hji; simp [hs, hil]
    · rw [if_neg hji, hl j hj]; omega
theorem firstStore_not : ∀ (l : List Oper) (i : Nat) (p : Oper), i < firstStore l → l[i]? = some p → isStore p.op = false
  | [], i, p, h, _ => by cases h
  | o :: l, i, p, h, hp => by
    unfold firstStore at h
    split at h
    · cases h
    · rename_i hs
      cases i with
      | zero => simp at hp; subst hp; exact hs
      | succ i => exact firstStore_not l i p (by omega) (by simpa using hp)
theorem firstStore_is : ∀ (l : List Oper) (p : Oper), l[firstStore l]? = some p → isStore p.op = true
  | [], p, hp => by simp at hp
  | o :: l, p, hp => by
    unfold firstStore at hp
    split at hp
    · rename_i hs; simp at hp; subst hp; exact hs
    · exact firstStore_is l p (by simpa using hp)
/-- Quiet operations in any order, once the rest of what comes first is done. -/
theorem quiet_any {P : Program} (hb : baseOk ops = true) {Q : Exit → Act → World → Prop} {f : Act} {w : World} {k : Nat} (hk : k < ops.size) (htail : ∀ (i : Nat) (p : Oper), ops[i]? = some p → k < i → ∀ j, j < i → j ∈ anc (before ops.toList []) i)
    (hf : ∀ (fuel : Nat) (listed : Array Bool), listed.size = ops.size → (∀ i, i < ops.size → (listed[i]? = some true ↔ i < k + 1)) → ops.size - (k + 1) ≤ fuel → wpAnyIn (fenceR rd) 0 P .any ops Q fuel listed f w) :
    ∀ (fuel : Nat) (M : List Nat) (listed : Array Bool) (a : Act), listed.size = ops.size →
    (∀ i, i < ops.size → (listed[i]? = some true ↔ (i < k + 1 ∧ i ∉ M))) → (∀ i ∈ M, i < k) → M.Pairwise (· < ·) → M.length + (ops.size - (k + 1)) ≤ fuel → (∀ i ∈ M, ∀ p, ops[i]? = some p → quietOp p.op = true ∧ p.guard = none) →
    (∀ (i : Nat) (p : Oper), ops[i]? = some p → listed[i]? = some true → ∀ d ∈ depsOf p, listed[d]? = some true) → runQ ops M a = some f → wpAnyIn (fenceR rd) 0 P .any ops Q fuel listed a w := by
  intro fuel
  induction fuel with
  | zero =>
    intro M listed a hs hl hM hpw hle hq hcl hr
    have hnil : M = [] := List.length_eq_zero_iff.1 (by omega)
    subst hnil
    cases hr
    exact hf 0 listed hs (fun i hi => by rw [hl i hi]; simp) (by omega)
  | succ fuel ih =>
    intro M listed a hs hl hM hpw hle hq hcl hr
    by_cases hne : M = []
    · subst hne
      cases hr
      exact hf _ listed hs (fun i hi => by rw [hl i hi]; simp) (by simpa using hle)
    obtain ⟨i0, hi0⟩ := List.exists_mem_of_ne_nil M hne
    have h0 : ¬ (listed[i0]? = some true) := fun e => ((hl i0 (by have := hM i0 hi0; omega)).1 e).2 hi0
    refine ⟨fun hrd => absurd (ready_nil hb hs hrd i0 (by have := hM i0 hi0; omega)) h0, fun i hi => ?_⟩
    obtain ⟨p, hp, hil, hli, hdep⟩ := ready_spec hi
    have hnl : ¬ (listed[i]? = some true) := fun e => by rw [Array.getD_eq_getD_getElem?, e] at hli; cases hli
    have hik : i < k + 1 := by
      rcases Nat.lt_or_ge i (k + 1) with h | h
      · exact h
      · exact absurd (anc_listed (D := fun j => listed[j]? = some true) hcl i p hp hdep i0 (htail i p hp (by omega) i0 (by have := hM i0 hi0; omega))) h0
    have hiM : i ∈ M := Classical.byContradiction fun h => hnl ((hl i hil).2 ⟨hik, h⟩)
    obtain ⟨pre, post, rfl⟩ := List.append_of_mem hiM
    have hpre : ∀ j ∈ pre, j < i := fun j hj => (List.pairwise_append.1 hpw).2.2 j hj i List.mem_cons_self
    have hapart : ∀ j ∈ pre, (∀ (p' q : Oper) (d : Tmp), ops[i]? = some p' → ops[j]? = some q → q.dst = some d → d ∉ p'.looksAt ops ∧ p'.dst ≠ some d) ∧ (∀ (p' q : Oper) (d : Tmp), ops[i]? = some p' → ops[j]? = some q → p'.dst = some d → d ∉ q.looksAt ops) := by
      intro j hj
      have hji := hpre j hj
      have hjM : j ∈ pre ++ i :: post := List.mem_append_left _ hj
      have na : ∀ p', ops[i]? = some p' → j ∉ anc (before ops.toList []) i := fun p' hp' hk => by
        rw [hp] at hp'; cases hp'
        have := anc_listed (D := fun j => listed[j]? = some true) hcl i p hp hdep j hk
        exact ((hl j (by have := hM j hjM; omega)).1 this).2 hjM
      have nb : ∀ q, ops[j]? = some q → i ∉ anc (before ops.toList []) j := fun q hq' hk => by
        have := (anc_spec hq' hk).1; omega
      refine ⟨fun p' q d hp' hq' hd' => ⟨fun hlook => ?_, ((baseOk_spec hb hp').2.2.1 j q d hq' hd').2 (by omega)⟩, fun p' q d hp' hq' hd' hlook => ?_⟩
      · rcases ((baseOk_spec hb hp').2.2.1 j q d hq' hd').1 hlook with h | h
        · exact na p' hp' h
        · exact nb q hq' h
      · rcases ((baseOk_spec hb hq').2.2.1 i p' d hp' hd').1 hlook with h | h
        · exact nb q hq' h
        · exact na p' hp' h
    obtain ⟨p2, v, hp2, hv, hr2⟩ := runQ_cons (frontQ hapart hr)
    rw [hp] at hp2; cases hp2
    obtain ⟨q1, q2⟩ := hq i hiM p hp
    have hset : ∀ j, (listed.setIfInBounds i true)[j]? = some true ↔ (listed[j]? = some true ∨ j = i) := by
      intro j
      rw [Array.getElem?_setIfInBounds]
      by_cases hji : i = j
      · subst hji; simp [hs, hil]
      · rw [if_neg hji]; simp [Ne.symm hji]
    have hnotin : i ∉ pre ++ post := by
      intro h
      have hp1 := (List.pairwise_append.1 hpw)
      rcases List.mem_append.1 h with h | h
      · have := hpre i h; omega
      · have := (List.pairwise_cons.1 hp1.2.1).1 i h; omega
    unfold wpOpIn
    have hw : Region.wanted p (yielded ops a.tmps) = true := by unfold Region.wanted; rw [q2]
    simp only [hp, hw, if_true]
    refine quiet_mk q1 hv (ih (pre ++ post) _ _ (by simp [hs]) (fun j hj => ?_) (fun j hj => hM j ?_) ?_ (by simp at hle ⊢; omega) (fun j hj => hq j ?_) (fun j q hq' hj d hd' => ?_) hr2)
    · rw [hset, hl j hj]
      constructor
      · rintro (⟨h1, h⟩ | rfl)
        · exact ⟨h1, fun h' => h (by rcases List.mem_append.1 h' with h' | h'; exact List.mem_append_left _ h'; exact List.mem_append_right _ (List.mem_cons_of_mem _ h'))⟩
        · exact ⟨hik, hnotin⟩
      · rintro ⟨h1, h⟩
        by_cases hji : j = i
        · exact .inr hji
        · refine .inl ⟨h1, fun h' => h ?_⟩
          rcases List.mem_append.1 h' with h' | h'
          · exact List.mem_append_left _ h'
          · rcases List.mem_cons.1 h' with h' | h'
            · exact absurd h' hji
            · exact List.mem_append_right _ h'
    · rcases List.mem_append.1 hj with h' | h'
      · exact List.mem_append_left _ h'
      · exact List.mem_append_right _ (List.mem_cons_of_mem _ h')
    · exact hpw.sublist (List.Sublist.append (List.Sublist.refl _) (List.sublist_cons_self _ _))
    · rcases List.mem_append.1 hj with h' | h'
      · exact List.mem_append_left _ h'
      · exact List.mem_append_right _ (List.mem_cons_of_mem _ h')
    · rw [hset]
      rcases (hset j).1 hj with h | rfl
      · exact .inl (hcl j q hq' h d hd')
      · rw [hp] at hq'; cases hq'; exact .inl (hdep d hd')
/-- Quiet operations one after another, as they were reckoned. -/
theorem serial_inv (hc : Chain C w0 ops base h0 tm0 L) (hlen : L.length ≤ ops.size) (hb : baseOk ops = true) (hs0 : ∀ n b, hget h0 n = some b → n < base ∧ AV.okL base b.cells = true) (ht0 : AV.okL base tm0 = true) {w : World} :
    ∀ (M : List Nat) (D : Nat → Prop) (ρ : Env) (a : Act), Inv w0 ops base h0 tm0 L ρ0 ws ds D ρ a w → (∀ i ∈ M, i < L.length ∧ ¬ D i) → M.Pairwise (· < ·) → (∀ i ∈ M, ∀ p, ops[i]? = some p → quietOp p.op = true ∧ p.guard = none ∧ isStore p.op = false ∧ ∀ d ∈ depsOf p, D d ∨ d ∈ M) →
      ∃ (f : Act) (ρ' : Env), runQ ops M a = some f ∧ Inv w0 ops base h0 tm0 L ρ0 ws ds (fun i => D i ∨ i ∈ M) ρ' f w
  | [], D, ρ, a, hI, _, _, _ => ⟨a, ρ, rfl, by simpa using hI⟩
  | i :: M, D, ρ, a, hI, hM, hpw, hq => by
    obtain ⟨hiL, hDi⟩ := hM i List.mem_cons_self
    have hp : ops[i]? = some ops[i] := by simp
    obtain ⟨q1, q2, q3, q4⟩ := hq i List.mem_cons_self _ hp
    have hlt := (List.pairwise_cons.1 hpw).1
    have hdep : ∀ d ∈ depsOf ops[i], D d := fun d hdm => by
      have hdi := (baseOk_spec hb hp).1 d hdm
      rcases q4 d hdm with h | h
      · exact h
      · rcases List.mem_cons.1 h with h | h
        · omega
        · have := hlt d h; omega
    have hit : L[i]? = some L[i] := List.getElem?_eq_getElem hiL
    obtain ⟨-, -, -, -, hf⟩ := hc.item i _ _ hit hp
    have hg := guard_stands hc hlen hb hI hp hit hdep hDi
    have hw : ∀ tmps, Region.wanted ops[i] (yielded ops tmps) = true := fun tmps => by unfold Region.wanted; rw [q2]
    rcases hf with ⟨f1, -⟩ | ⟨f1, f2, f3, f4, s, o, g1, g2, g3, g4, g5, g6, g7, g8⟩ | ⟨f1, -⟩
    · have := f1 ρ a.tmps hg; rw [hw] at this; cases this
    · obtain ⟨v, k1, k2, k3, k4, k5⟩ := g8
      rw [g4] at k1
      cases k1
      obtain ⟨ρi, hdi, hRep, hstep⟩ := inv_on hc hlen hb hs0 ht0 hI hp hit hdep hDi g2 g3 g5 g6 g7
      have hwp := k5 none ρi a w (fun a' w' => ∃ ρ', Inv w0 ops base h0 tm0 L ρ0 ws ds (fun j => D j ∨ j = i) ρ' a' w' ∧ True) (fun _ _ _ => False) (fun x hx => by rw [g1, hdi]; exact operand_stands hc hlen hb hI hp hit hdep hDi x hx) hRep hI.below fun ρ' w' hr' hp' => by
        obtain ⟨ρ2, h2⟩ := hstep ρ' w' hr' hp'
        exact ⟨ρ2, h2, trivial⟩
      obtain ⟨u, hu, ρ', hI', -⟩ := quiet_wp q1 (fun _ _ _ h => h) hwp
      obtain ⟨f, ρ2, hr, hI2⟩ := serial_inv hc hlen hb hs0 ht0 M _ ρ' _ hI' (fun j hj => ⟨(hM j (List.mem_cons_of_mem _ hj)).1, fun h => by
        rcases h with h | h
        · exact (hM j (List.mem_cons_of_mem _ hj)).2 h
        · have := hlt j hj; omega⟩) (List.pairwise_cons.1 hpw).2 (fun j hj p hp' => by
          obtain ⟨r1, r2, r3, r4⟩ := hq j (List.mem_cons_of_mem _ hj) p hp'
          refine ⟨r1, r2, r3, fun d hdm => ?_⟩
          rcases r4 d hdm with h | h
          · exact .inl (.inl h)
          · rcases List.mem_cons.1 h with h | h
            · exact .inl (.inr h)
            · exact .inr h)
      refine ⟨f, ρ2, by rw [runQ_mk hp hu]; exact hr, ?_⟩
      have : (fun j => D j ∨ j ∈ i :: M) = (fun j => (D j ∨ j = i) ∨ j ∈ M) := funext fun j => propext ⟨fun h => by
        rcases h with h | h
        · exact .inl (.inl h)
        · rcases List.mem_cons.1 h with h | h
          · exact .inl (.inr h)
          · exact .inr h, fun h => by
        rcases h with (h | h) | h
        · exact .inl h
        · exact .inr (by rw [h]; exact List.mem_cons_self)
        · exact .inr (List.mem_cons_of_mem _ h)⟩
      rw [this]; exact hI2
    · rw [q3] at f1; cases f1
theorem any_order (hc : Chain C w0 ops base h0 tm0 L) (hlen : L.length ≤ ops.size) (hd : drawOk ops = true) (hser : ∀ (i : Nat) (p : Oper), ops[i]? = some p → L.length ≤ i → ∀ j, j < i → j ∈ anc (before ops.toList []) i) (hns : ∀ i p, i < L.length → ops[i]? = some p → isStore p.op = false) (hs0 : ∀ n b, hget h0 n = some b → n < base ∧ AV.okL base b.cells = true) (ht0 : AV.okL base tm0 = true)
    {Q : Exit → Act → World → Prop} (hQ : ∀ D ρ a w, (∀ i, i < ops.size → (D i ↔ i < L.length)) → Inv w0 ops base h0 tm0 L ρ0 ws ds D ρ a w → wpOpsIn (fenceR rd) 0 C.P ops Q (List.range' L.length (ops.size - L.length)) a w) :
    ∀ (fuel : Nat) (listed : Array Bool) (ρ : Env) (a : Act) (w : World), listed.size = ops.size → (leftOver ops listed).length ≤ fuel → (∀ i, L.length ≤ i → listed[i]? ≠ some true) → Inv w0 ops base h0 tm0 L ρ0 ws ds (fun i => listed[i]? = some true) ρ a w →
      wpAnyIn (fenceR rd) 0 C.P .any ops Q fuel listed a w := by
  have hfin : ∀ (fuel : Nat) (listed : Array Bool) (ρ : Env) (a : Act) (w : World), listed.size = ops.size → (leftOver ops listed).length ≤ fuel → (∀ i, L.length ≤ i → listed[i]? ≠ some true) → Inv w0 ops base h0 tm0 L ρ0 ws ds (fun i => listed[i]? = some true) ρ a w →
      (∀ i, i < L.length → listed[i]? = some true) → wpAnyIn (fenceR rd) 0 C.P .any ops Q fuel listed a w := by
    intro fuel listed ρ a w hs hle hno hI hall
    have hl : ∀ i, i < ops.size → (listed[i]? = some true ↔ i < L.length) := fun i _ => ⟨fun h => by
      rcases Nat.lt_or_ge i L.length with h1 | h1
      · exact h1
      · exact absurd h (hno i h1), fun h => hall i h⟩
    refine tail_serial (drawOk_base hd) (m := L.length) (fun i p hp hi => hser i p hp hi) (ops.size - L.length) L.length fuel listed a w (by omega) (Nat.le_refl _) hs hl (Nat.le_trans (leftOver_ge hs hlen hl) hle) ?_
    exact hQ _ ρ a w hl hI
  intro fuel
  induction fuel with
  | zero =>
    intro listed ρ a w hs hle hno hI
    refine hfin 0 listed ρ a w hs hle hno hI fun i hi => ?_
    have hr : Region.ready .any ops listed = [] := by
      cases hrr : Region.ready .any ops listed with
      | nil => rfl
      | cons i rest =>
        exfalso
        obtain ⟨p, hp, hi, hl, -⟩ := ready_spec (show i ∈ Region.ready .any ops listed by rw [hrr]; exact List.mem_cons_self)
        have : i ∈ leftOver ops listed := List.mem_filter.2 ⟨List.mem_range.2 hi, by rw [hl]; rfl⟩
        have := List.length_pos_of_mem this
        omega
    exact ready_nil (drawOk_base hd) hs hr i (by omega)
  | succ fuel ih =>
    intro listed ρ a w hs hle hno hI
    by_cases hall : ∀ i, i < L.length → listed[i]? = some true
    · exact hfin _ listed ρ a w hs hle hno hI hall
    refine ⟨fun hr => absurd (fun i hi => ready_nil (drawOk_base hd) hs hr i (by omega)) hall, fun i hi => ?_⟩
    obtain ⟨p, hp, hil, hl, hdep⟩ := ready_spec hi
    have hiL : i < L.length := by
      rcases Nat.lt_or_ge i L.length with h | h
      · exact h
      · exfalso
        refine hall fun j hj => ?_
        have hka := hser i p hp (by omega) j (by omega)
        exact anc_listed (D := fun j => listed[j]? = some true) hI.closed i p hp hdep j hka
    have hit : L[i]? = some L[i] := List.getElem?_eq_getElem hiL
    have hset : ∀ j, (listed.setIfInBounds i true)[j]? = some true ↔ (listed[j]? = some true ∨ j = i) := by
      intro j
      rw [Array.getElem?_setIfInBounds]
      by_cases hji : i = j
      · subst hji; simp [hs, hil]
      · rw [if_neg hji]; simp [Ne.symm hji]
    have hDi : ¬ (listed[i]? = some true) := by
      intro e; rw [Array.getD_eq_getD_getElem?, e] at hl; cases hl
    have hnext : ∀ ρ' a' w', Inv w0 ops base h0 tm0 L ρ0 ws ds (fun j => listed[j]? = some true ∨ j = i) ρ' a' w' → wpAnyIn (fenceR rd) 0 C.P .any ops Q fuel (listed.setIfInBounds i true) a' w' := by
      intro ρ' a' w' hI'
      refine ih _ ρ' a' w' (by simp [hs]) (by have := leftOver_lt hil hl hs; omega) (fun j hj e => ?_) ?_
      · rcases (hset j).1 e with h | h
        · exact hno j hj h
        · omega
      · have : (fun j => (listed.setIfInBounds i true)[j]? = some true) = (fun j => listed[j]? = some true ∨ j = i) := funext fun j => propext (hset j)
        rw [this]; exact hI'
    obtain ⟨-, -, -, -, hf⟩ := hc.item i _ p hit hp
    have hg := guard_stands hc hlen (drawOk_base hd) hI hp hit hdep hDi
    unfold wpOpIn
    simp only [hp]
    rcases hf with ⟨f1, f2, f3, f4, f5⟩ | ⟨f1, f2, f3, f4, s, o, g1, g2, g3, g4, g5, g6, g7, g8⟩ | ⟨f1, -⟩
    rotate_left 2
    · rw [hns i p hiL hp] at f1; cases f1
    · rw [f1 ρ a.tmps hg]
      simp only [Bool.false_eq_true, if_false]
      exact ⟨fun _ _ => trivial, hnext ρ _ w (inv_off (drawOk_base hd) hI hp hit hdep hDi f2 f3)⟩
    · rw [f1 ρ a.tmps hg]
      simp only [if_true]
      obtain ⟨v, k1, k2, k3, k4, k5⟩ := g8
      rw [g4] at k1
      cases k1
      obtain ⟨ρi, hdi, hRep, hstep⟩ := inv_on hc hlen (drawOk_base hd) hs0 ht0 hI hp hit hdep hDi g2 g3 g5 g6 g7
      refine k5 rd ρi a w _ Q (fun x hx => by rw [g1, hdi]; exact operand_stands hc hlen (drawOk_base hd) hI hp hit hdep hDi x hx) hRep hI.below fun ρ' w' hr' hp' => ?_
      obtain ⟨ρ2, h2⟩ := hstep ρ' w' hr' hp'
      exact hnext ρ2 _ w' h2
theorem lateOk_spec (h : lateOk ops = true) : baseOk ops = true ∧ firstStore ops.toList < ops.size ∧ ∀ (i : Nat) (p : Oper), ops[i]? = some p →
    (i < firstStore ops.toList → i ∈ anc (before ops.toList []) (firstStore ops.toList) ∨ (quietOp p.op = true ∧ p.guard = none)) ∧ (i = firstStore ops.toList → p.guard = none ∧ p.dst = none) ∧ (firstStore ops.toList < i → ∀ j, j < i → j ∈ anc (before ops.toList []) i) := by
  have hbare : ∀ p : Oper, bare p = true → p.guard = none := fun p h => by
    unfold bare at h; split at h
    · assumption
    · cases h
  unfold lateOk at h
  simp only [Bool.and_eq_true, List.all_eq_true, List.mem_range] at h
  obtain ⟨⟨h1, h2⟩, h3⟩ := h
  refine ⟨h1, blt_lt h2, fun i p hp => ?_⟩
  have hi : i < ops.size := by
    rcases Nat.lt_or_ge i ops.size with h | h
    · exact h
    · simp [Array.getElem?_eq_none h] at hp
  have h3 := h3 i hi
  rw [hp] at h3
  simp only at h3
  split at h3
  · rename_i e
    have e := blt_lt e
    simp only [Bool.or_eq_true, Bool.and_eq_true, List.any_eq_true] at h3
    refine ⟨fun _ => ?_, fun h => by omega, fun h => by omega⟩
    rcases h3 with ⟨k, hk, hb⟩ | h6
    · have := Nat.eq_of_beq_eq_true hb
      subst this
      exact .inl hk
    · exact .inr ⟨h6.1, hbare p h6.2⟩
  · rename_i e
    have e : ¬ i < firstStore ops.toList := fun h => by
      have : Nat.blt i (firstStore ops.toList) = true := by simpa [Nat.blt_eq] using h
      rw [this] at e; cases e
    split at h3
    · rename_i e2
      have e2 := Nat.eq_of_beq_eq_true e2
      simp only [Bool.and_eq_true] at h3
      refine ⟨fun h => absurd h e, fun _ => ⟨hbare p h3.1, ?_⟩, fun h => by omega⟩
      have h4 := h3.2
      split at h4
      · assumption
      · cases h4
    · rename_i e2
      refine ⟨fun h => absurd h e, fun h => by rw [h] at e2; simp at e2, fun _ => anc_full hp (Nat.eq_of_beq_eq_true h3)⟩
theorem wpOps_store {P : Program} {Q : Exit → Act → World → Prop} (hQ : ∀ x a w, Q x a w → x = .normal) {k n : Nat} {p : Oper} (hp : ops[k]? = some p) (hs : isStore p.op = true) (hg : p.guard = none) (hd : p.dst = none) {a : Act} {w : World}
    (h : wpOpsIn (fenceR rd) 0 P ops Q (List.range' k (n + 1)) a w) : ∃ w', (execOp a.eval p).run P w = .ok .skip w' ∧ wpOpsIn (fenceR rd) 0 P ops Q (List.range' (k + 1) n) a w' := by
  rw [List.range'_succ, wpOpsIn_cons] at h
  unfold wpOpIn at h
  have hw : Region.wanted p (yielded ops a.tmps) = true := by unfold Region.wanted; rw [hg]
  simp only [hp, hw, if_true] at h
  have hdf : isDefer p.op = false := by revert hs; cases p.op <;> simp [isStore, isDefer]
  replace h := wpIn_inv hdf h
  obtain ⟨dst, op, type, pos, after, guard⟩ := p
  cases op <;> simp only [isStore] at hs <;> try (cases hs; done)
  rename_i t x y
  simp only at hd
  subst hd
  simp only [execOp, Sem.run_bind] at h ⊢
  cases hr : (Instr.storeAt t (a.eval x) (a.eval y)).run P w with
  | ok u w' =>
    rw [hr] at h
    simp only [Result.andThen_ok, Sem.run_pure, Oper.uponIn] at h ⊢
    exact ⟨_, rfl, h⟩
  | halt z w' =>
    rw [hr] at h
    cases z <;> simp [Result.andThen, Oper.uponIn] at h
    have := hQ _ _ _ h; cases this
/-- A region in any order, its first store before or behind what is quiet. -/
theorem late_order (hc : Chain C w0 ops base h0 tm0 L) (hd : lateOk ops = true) (hlen : L.length = firstStore ops.toList) (hs0 : ∀ n b, hget h0 n = some b → n < base ∧ AV.okL base b.cells = true) (ht0 : AV.okL base tm0 = true)
    {Q : Exit → Act → World → Prop} (hQn : ∀ x a w, Q x a w → x = .normal) (hQ : ∀ D ρ a w, (∀ i, i < ops.size → (D i ↔ i < L.length)) → Inv w0 ops base h0 tm0 L ρ0 ws ds D ρ a w → wpOpsIn (fenceR rd) 0 C.P ops Q (List.range' L.length (ops.size - L.length)) a w) :
    ∀ (fuel : Nat) (listed : Array Bool) (ρ : Env) (a : Act) (w : World), listed.size = ops.size → (leftOver ops listed).length ≤ fuel → (∀ i, L.length ≤ i → listed[i]? ≠ some true) → Inv w0 ops base h0 tm0 L ρ0 ws ds (fun i => listed[i]? = some true) ρ a w →
      wpAnyIn (fenceR rd) 0 C.P .any ops Q fuel listed a w := by
  obtain ⟨hb, hk, hspec⟩ := lateOk_spec hd
  have hst : ∀ p, ops[firstStore ops.toList]? = some p → isStore p.op = true := fun p hp => firstStore_is ops.toList p (by simpa using hp)
  have hns : ∀ i p, i < firstStore ops.toList → ops[i]? = some p → isStore p.op = false := fun i p hi hp => firstStore_not ops.toList i p hi (by simpa using hp)
  rw [hlen] at hQ ⊢
  generalize firstStore ops.toList = k at *
  have hlen' : L.length ≤ ops.size := by omega
  have hleft : ∀ listed : Array Bool, listed.size = ops.size → listed[k]? ≠ some true → listed.getD k true = false := fun listed hs hno => by
    have hlt : k < listed.size := by omega
    rw [Array.getElem?_eq_getElem hlt] at hno
    rw [Array.getD_eq_getD_getElem?, Array.getElem?_eq_getElem hlt]
    simpa using hno
  intro fuel
  induction fuel with
  | zero =>
    intro listed ρ a w hs hle hno hI
    exfalso
    have : k ∈ leftOver ops listed := List.mem_filter.2 ⟨List.mem_range.2 hk, by rw [hleft listed hs (hno k (Nat.le_refl _))]; rfl⟩
    have := List.length_pos_of_mem this
    omega
  | succ fuel ih =>
    intro listed ρ a w hs hle hno hI
    refine ⟨fun hr => absurd (ready_nil hb hs hr k hk) (hno k (Nat.le_refl _)), fun i hi => ?_⟩
    obtain ⟨p, hp, hil, hl, hdep⟩ := ready_spec hi
    have hset : ∀ j, (listed.setIfInBounds i true)[j]? = some true ↔ (listed[j]? = some true ∨ j = i) := by
      intro j
      rw [Array.getElem?_setIfInBounds]
      by_cases hji : i = j
      · subst hji; simp [hs, hil]
      · rw [if_neg hji]; simp [Ne.symm hji]
    have hDi : ¬ (listed[i]? = some true) := by
      intro e; rw [Array.getD_eq_getD_getElem?, e] at hl; cases hl
    have hlt := leftOver_lt hil hl hs
    rcases Nat.lt_trichotomy i k with hik | hik | hik
    rotate_left
    · subst hik
      obtain ⟨g1, g2⟩ := (hspec i p hp).2.1 rfl
      let M := (List.range i).filter fun j => !listed.getD j true
      have hM : ∀ j, j ∈ M ↔ (j < i ∧ ¬ (listed[j]? = some true)) := by
        intro j
        show j ∈ (List.range i).filter _ ↔ _
        rw [List.mem_filter, List.mem_range]
        constructor
        · rintro ⟨h1, h2⟩
          exact ⟨h1, fun e => by rw [Array.getD_eq_getD_getElem?, e] at h2; simp at h2⟩
        · rintro ⟨h1, h2⟩
          refine ⟨h1, ?_⟩
          have hlt : j < listed.size := by omega
          rw [Array.getElem?_eq_getElem hlt] at h2
          rw [Array.getD_eq_getD_getElem?, Array.getElem?_eq_getElem hlt]
          simpa using h2
      have hpw : M.Pairwise (· < ·) := List.Pairwise.filter _ List.pairwise_lt_range
      have hanc : ∀ j, j ∈ anc (before ops.toList []) i → listed[j]? = some true := fun j hj => anc_listed (D := fun j => listed[j]? = some true) hI.closed i p hp hdep j hj
      have hq : ∀ j ∈ M, ∀ q, ops[j]? = some q → quietOp q.op = true ∧ q.guard = none ∧ isStore q.op = false ∧ ∀ d ∈ depsOf q, listed[d]? = some true ∨ d ∈ M := by
        intro j hj q hqj
        obtain ⟨m1, m2⟩ := (hM j).1 hj
        have s4 : quietOp q.op = true ∧ q.guard = none := by
          rcases (hspec j q hqj).1 m1 with h | h
          · exact absurd (hanc j h) m2
          · exact h
        refine ⟨s4.1, s4.2, hns j q m1 hqj, fun d hdm => ?_⟩
        by_cases hld : listed[d]? = some true
        · exact .inl hld
        · refine .inr ((hM d).2 ⟨?_, hld⟩)
          have := (baseOk_spec hb hqj).1 d hdm
          omega
      obtain ⟨f, ρ', hrun, hI'⟩ := serial_inv hc hlen' hb hs0 ht0 _ _ ρ a hI (fun j hj => ⟨by rw [hlen]; exact ((hM j).1 hj).1, ((hM j).1 hj).2⟩) hpw hq
      have hops := hQ _ ρ' f w (fun j hj => ⟨fun h => by
        rcases h with h | h
        · rcases Nat.lt_or_ge j i with h1 | h1
          · exact h1
          · exact absurd h (hno j h1)
        · exact ((hM j).1 h).1, fun h => by
        by_cases hlj : listed[j]? = some true
        · exact .inl hlj
        · exact .inr ((hM j).2 ⟨h, hlj⟩)⟩) hI'
      rw [show ops.size - i = (ops.size - (i + 1)) + 1 by omega] at hops
      obtain ⟨w', hx, hrest⟩ := wpOps_store hQn hp (hst p hp) g1 g2 hops
      unfold wpOpIn
      have hw : Region.wanted p (yielded ops a.tmps) = true := by unfold Region.wanted; rw [g1]
      simp only [hp, hw, if_true]
      refine store_mk (hst p hp) (fun x hxm => ?_) hx ?_
      · refine (runQ_keep (fun j hj q t hqj hxt hdt => ?_) hrun).symm
        subst hxt
        obtain ⟨m1, m2⟩ := (hM j).1 hj
        rcases ((baseOk_spec hb hp).2.2.1 j q t hqj hdt).1 (looks_mem hxm) with h | h
        · exact m2 (hanc j h)
        · have := (anc_spec hqj h).1; omega
      · rw [g2]
        have htail : ∀ (j : Nat) (q : Oper), ops[j]? = some q → i + 1 ≤ j → ∀ l, l < j → l ∈ anc (before ops.toList []) j := fun j q hqj hij => (hspec j q hqj).2.2 (by omega)
        refine quiet_any (f := f) (k := i) hb hil (fun j q hqj hij => (hspec j q hqj).2.2 hij) (fun fl ls e1 e2 e3 => tail_serial hb htail (ops.size - (i + 1)) (i + 1) fl ls f w' (by omega) (Nat.le_refl _) e1 e2 e3 hrest) fuel M _ a (by simp [hs]) (fun j hj => ?_) (fun j hj => ((hM j).1 hj).1) hpw ?_ (fun j hj q hqj => ⟨(hq j hj q hqj).1, (hq j hj q hqj).2.1⟩) (fun j q hqj hj d hdm => ?_) hrun
        · rw [hset, hM]
          constructor
          · rintro (h | h)
            · have hji : j < i := by
                rcases Nat.lt_or_ge j i with h1 | h1
                · exact h1
                · exact absurd h (hno j h1)
              exact ⟨by omega, fun h' => h'.2 h⟩
            · exact ⟨by omega, fun h' => by omega⟩
          · rintro ⟨h1, h2⟩
            by_cases hji : j = i
            · exact .inr hji
            · exact .inl (Classical.byContradiction fun h3 => h2 ⟨by omega, h3⟩)
        · have hsplit : (leftOver ops listed).length = M.length + (ops.size - i) := by
            show ((List.range ops.size).filter fun j => !listed.getD j true).length = _
            have e : List.range ops.size = List.range i ++ List.range' i (ops.size - i) := by
              rw [List.range_eq_range', List.range_eq_range', show ops.size = i + (ops.size - i) by omega, ← List.range'_append]
              simp
            rw [e, List.filter_append, List.length_append]
            have h2 : (List.range' i (ops.size - i)).filter (fun j => !listed.getD j true) = List.range' i (ops.size - i) := by
              refine List.filter_eq_self.2 fun j hj => ?_
              rw [List.mem_range'_1] at hj
              have hlt : j < listed.size := by omega
              have := hno j (by omega)
              rw [Array.getElem?_eq_getElem hlt] at this
              rw [Array.getD_eq_getD_getElem?, Array.getElem?_eq_getElem hlt]
              simpa using this
            rw [h2, List.length_range']
          omega
        · rw [hset]
          left
          rcases (hset j).1 hj with h | rfl
          · exact hI.closed j q hqj h d hdm
          · rw [hp] at hqj; cases hqj; exact hdep d hdm
    · exfalso
      exact hno k (Nat.le_refl _) (anc_listed (D := fun j => listed[j]? = some true) hI.closed i p hp hdep k ((hspec i p hp).2.2 hik k hik))
    · have s1 := hns i p hik hp
      have hit : L[i]? = some (L[i]'(by omega)) := List.getElem?_eq_getElem (by omega)
      have hnext : ∀ ρ' a' w', Inv w0 ops base h0 tm0 L ρ0 ws ds (fun j => listed[j]? = some true ∨ j = i) ρ' a' w' → wpAnyIn (fenceR rd) 0 C.P .any ops Q fuel (listed.setIfInBounds i true) a' w' := by
        intro ρ' a' w' hI'
        refine ih _ ρ' a' w' (by simp [hs]) (by omega) (fun j hj e => ?_) ?_
        · rcases (hset j).1 e with h | h
          · exact hno j hj h
          · omega
        · have : (fun j => (listed.setIfInBounds i true)[j]? = some true) = (fun j => listed[j]? = some true ∨ j = i) := funext fun j => propext (hset j)
          rw [this]; exact hI'
      obtain ⟨-, -, -, -, hf⟩ := hc.item i _ p hit hp
      have hg := guard_stands hc hlen' hb hI hp hit hdep hDi
      unfold wpOpIn
      simp only [hp]
      rcases hf with ⟨f1, f2, f3, f4, f5⟩ | ⟨f1, f2, f3, f4, s, o, g1, g2, g3, g4, g5, g6, g7, g8⟩ | ⟨f1, -⟩
      rotate_left 2
      · rw [s1] at f1; cases f1
      · rw [f1 ρ a.tmps hg]
        simp only [Bool.false_eq_true, if_false]
        exact ⟨fun _ _ => trivial, hnext ρ _ w (inv_off hb hI hp hit hdep hDi f2 f3)⟩
      · rw [f1 ρ a.tmps hg]
        simp only [if_true]
        obtain ⟨v, k1, k2, k3, k4, k5⟩ := g8
        rw [g4] at k1
        cases k1
        obtain ⟨ρi, hdi, hRep, hstep⟩ := inv_on hc hlen' hb hs0 ht0 hI hp hit hdep hDi g2 g3 g5 g6 g7
        refine k5 rd ρi a w _ Q (fun x hx => by rw [g1, hdi]; exact operand_stands hc hlen' hb hI hp hit hdep hDi x hx) hRep hI.below fun ρ' w' hr' hp' => ?_
        obtain ⟨ρ2, h2⟩ := hstep ρ' w' hr' hp'
        exact hnext ρ2 _ w' h2
end
section
variable {C : Ctx} {G : World → Prop} {w0 : World} {R : Rec}
theorem firstStore_le : ∀ ops : List Oper, firstStore ops ≤ ops.length
  | [] => Nat.le_refl _
  | o :: ops => by
    unfold firstStore
    split
    · exact Nat.zero_le _
    · have := firstStore_le ops
      simp; omega
/-- A region that draws its order, but for what comes last. -/
theorem tailFrom_spec (T : List (List Nat)) : ∀ m, tailFrom T m ≤ m ∧ ∀ i, tailFrom T m ≤ i → i < m → (T.getD i []).length = i
  | 0 => ⟨Nat.le_refl _, fun i _ h => by omega⟩
  | m + 1 => by
    unfold tailFrom
    split
    · rename_i h
      have h := Nat.eq_of_beq_eq_true h
      obtain ⟨a, b⟩ := tailFrom_spec T m
      refine ⟨by omega, fun i h1 h2 => ?_⟩
      rcases Nat.lt_or_ge i m with h3 | h3
      · exact b i h1 h3
      · have : i = m := by omega
        subst this; exact h
    · exact ⟨Nat.le_refl _, fun i h1 h2 => by omega⟩
theorem splitOf_spec {ops : Array Oper} (h : drawOk ops = true) : splitOf ops ≤ firstStore ops.toList ∧ ∀ (i : Nat) (p : Oper), ops[i]? = some p → splitOf ops ≤ i → ∀ j, j < i → j ∈ anc (before ops.toList []) i := by
  have hl : lastOk ops = true := by unfold drawOk at h; simp only [Bool.and_eq_true] at h; exact h.2
  unfold splitOf
  rw [hl]
  obtain ⟨a, b⟩ := tailFrom_spec (before ops.toList []) (firstStore ops.toList)
  refine ⟨a, fun i p hp hi => ?_⟩
  rcases Nat.lt_or_ge i (firstStore ops.toList) with h1 | h1
  · exact anc_full hp (b i hi h1)
  · exact drawOk_last h hp h1
theorem region_ok (hg : Good C G) {id : Nat} {f : FuncId} {ops : Array Oper} {s : St} {o2 : Out} (hd : drawOk ops = true) (hk : StOK s)
    (h2' : goTail R f ops (splitOf ops) (R (.draw f ops (ops.toList.take (splitOf ops)) s.nxt [] []) s) = some o2) (hl : Holds C G o2.log)
    (hdraw : ∀ o, R (.draw f ops (ops.toList.take (splitOf ops)) s.nxt [] []) s = some o → Holds C G o.log → DrawOK C w0 ops (ops.toList.take (splitOf ops)) s.nxt [] [] s o)
    (htail : ∀ s o, R (.ops f ops (ops.toList.drop (splitOf ops))) s = some o → Holds C G o.log → StOK s → OpsOK C w0 ops (ops.toList.drop (splitOf ops)) s o) : CodeOK C w0 (.region id ops true) s o2 := by
  obtain ⟨hle0, hser⟩ := splitOf_spec hd
  have hfs : splitOf ops ≤ ops.size := Nat.le_trans hle0 (by simpa using firstStore_le ops.toList)
  generalize hm : splitOf ops = m at *
  unfold goTail at h2'
  split at h2'
  rotate_left
  · cases h2'
  rename_i s1 l1 c1 k1 hrun
  obtain ⟨o3, hr3, rfl⟩ := behind_eq h2'
  have h := hdraw _ hrun hl.left
  generalize ho : (⟨.normal, s1, l1, ⟨c1, k1⟩⟩ : Out) = o at h
  obtain ⟨L, h1, h2, h3, h4, h5, h6, h7, h8⟩ := h m [] s.tmps hfs rfl rfl rfl rfl rfl (Nat.le_refl _) ⟨fun i it p hi => by simp at hi, fun i it p hi => by simp at hi⟩ (Nat.zero_le _)
  have hs1 : s1 = o.st := by rw [← ho]
  have hl1 : l1 = o.low := by rw [← ho]
  subst hs1
  subst hl1
  obtain ⟨b1, b2, b3, b4⟩ := htail _ _ hr3 hl.right h7
  have hfr := h8.2
  replace h8 := h8.1
  refine ⟨by rw [b1]; rfl, b2, ⟨Nat.le_trans h8 b3.1, by rw [b3.2, hfr]⟩, fun ρ w Q hr hb he => ?_⟩
  unfold fenceOf
  have hs0 : ∀ n b, hget s.heap n = some b → n < s.nxt ∧ AV.okL s.nxt b.cells = true := hr.scope
  refine wpIn_region_any hg.mixed ?_
  have hI0 : Inv w0 ops s.nxt s.heap s.tmps L ρ w (act ρ s.res.fr s.tmps).defers (fun i => (Array.replicate ops.size false)[i]? = some true) ρ (act ρ s.res.fr s.tmps) { w with drawn := w.drawn + 1 } := by
    have hno : ∀ i, ¬ ((Array.replicate ops.size false)[i]? = some true) := fun i e => by
      rw [Array.getElem?_replicate] at e; split at e <;> simp at e
    have hth : ∀ n b, There s.heap L (fun i => (Array.replicate ops.size false)[i]? = some true) n b → hget s.heap n = some b := fun n b h => by
      rcases h with h | ⟨j, it, hj, -⟩
      · exact h
      · exact absurd hj (hno j)
    exact ⟨fun i p _ hi => absurd hi (hno i), rfl, by simp [act, denL_length], fun j it p t hj => absurd hj (hno j), fun t _ => by simp [act], fun n b hn => (hr.block n b (hth n b hn)).keep (fun k hk hf => ⟨rfl, hf.1, fun n b hn hm => hf.2 n b (hth n b hn) hm⟩) rfl rfl fun _ => rfl, fun n m b c hn hm => hr.inj n m b c (hth n b hn) (hth m c hm),
      fun n b hn => hr.above n b (hth n b hn), fun j it n b hj => absurd hj (hno j), ⟨rfl, rfl⟩, hr.base, fun n b hn => hr.reach n b (hth n b hn), fun n _ => ⟨rfl, rfl⟩, rfl, rfl, rfl, Nat.le_refl _, fun k _ => rfl, hb.drew⟩
  refine any_order (ρ0 := ρ) (ws := w) h2 (by omega) hd (fun i p hp hi => hser i p hp (by omega)) (fun i p hi hp => firstStore_not ops.toList i p (by omega) (by simpa using hp)) hs0 hk.1 ?_ ops.size _ ρ _ _ (by simp) (by unfold leftOver; exact Nat.le_trans (List.length_filter_le _ _) (by simp)) (fun i _ e => by
    rw [Array.getElem?_replicate] at e; split at e <;> simp at e) hI0
  intro D ρ' a w' hD hI
  -- all is done that may come in any order
  have hD' : ∀ i, i < m → D i := fun i hi => (hD i (by omega)).2 (by omega)
  have hDm : ∀ i p, ops[i]? = some p → D i → i < m := fun i p hp hDi => by
    have hi : i < ops.size := by
      rcases Nat.lt_or_ge i ops.size with h | h
      · exact h
      · simp [Array.getElem?_eq_none h] at hp
    have := (hD i hi).1 hDi
    omega
  rw [h1]
  have hle : s.nxt ≤ nxAt s.nxt L m := by rw [← h6]; exact h8
  have hth : ∀ n b, hget o.st.heap n = some b → There s.heap L D n b := by
    intro n b hn
    rw [h5, hget_append] at hn
    cases hm : hget (L.map Item.made).flatten n with
    | some c =>
      rw [hm] at hn; cases hn
      obtain ⟨j, hh, hj, hb⟩ := flatten_get' hm
      rw [List.getElem?_map] at hj
      cases hjt : L[j]? with
      | none => rw [hjt] at hj; cases hj
      | some jt =>
        rw [hjt] at hj
        simp only [Option.map_some, Option.some.injEq] at hj
        subst hj
        exact .inr ⟨j, jt, hD' j (by have := (List.getElem?_eq_some_iff.1 hjt).1; omega), hjt, hb⟩
    | none => rw [hm] at hn; exact .inl hn
  have hσ : ∀ n, n < s.nxt → ρ'.σ n = ρ.σ n := fun n hn => (hI.agree n (.inl hn)).1
  have ha : a = act ρ' o.st.res.fr o.st.tmps := by
    obtain ⟨tmps, defers⟩ := a
    have hdf := hI.defers
    simp only [act] at hdf
    subst hdf
    rw [hfr]
    unfold act
    rw [marks_eq hσ hk.2]
    congr 1
    rw [h4]
    apply Array.ext'
    apply List.ext_getElem?
    intro t
    rw [Array.getElem?_toList]
    by_cases hex : ∃ (j : Nat) (q : Oper), j < m ∧ ops[j]? = some q ∧ q.dst = some t
    · obtain ⟨j, q, hj, hq, hdq⟩ := hex
      have hjt : L[j]? = some L[j] := List.getElem?_eq_getElem (by omega)
      rcases Nat.lt_or_ge t s.tmps.length with hlt | hge
      · have e1 := hI.put j _ q t (hD' j hj) hjt hq hdq hlt
        simp only at e1
        rw [e1, denL_map, List.getElem?_map, tmAt_put hjt hq hdq hlt (fun k r hk hr hdr => ((baseOk_spec (drawOk_base hd) hr).2.2.1 j q t hq hdq).2 hk hdr) hj]
        rfl
      · have hsz := hI.size
        simp only at hsz
        rw [Array.getElem?_eq_none (by omega), denL_map, List.getElem?_map, List.getElem?_eq_none (by rw [tmAt_length]; exact hge)]; rfl
    · have hno : ∀ (j : Nat) (q : Oper), j < m → ops[j]? = some q → q.dst ≠ some t := fun j q hj hq hdq => hex ⟨j, q, hj, hq, hdq⟩
      have e1 := hI.left t (fun j q hDj hq => hno j q (hDm j q hq hDj) hq)
      simp only at e1
      rw [e1, denL_map, denL_map, List.getElem?_map, List.getElem?_map, tmAt_keep (fun j q hj hq => hno j q hj hq)]
  have hmade : ∀ n b, hget o.st.heap n = some b → ¬ hget s.heap n = some b → s.nxt ≤ n ∧ n < o.st.nxt ∧ AV.okL o.st.nxt b.cells = true ∧ (b.mem = true → w.heap.size ≤ ρ'.σ n) := by
    intro n b hn hne
    rcases hth n b hn with h | ⟨j, jt, hDj, hjt, hb⟩
    · exact absurd h hne
    · obtain ⟨m1, m2, m3, m4⟩ := hI.made j jt n b hDj hjt hb
      have := base_le h2 (by omega) hjt
      rw [h1] at this
      rw [h6]
      exact ⟨by omega, by omega, okL_mono (by omega) _ m3, m4⟩
  rw [ha]
  have hRep : Rep w0.heap.size ρ' o.st.heap o.st.nxt w' := by
    refine ⟨fun n b hn => (hI.block n b (hth n b hn)).keep (Keep.wide fun k hk hf => ⟨hf.1, fun n b hn hm => hf.2 n b (hth n b hn) hm⟩) rfl rfl fun _ => rfl, fun n m b c hn hm => hI.inj n m b c (hth n b hn) (hth m c hm), fun n b hn => ?_, fun n b hn => hI.above n b (hth n b hn), by rw [hI.area.2]; exact Nat.le_trans hI.ground hI.wsize, fun n b hn => hI.reach n b (hth n b hn)⟩
    by_cases hne : hget s.heap n = some b
    · obtain ⟨q1, q2⟩ := hs0 n b hne
      exact ⟨by rw [h6]; omega, okL_mono (by rw [h6]; exact hle) _ q2⟩
    · obtain ⟨-, q1, q2, -⟩ := hmade n b hn hne
      exact ⟨q1, q2⟩
  have hPost : Post ρ ρ' s.heap o.st.heap s.nxt o.st.nxt o.low w w' := by
    refine ⟨fun n hn => hI.agree n (by rw [h1, ← h6]; exact hn), hI.area, h8, hI.os, hI.tape, hI.output, hI.wsize, fun k hk _ => hI.frame k hk, fun n b hn hbm => ?_, fun n hl hx => ?_⟩
    · by_cases hne : hget s.heap n = some b
      · exact .inl ⟨n, b, hne, hbm, (hI.agree n (.inl (hs0 n b hne).1)).1, .inl rfl⟩
      · exact .inr ((hmade n b hn hne).2.2.2 hbm)
    · rw [h5, hget_append]
      cases hm : hget (L.map Item.made).flatten n with
      | none => rfl
      | some c =>
        obtain ⟨j, hh, hj, hb⟩ := flatten_get' hm
        rw [List.getElem?_map] at hj
        cases hjt : L[j]? with
        | none => rw [hjt] at hj; cases hj
        | some jt =>
          rw [hjt] at hj
          simp only [Option.map_some, Option.some.injEq] at hj
          subst hj
          have hjl := (List.getElem?_eq_some_iff.1 hjt).1
          obtain ⟨m1, -⟩ := hI.made j jt n c (hD' j (by omega)) hjt hb
          have := base_le h2 (by omega) hjt
          omega
  simp only [b1] at he
  have b4' := fun Q => b4 m rfl ρ' w' Q
  have hfe := fence_eq (ρ := ρ) (ρ1 := ρ') hσ hk.2 (show o.st.res.fr.rnd = s.res.fr.rnd by rw [hfr])
  rw [hfe] at b4'
  exact b4' Q hRep (below_of_post hr hPost hb) (he.trans (x := .normal) (l := ⟨c1 ++ o3.log.conds, k1 ++ o3.log.calls⟩) hr hRep hPost)
/-- A region that draws its order, its first store before or behind what is quiet. -/
theorem region_late (hg : Good C G) {id : Nat} {f : FuncId} {ops : Array Oper} {s : St} {o2 : Out} (hd : lateOk ops = true) (hk : StOK s)
    (h2' : goTail R f ops (firstStore ops.toList) (R (.draw f ops (ops.toList.take (firstStore ops.toList)) s.nxt [] []) s) = some o2) (hl : Holds C G o2.log)
    (hdraw : ∀ o, R (.draw f ops (ops.toList.take (firstStore ops.toList)) s.nxt [] []) s = some o → Holds C G o.log → DrawOK C w0 ops (ops.toList.take (firstStore ops.toList)) s.nxt [] [] s o)
    (htail : ∀ s o, R (.ops f ops (ops.toList.drop (firstStore ops.toList))) s = some o → Holds C G o.log → StOK s → OpsOK C w0 ops (ops.toList.drop (firstStore ops.toList)) s o) : CodeOK C w0 (.region id ops true) s o2 := by
  have hfs : firstStore ops.toList ≤ ops.size := by simpa using firstStore_le ops.toList
  generalize hm : firstStore ops.toList = m at *
  unfold goTail at h2'
  split at h2'
  rotate_left
  · cases h2'
  rename_i s1 l1 c1 k1 hrun
  obtain ⟨o3, hr3, rfl⟩ := behind_eq h2'
  have h := hdraw _ hrun hl.left
  generalize ho : (⟨.normal, s1, l1, ⟨c1, k1⟩⟩ : Out) = o at h
  obtain ⟨L, h1, h2, h3, h4, h5, h6, h7, h8⟩ := h m [] s.tmps hfs rfl rfl rfl rfl rfl (Nat.le_refl _) ⟨fun i it p hi => by simp at hi, fun i it p hi => by simp at hi⟩ (Nat.zero_le _)
  have hs1 : s1 = o.st := by rw [← ho]
  have hl1 : l1 = o.low := by rw [← ho]
  subst hs1
  subst hl1
  obtain ⟨b1, b2, b3, b4⟩ := htail _ _ hr3 hl.right h7
  have hfr := h8.2
  replace h8 := h8.1
  refine ⟨by rw [b1]; rfl, b2, ⟨Nat.le_trans h8 b3.1, by rw [b3.2, hfr]⟩, fun ρ w Q hr hb he => ?_⟩
  unfold fenceOf
  have hs0 : ∀ n b, hget s.heap n = some b → n < s.nxt ∧ AV.okL s.nxt b.cells = true := hr.scope
  refine wpIn_mono (Q := fun x a w => x = .normal ∧ Q x a w) ?_ (fun _ _ _ h => h.2)
  refine wpIn_region_any hg.mixed ?_
  have hI0 : Inv w0 ops s.nxt s.heap s.tmps L ρ w (act ρ s.res.fr s.tmps).defers (fun i => (Array.replicate ops.size false)[i]? = some true) ρ (act ρ s.res.fr s.tmps) { w with drawn := w.drawn + 1 } := by
    have hno : ∀ i, ¬ ((Array.replicate ops.size false)[i]? = some true) := fun i e => by
      rw [Array.getElem?_replicate] at e; split at e <;> simp at e
    have hth : ∀ n b, There s.heap L (fun i => (Array.replicate ops.size false)[i]? = some true) n b → hget s.heap n = some b := fun n b h => by
      rcases h with h | ⟨j, it, hj, -⟩
      · exact h
      · exact absurd hj (hno j)
    exact ⟨fun i p _ hi => absurd hi (hno i), rfl, by simp [act, denL_length], fun j it p t hj => absurd hj (hno j), fun t _ => by simp [act], fun n b hn => (hr.block n b (hth n b hn)).keep (fun k hk hf => ⟨rfl, hf.1, fun n b hn hm => hf.2 n b (hth n b hn) hm⟩) rfl rfl fun _ => rfl, fun n m b c hn hm => hr.inj n m b c (hth n b hn) (hth m c hm),
      fun n b hn => hr.above n b (hth n b hn), fun j it n b hj => absurd hj (hno j), ⟨rfl, rfl⟩, hr.base, fun n b hn => hr.reach n b (hth n b hn), fun n _ => ⟨rfl, rfl⟩, rfl, rfl, rfl, Nat.le_refl _, fun k _ => rfl, hb.drew⟩
  refine late_order (ρ0 := ρ) (ws := w) h2 hd (by omega) hs0 hk.1 (fun _ _ _ h => h.1) ?_ ops.size _ ρ _ _ (by simp) (by unfold leftOver; exact Nat.le_trans (List.length_filter_le _ _) (by simp)) (fun i _ e => by
    rw [Array.getElem?_replicate] at e; split at e <;> simp at e) hI0
  intro D ρ' a w' hD hI
  -- all is done that may come in any order
  have hD' : ∀ i, i < m → D i := fun i hi => (hD i (by omega)).2 (by omega)
  have hDm : ∀ i p, ops[i]? = some p → D i → i < m := fun i p hp hDi => by
    have hi : i < ops.size := by
      rcases Nat.lt_or_ge i ops.size with h | h
      · exact h
      · simp [Array.getElem?_eq_none h] at hp
    have := (hD i hi).1 hDi
    omega
  rw [h1]
  have hle : s.nxt ≤ nxAt s.nxt L m := by rw [← h6]; exact h8
  have hth : ∀ n b, hget o.st.heap n = some b → There s.heap L D n b := by
    intro n b hn
    rw [h5, hget_append] at hn
    cases hm : hget (L.map Item.made).flatten n with
    | some c =>
      rw [hm] at hn; cases hn
      obtain ⟨j, hh, hj, hb⟩ := flatten_get' hm
      rw [List.getElem?_map] at hj
      cases hjt : L[j]? with
      | none => rw [hjt] at hj; cases hj
      | some jt =>
        rw [hjt] at hj
        simp only [Option.map_some, Option.some.injEq] at hj
        subst hj
        exact .inr ⟨j, jt, hD' j (by have := (List.getElem?_eq_some_iff.1 hjt).1; omega), hjt, hb⟩
    | none => rw [hm] at hn; exact .inl hn
  have hσ : ∀ n, n < s.nxt → ρ'.σ n = ρ.σ n := fun n hn => (hI.agree n (.inl hn)).1
  have ha : a = act ρ' o.st.res.fr o.st.tmps := by
    obtain ⟨tmps, defers⟩ := a
    have hdf := hI.defers
    simp only [act] at hdf
    subst hdf
    rw [hfr]
    unfold act
    rw [marks_eq hσ hk.2]
    congr 1
    rw [h4]
    apply Array.ext'
    apply List.ext_getElem?
    intro t
    rw [Array.getElem?_toList]
    by_cases hex : ∃ (j : Nat) (q : Oper), j < m ∧ ops[j]? = some q ∧ q.dst = some t
    · obtain ⟨j, q, hj, hq, hdq⟩ := hex
      have hjt : L[j]? = some L[j] := List.getElem?_eq_getElem (by omega)
      rcases Nat.lt_or_ge t s.tmps.length with hlt | hge
      · have e1 := hI.put j _ q t (hD' j hj) hjt hq hdq hlt
        simp only at e1
        rw [e1, denL_map, List.getElem?_map, tmAt_put hjt hq hdq hlt (fun k r hk hr hdr => ((baseOk_spec (lateOk_spec hd).1 hr).2.2.1 j q t hq hdq).2 hk hdr) hj]
        rfl
      · have hsz := hI.size
        simp only at hsz
        rw [Array.getElem?_eq_none (by omega), denL_map, List.getElem?_map, List.getElem?_eq_none (by rw [tmAt_length]; exact hge)]; rfl
    · have hno : ∀ (j : Nat) (q : Oper), j < m → ops[j]? = some q → q.dst ≠ some t := fun j q hj hq hdq => hex ⟨j, q, hj, hq, hdq⟩
      have e1 := hI.left t (fun j q hDj hq => hno j q (hDm j q hq hDj) hq)
      simp only at e1
      rw [e1, denL_map, denL_map, List.getElem?_map, List.getElem?_map, tmAt_keep (fun j q hj hq => hno j q hj hq)]
  have hmade : ∀ n b, hget o.st.heap n = some b → ¬ hget s.heap n = some b → s.nxt ≤ n ∧ n < o.st.nxt ∧ AV.okL o.st.nxt b.cells = true ∧ (b.mem = true → w.heap.size ≤ ρ'.σ n) := by
    intro n b hn hne
    rcases hth n b hn with h | ⟨j, jt, hDj, hjt, hb⟩
    · exact absurd h hne
    · obtain ⟨m1, m2, m3, m4⟩ := hI.made j jt n b hDj hjt hb
      have := base_le h2 (by omega) hjt
      rw [h1] at this
      rw [h6]
      exact ⟨by omega, by omega, okL_mono (by omega) _ m3, m4⟩
  rw [ha]
  have hRep : Rep w0.heap.size ρ' o.st.heap o.st.nxt w' := by
    refine ⟨fun n b hn => (hI.block n b (hth n b hn)).keep (Keep.wide fun k hk hf => ⟨hf.1, fun n b hn hm => hf.2 n b (hth n b hn) hm⟩) rfl rfl fun _ => rfl, fun n m b c hn hm => hI.inj n m b c (hth n b hn) (hth m c hm), fun n b hn => ?_, fun n b hn => hI.above n b (hth n b hn), by rw [hI.area.2]; exact Nat.le_trans hI.ground hI.wsize, fun n b hn => hI.reach n b (hth n b hn)⟩
    by_cases hne : hget s.heap n = some b
    · obtain ⟨q1, q2⟩ := hs0 n b hne
      exact ⟨by rw [h6]; omega, okL_mono (by rw [h6]; exact hle) _ q2⟩
    · obtain ⟨-, q1, q2, -⟩ := hmade n b hn hne
      exact ⟨q1, q2⟩
  have hPost : Post ρ ρ' s.heap o.st.heap s.nxt o.st.nxt o.low w w' := by
    refine ⟨fun n hn => hI.agree n (by rw [h1, ← h6]; exact hn), hI.area, h8, hI.os, hI.tape, hI.output, hI.wsize, fun k hk _ => hI.frame k hk, fun n b hn hbm => ?_, fun n hl hx => ?_⟩
    · by_cases hne : hget s.heap n = some b
      · exact .inl ⟨n, b, hne, hbm, (hI.agree n (.inl (hs0 n b hne).1)).1, .inl rfl⟩
      · exact .inr ((hmade n b hn hne).2.2.2 hbm)
    · rw [h5, hget_append]
      cases hm : hget (L.map Item.made).flatten n with
      | none => rfl
      | some c =>
        obtain ⟨j, hh, hj, hb⟩ := flatten_get' hm
        rw [List.getElem?_map] at hj
        cases hjt : L[j]? with
        | none => rw [hjt] at hj; cases hj
        | some jt =>
          rw [hjt] at hj
          simp only [Option.map_some, Option.some.injEq] at hj
          subst hj
          have hjl := (List.getElem?_eq_some_iff.1 hjt).1
          obtain ⟨m1, -⟩ := hI.made j jt n c (hD' j (by omega)) hjt hb
          have := base_le h2 (by omega) hjt
          omega
  simp only [b1] at he
  have b4' := fun Q => b4 m rfl ρ' w' Q
  have he2 := he.trans (x := .normal) (l := ⟨c1 ++ o3.log.conds, k1 ++ o3.log.calls⟩) hr hRep hPost
  have hfe := fence_eq (ρ := ρ) (ρ1 := ρ') hσ hk.2 (show o.st.res.fr.rnd = s.res.fr.rnd by rw [hfr])
  rw [hfe] at b4'
  exact b4' _ hRep (below_of_post hr hPost hb) (fun ρ2 w2 r2 p2 => ⟨rfl, he2 ρ2 w2 r2 p2⟩)
/-- What each job's run says. -/
def JobOK (C : Ctx) (w0 : World) (n : Nat) (s : St) (o : Out) : Job → Prop
  | .code _ c => okCode c = true → StOK s → CodeOK C w0 c s o
  | .loop _ c => okCode c = true → StOK s → LoopOK C w0 n c s o
  | .ops _ ops todo => StOK s → OpsOK C w0 ops todo s o
  | .draw _ ops todo base seen acc => StOK s → DrawOK C w0 ops todo base seen acc s o
  | .op _ p => StOK s → OpOK C w0 p s o
  | .enter g vs => EnterOK C w0 g vs s o
/-- What the contracted functions are: functions with a body. -/
structure Good' (C : Ctx) (G : World → Prop) : Prop extends Good C G where
  con : ∀ g, C.con g = true → ∃ fn, C.P.funcs[g]? = some fn ∧ fn.body.isSome = true
theorem sound (hg : Good' C G) (hw0 : G w0) : ∀ (n : Nat) (j : Job) (s : St) (o : Out), run C n j s = some o → Holds C G o.log → JobOK C w0 n s o j := by
  intro n
  induction n with
  | zero => intro j s o h; simp [run] at h
  | succ n ih =>
    intro j s o h hl
    simp only [run] at h
    have hbody : ∀ g vs s o, run C n (.enter g vs) s = some o → ∃ fn, C.P.funcs[g]? = some fn ∧ fn.body.isSome = true := by
      intro g vs s o h
      cases n with
      | zero => simp [run] at h
      | succ n =>
        simp only [run, step] at h
        split at h
        · rename_i hcon; exact hg.con g hcon
        · unfold goEnter at h
          obtain ⟨tm, hh, nx, ora, rs⟩ := s
          simp only at h
          split at h
          · rename_i fn _ hfn
            rw [listGet_eq, Array.getElem?_toList] at hfn
            split at h
            · rename_i c hb _; exact ⟨fn, hfn, by rw [hb]; rfl⟩
            · cases h
          · cases h
    cases j with
    | code f c =>
      intro hok hk
      simp only [step] at h
      cases c with
      | skip => exact skip_ok h rfl hk (fun F Q a w hq => wpIn_skip hq)
      | seq a b =>
        simp only [okCode, Bool.and_eq_true] at hok
        exact seq_ok h hl (fun s o h1 h2 h3 => ih (.code f a) s o h1 h2 hok.1 h3) (fun s o h1 h2 h3 => ih (.code f b) s o h1 h2 hok.2 h3) hk
      | cond c x y =>
        simp only [okCode, Bool.and_eq_true] at hok
        exact cond_ok h hl (fun s o h1 h2 h3 => ih (.code f x) s o h1 h2 hok.1 h3) (fun s o h1 h2 h3 => ih (.code f y) s o h1 h2 hok.2 h3) hk
      | block id c =>
        simp only [okCode] at hok
        exact block_ok h hl (fun s o h1 h2 h3 => ih (.code f c) s o h1 h2 hok h3) hk
      | loop c =>
        simp only [okCode] at hok
        obtain ⟨tm, hh, nx, ora, rs⟩ := s
        simp only [goCode] at h
        split at h
        · split at h
          · split at h
            · simp only [Option.some.injEq] at h
              subst h
              exact hl.2 _ List.mem_cons_self w0 hw0 hk
            · simp only [Option.some.injEq] at h
              subst h
              exact hl.2 _ List.mem_cons_self w0 hw0 hk
          · cases h
        · obtain ⟨a1, a2, a3, a4⟩ := ih (.loop f c) _ o h hl hok hk
          exact ⟨a1, a2, a3, fun ρ w Q hr hb he => wpIn_loop_rounds n (a4 ρ w Q hr hb he)⟩
      | exit id => exact skip_ok h rfl hk (fun F Q a w hq => wpIn_exit hq)
      | ret => exact skip_ok h rfl hk (fun F Q a w hq => wpIn_ret hq)
      | region id ops draw =>
        cases draw with
        | false =>
          obtain ⟨a1, a2, a3, a4⟩ := ih (.ops f ops ops.toList) s o h hl hk
          refine ⟨by rw [a1]; rfl, a2, ⟨a3.1, by rw [a3.2]⟩, fun ρ w Q hr hb he => wpIn_region ?_⟩
          have := a4 0 rfl ρ w Q hr hb (by rw [a1] at he; exact he)
          rw [Nat.sub_zero, ← List.range_eq_range'] at this
          exact this
        | true =>
          simp only [okCode] at hok
          simp only [Bool.or_eq_true] at hok
          simp only [goCode] at h
          cases hlast : lastOk ops with
          | true =>
            have hdr : drawOk ops = true := by
              rcases hok with hok | hok
              · exact hok
              · unfold drawOk
                rw [(lateOk_spec hok).1, hlast]; rfl
            exact region_ok hg.toGood hdr hk h hl (fun o h1 h2 => ih (.draw f ops _ s.nxt [] []) s o h1 h2 hk) (fun s o h1 h2 h3 => ih (.ops f ops _) s o h1 h2 h3)
          | false =>
            have hla : lateOk ops = true := by
              rcases hok with hok | hok
              · unfold drawOk at hok; rw [hlast] at hok; simp at hok
              · exact hok
            have hsp : splitOf ops = firstStore ops.toList := by unfold splitOf; rw [hlast]
            rw [hsp] at h
            exact region_late hg.toGood hla hk h hl (fun o h1 h2 => ih (.draw f ops _ s.nxt [] []) s o h1 h2 hk) (fun s o h1 h2 h3 => ih (.ops f ops _) s o h1 h2 h3)
      | rangeFunc g ps a b =>
        simp only [okCode, Bool.and_eq_true] at hok
        simp only [goCode] at h
        exact range_ok hg.toGood h hl (fun g vs s o h1 h2 => ih (.enter g vs) s o h1 h2) hok.1 hok.2 hk
      | scope b => simp [goCode] at h
      | label l => simp [goCode] at h
      | goto l => simp [goCode] at h
      | refuse w => simp [goCode] at h
    | loop f c =>
      intro hok hk
      simp only [step] at h
      exact loop_ok h hl (fun s o h1 h2 h3 => ih (.code f c) s o h1 h2 hok h3) (fun s o h1 h2 h3 => ih (.loop f c) s o h1 h2 hok h3) hk
    | ops f ops todo =>
      intro hk
      simp only [step] at h
      exact ops_ok h hl (fun p s o h1 h2 h3 => ih (.op f p) s o h1 h2 h3) (fun todo s o h1 h2 h3 => ih (.ops f ops todo) s o h1 h2 h3) hk
    | draw f ops todo base seen acc =>
      intro hk
      simp only [step] at h
      exact draw_ok h hl (fun p s o h1 h2 h3 => ih (.op f p) s o h1 h2 h3) (fun todo seen acc s o h1 h2 h3 => ih (.draw f ops todo base seen acc) s o h1 h2 h3) hk
    | op f p =>
      intro hk
      simp only [step, goOp] at h
      split at h
      · rename_i r hbig
        exact goBig_ok hbig h hl
      simp only [goSmall] at h
      split at h
      · rename_i c x y hc
        exact pick_ok hg.toGood hc hw0 h hl
      · rename_i c hc
        split at h
        · split at h
          · rename_i l args hy
            exact yield_ok hc hy h hl (fun f c s o h1 h2 h3 h4 => ih (.code f c) s o h1 h2 h3 h4) hk
          · exact call_ok hg.toGood hc h hl (fun g vs s o h1 h2 => ih (.enter g vs) s o h1 h2) hbody
        · exact plain_ok hg.toGood hw0 h
      · split at h
        · exact div_ok hg.toGood hw0 h hl
        · exact div_ok hg.toGood hw0 h hl
        · exact plain_ok hg.toGood hw0 h
      · exact plain_ok hg.toGood hw0 h
    | enter g vs =>
      simp only [step] at h
      split at h
      · exact contract_ok hg.toGood hw0 h hl
      · exact enter_ok hg.toGood hw0 h hl (fun c s o h1 h2 h3 h4 => ih (.code g c) s o h1 h2 h3 h4)
/-- THE THEOREM: a run from values in depth that ends with one is a contract of the function. -/
theorem calls {C : Ctx} {G : World → Prop} (hg : Good' C G) {n : Nat} {g : FuncId} {ds : List D} {ora : List Bool} {res : List D} {o : Out} {v : AV} {r : D} {drops : List Nat} {c : List (Bool × Bool)}
    (h : run C n (.enter g (avOfL 0 ds).1) ⟨[], (avOfL 0 ds).2.1, (avOfL 0 ds).2.2, ora, ⟨res, noFrame⟩⟩ = some o) (hx : o.x = .val v) (hr : dOf o.st.heap v = some ⟨r, drops, c⟩) (hc : ∀ p ∈ c, p.1 = p.2) (hl : Holds C G o.log) : CallOK C G g ds r := by
  intro w A vs hw hds
  obtain ⟨v', a1, a2, a3, a4⟩ := sound (w0 := w) hg hw n _ _ _ h hl
  rw [hx] at a1
  cases a1
  have hr0 : Rep w.heap.size ⟨fun _ => 0, fun _ => ⟨0, noVal, noDV⟩, A, w.heap.size⟩ [] 0 w := ⟨fun n b hn => by simp [hget] at hn, fun n m b c hn => by simp [hget] at hn, fun n b hn => by simp [hget] at hn, fun n b hn => by simp [hget] at hn, Nat.le_refl _, fun n b hn => by simp [hget] at hn⟩
  obtain ⟨ρ1, e1, r1, p1⟩ := avOfL_ok ds hr0 (RpL.keep (Keep.wide fun k _ hk => ⟨.inl hk, fun n b hn => by simp [hget] at hn⟩) ds hds)
  rw [List.append_nil] at r1 p1
  have := a4 _ w r1 (Below.refl _ _)
  rw [e1] at this
  refine this.mono fun e w' ⟨ρ', he, hr', hp⟩ => ⟨_, he, ?_, hp.below r1 (Nat.le_refl _)⟩
  refine Rp.keep (Keep.wide fun k _ hf => ?_) _ (dOf_ok hr' hr hc)
  have := hf.1
  rw [hp.area.1, hp.area.2, p1.area.1, p1.area.2] at this
  exact this
end
end Go.Ev
/- Running the program's functions on values that are known in part: contracts out of runs. -/
namespace Go.Ev
open Go.RowKit
noncomputable section
/-- What a run ends with, in depth; what it has asked for. -/
def okOut : Option Out → Option (D × List (Bool × Bool) × List Ask)
  | some o => match o.x with
    | .val v => match dOf o.st.heap v with
      | some ⟨r, _, c⟩ => some (r, o.log.conds ++ c, o.log.calls)
      | none => none
    | _ => none
  | none => none
def hasN (xs : List Nat) (n : Nat) : Bool := match xs with
  | [] => false
  | x :: xs => match Nat.beq x n with
    | true => true
    | false => hasN xs n
theorem hasN_mem : ∀ (K : List Nat) {g : Nat}, hasN K g = true → g ∈ K
  | [], g, h => by cases h
  | x :: xs, g, h => by
    unfold hasN at h
    split at h
    · rename_i e
      rw [Nat.eq_of_beq_eq_true e]; exact List.mem_cons_self
    · exact List.mem_cons_of_mem _ (hasN_mem xs h)
def hasP (xs : List (Nat × Nat)) (f t : Nat) : Bool := match xs with
  | [] => false
  | x :: xs => match Nat.beq x.1 f && Nat.beq x.2 t with
    | true => true
    | false => hasP xs f t
def tabOf (T : List (List Value)) (g o : Nat) : Option Value := match listGet T g with
  | some l => listGet l o
  | none => none
def allC : List (Bool × Bool) → Prop
  | [] => True
  | p :: ps => p.1 = p.2 ∧ allC ps
theorem allC_mem : ∀ {l : List (Bool × Bool)}, allC l → ∀ p ∈ l, p.1 = p.2
  | [], _, p, h => by cases h
  | q :: l, hq, p, h => by
    rcases List.mem_cons.1 h with rfl | h
    · exact hq.1
    · exact allC_mem hq.2 p h
theorem calls3 {C : Ctx} {G : World → Prop} (hg : Good' C G) {n : Nat} {g : FuncId} {ds : List D} {ora : List Bool} {res : List D} {r : D} {conds : List (Bool × Bool)} {cls : List Ask}
    (h : okOut (run C n (.enter g (avOfL 0 ds).1) ⟨[], (avOfL 0 ds).2.1, (avOfL 0 ds).2.2, ora, ⟨res, noFrame⟩⟩) = some (r, conds, cls)) (hc : allC conds) (hk : ∀ q ∈ cls, AskOK C G q) : CallOK C G g ds r := by
  cases ho : run C n (.enter g (avOfL 0 ds).1) ⟨[], (avOfL 0 ds).2.1, (avOfL 0 ds).2.2, ora, ⟨res, noFrame⟩⟩ with
  | none => rw [ho] at h; cases h
  | some o =>
    rw [ho] at h
    unfold okOut at h
    simp only at h
    split at h
    · rename_i v hv
      split at h
      · rename_i r' drops c hd
        simp only [Option.some.injEq, Prod.mk.injEq] at h
        obtain ⟨rfl, h2, h3⟩ := h
        have hcm := allC_mem hc
        rw [← h2] at hcm
        exact calls hg ho hv hd (fun p hp => hcm p (List.mem_append_right _ hp)) ⟨fun p hp => hcm p (List.mem_append_left _ hp), fun q hq => hk q (by rw [← h3]; exact hq)⟩
      · cases h
    · cases h
/-- The tables stand as they were laid. -/
structure TabsOf (T : List (List Value)) (w : World) : Prop where
  size : T.length ≤ w.heap.size
  cells : ∀ g L, T[g]? = some L → ∀ j v, L[j]? = some v → w.cell? ⟨g, j, none⟩ = some v
theorem TabsOf.tab {T : List (List Value)} {w : World} (h : TabsOf T w) : Tab (tabOf T) w := by
  intro g o v hv
  unfold tabOf at hv
  split at hv
  · rename_i l hl
    rw [listGet_eq] at hl hv
    exact h.cells g l hl o v hv
  · cases hv
theorem keepE {w w1 : World} {b o : Nat} {v : Value} (hb : Below w.heap.size w w1) (h : w.cell? ⟨b, o, none⟩ = some v) : w1.cell? ⟨b, o, none⟩ = some v :=
  (hb.cell (p := ⟨b, o, none⟩) (by
    rcases Nat.lt_or_ge b w.heap.size with h1 | h1
    · exact h1
    · simp [World.cell?, Array.getElem?_eq_none h1] at h)).trans h
theorem TabsOf.below {T : List (List Value)} {w w' : World} (h : TabsOf T w) (hb : Below w.heap.size w w') : TabsOf T w' :=
  ⟨Nat.le_trans h.size hb.size, fun g L hL j v hj => keepE hb (h.cells g L hL j v hj)⟩
end
end Go.Ev
/- Running the program's functions on values that are known in part: loops by induction. -/
namespace Go.Ev
open Go.RowKit
mutual
/-- Other names; what is open laid in. -/
def AV.ren (q : Nat → Nat) (a : Nat → AV) : AV → AV
  | .pure v => .pure v
  | .ptr n o => .ptr (q n) o
  | .sl n o l c => .sl (q n) o l c
  | .slx n o l s => .slx (q n) o l s
  | .yld n => .yld (q n)
  | .bsl n o l c => .bsl (q n) o l c
  | .bslx n o l s => .bslx (q n) o l s
  | .bptr n o => .bptr (q n) o
  | .dsl n => .dsl (q n)
  | .dptr n o => .dptr (q n) o
  | .any n => a n
  | .agg xs => .agg (AV.renL q a xs)
  | .tuple xs => .tuple (AV.renL q a xs)
  | .func f xs ys => .func f (AV.renL q a xs) (AV.renL q a ys)
def AV.renL (q : Nat → Nat) (a : Nat → AV) : List AV → List AV
  | [] => []
  | x :: xs => x.ren q a :: AV.renL q a xs
end
mutual
theorem ren_den {ρ ρ' : Env} {q : Nat → Nat} {p : Nat → Bool} {a : Nat → AV} (h : ∀ n, p n = true → ρ'.σ n = ρ.σ (q n) ∧ (ρ'.kk n).cap = (ρ.kk (q n)).cap ∧ (ρ'.kk n).any = (a n).den ρ ∧ (ρ'.kk n).dv = (ρ.kk (q n)).dv) : ∀ x : AV, x.within p = true → (x.ren q a).den ρ = x.den ρ'
  | .pure v, _ => by simp [AV.den, AV.ren]
  | .ptr n o, k => by simp [AV.den, AV.ren, h n (by simpa [AV.within] using k)]
  | .sl n o l c, k => by simp [AV.den, AV.ren, h n (by simpa [AV.within] using k)]
  | .slx n o l c, k => by simp [AV.den, AV.ren, h n (by simpa [AV.within] using k)]
  | .yld n, k => by simp [AV.den, AV.ren, h n (by simpa [AV.within] using k)]
  | .bsl n o l c, k => by simp [AV.den, AV.ren, h n (by simpa [AV.within] using k)]
  | .bslx n o l c, k => by simp [AV.den, AV.ren, h n (by simpa [AV.within] using k)]
  | .bptr n o, k => by simp [AV.den, AV.ren, h n (by simpa [AV.within] using k)]
  | .dsl n, k => by simp [AV.den, AV.ren, h n (by simpa [AV.within] using k)]
  | .dptr n o, k => by simp [AV.den, AV.ren, h n (by simpa [AV.within] using k)]
  | .any n, k => by simp [AV.den, AV.ren, h n (by simpa [AV.within] using k)]
  | .agg xs, k => by
    have k' : AV.withinL p xs = true := by simpa [AV.within] using k
    simp [AV.den, AV.ren, renL_den h xs k']
  | .tuple xs, k => by
    have k' : AV.withinL p xs = true := by simpa [AV.within] using k
    simp [AV.den, AV.ren, renL_den h xs k']
  | .func f xs ys, k => by
    have k' : AV.withinL p xs = true ∧ AV.withinL p ys = true := by simpa [AV.within] using k
    simp [AV.den, AV.ren, renL_den h xs k'.1, renL_den h ys k'.2]
theorem renL_den {ρ ρ' : Env} {q : Nat → Nat} {p : Nat → Bool} {a : Nat → AV} (h : ∀ n, p n = true → ρ'.σ n = ρ.σ (q n) ∧ (ρ'.kk n).cap = (ρ.kk (q n)).cap ∧ (ρ'.kk n).any = (a n).den ρ ∧ (ρ'.kk n).dv = (ρ.kk (q n)).dv) : ∀ xs : List AV, AV.withinL p xs = true → AV.denL ρ (AV.renL q a xs) = AV.denL ρ' xs
  | [], _ => by simp [AV.denL, AV.renL]
  | x :: xs, k => by
    have k' : x.within p = true ∧ AV.withinL p xs = true := by simpa [AV.withinL] using k
    simp [AV.denL, AV.renL, ren_den h x k'.1, renL_den h xs k'.2]
end
/-- What is left of a heap behind a round: blocks with the names from base on renamed. -/
def Sub (base nx : Nat) (q : Nat → Nat) (a : Nat → AV) (h1 h2 : AHeap) : Prop :=
  (∀ n b, hget h2 n = some b → hget h1 (q n) = some ⟨AV.renL q a b.cells, b.opn, b.kind⟩ ∧ n < nx ∧ AV.okL nx b.cells = true) ∧
  (∀ n m b c, hget h2 n = some b → hget h2 m = some c → b.mem = true → c.mem = true → q n = q m → n = m) ∧ (∀ n, n < base → q n = n ∧ a n = .any n) ∧ (∀ n b, hget h2 n = some b → b.mem = true → base ≤ n → base ≤ q n)
def Keeps (low base : Nat) (h h2 : AHeap) : Prop := ∀ n, n < low → n < base → hget h2 n = hget h n
/-- The names behind a round. -/
noncomputable def Env.behind (base nx : Nat) (q : Nat → Nat) (a : Nat → AV) (ρ ρ1 : Env) : Env := ⟨fun n => if n < base ∨ nx ≤ n then ρ.σ n else ρ1.σ (q n), fun n => if n < base ∨ nx ≤ n then ρ.kk n else ⟨(ρ1.kk (q n)).cap, (a n).den ρ1, (ρ1.kk (q n)).dv⟩, ρ.A, ρ.L⟩
theorem behind_ok {base nx nx1 l : Nat} {q : Nat → Nat} {a : Nat → AV} {ρ ρ1 : Env} {h h1 : AHeap} {w w1 : World} (hle : base ≤ nx) (hq : ∀ n, n < base → q n = n ∧ a n = .any n) (p : Post ρ ρ1 h h1 nx nx1 l w w1) :
    ∀ n, n < nx → (Env.behind base nx q a ρ ρ1).σ n = ρ1.σ (q n) ∧ ((Env.behind base nx q a ρ ρ1).kk n).cap = (ρ1.kk (q n)).cap ∧ ((Env.behind base nx q a ρ ρ1).kk n).any = (a n).den ρ1 ∧ ((Env.behind base nx q a ρ ρ1).kk n).dv = (ρ1.kk (q n)).dv := by
  intro n hn
  unfold Env.behind
  by_cases hb : n < base
  · have hp := p.agree n (.inl hn)
    simp only [hb, true_or, if_true, (hq n hb).1, (hq n hb).2, AV.den]
    exact ⟨hp.1.symm, by rw [hp.2], by rw [hp.2], by rw [hp.2]⟩
  · have : ¬ (n < base ∨ nx ≤ n) := by omega
    simp only [this, if_false]
    exact ⟨trivial, trivial, trivial, trivial⟩
theorem back {lo base : Nat} {q : Nat → Nat} {a : Nat → AV} {ρ ρ1 : Env} {h h1 h2 : AHeap} {nx nx1 l low : Nat} {w w1 : World} (hle : base ≤ nx) (hlow : low ≤ base) (hl : low ≤ l) (r1 : Rep lo ρ1 h1 nx1 w1) (p : Post ρ ρ1 h h1 nx nx1 l w w1) (hs : Sub base nx q a h1 h2) (hk : Keeps low base h h2) :
    Rep lo (Env.behind base nx q a ρ ρ1) h2 nx w1 ∧ Post ρ (Env.behind base nx q a ρ ρ1) h h2 base nx low w w1 := by
  obtain ⟨hs1, hs2, hq, hqb⟩ := hs
  have ag := behind_ok hle hq p
  have agp := fun n (hn : Nat.blt n nx = true) => ag n (blt_lt hn)
  have hA : (Env.behind base nx q a ρ ρ1).A = ρ1.A ∧ (Env.behind base nx q a ρ ρ1).L = ρ1.L := ⟨p.area.1.symm, p.area.2.symm⟩
  refine ⟨⟨fun n b hn => ?_, fun n m b c hn hm hb hc e => ?_, fun n b hn => (hs1 n b hn).2, fun n b hn hb => ?_, ?_, fun n b hn hb => ?_⟩, ⟨fun n hn => ?_, ⟨rfl, rfl⟩, hle, p.os, p.tape, p.output, p.size, fun k hk hne => p.frame k hk fun n b hn hb hln => hne n b hn hb (by omega), fun n b hn hb => ?_, hk⟩⟩
  · obtain ⟨a1, a2, a3⟩ := hs1 n b hn
    have := r1.block (q n) _ a1
    have hc : AV.denL (Env.behind base nx q a ρ ρ1) b.cells = AV.denL ρ1 (AV.renL q a b.cells) := (renL_den agp b.cells a3).symm
    refine this.keep2 (Keep.wide fun k _ hf => ⟨?_, fun m c hm hcm => ?_⟩) ⟨rfl, rfl⟩ hc ⟨(ag n a2).2.1, (ag n a2).2.2.2⟩ fun _ => by rw [(ag n a2).1]
    · rw [hA.1, hA.2]; exact hf.1
    · obtain ⟨b1, b2, -⟩ := hs1 m c hm
      rw [(ag m b2).1]
      exact hf.2 (q m) _ b1 hcm
  · obtain ⟨a1, a2, -⟩ := hs1 n b hn
    obtain ⟨b1, b2, -⟩ := hs1 m c hm
    rw [(ag n a2).1, (ag m b2).1] at e
    exact hs2 n m b c hn hm hb hc (r1.inj _ _ _ _ a1 b1 hb hc e)
  · obtain ⟨a1, a2, -⟩ := hs1 n b hn
    rw [(ag n a2).1]; exact r1.above _ _ a1 hb
  · rw [hA.2]; exact r1.base
  · obtain ⟨a1, a2, -⟩ := hs1 n b hn
    rw [(ag n a2).1, hA.1, hA.2]; exact r1.reach _ _ a1 hb
  · unfold Env.behind
    simp only [hn, if_true]
    exact ⟨trivial, trivial⟩
  · obtain ⟨a1, a2, -⟩ := hs1 n b hn
    rw [(ag n a2).1]
    rcases p.fresh _ _ a1 hb with ⟨m, c, hm, hc, e, h5⟩ | h3
    · refine .inl ⟨m, c, hm, hc, e, ?_⟩
      rcases h5 with h5 | h5
      · rcases Nat.lt_or_ge n base with h6 | h6
        · left; rw [h5, (hq n h6).1]
        · right
          have := hqb n b hn hb h6
          omega
      · right; omega
    · exact .inr h3
/-- Two stretches, one behind the other, from the same names on. -/
theorem Post.transB {ρ ρ' ρ'' : Env} {h h' h'' : AHeap} {base nx l l' : Nat} {w w' w'' : World} (p : Post ρ ρ' h h' base nx l w w') (q : Post ρ' ρ'' h' h'' base nx l' w' w'') : Post ρ ρ'' h h'' base nx (Nat.min l l') w w'' := by
  have s1 := p.size
  have s2 := q.size
  have m1 : Nat.min l l' ≤ l := Nat.min_le_left _ _
  have m2 : Nat.min l l' ≤ l' := Nat.min_le_right _ _
  refine ⟨fun n hn => ?_, ⟨q.area.1.trans p.area.1, q.area.2.trans p.area.2⟩, p.le, q.os.trans p.os, q.tape.trans p.tape, q.output.trans p.output, Nat.le_trans p.size q.size, fun k hk hne => ?_, fun n b hn hb => ?_, fun n hl hx => ?_⟩
  · have a := p.agree n hn
    have b := q.agree n hn
    exact ⟨b.1.trans a.1, b.2.trans a.2⟩
  · rw [q.frame k (by omega) (fun n b hn hb hl e => ?_), p.frame k hk (fun n b hn hb hl => hne n b hn hb (by omega))]
    rcases p.fresh n b hn hb with ⟨m, c, hm, hc, em, h3⟩ | hf
    · exact hne m c hm hc (by omega) (em.symm.trans e)
    · omega
  · rcases q.fresh n b hn hb with ⟨m, c, hm, hc, em, h3⟩ | hf
    · rcases p.fresh m c hm hc with ⟨k, d, hk, hd, ek, h4⟩ | hf
      · exact .inl ⟨k, d, hk, hd, em.trans ek, by omega⟩
      · right; omega
    · right; omega
  · rw [q.keep n (by omega) hx, p.keep n (by omega) hx]
section
variable {C : Ctx} {G : World → Prop}
theorem act_behind {base nx nx1 l : Nat} {q : Nat → Nat} {a : Nat → AV} {ρ ρ1 : Env} {h h1 : AHeap} {w w1 : World} {fr : AFrame} {tm : List AV} (hle : base ≤ nx) (hq : ∀ n, n < base → q n = n ∧ a n = .any n) (p : Post ρ ρ1 h h1 nx nx1 l w w1) (hfr : frOK base fr = true) (hok : AV.okL nx tm = true) :
    act ρ1 fr (AV.renL q a tm) = act (Env.behind base nx q a ρ ρ1) fr tm := by
  have ag := behind_ok hle hq p
  unfold act
  rw [renL_den (fun n hn => ag n (blt_lt hn)) tm hok]
  congr 1
  apply List.map_congr_left
  intro d hd
  have hdl : d < base := by
    simp only [frOK, Bool.and_eq_true, List.all_eq_true] at hfr
    exact blt_lt (hfr.2 d hd)
  rw [(ag d (by omega)).1, (hq d hdl).1]
/-- A loop's code, its names, its frame. -/
structure LoopAt where
  f : FuncId
  c : Code
  base : Nat
  nx : Nat
  low : Nat
  fr : AFrame
structure LoopAt.OK (l : LoopAt) : Prop where
  le : l.base ≤ l.nx
  low : l.low ≤ l.base
  code : okCode l.c = true
  fr : frOK l.base l.fr = true
/-- One round of a loop: from a state to another one. -/
structure Step (C : Ctx) (G : World → Prop) (l : LoopAt) (S1 S2 : List AV × AHeap) (x : AX) : Prop where
  ran : ∃ (n : Nat) (ora : List Bool) (vals : List D) (o : Out) (q : Nat → Nat) (a : Nat → AV), run C n (.code l.f l.c) ⟨S1.1, S1.2, l.nx, ora, ⟨vals, l.fr⟩⟩ = some o ∧ Holds C G o.log ∧ o.st.res.fr = l.fr ∧ o.x = x ∧
    o.st.tmps = AV.renL q a S2.1 ∧ Sub l.base l.nx q a o.st.heap S2.2 ∧ l.low ≤ o.low
  ok : AV.okL l.nx S1.1 = true
  keeps : Keeps l.low l.base S1.2 S2.2
/-- From a state the loop ends in another one. -/
def Runs (C : Ctx) (G : World → Prop) (l : LoopAt) (S T : List AV × AHeap) (x : AX) : Prop :=
  AV.okL l.nx S.1 = true ∧ AV.okL l.nx T.1 = true ∧ isVal x = false ∧ x ≠ .normal ∧ ∃ m, ∀ w0, G w0 → ∀ ρ w Q, Rep w0.heap.size ρ S.2 l.nx w → Below w0.heap.size w0 w →
    (∀ ρ' w', Rep w0.heap.size ρ' T.2 l.nx w' → Post ρ ρ' S.2 T.2 l.base l.nx l.low w w' → Q (exitOf x) (act ρ' l.fr T.1) w') → Code.roundsIn (fenceOf ρ l.fr) 0 C.P l.c Q m (act ρ l.fr S.1) w
theorem Step.runs (hg : Good' C G) {l : LoopAt} (hl : l.OK) {S T : List AV × AHeap} {x : AX} (h : Step C G l S T x) (hx : isVal x = false ∧ x ≠ .normal) (hT : AV.okL l.nx T.1 = true) : Runs C G l S T x := by
  refine ⟨h.ok, hT, hx.1, hx.2, ?_⟩
  obtain ⟨⟨n, ora, vals, o, q, a, hrun, hlog, hfr, e1, e2, e3, e4⟩, h2, h3⟩ := h
  have hfr' := frOK_mono hl.le hl.fr
  refine ⟨1, fun w0 hw0 ρ w Q hrep hb hQ => ?_⟩
  obtain ⟨a1, a2, a3, a4⟩ := sound hg hw0 n _ _ _ hrun hlog hl.code ⟨h2, hfr'⟩
  rw [roundsIn_succ]
  refine a4 ρ w _ hrep hb fun ρ1 w1 r1 p1 => ?_
  rw [e1, e2]
  obtain ⟨r2, p2⟩ := back hl.le hl.low e4 r1 p1 e3 h3
  have hq := hQ _ w1 r2 p2
  have hact : act ρ1 o.st.res.fr (AV.renL q a T.1) = act (Env.behind l.base l.nx q a ρ ρ1) l.fr T.1 := by
    rw [hfr]
    exact act_behind hl.le e3.2.2.1 p1 hl.fr hT
  rw [hact]
  cases x with
  | normal => exact absurd rfl hx.2
  | exit id => exact hq
  | ret => exact hq
  | val v => exact absurd hx.1 (by simp [isVal])
theorem Step.more (hg : Good' C G) {l : LoopAt} (hl : l.OK) {S S2 T : List AV × AHeap} {x : AX} (h : Step C G l S S2 .normal) (hr : Runs C G l S2 T x) : Runs C G l S T x := by
  obtain ⟨hoky, hT, hx1, hx2, m, k2⟩ := hr
  refine ⟨h.ok, hT, hx1, hx2, ?_⟩
  obtain ⟨⟨n, ora, vals, o, q, a, hrun, hlog, hfr, e1, e2, e3, e4⟩, h2, h3⟩ := h
  have hfr' := frOK_mono hl.le hl.fr
  refine ⟨m + 1, fun w0 hw0 ρ w Q hrep hb hQ => ?_⟩
  obtain ⟨a1, a2, a3, a4⟩ := sound hg hw0 n _ _ _ hrun hlog hl.code ⟨h2, hfr'⟩
  rw [roundsIn_succ]
  refine a4 ρ w _ hrep hb fun ρ1 w1 r1 p1 => ?_
  rw [e1]
  obtain ⟨r2, p2⟩ := back hl.le hl.low e4 r1 p1 e3 h3
  have hact : act ρ1 o.st.res.fr o.st.tmps = act (Env.behind l.base l.nx q a ρ ρ1) l.fr S2.1 := by
    rw [hfr, e2]
    exact act_behind hl.le e3.2.2.1 p1 hl.fr hoky
  have hfe : fenceOf (Env.behind l.base l.nx q a ρ ρ1) l.fr = fenceOf ρ l.fr := fence_eq (fun n hn => (p2.agree n (.inl hn)).1) hl.fr rfl
  simp only [exitOf, Exit.then]
  rw [hact, ← hfe]
  exact k2 w0 hw0 _ w1 Q r2 (below_of_post hrep p1 hb) fun ρ' w' r3 p3 => hQ ρ' w' r3 ((p2.transB p3).low_le (by simp [Nat.min_def]))
/-- A loop's claim: from a state that is another one but for what is left open. -/
theorem Runs.ends {l : LoopAt} (hl : l.OK) {S T : List AV × AHeap} {x : AX} (h : Runs C G l S T x) {tm0 : List AV} {h0 : AHeap} {q : Nat → Nat} {a : Nat → AV} (htm : tm0 = AV.renL q a S.1) (hsub : Sub l.base l.nx q a h0 S.2) (hkeep : Keeps l.low l.base h0 S.2) :
    ∀ ora ora' vals vals', LoopEnds C G l.c ⟨tm0, h0, l.base, ora, ⟨vals, l.fr⟩⟩ x ⟨T.1, T.2, l.nx, ora', ⟨vals', l.fr⟩⟩ l.low := by
  obtain ⟨hokx, hT, hx1, hx2, m, hm⟩ := h
  have hle := hl.le
  intro ora ora' vals vals' w0 hw0 hst
  refine ⟨hx1, ⟨hT, frOK_mono hl.le hl.fr⟩, ⟨hl.le, rfl⟩, fun ρ w Q hr hb hE => wpIn_loop_rounds m ?_⟩
  have hr' : Rep w0.heap.size ρ h0 l.nx w := ⟨hr.block, hr.inj, fun n b hn => ⟨Nat.lt_of_lt_of_le (hr.scope n b hn).1 hle, okL_mono hle _ (hr.scope n b hn).2⟩, hr.above, hr.base, hr.reach⟩
  have p0 : Post ρ ρ h0 h0 l.nx l.nx l.low w w := Post.refl hr' _
  obtain ⟨r2, p2⟩ := back hl.le hl.low (Nat.le_refl _) hr' p0 hsub hkeep
  have hact : act ρ l.fr tm0 = act (Env.behind l.base l.nx q a ρ ρ) l.fr S.1 := by
    rw [htm]
    exact act_behind hl.le hsub.2.2.1 p0 hl.fr hokx
  have hfe : fenceOf (Env.behind l.base l.nx q a ρ ρ) l.fr = fenceOf ρ l.fr := fence_eq (fun n hn => (p2.agree n (.inl hn)).1) hl.fr rfl
  simp only
  rw [hact, ← hfe]
  exact hm w0 hw0 _ w Q r2 hb fun ρ' w' r p => hE ρ' w' r ((p2.transB p).low_le (by simp [Nat.min_def]))
end
end Go.Ev
/- Running the program's functions on values that are known in part: loops whose states are told by the values that live. -/
namespace Go.Ev
open Go.RowKit
noncomputable section
/-- How a slot lives through a loop: as a value that is given; as a slice that is appended to; as one that is written into. -/
inductive LK where
  | val (t : Tmp)
  | grow (t : Tmp) (size : Nat)
  | made (t : Tmp)
  /-- still as it was -/
  | still (t : Tmp)
  /-- a slice that was appended to and lives no more -/
  | drop (t : Tmp)
  /-- the cell of a box: a value; a slice that is appended to -/
  | cval (t : Tmp) (j : Nat)
  | cgrow (t : Tmp) (j size : Nat)
  /-- a slice to which nothing has been appended yet -/
  | nil (t : Tmp)
  | cnil (t : Tmp) (j : Nat)
/-- Where a name stands: in a slot; in a cell of the box that a slot points to. -/
inductive Loc where
  | slot (t : Tmp)
  | cell (t : Tmp) (j : Nat)
/-- How a loop ends: by which exit (none: a return), what lives there, what does not. -/
structure LExit where
  ex : Option Nat
  live : List LK
  junk : List Tmp
/-- A loop: its function, its first region, how it may end. -/
structure LSpec where
  f : FuncId
  rid : Nat
  exs : List LExit
structure GS where
  tm : List AV
  h : AHeap
  nx : Nat
  low : Nat
  /-- for each new name the place that bears it -/
  ns : List Loc
def boxCell (tm : List AV) (h : AHeap) (t : Tmp) (j : Nat) : Option (Nat × ABlock × Nat × AV) := match slot tm t with
  | .ptr b o => match hget h b with
    | some blk => match blk.kind, listGet blk.cells (o + j) with
      | .cells, some v => some (b, blk, o + j, v)
      | _, _ => none
    | none => none
  | _ => none
def locVal (tm : List AV) (h : AHeap) : Loc → AV
  | .slot t => slot tm t
  | .cell t j => match boxCell tm h t j with
    | some (_, _, _, v) => v
    | none => .pure undef
def ghost1 : LK → D → GS → Option GS
  | .still _, _, g => some g
  | .nil t, _, ⟨tm, h, nx, low, ns⟩ => some ⟨setT tm (some t) (.pure (.slice none 0 0)), h, nx, low, ns⟩
  | .cnil t j, _, ⟨tm, h, nx, low, ns⟩ => match boxCell tm h t j with
    | some (b, blk, o, _) => some ⟨tm, hput h b ⟨blk.cells.set o (.pure (.slice none 0 0)), blk.opn, .cells⟩, nx, Nat.min b low, ns⟩
    | none => none
  | .val t, d, ⟨tm, h, nx, low, ns⟩ => match d with
    | .list k cs => some ⟨setT tm (some t) (.dsl nx), (nx, ⟨[], none, .deep k cs⟩) :: h, nx + 1, low, ns ++ [.slot t]⟩
    | .one v => some ⟨setT tm (some t) (.pure v), h, nx, low, ns⟩
    | _ => none
  | .grow t size, d, ⟨tm, h, nx, low, ns⟩ => match d with
    | .list k cs => match slot tm t with
      | .bslx b _ _ _ => some ⟨setT tm (some t) (.bslx nx 0 k 0), (nx, ⟨[], some size, .big cs⟩) :: hdel h b, nx + 1, Nat.min b low, ns ++ [.slot t]⟩
      | .sl b _ _ _ => some ⟨setT tm (some t) (.bslx nx 0 k 0), (nx, ⟨[], some size, .big cs⟩) :: hdel h b, nx + 1, Nat.min b low, ns ++ [.slot t]⟩
      | _ => some ⟨setT tm (some t) (.bslx nx 0 k 0), (nx, ⟨[], some size, .big cs⟩) :: h, nx + 1, low, ns ++ [.slot t]⟩
    | _ => none
  | .drop t, _, ⟨tm, h, nx, low, ns⟩ => match slot tm t with
    | .bslx b _ _ _ => some ⟨setT tm (some t) (.any nx), hdel h b, nx + 1, Nat.min b low, ns ++ [.slot t]⟩
    | .sl b _ _ _ => some ⟨setT tm (some t) (.any nx), hdel h b, nx + 1, Nat.min b low, ns ++ [.slot t]⟩
    | _ => some ⟨setT tm (some t) (.any nx), h, nx + 1, low, ns ++ [.slot t]⟩
  | .cval t j, d, ⟨tm, h, nx, low, ns⟩ => match boxCell tm h t j with
    | some (b, blk, o, _) => match d with
      | .list k cs => some ⟨tm, (nx, ⟨[], none, .deep k cs⟩) :: hput h b ⟨blk.cells.set o (.dsl nx), blk.opn, .cells⟩, nx + 1, Nat.min b low, ns ++ [.cell t j]⟩
      | .one v => some ⟨tm, hput h b ⟨blk.cells.set o (.pure v), blk.opn, .cells⟩, nx, Nat.min b low, ns⟩
      | _ => none
    | none => none
  | .cgrow t j size, d, ⟨tm, h, nx, low, ns⟩ => match boxCell tm h t j with
    | some (b, blk, o, v) => match d with
      | .list k cs =>
        let h1 := hput h b ⟨blk.cells.set o (.bslx nx 0 k 0), blk.opn, .cells⟩
        let h2 := match v with
          | .bslx c _ _ _ => hdel h1 c
          | .sl c _ _ _ => hdel h1 c
          | _ => h1
        some ⟨tm, (nx, ⟨[], some size, .big cs⟩) :: h2, nx + 1, Nat.min b low, ns ++ [.cell t j]⟩
      | _ => none
    | none => none
  | .made t, d, ⟨tm, h, nx, low, ns⟩ => match d, slot tm t with
    | .list _ cs, .bsl b _ _ _ => match hget h b with
      | some ⟨_, on, _⟩ => some ⟨tm, hput h b ⟨[], on, .big cs⟩, nx, Nat.min b low, ns⟩
      | none => none
    | _, _ => none
def ghostL : List LK → List D → GS → Option GS
  | [], [], g => some g
  | k :: ks, d :: ds, g => match ghost1 k d g with
    | some g => ghostL ks ds g
    | none => none
  | _, _, _ => none
def ghostJ : List Tmp → GS → GS
  | [], g => g
  | t :: ts, ⟨tm, h, nx, low, ns⟩ => ghostJ ts ⟨setT tm (some t) (.any nx), h, nx + 1, low, ns ++ [.slot t]⟩
/-- A loop's state, told by what lives, out of the state that it is entered in. -/
def ghost (live : List LK) (junk : List Tmp) (tm : List AV) (h : AHeap) (nx : Nat) (ds : List D) : Option GS := match ghostL live ds ⟨tm, h, nx, nx, []⟩ with
  | some g => match ghostJ junk g with
    | ⟨tm, h, _, low, ns⟩ => some ⟨tm, h, nx + (live.length + junk.length), low, ns⟩
  | none => none
def nxtOf : Option GS → Nat
  | some g => g.nx
  | none => 0
def lowGS : Option GS → Nat
  | some g => g.low
  | none => 0
def stateOf : Option GS → List AV × AHeap
  | some g => (g.tm, g.h)
  | none => ([], [])
def nsOf : Option GS → List Loc
  | some g => g.ns
  | none => []
/-- The id of a code's first region. -/
def ridOf : Code → Option Nat
  | .seq a b => match ridOf a with
    | some n => some n
    | none => ridOf b
  | .cond _ a b => match ridOf a with
    | some n => some n
    | none => ridOf b
  | .block _ b => ridOf b
  | .loop b => ridOf b
  | .rangeFunc _ _ a b => match ridOf a with
    | some n => some n
    | none => ridOf b
  | .region id _ _ => some id
  | _ => none
def specAt (f rid : Nat) : List LSpec → Option LSpec
  | [] => none
  | s :: ss => match Nat.beq s.f f && Nat.beq s.rid rid with
    | true => some s
    | false => specAt f rid ss
/-- Which of the exits is taken. -/
def exitAt (exs : List LExit) : D → Option LExit
  | .one (.int _ (.ofNat n)) => listGet exs n
  | _ => none
/-- What lives, read off a state. -/
def liveD (st : St) : List LK → List D
  | [] => []
  | .val t :: ks => (match slot st.tmps t with
    | .pure v => .one v
    | .dsl n => match deepOf st.heap n with
      | some (k, cs) => .list k cs
      | none => .tup []
    | _ => .tup []) :: liveD st ks
  | .grow t _ :: ks => (match slot st.tmps t with
    | .pure v => .one v
    | .bslx n _ len _ => match bigOf st.heap n with
      | some (L, _) => .list len L
      | none => .tup []
    | _ => .tup []) :: liveD st ks
  | .made t :: ks => (match slot st.tmps t with
    | .bsl n _ len _ => match bigOf st.heap n with
      | some (L, _) => .list len L
      | none => .tup []
    | _ => .tup []) :: liveD st ks
  | .still _ :: ks => .one (.tuple #[]) :: liveD st ks
  | .nil _ :: ks => .one (.tuple #[]) :: liveD st ks
  | .cnil _ _ :: ks => .one (.tuple #[]) :: liveD st ks
  | .drop _ :: ks => .one (.tuple #[]) :: liveD st ks
  | .cval t j :: ks => (match locVal st.tmps st.heap (.cell t j) with
    | .pure v => .one v
    | .dsl n => match deepOf st.heap n with
      | some (k, cs) => .list k cs
      | none => .tup []
    | _ => .tup []) :: liveD st ks
  | .cgrow t j _ :: ks => (match locVal st.tmps st.heap (.cell t j) with
    | .pure v => .one v
    | .bslx n _ len _ => match bigOf st.heap n with
      | some (L, _) => .list len L
      | none => .tup []
    | _ => .tup []) :: liveD st ks
/-- How the loops of a run end: as the values tell. -/
def lpOf (specs : List LSpec) (f : FuncId) (c : Code) (tm : List AV) (h : AHeap) (nx : Nat) (vals : List D) : Option (LoopEnd × List D) := match ridOf c with
  | some rid => match specAt f rid specs with
    | some s => match vals with
      | .tup (e :: ds) :: vals => match exitAt s.exs e with
        | some x => match ghost x.live x.junk tm h nx ds with
          | some g => some (⟨x.ex, g.tm, g.h, g.nx, g.low⟩, vals)
          | none => none
        | none => none
      | _ => none
    | none => none
  | none => none
/-- The loops of a code, in their order. -/
def loopsOf : Code → List Code
  | .seq a b => loopsOf a ++ loopsOf b
  | .cond _ a b => loopsOf a ++ loopsOf b
  | .block _ b => loopsOf b
  | .loop b => b :: loopsOf b
  | .rangeFunc _ _ a b => loopsOf a ++ loopsOf b
  | _ => []
def loopAt (P : Program) (g k : Nat) : Code := match listGet P.funcs.toList g with
  | some f => match f.body with
    | some c => match listGet (loopsOf c) k with
      | some c => c
      | none => .skip
    | none => .skip
  | none => .skip
def outOf (r : Option Out) : Out := match r with
  | some o => o
  | none => ⟨.normal, ⟨[], [], 0, [], ⟨[], noFrame⟩⟩, 0, ⟨[], []⟩⟩
def nameOf : AV → Option Nat
  | .dsl n => some n
  | .bsl n _ _ _ => some n
  | .bslx n _ _ _ => some n
  | _ => none
/-- The names behind a round, out of the places that bear them. -/
def qOf (base : Nat) (ns : List Loc) (S : List AV × AHeap) (n : Nat) : Nat := match Nat.blt n base with
  | true => n
  | false => match listGet ns (n - base) with
    | some t => match nameOf (locVal S.1 S.2 t) with
      | some m => m
      | none => n
    | none => n
def aOf (base : Nat) (ns : List Loc) (S : List AV × AHeap) (n : Nat) : AV := match Nat.blt n base with
  | true => .any n
  | false => match listGet ns (n - base) with
    | some t => locVal S.1 S.2 t
    | none => .any n
def distinctBy (q : Nat → Nat) (h : AHeap) : Bool := h.all fun e => !e.2.mem || h.all fun e' => !e'.2.mem || !(Nat.beq (q e.1) (q e'.1)) || Nat.beq e.1 e'.1
def namesIn (nx : Nat) (h : AHeap) : Bool := h.all fun e => Nat.blt e.1 nx && AV.okL nx e.2.cells
def aboveBy (base : Nat) (q : Nat → Nat) (h : AHeap) : Bool := h.all fun e => !e.2.mem || Nat.blt e.1 base || Nat.ble base (q e.1)
theorem hget_mem : ∀ {h : AHeap} {n : Nat} {b : ABlock}, hget h n = some b → (n, b) ∈ h
  | [], _, _, e => by cases e
  | (m, c) :: h, n, b, e => by
    unfold hget at e
    split at e
    · rename_i hm
      cases e
      rw [Nat.eq_of_beq_eq_true hm]
      exact List.mem_cons_self
    · exact List.mem_cons_of_mem _ (hget_mem e)
theorem qOf_lt {base n : Nat} {ns : List Loc} {S : List AV × AHeap} (h : n < base) : qOf base ns S n = n ∧ aOf base ns S n = .any n := by
  have : Nat.blt n base = true := by simpa [Nat.blt_eq] using h
  unfold qOf aOf
  rw [this]
  exact ⟨rfl, rfl⟩
theorem sub_of {base nx : Nat} {ns : List Loc} {tm : List AV × AHeap} {h1 h2 : AHeap}
    (hh : h2.map (fun e => hget h1 (qOf base ns tm e.1)) = h2.map (fun e => some (⟨AV.renL (qOf base ns tm) (aOf base ns tm) e.2.cells, e.2.opn, e.2.kind⟩ : ABlock)))
    (hb : (namesIn nx h2 && distinctBy (qOf base ns tm) h2 && aboveBy base (qOf base ns tm) h2) = true) : Sub base nx (qOf base ns tm) (aOf base ns tm) h1 h2 := by
  simp only [Bool.and_eq_true] at hb
  obtain ⟨⟨hn, hd⟩, ha⟩ := hb
  refine ⟨fun n b hb => ?_, fun n m b c hb hc hbm hcm e => ?_, fun n h => qOf_lt h, fun n b hb hbm h1 => ?_⟩
  · have hm := hget_mem hb
    have e := (List.map_inj_left.1 hh) _ hm
    have e2 := List.all_eq_true.1 hn _ hm
    simp only [Bool.and_eq_true] at e2
    exact ⟨e, blt_lt e2.1, e2.2⟩
  · have e1 := List.all_eq_true.1 hd _ (hget_mem hb)
    simp only [hbm, Bool.not_true, Bool.false_or] at e1
    have e1 := List.all_eq_true.1 e1 _ (hget_mem hc)
    simp only [hcm, Bool.not_true, Bool.false_or, e, Bool.or_eq_true, Bool.not_eq_true'] at e1
    rcases e1 with e1 | e1
    · rw [Nat.beq_refl] at e1; cases e1
    · exact Nat.eq_of_beq_eq_true e1
  · have := List.all_eq_true.1 ha _ (hget_mem hb)
    simp only [hbm, Bool.not_true, Bool.false_or, Bool.or_eq_true] at this
    rcases this with h | h
    · have := blt_lt h; omega
    · exact ble_le h
theorem keeps_of {low base : Nat} {h h2 : AHeap} (e : (List.range low).map (hget h2) = (List.range low).map (hget h)) : Keeps low base h h2 := fun n hn _ =>
  (List.map_inj_left.1 e) n (List.mem_range.2 hn)
/-- One round, by a run. -/
theorem mk_step {C : Ctx} {G : World → Prop} {l : LoopAt} {fuel : Nat} {ora : List Bool} {vals : List D} {ns : List Loc} {S1 S2 S2' : List AV × AHeap} {x : AX} {conds : List (Bool × Bool)} {calls : List Ask}
    (r : Option Out) (hr : r = run C fuel (.code l.f l.c) ⟨S1.1, S1.2, l.nx, ora, ⟨vals, l.fr⟩⟩) (h1 : r = some (outOf r))
    (h2 : ((outOf r).x, (outOf r).st.res.fr, (outOf r).log, (outOf r).st.tmps) = (x, l.fr, ⟨conds, calls⟩, AV.renL (qOf l.base ns ((outOf r).st.tmps, (outOf r).st.heap)) (aOf l.base ns ((outOf r).st.tmps, (outOf r).st.heap)) S2'.1))
    (h3 : S2'.2.map (fun e => hget (outOf r).st.heap (qOf l.base ns ((outOf r).st.tmps, (outOf r).st.heap) e.1)) = S2'.2.map (fun e => some (⟨AV.renL (qOf l.base ns ((outOf r).st.tmps, (outOf r).st.heap)) (aOf l.base ns ((outOf r).st.tmps, (outOf r).st.heap)) e.2.cells, e.2.opn, e.2.kind⟩ : ABlock)))
    (h4 : (namesIn l.nx S2'.2 && distinctBy (qOf l.base ns ((outOf r).st.tmps, (outOf r).st.heap)) S2'.2 && aboveBy l.base (qOf l.base ns ((outOf r).st.tmps, (outOf r).st.heap)) S2'.2) = true)
    (h5 : (AV.okL l.nx S1.1 && Nat.ble l.low (outOf r).low) = true) (h6 : (List.range l.low).map (hget S2'.2) = (List.range l.low).map (hget S1.2)) (hS : S2' = S2) (hc : allC conds) (hk : ∀ q ∈ calls, AskOK C G q) :
    Step C G l S1 S2 x := by
  subst hS
  simp only [Prod.mk.injEq] at h2
  simp only [Bool.and_eq_true] at h5
  refine ⟨⟨fuel, ora, vals, outOf r, _, _, hr ▸ h1, ?_, h2.2.1, h2.1, h2.2.2.2, sub_of h3 h4, ble_le h5.2⟩, h5.1, keeps_of h6⟩
  rw [h2.2.2.1]
  exact ⟨allC_mem hc, hk⟩
def axOf : Option Nat → AX
  | none => .ret
  | some i => .exit i
/-- A loop that is entered in a state ends as it is told: by that exit, with what lives there. -/
def LoopIn (C : Ctx) (G : World → Prop) (c : Code) (E : List AV × AHeap) (base : Nat) (fr : AFrame) (x : LExit) (ds : List D) : Prop :=
  ∀ ora ora' vals vals', LoopEnds C G c ⟨E.1, E.2, base, ora, ⟨vals, fr⟩⟩ (axOf x.ex) ⟨(stateOf (ghost x.live x.junk E.1 E.2 base ds)).1, (stateOf (ghost x.live x.junk E.1 E.2 base ds)).2, nxtOf (ghost x.live x.junk E.1 E.2 base ds), ora', ⟨vals', fr⟩⟩ (lowGS (ghost x.live x.junk E.1 E.2 base ds))
/-- What a run asks for such a loop. -/
def loopAsk (c : Code) (E : List AV × AHeap) (base : Nat) (fr : AFrame) (x : LExit) (ds : List D) (ora : List Bool) (vals vals' : List D) : Ask :=
  .loop c ⟨E.1, E.2, base, ora, ⟨vals, fr⟩⟩ (axOf x.ex) ⟨(stateOf (ghost x.live x.junk E.1 E.2 base ds)).1, (stateOf (ghost x.live x.junk E.1 E.2 base ds)).2, nxtOf (ghost x.live x.junk E.1 E.2 base ds), ora, ⟨vals', fr⟩⟩ (lowGS (ghost x.live x.junk E.1 E.2 base ds))
theorem fact_mk {P : Prop} (h : P) : fact P = true := @decide_eq_true P (Classical.propDecidable P) h
theorem loop_in {C : Ctx} {G : World → Prop} {l : LoopAt} (hl : l.OK) {E S : List AV × AHeap} {ns : List Loc} {x : LExit} {ds : List D}
    (hr : Runs C G l S (stateOf (ghost x.live x.junk E.1 E.2 l.base ds)) (axOf x.ex)) (hn : (nxtOf (ghost x.live x.junk E.1 E.2 l.base ds), lowGS (ghost x.live x.junk E.1 E.2 l.base ds)) = (l.nx, l.low))
    (htm : E.1 = AV.renL (qOf l.base ns E) (aOf l.base ns E) S.1)
    (h3 : S.2.map (fun e => hget E.2 (qOf l.base ns E e.1)) = S.2.map (fun e => some (⟨AV.renL (qOf l.base ns E) (aOf l.base ns E) e.2.cells, e.2.opn, e.2.kind⟩ : ABlock)))
    (h4 : (namesIn l.nx S.2 && distinctBy (qOf l.base ns E) S.2 && aboveBy l.base (qOf l.base ns E) S.2) = true)
    (h6 : (List.range l.low).map (hget S.2) = (List.range l.low).map (hget E.2)) : LoopIn C G l.c E l.base l.fr x ds := by
  intro ora ora' vals vals'
  simp only [Prod.mk.injEq] at hn
  rw [hn.1, hn.2]
  exact hr.ends hl htm (sub_of h3 h4) (keeps_of h6) ora ora' vals vals'
end
end Go.Ev
/- The program of the seat, as runs on values known in part see it. -/
namespace Go.Proofs.YtegjgcogikjemaaDoor
open Go.Ev Go.RowKit
set_option maxRecDepth 100000
noncomputable section
def gtab : List (List Value) := [[], [], [.int .i64 0, .int .i64 0, .int .i64 1, .int .i64 1, .int .i64 2, .int .i64 2], [.string (bytesOf [107, 103]), .string (bytesOf [87]), .string (bytesOf [109, 109])], [], [], [], [.string (bytesOf [109, 97, 115, 115]), .string (bytesOf [99, 111, 112, 112, 101, 114]), .string (bytesOf [105, 100, 108, 101]), .string (bytesOf [108, 111, 97, 100]), .string (bytesOf [104, 101, 105, 103, 104, 116]), .string (bytesOf [119, 105, 100, 116, 104])]]
/-- Appends whose outcome is shut at once. -/
def SHUT : List (Nat × Nat) := [(33, 2000025)]
def BAD : List Nat := [81, 123, 168, 198, 215]
def bodyAt (g : Nat) : Bool := match listGet Tryd.prog.funcs.toList g with
  | some fn => fn.body.isSome
  | none => false
/-- Calls are contracts but those of I; all sites are open or none; loops as told. -/
def ctxS (op : Bool) (I : List Nat) (sp : List LSpec) : Ctx := ⟨Tryd.prog, tabOf gtab, fun f t => match Nat.blt t 2000000 with | true => op | false => hasP SHUT f t, fun g => !hasN I g && bodyAt g, fun g => !hasN BAD g, lpOf sp⟩
def ctx (I : List Nat) (sp : List LSpec) : Ctx := ctxS true I sp
/-- Calls are entered but those of K. -/
def ctxK (S : List (Nat × Nat)) (K : List Nat) (sp : List LSpec) : Ctx := ⟨Tryd.prog, tabOf gtab, hasP S, fun g => hasN K g && bodyAt g, fun g => !hasN BAD g, lpOf sp⟩
abbrev Tabs (w : World) : Prop := TabsOf gtab w
def Con (g : FuncId) (ds : List D) (r : D) : Prop := CallOK (ctx [] []) Tabs g ds r
def allK : List Go.Ev.Ask → Prop
  | [] => True
  | q :: qs => AskOK (ctx [] []) Tabs q ∧ allK qs
theorem allK_mem : ∀ {l : List Go.Ev.Ask}, allK l → ∀ q ∈ l, AskOK (ctx [] []) Tabs q
  | [], _, p, h => by cases h
  | q :: l, hq, p, h => by
    rcases List.mem_cons.1 h with rfl | h
    · exact hq.1
    · exact allK_mem hq.2 p h
def fineAt (g : Nat) : Bool := match listGet Tryd.prog.funcs.toList g with
  | some fn => match fn.body with
    | some c => okCode c
    | none => true
  | none => true
def nameAt (g : Nat) : Bool := match listGet Tryd.prog.funcs.toList g with
  | some fn => !(fn.name == "runtime.NumGoroutine")
  | none => true
theorem count : Tryd.prog.funcs.toList.length = 272 := by kernel_rfl
theorem mixed : Tryd.prog.follows .mixedOrders = true := by kernel_rfl
theorem namesOk : (List.range 272).all nameAt = true := by kernel_rfl
theorem fineOk : (List.range 272).all (fun g => hasN BAD g || fineAt g) = true := by kernel_rfl
theorem in_range {g : FuncId} {fn : Func} (hg : Tryd.prog.funcs[g]? = some fn) : g < 272 := by
  rw [← count]
  rcases Nat.lt_or_ge g Tryd.prog.funcs.toList.length with h | h
  · exact h
  · rw [← Array.getElem?_toList, List.getElem?_eq_none h] at hg; cases hg
theorem good_of {C : Ctx} (h1 : C.P = Tryd.prog) (h2 : C.tab = tabOf gtab) (h3 : ∀ g, C.con g = true → bodyAt g = true) (h4 : C.fine = fun g => !hasN BAD g) : Good' C Tabs := by
  obtain ⟨P, tab, sym, con, fine, lp⟩ := C
  simp only at h1 h2 h3 h4
  subst h1; subst h2; subst h4
  exact {
    mixed := mixed
    names := fun g fn hg => by
      have := List.all_eq_true.1 namesOk g (List.mem_range.2 (in_range hg))
      unfold nameAt at this
      have hg' : Tryd.prog.funcs[g]? = some fn := hg
      rw [listGet_eq, Array.getElem?_toList, hg'] at this
      simpa using this
    code := fun g fn c hf hg hc => by
      have := List.all_eq_true.1 fineOk g (List.mem_range.2 (in_range hg))
      have hf' : (!hasN BAD g) = true := hf
      have hb : hasN BAD g = false := by simpa using hf'
      rw [hb, Bool.false_or] at this
      unfold fineAt at this
      have hg' : Tryd.prog.funcs[g]? = some fn := hg
      rw [listGet_eq, Array.getElem?_toList, hg'] at this
      simp only [hc] at this
      exact this
    tab := fun w h => h.tab
    stable := fun w w' h hb => h.below hb
    con := fun g hg => by
      have := h3 g hg
      unfold bodyAt at this
      split at this
      · rename_i fn hfn
        rw [listGet_eq, Array.getElem?_toList] at hfn
        exact ⟨fn, hfn, this⟩
      · cases this }
theorem good (op : Bool) (I : List Nat) (sp : List LSpec) : Good' (ctxS op I sp) Tabs := good_of rfl rfl (fun g h => by
  have h : (!hasN I g && bodyAt g) = true := h
  simp only [Bool.and_eq_true] at h
  exact h.2) rfl
theorem goodK (S : List (Nat × Nat)) (K : List Nat) (sp : List LSpec) : Good' (ctxK S K sp) Tabs := good_of rfl rfl (fun g h => by
  have h : (hasN K g && bodyAt g) = true := h
  simp only [Bool.and_eq_true] at h
  exact h.2) rfl
theorem asked_as {C C' : Ctx} (h : C.P = C'.P) : ∀ {q : Go.Ev.Ask}, AskOK C Tabs q → AskOK C' Tabs q := by
  intro q hq
  cases q with
  | call g ds r =>
    intro w A vs hw hv
    have := hq w A vs hw hv
    rwa [h] at this
  | loop c s x t low =>
    intro w0 hw hs
    have := hq w0 hw hs
    unfold CodeOK at this ⊢
    rw [← h]
    exact this
theorem loopin_as {C C' : Ctx} (h : C.P = C'.P) {c : Code} {E : List AV × AHeap} {base : Nat} {fr : AFrame} {x : LExit} {ds : List D} (k : LoopIn C Tabs c E base fr x ds) : LoopIn C' Tabs c E base fr x ds := fun ora ora' vals vals' =>
  asked_as (q := .loop _ _ _ _ _) h (k ora ora' vals vals')
abbrev LoopC (c : Code) (E : List AV × AHeap) (base : Nat) (fr : AFrame) (x : LExit) (ds : List D) : Prop := LoopIn (ctx [] []) Tabs c E base fr x ds
/-- A contract, by a run. -/
theorem con_of {op : Bool} {I : List Nat} {sp : List LSpec} {n : Nat} {g : FuncId} {ds : List D} {ora : List Bool} {res : List D} {r : D} {conds : List (Bool × Bool)} {cls : List Go.Ev.Ask}
    (h : okOut (run (ctxS op I sp) n (.enter g (avOfL 0 ds).1) ⟨[], (avOfL 0 ds).2.1, (avOfL 0 ds).2.2, ora, ⟨res, noFrame⟩⟩) = some (r, conds, cls)) (hc : allC conds) (hk : allK cls) : Con g ds r := fun w A vs hw hv =>
  calls3 (good op I sp) h hc (fun q hq => asked_as rfl (allK_mem hk q hq)) w A vs hw hv
theorem con_ofK {S : List (Nat × Nat)} {K : List Nat} {sp : List LSpec} {n : Nat} {g : FuncId} {ds : List D} {ora : List Bool} {res : List D} {r : D} {conds : List (Bool × Bool)} {cls : List Go.Ev.Ask}
    (h : okOut (run (ctxK S K sp) n (.enter g (avOfL 0 ds).1) ⟨[], (avOfL 0 ds).2.1, (avOfL 0 ds).2.2, ora, ⟨res, noFrame⟩⟩) = some (r, conds, cls)) (hc : allC conds) (hk : allK cls) : Con g ds r := fun w A vs hw hv =>
  calls3 (goodK S K sp) h hc (fun q hq => asked_as rfl (allK_mem hk q hq)) w A vs hw hv
theorem con_val {g : FuncId} {ds : List D} {r r' : D} (h : Con g ds r) (e : r = r') : Con g ds r' := e ▸ h
theorem con_arg {g : FuncId} {ds ds' : List D} {r : D} (h : Con g ds r) (e : ds = ds') : Con g ds' r := e ▸ h
/-- One round of a loop, by a run. -/
theorem step_of {I : List Nat} {sp : List LSpec} {l : LoopAt} {fuel : Nat} {ora : List Bool} {vals : List D} {ns : List Go.Ev.Loc} {S1 S2 S2' : List AV × AHeap} {x : AX} {conds : List (Bool × Bool)} {calls : List Go.Ev.Ask}
    (r : Option Out) (hr : r = run (ctx I sp) fuel (.code l.f l.c) ⟨S1.1, S1.2, l.nx, ora, ⟨vals, l.fr⟩⟩) (h1 : r = some (outOf r))
    (h2 : ((outOf r).x, (outOf r).st.res.fr, (outOf r).log, (outOf r).st.tmps) = (x, l.fr, ⟨conds, calls⟩, AV.renL (qOf l.base ns ((outOf r).st.tmps, (outOf r).st.heap)) (aOf l.base ns ((outOf r).st.tmps, (outOf r).st.heap)) S2'.1))
    (h3 : S2'.2.map (fun e => hget (outOf r).st.heap (qOf l.base ns ((outOf r).st.tmps, (outOf r).st.heap) e.1)) = S2'.2.map (fun e => some (⟨AV.renL (qOf l.base ns ((outOf r).st.tmps, (outOf r).st.heap)) (aOf l.base ns ((outOf r).st.tmps, (outOf r).st.heap)) e.2.cells, e.2.opn, e.2.kind⟩ : ABlock)))
    (h4 : (namesIn l.nx S2'.2 && distinctBy (qOf l.base ns ((outOf r).st.tmps, (outOf r).st.heap)) S2'.2 && aboveBy l.base (qOf l.base ns ((outOf r).st.tmps, (outOf r).st.heap)) S2'.2) = true)
    (h5 : (AV.okL l.nx S1.1 && Nat.ble l.low (outOf r).low) = true) (h6 : (List.range l.low).map (hget S2'.2) = (List.range l.low).map (hget S1.2)) (hS : S2' = S2) (hc : allC conds) (hk : allK calls) :
    Step (ctx I sp) Tabs l S1 S2 x := mk_step r hr h1 h2 h3 h4 h5 h6 hS hc fun q hq => asked_as rfl (allK_mem hk q hq)
end
end Go.Proofs.YtegjgcogikjemaaDoor
/- THE TABLES, AS THE ROWS' LISTS LAY THEM. -/
namespace Go.Proofs.YtegjgcogikjemaaDoor
open Go.ChangeShapes Go.WideShapes Go.ChangeAt Go.RowKit Go.Joins Go.Ev
theorem own : ownKnob Tryd.prog.godebug = none := by kernel_rfl
theorem u3 : Tryd.prog.underlying 3 = some (.int .i64) := by kernel_rfl
theorem u9 : Tryd.prog.underlying 9 = some .string := by kernel_rfl
theorem gN0 : Tryd.prog.globalNamed "buchholz/design.unitsOf" = some 2 := by kernel_rfl
theorem gT0 : (Tryd.prog.globals[2]?).map (·.type) = some 255 := by kernel_rfl
theorem gU0 : Tryd.prog.underlying 255 = some (.array 6 3) := by kernel_rfl
theorem gN1 : Tryd.prog.globalNamed "buchholz/design.unitWords" = some 3 := by kernel_rfl
theorem gT1 : (Tryd.prog.globals[3]?).map (·.type) = some 275 := by kernel_rfl
theorem gU1 : Tryd.prog.underlying 275 = some (.array 3 9) := by kernel_rfl
theorem gN2 : Tryd.prog.globalNamed "buchholz/design.quantityWords" = some 7 := by kernel_rfl
theorem gT2 : (Tryd.prog.globals[7]?).map (·.type) = some 286 := by kernel_rfl
theorem gU2 : Tryd.prog.underlying 286 = some (.array 6 9) := by kernel_rfl
theorem flat {α : Type} (k : Nat) : ∀ (Rs : List (List α)) (cs : List α), cs.length = Rs.length * k → (∀ i R, Rs[i]? = some R → (cs.drop (i * k)).take k = R) → cs = Rs.flatten
  | [], cs, h, _ => by simpa using h
  | R :: Rs, cs, h, hR => by
    have h0 := hR 0 R rfl
    simp only [Nat.zero_mul, List.drop_zero] at h0
    have ih := flat k Rs (cs.drop k) (by simp only [List.length_drop, h, List.length_cons, Nat.add_mul, Nat.one_mul]; omega) (fun i R' hi => by
      have := hR (i + 1) R' (by simpa using hi)
      rw [List.drop_drop]
      rwa [Nat.add_mul, Nat.one_mul, Nat.add_comm] at this)
    rw [List.flatten_cons, ← ih, ← h0, List.take_append_drop]
theorem rows {W : World} {fuel n e : Nat} {t : TypeId} {cs : List Value} {ds : List (DataW Unit)} {p : List MemPlace} (ht : Tryd.prog.underlying t = some (.array n e))
    (h : DataW.trod (fun _ => ()) Tryd.prog W 0 (fun _ => true) false fuel t cs = some (.agg ds, p)) :
    cs.length = Tryd.prog.cellsOf t ∧ ds.length = n ∧ ∀ (i : Nat) d, ds[i]? = some d → ∃ m q, DataW.trod (fun _ => ()) Tryd.prog W 0 (fun _ => true) false m e ((cs.drop (i * Tryd.prog.cellsOf e)).take (Tryd.prog.cellsOf e)) = some (d, q) := by
  obtain ⟨xs, m, rfl, hx, hl, hn, hel⟩ := DataW.trod_array ht h
  simp only [Prod.mk.injEq, DataW.agg.injEq] at hx
  obtain ⟨rfl, -⟩ := hx
  refine ⟨hl, by simpa using hn, fun i d hd => ?_⟩
  rw [List.getElem?_map] at hd
  cases hx : xs[i]? with
  | none => rw [hx] at hd; cases hd
  | some x =>
    rw [hx] at hd
    have hi : i < n := by rw [← hn]; exact (List.getElem?_eq_some_iff.mp hx).1
    have := hel i hi
    rw [hx] at this
    refine ⟨m, x.2, this.trans ?_⟩
    cases hd; rfl
theorem one {W : World} {fuel : Nat} {cs : List Value} {k : Int} {q : List MemPlace} (h : DataW.trod (fun _ => ()) Tryd.prog W 0 (fun _ => true) false fuel 3 cs = some (.lit (.int .i64 k), q)) : cs = [.int .i64 k] := by
  obtain ⟨n, rfl, hx, _⟩ := DataW.trod_int u3 h
  simp only [Prod.mk.injEq, DataW.lit.injEq, Lit.int.injEq, true_and] at hx
  rw [hx.1]
theorem oneS {W : World} {fuel : Nat} {cs : List Value} {k : List UInt8} {q : List MemPlace} (h : DataW.trod (fun _ => ()) Tryd.prog W 0 (fun _ => true) false fuel 9 cs = some (.lit (.string k), q)) : cs = [.string ⟨k.toArray⟩] := by
  obtain ⟨s, rfl, hx, _⟩ := DataW.trod_string u9 h
  simp only [Prod.mk.injEq, DataW.lit.injEq, Lit.string.injEq] at hx
  rw [hx.1]
theorem ints {W : World} {fuel n : Nat} {t : TypeId} {cs : List Value} {p : List MemPlace} (Ls : List Int) (ht : Tryd.prog.underlying t = some (.array n 3)) (hc : Tryd.prog.cellsOf t = Ls.length * 1)
    (h : DataW.trod (fun _ => ()) Tryd.prog W 0 (fun _ => true) false fuel t cs = some (.agg (Ls.map fun x => .lit (.int .i64 x)), p)) :
    cs = (Ls.map fun x => [Value.int .i64 x]).flatten := by
  obtain ⟨hl, hn, hr⟩ := rows ht h
  have c : Tryd.prog.cellsOf 3 = 1 := by kernel_rfl
  rw [c] at hr
  refine flat 1 _ cs (by rw [hl, hc, List.length_map]) (fun i R hR => ?_)
  rw [List.getElem?_map] at hR
  cases hx : Ls[i]? with
  | none => rw [hx] at hR; cases hR
  | some x =>
    rw [hx] at hR
    cases hR
    obtain ⟨m, q, ht⟩ := hr i _ (by rw [List.getElem?_map, hx]; rfl)
    exact one ht
theorem strs {W : World} {fuel n : Nat} {t : TypeId} {cs : List Value} {p : List MemPlace} (Ls : List (List UInt8)) (ht : Tryd.prog.underlying t = some (.array n 9)) (hc : Tryd.prog.cellsOf t = Ls.length * 1)
    (h : DataW.trod (fun _ => ()) Tryd.prog W 0 (fun _ => true) false fuel t cs = some (.agg (Ls.map fun x => .lit (.string x)), p)) :
    cs = (Ls.map fun x => [Value.string ⟨x.toArray⟩]).flatten := by
  obtain ⟨hl, hn, hr⟩ := rows ht h
  have c : Tryd.prog.cellsOf 9 = 1 := by kernel_rfl
  rw [c] at hr
  refine flat 1 _ cs (by rw [hl, hc, List.length_map]) (fun i R hR => ?_)
  rw [List.getElem?_map] at hR
  cases hx : Ls[i]? with
  | none => rw [hx] at hR; cases hR
  | some x =>
    rw [hx] at hR
    cases hR
    obtain ⟨m, q, ht⟩ := hr i _ (by rw [List.getElem?_map, hx]; rfl)
    exact oneS ht
theorem cells_of {W : World} {n : String} {g : Nat} {cs : Array Value} (hg : Tryd.prog.globalNamed n = some g) (hv : World.var? Tryd.prog W n = some cs) {L : List Value} (hL : cs.toList = L) : ∀ j v, L[j]? = some v → W.cell? ⟨g, j, none⟩ = some v := fun j v hj => by
  rw [World.var?_cell hg hv j, ← hj, ← hL, Array.getElem?_toList]
theorem of_laid_DesignStocks {W : World} (h : laidMetH Tryd.prog Rows.designStocksRow.laid W) : Tabs W := by
  rw [MakeChecks.laidMetH_plain _ _ _ (by kernel_rfl)] at h
  obtain ⟨ps, ⟨g0, t0, cs0, f0, p0, q0, hg0, ht0, hv0, hd0, ⟨g1, t1, cs1, f1, p1, q1, hg1, ht1, hv1, hd1, ⟨g2, t2, cs2, f2, p2, q2, hg2, ht2, hv2, hd2, ⟨g3, t3, cs3, f3, p3, q3, hg3, ht3, hv3, hd3, ⟨g4, t4, cs4, f4, p4, q4, hg4, ht4, hv4, hd4, ⟨g5, t5, cs5, f5, p5, q5, hg5, ht5, hv5, hd5, _, _⟩, _⟩, _⟩, _⟩, _⟩, _⟩, _, _⟩ := h
  obtain rfl := Option.some.inj (gN0.symm.trans hg5)
  obtain rfl := Option.some.inj (gT0.symm.trans ht5)
  have c0 := cells_of gN0 hv5 ((ints [0, 0, 1, 1, 2, 2] gU0 (by kernel_rfl) hd5).trans rfl)
  obtain rfl := Option.some.inj (gN1.symm.trans hg4)
  obtain rfl := Option.some.inj (gT1.symm.trans ht4)
  have c1 := cells_of gN1 hv4 ((strs [[107, 103], [87], [109, 109]] gU1 (by kernel_rfl) hd4).trans rfl)
  obtain rfl := Option.some.inj (gN2.symm.trans hg3)
  obtain rfl := Option.some.inj (gT2.symm.trans ht3)
  have c2 := cells_of gN2 hv3 ((strs [[109, 97, 115, 115], [99, 111, 112, 112, 101, 114], [105, 100, 108, 101], [108, 111, 97, 100], [104, 101, 105, 103, 104, 116], [119, 105, 100, 116, 104]] gU2 (by kernel_rfl) hd3).trans rfl)
  refine ⟨?_, fun g L hL j v hj => ?_⟩
  · have h0 := c2 0 _ rfl
    have : 7 < W.heap.size := by
      rcases Nat.lt_or_ge 7 W.heap.size with h1 | h1
      · exact h1
      · simp [World.cell?, Array.getElem?_eq_none h1] at h0
    exact Nat.le_trans (show gtab.length ≤ 8 by decide +kernel) this
  · match g, hL with
    | 0, hL => cases hL; simp at hj
    | 1, hL => cases hL; simp at hj
    | 2, hL => cases hL; exact c0 j v hj
    | 3, hL => cases hL; exact c1 j v hj
    | 4, hL => cases hL; simp at hj
    | 5, hL => cases hL; simp at hj
    | 6, hL => cases hL; simp at hj
    | 7, hL => cases hL; exact c2 j v hj
    | g + 8, hL => cases hL
theorem of_laid_DesignCores {W : World} (h : laidMetH Tryd.prog Rows.designCoresRow.laid W) : Tabs W := by
  rw [MakeChecks.laidMetH_plain _ _ _ (by kernel_rfl)] at h
  obtain ⟨ps, ⟨g0, t0, cs0, f0, p0, q0, hg0, ht0, hv0, hd0, ⟨g1, t1, cs1, f1, p1, q1, hg1, ht1, hv1, hd1, ⟨g2, t2, cs2, f2, p2, q2, hg2, ht2, hv2, hd2, ⟨g3, t3, cs3, f3, p3, q3, hg3, ht3, hv3, hd3, ⟨g4, t4, cs4, f4, p4, q4, hg4, ht4, hv4, hd4, ⟨g5, t5, cs5, f5, p5, q5, hg5, ht5, hv5, hd5, _, _⟩, _⟩, _⟩, _⟩, _⟩, _⟩, _, _⟩ := h
  obtain rfl := Option.some.inj (gN0.symm.trans hg5)
  obtain rfl := Option.some.inj (gT0.symm.trans ht5)
  have c0 := cells_of gN0 hv5 ((ints [0, 0, 1, 1, 2, 2] gU0 (by kernel_rfl) hd5).trans rfl)
  obtain rfl := Option.some.inj (gN1.symm.trans hg4)
  obtain rfl := Option.some.inj (gT1.symm.trans ht4)
  have c1 := cells_of gN1 hv4 ((strs [[107, 103], [87], [109, 109]] gU1 (by kernel_rfl) hd4).trans rfl)
  obtain rfl := Option.some.inj (gN2.symm.trans hg3)
  obtain rfl := Option.some.inj (gT2.symm.trans ht3)
  have c2 := cells_of gN2 hv3 ((strs [[109, 97, 115, 115], [99, 111, 112, 112, 101, 114], [105, 100, 108, 101], [108, 111, 97, 100], [104, 101, 105, 103, 104, 116], [119, 105, 100, 116, 104]] gU2 (by kernel_rfl) hd3).trans rfl)
  refine ⟨?_, fun g L hL j v hj => ?_⟩
  · have h0 := c2 0 _ rfl
    have : 7 < W.heap.size := by
      rcases Nat.lt_or_ge 7 W.heap.size with h1 | h1
      · exact h1
      · simp [World.cell?, Array.getElem?_eq_none h1] at h0
    exact Nat.le_trans (show gtab.length ≤ 8 by decide +kernel) this
  · match g, hL with
    | 0, hL => cases hL; simp at hj
    | 1, hL => cases hL; simp at hj
    | 2, hL => cases hL; exact c0 j v hj
    | 3, hL => cases hL; exact c1 j v hj
    | 4, hL => cases hL; simp at hj
    | 5, hL => cases hL; simp at hj
    | 6, hL => cases hL; simp at hj
    | 7, hL => cases hL; exact c2 j v hj
    | g + 8, hL => cases hL
theorem of_laid_DesignSteps {W : World} (h : laidMetH Tryd.prog Rows.designStepsRow.laid W) : Tabs W := by
  rw [MakeChecks.laidMetH_plain _ _ _ (by kernel_rfl)] at h
  obtain ⟨ps, ⟨g0, t0, cs0, f0, p0, q0, hg0, ht0, hv0, hd0, ⟨g1, t1, cs1, f1, p1, q1, hg1, ht1, hv1, hd1, ⟨g2, t2, cs2, f2, p2, q2, hg2, ht2, hv2, hd2, ⟨g3, t3, cs3, f3, p3, q3, hg3, ht3, hv3, hd3, ⟨g4, t4, cs4, f4, p4, q4, hg4, ht4, hv4, hd4, ⟨g5, t5, cs5, f5, p5, q5, hg5, ht5, hv5, hd5, _, _⟩, _⟩, _⟩, _⟩, _⟩, _⟩, _, _⟩ := h
  obtain rfl := Option.some.inj (gN0.symm.trans hg5)
  obtain rfl := Option.some.inj (gT0.symm.trans ht5)
  have c0 := cells_of gN0 hv5 ((ints [0, 0, 1, 1, 2, 2] gU0 (by kernel_rfl) hd5).trans rfl)
  obtain rfl := Option.some.inj (gN1.symm.trans hg4)
  obtain rfl := Option.some.inj (gT1.symm.trans ht4)
  have c1 := cells_of gN1 hv4 ((strs [[107, 103], [87], [109, 109]] gU1 (by kernel_rfl) hd4).trans rfl)
  obtain rfl := Option.some.inj (gN2.symm.trans hg3)
  obtain rfl := Option.some.inj (gT2.symm.trans ht3)
  have c2 := cells_of gN2 hv3 ((strs [[109, 97, 115, 115], [99, 111, 112, 112, 101, 114], [105, 100, 108, 101], [108, 111, 97, 100], [104, 101, 105, 103, 104, 116], [119, 105, 100, 116, 104]] gU2 (by kernel_rfl) hd3).trans rfl)
  refine ⟨?_, fun g L hL j v hj => ?_⟩
  · have h0 := c2 0 _ rfl
    have : 7 < W.heap.size := by
      rcases Nat.lt_or_ge 7 W.heap.size with h1 | h1
      · exact h1
      · simp [World.cell?, Array.getElem?_eq_none h1] at h0
    exact Nat.le_trans (show gtab.length ≤ 8 by decide +kernel) this
  · match g, hL with
    | 0, hL => cases hL; simp at hj
    | 1, hL => cases hL; simp at hj
    | 2, hL => cases hL; exact c0 j v hj
    | 3, hL => cases hL; exact c1 j v hj
    | 4, hL => cases hL; simp at hj
    | 5, hL => cases hL; simp at hj
    | 6, hL => cases hL; simp at hj
    | 7, hL => cases hL; exact c2 j v hj
    | g + 8, hL => cases hL
end Go.Proofs.YtegjgcogikjemaaDoor
/- Running the program's functions on values that are known in part: models of functions, their loops by steps. -/
namespace Go.Ev
open Go.RowKit
noncomputable section
/-- How a round ends: at its end, by which head; or at an exit. -/
inductive Rd where
  | next (q : Nat) (ds : List D)
  | out (j : Nat) (ds : List D)
/-! ### Parts of values -/
def Value.pi : Value → Int
  | .int _ x => x
  | _ => 0
def Value.pb : Value → Bool
  | .bool x => x
  | _ => false
def Value.ps : Value → ByteArray
  | .string x => x
  | _ => ⟨#[]⟩
def Value.pc : Value → Nat → Value
  | .agg xs, i => xs.toList[i]?.getD undef
  | _, _ => undef
def D.vv : D → Value
  | .one v => v
  | _ => undef
def D.vi (d : D) : Int := Value.pi d.vv
def D.vb (d : D) : Bool := Value.pb d.vv
def D.vs (d : D) : ByteArray := Value.ps d.vv
def D.ln : D → Nat
  | .list k _ => k
  | _ => 0
def D.lc : D → List D
  | .list _ cs => cs
  | _ => []
def nthD : List D → Nat → D
  | [], _ => .tup []
  | d :: _, 0 => d
  | _ :: ds, n + 1 => nthD ds n
def D.at : D → Nat → D
  | .agg cs, n => nthD cs n
  | .tup cs, n => nthD cs n
  | _, _ => .tup []
/-! ### Events -/
open Classical in
def guardP {α : Type} (P : Prop) (o : Option α) : Option α := if P then o else none
theorem guardP_elim {α : Type} {P : Prop} {o : Option α} {r : α} (h : guardP P o = some r) : P ∧ o = some r := by
  unfold guardP at h
  split at h
  · exact ⟨by assumption, h⟩
  · cases h
theorem guardP_pos {α : Type} {P : Prop} {o : Option α} (h : P) : guardP P o = o := if_pos h
open Classical in
def pullD {α β : Type} (o : Option D) (proj : D → α) (pat : α → D) (k : α → Option β) : Option β := match o with
  | some d => if pat (proj d) = d then k (proj d) else none
  | none => none
theorem pullD_elim {α β : Type} {o : Option D} {proj : D → α} {pat : α → D} {k : α → Option β} {r : β} (h : pullD o proj pat k = some r) : ∃ a, o = some (pat a) ∧ k a = some r := by
  unfold pullD at h
  split at h
  · split at h
    · rename_i d hd
      exact ⟨proj d, by rw [hd], h⟩
    · cases h
  · cases h
theorem pullD_some {α β : Type} {o : Option D} {proj : D → α} {pat : α → D} {k : α → Option β} (a : α) (h : o = some (pat a)) (e : proj (pat a) = a) : pullD o proj pat k = k a := by
  subst h
  unfold pullD
  simp only [e, if_true]
def readD (L : List D) (off size : Nat) (g : Bool) : Option D := match g with
  | false => L[off]?
  | true => if ((L.drop off).take size).length = size ∧ 0 < size then some (.agg ((L.drop off).take size)) else none
theorem readD_elim {L : List D} {off size : Nat} {g : Bool} {d : D} (h : readD L off size g = some d) : readsAs L off size g d := by
  unfold readD at h
  cases g with
  | false => exact h
  | true =>
    simp only at h
    split at h
    · rename_i hl
      cases h
      exact ⟨_, rfl, hl.1, hl.2, rfl⟩
    · cases h
theorem readD_of {L : List D} {off size : Nat} {g : Bool} {d : D} (h : readsAs L off size g d) : readD L off size g = some d := by
  cases g with
  | false => exact h
  | true =>
    obtain ⟨ds, rfl, h1, h2, h3⟩ := h
    unfold readD
    rw [h3]
    simp only [h1, true_and, h2, if_true]
def bindL {β : Type} (o : Option Rd) (k : Nat → List D → Option β) : Option β := match o with
  | some (.out j ds) => k j ds
  | _ => none
theorem bindL_elim {β : Type} {o : Option Rd} {k : Nat → List D → Option β} {r : β} (h : bindL o k = some r) : ∃ j ds, o = some (.out j ds) ∧ k j ds = some r := by
  unfold bindL at h
  split at h
  · exact ⟨_, _, rfl, h⟩
  · cases h
theorem bindL_some {β : Type} {o : Option Rd} {k : Nat → List D → Option β} {j : Nat} {ds : List D} (h : o = some (.out j ds)) : bindL o k = k j ds := by
  subst h; rfl
theorem tup_inj {a b : List D} (h : some (D.tup a) = some (D.tup b)) : a = b := by
  injection h with h; injection h
/-! ### Loops -/
def iterR (S : Rd → Option Rd) : Nat → Rd → Option Rd
  | _, .out j ds => some (.out j ds)
  | 0, .next _ _ => none
  | n + 1, .next q ds => match S (.next q ds) with
    | some s => iterR S n s
    | none => none
theorem iterR_mono {S : Rd → Option Rd} : ∀ {n m : Nat} {s o : Rd}, iterR S n s = some o → n ≤ m → iterR S m s = some o
  | n, m, .out j ds, o, h, _ => by
    cases n <;> cases m <;> exact h
  | 0, _, .next q ds, o, h, _ => by cases h
  | n + 1, 0, .next q ds, o, h, hm => by omega
  | n + 1, m + 1, .next q ds, o, h, hm => by
    unfold iterR at h ⊢
    split at h
    · rename_i s hs
      exact iterR_mono h (by omega)
    · cases h
open Classical in
/-- Where a loop ends, if it does. -/
def runR (S : Rd → Option Rd) (s : Rd) : Option Rd := if h : ∃ o, ∃ n, iterR S n s = some o then some h.choose else none
theorem runR_iff {S : Rd → Option Rd} {s o : Rd} : runR S s = some o ↔ ∃ n, iterR S n s = some o := by
  unfold runR
  constructor
  · intro h
    split at h
    · rename_i hx
      cases h
      exact hx.choose_spec
    · cases h
  · rintro ⟨n, h⟩
    have hx : ∃ o, ∃ n, iterR S n s = some o := ⟨o, n, h⟩
    rw [dif_pos hx]
    obtain ⟨m, hm⟩ := hx.choose_spec
    have h1 := iterR_mono h (Nat.le_max_left n m)
    have h2 := iterR_mono hm (Nat.le_max_right n m)
    rw [h1] at h2
    exact h2.symm
theorem runR_out {S : Rd → Option Rd} {j : Nat} {ds : List D} : runR S (.out j ds) = some (.out j ds) := runR_iff.2 ⟨0, rfl⟩
theorem runR_next {S : Rd → Option Rd} {q : Nat} {ds : List D} {s : Rd} (h : S (.next q ds) = some s) : runR S (.next q ds) = runR S s := by
  cases hr : runR S s with
  | some o =>
    obtain ⟨n, hn⟩ := runR_iff.1 hr
    refine runR_iff.2 ⟨n + 1, ?_⟩
    unfold iterR; rw [h]; exact hn
  | none =>
    cases hq : runR S (.next q ds) with
    | none => rfl
    | some o =>
      obtain ⟨n, hn⟩ := runR_iff.1 hq
      cases n with
      | zero => cases hn
      | succ n =>
        unfold iterR at hn; rw [h] at hn
        rw [runR_iff.2 ⟨n, hn⟩] at hr; cases hr
def EndOK (nx low : Nat) (gs : Rd → Option GS) : Rd → Prop
  | .out j ds => AV.okL nx (stateOf (gs (.out j ds))).1 = true ∧ (nxtOf (gs (.out j ds)), lowGS (gs (.out j ds))) = (nx, low)
  | _ => True
theorem runs_of {C : Ctx} {G : World → Prop} (hg : Good' C G) {l : LoopAt} (hl : l.OK) {gs : Rd → Option GS} {ax : Rd → AX} {S : Rd → Option Rd} (hn : ∀ q ds, ax (.next q ds) = .normal) (hx : ∀ j ds, isVal (ax (.out j ds)) = false ∧ ax (.out j ds) ≠ .normal)
    (hs : ∀ s s', S s = some s' → Step C G l (stateOf (gs s)) (stateOf (gs s')) (ax s') ∧ EndOK l.nx l.low gs s') : ∀ (n : Nat) (q : Nat) (ds : List D) (j : Nat) (es : List D), iterR S n (.next q ds) = some (.out j es) →
      Runs C G l (stateOf (gs (.next q ds))) (stateOf (gs (.out j es))) (ax (.out j es)) ∧ EndOK l.nx l.low gs (.out j es)
  | 0, q, ds, j, es, h => by cases h
  | n + 1, q, ds, j, es, h => by
    unfold iterR at h
    split at h
    · rename_i s hs1
      obtain ⟨h1, h2⟩ := hs _ _ hs1
      cases s with
      | next q' ds' =>
        rw [hn] at h1
        obtain ⟨h3, h4⟩ := runs_of hg hl hn hx hs n q' ds' j es h
        exact ⟨Step.more hg hl h1 h3, h4⟩
      | out j' es' =>
        have e : some (Rd.out j' es') = some (.out j es) := by cases n <;> exact h
        cases e
        exact ⟨Step.runs hg hl h1 (hx _ _) h2.1, h2⟩
    · cases h
theorem runs_of' {C : Ctx} {G : World → Prop} (hg : Good' C G) {l : LoopAt} (hl : l.OK) {gs : Rd → Option GS} {ax : Rd → AX} {S : Rd → Option Rd} (hn : ∀ q ds, ax (.next q ds) = .normal) (hx : ∀ j ds, isVal (ax (.out j ds)) = false ∧ ax (.out j ds) ≠ .normal)
    (hs : ∀ s s', S s = some s' → Step C G l (stateOf (gs s)) (stateOf (gs s')) (ax s') ∧ EndOK l.nx l.low gs s') {q : Nat} {ds : List D} {j : Nat} {es : List D} (h : runR S (.next q ds) = some (.out j es)) :
      Runs C G l (stateOf (gs (.next q ds))) (stateOf (gs (.out j es))) (ax (.out j es)) ∧ (nxtOf (gs (.out j es)), lowGS (gs (.out j es))) = (l.nx, l.low) := by
  obtain ⟨n, hn'⟩ := runR_iff.1 h
  obtain ⟨h1, h2⟩ := runs_of hg hl hn hx hs n q ds j es hn'
  exact ⟨h1, h2.2⟩
theorem axOf_end (o : Option Nat) : isVal (axOf o) = false ∧ axOf o ≠ .normal := by
  cases o <;> exact ⟨rfl, by simp [axOf]⟩
end
end Go.Ev
/- Models of functions: what helps to compute with them. -/
namespace Go.Ev
open Go.RowKit
noncomputable section
theorem runR_scan {S : Rd → Option Rd} (q : Nat → Nat) (ds : Nat → List D) {a b : Nat} (hab : a ≤ b) (h : ∀ i, a ≤ i → i < b → S (.next (q i) (ds i)) = some (.next (q (i + 1)) (ds (i + 1)))) : runR S (.next (q a) (ds a)) = runR S (.next (q b) (ds b)) := by
  have key : ∀ m i, a ≤ i → i + m = b → runR S (.next (q i) (ds i)) = runR S (.next (q b) (ds b)) := by
    intro m
    induction m with
    | zero => intro i _ hi; have : i = b := by omega
              subst this; rfl
    | succ m ih => intro i hs hi; rw [runR_next (h i hs (by omega)), ih (i + 1) (by omega) (by omega)]
  exact key (b - a) a (Nat.le_refl _) (by omega)
theorem runR_exit {S : Rd → Option Rd} {q : Nat} {ds : List D} {j : Nat} {es : List D} (h : S (.next q ds) = some (.out j es)) : runR S (.next q ds) = some (.out j es) := by
  rw [runR_next h, runR_out]
open Classical in
/-- A function whose contract is known in another form. -/
def viaD {α : Type} (P : α → Prop) (enc : α → List D) (val : α → D) (ds : List D) : Option D := if h : ∃ a, P a ∧ enc a = ds then some (val h.choose) else none
theorem viaD_eq {α : Type} {P : α → Prop} {enc : α → List D} {val : α → D} (hinj : ∀ a b, enc a = enc b → a = b) {a : α} (h : P a) : viaD P enc val (enc a) = some (val a) := by
  unfold viaD
  have hx : ∃ b, P b ∧ enc b = enc a := ⟨a, h, rfl⟩
  rw [dif_pos hx, hinj _ _ hx.choose_spec.2]
theorem viaD_elim {α : Type} {P : α → Prop} {enc : α → List D} {val : α → D} {ds : List D} {r : D} (h : viaD P enc val ds = some r) : ∃ a, P a ∧ enc a = ds ∧ val a = r := by
  unfold viaD at h
  split at h
  · rename_i hx
    exact ⟨_, hx.choose_spec.1, hx.choose_spec.2, Option.some.inj h⟩
  · cases h
theorem pullD_lit {α β : Type} {d : D} {proj : D → α} {pat : α → D} {k : α → Option β} (h : pat (proj d) = d) : pullD (some d) proj pat k = k (proj d) := by
  unfold pullD
  simp only [h, if_true]
end
end Go.Ev
/- Runs inside models: what is asked, with its proofs. -/
namespace Go.Proofs.YtegjgcogikjemaaDoor
open Go.Ev Go.RowKit
set_option maxRecDepth 100000
noncomputable section
/-- A truth that is asked, and why it is so. -/
structure PC where
  c : Bool
  q : Bool
  h : c = q
abbrev PC.p (x : PC) : Bool × Bool := (x.c, x.q)
def pairsC : List PC → List (Bool × Bool)
  | [] => []
  | x :: xs => (x.c, x.q) :: pairsC xs
theorem pairsC_ok : ∀ xs : List PC, allC (pairsC xs)
  | [] => trivial
  | x :: xs => ⟨x.h, pairsC_ok xs⟩
abbrev c_T : PC := ⟨true, true, rfl⟩
abbrev c_F : PC := ⟨false, false, rfl⟩
abbrev c_d {p : Prop} [Decidable p] (h : p) : PC := ⟨decide p, true, decide_eq_true h⟩
abbrev c_n {p : Prop} [Decidable p] (h : ¬ p) : PC := ⟨decide p, false, decide_eq_false h⟩
abbrev c_f {p : Prop} (h : p) : PC := ⟨fact p, true, fact_mk h⟩
abbrev c_b {α : Type} [BEq α] [LawfulBEq α] {a b : α} (h : a ≠ b) : PC := ⟨a != b, true, bne_iff_ne.2 h⟩
abbrev c_bn {α : Type} [BEq α] [LawfulBEq α] {a b : α} (h : a = b) : PC := ⟨a != b, false, bne_eq_false_iff_eq.2 h⟩
abbrev c_e {α : Type} [BEq α] [LawfulBEq α] {a b : α} (h : a = b) : PC := ⟨a == b, true, beq_iff_eq.2 h⟩
abbrev c_en {α : Type} [BEq α] [LawfulBEq α] {a b : α} (h : a ≠ b) : PC := ⟨a == b, false, beq_eq_false_iff_ne.2 h⟩
abbrev c_q {c q : Bool} (h : c = q) : PC := ⟨c, q, h⟩
abbrev c_no {c : Bool} (h : c = false) : PC := ⟨!c, true, by rw [h]; rfl⟩
abbrev c_nn {c : Bool} (h : c = true) : PC := ⟨!c, false, by rw [h]; rfl⟩
def bT : Nat → List Bool → List Bool
  | 0, l => l
  | n + 1, l => true :: bT n l
def bF : Nat → List Bool → List Bool
  | 0, l => l
  | n + 1, l => false :: bF n l
/-- What is asked of calls and loops, and why it is so. -/
structure PK where
  q : Go.Ev.Ask
  h : AskOK (ctx [] []) Tabs q
def asksK : List PK → List Go.Ev.Ask
  | [] => []
  | x :: xs => x.q :: asksK xs
theorem asksK_ok : ∀ xs : List PK, allK (asksK xs)
  | [] => trivial
  | x :: xs => ⟨x.h, asksK_ok xs⟩
abbrev k_c {g : FuncId} {ds : List D} {r : D} (h : Con g ds r) : PK := ⟨.call g ds r, h⟩
abbrev k_l {c : Code} {E : List AV × AHeap} {base : Nat} {x : LExit} {ds : List D} (h : LoopC c E base noFrame x ds) (ora : List Bool) (vals vals' : List D) : PK := ⟨loopAsk c E base noFrame x ds ora vals vals', h _ _ _ _⟩
theorem con_pc {op : Bool} {I : List Nat} {sp : List LSpec} (n : Nat) {g : FuncId} {ds : List D} {r : D} (ora : List Bool) (res : List D) (pcs : List PC) (pks : List PK)
    (h : okOut (run (ctxS op I sp) n (.enter g (avOfL 0 ds).1) ⟨[], (avOfL 0 ds).2.1, (avOfL 0 ds).2.2, ora, ⟨res, noFrame⟩⟩) = some (r, pairsC pcs, asksK pks)) : Con g ds r :=
  con_of h (pairsC_ok pcs) (asksK_ok pks)
theorem step_pc {I : List Nat} {sp : List LSpec} {l : LoopAt} {S1 : List AV × AHeap} {g : Option GS} {x : AX} (fuel : Nat) (ora : List Bool) (vals : List D) (pcs : List PC) (pks : List PK)
    (r : Option Out) (hr : r = run (ctx I sp) fuel (.code l.f l.c) ⟨S1.1, S1.2, l.nx, ora, ⟨vals, l.fr⟩⟩) (h1 : r = some (outOf r))
    (h2 : ((outOf r).x, (outOf r).st.res.fr, (outOf r).log, (outOf r).st.tmps) = (x, l.fr, ⟨pairsC pcs, asksK pks⟩, AV.renL (qOf l.base (nsOf g) ((outOf r).st.tmps, (outOf r).st.heap)) (aOf l.base (nsOf g) ((outOf r).st.tmps, (outOf r).st.heap)) (stateOf g).1))
    (h3 : (stateOf g).2.map (fun e => hget (outOf r).st.heap (qOf l.base (nsOf g) ((outOf r).st.tmps, (outOf r).st.heap) e.1)) = (stateOf g).2.map (fun e => some (⟨AV.renL (qOf l.base (nsOf g) ((outOf r).st.tmps, (outOf r).st.heap)) (aOf l.base (nsOf g) ((outOf r).st.tmps, (outOf r).st.heap)) e.2.cells, e.2.opn, e.2.kind⟩ : ABlock)))
    (h4 : (namesIn l.nx (stateOf g).2 && distinctBy (qOf l.base (nsOf g) ((outOf r).st.tmps, (outOf r).st.heap)) (stateOf g).2 && aboveBy l.base (qOf l.base (nsOf g) ((outOf r).st.tmps, (outOf r).st.heap)) (stateOf g).2) = true)
    (h5 : (AV.okL l.nx S1.1 && Nat.ble l.low (outOf r).low) = true) (h6 : (List.range l.low).map (hget (stateOf g).2) = (List.range l.low).map (hget S1.2)) : Step (ctx I sp) Tabs l S1 (stateOf g) x :=
  step_of r hr h1 h2 h3 h4 h5 h6 rfl (pairsC_ok pcs) (asksK_ok pks)
end
end Go.Proofs.YtegjgcogikjemaaDoor
namespace Go.Proofs.YtegjgcogikjemaaDoor
open Go.Ev Go.RowKit
set_option maxRecDepth 100000
set_option linter.all false
noncomputable section
def ints_x4_0 : LExit := ⟨some 0, [], (4 :: (5 :: (List.range' 11 15)))⟩
def ints_x4_1 : LExit := ⟨none, [.val 4], (5 :: (List.range' 11 15))⟩
def ints_sp : List LSpec := [⟨36, 4, [ints_x4_0, ints_x4_1]⟩]
def ints_L4_E (k : Nat) (c : List D) (k2 : Nat) (c2 : List D)  : List AV × AHeap := ([.dsl 0, .dsl 1, .pure (.tuple #[]), .pure (.tuple #[]), .pure (.bool false), .pure (.int .i64 (0 : Int)), .dsl 0, .pure (.int .i64 (k : Int)), .dsl 1, .pure (.int .i64 (k2 : Int)), .pure (.bool ((k : Int) != (k2 : Int))), .pure (.tuple #[]), .pure (.tuple #[]), .pure (.tuple #[]), .pure (.tuple #[]), .pure (.tuple #[]), .pure (.tuple #[]), .pure (.tuple #[]), .pure (.tuple #[]), .pure (.tuple #[]), .pure (.tuple #[]), .pure (.tuple #[]), .pure (.tuple #[]), .pure (.tuple #[]), .pure (.tuple #[]), .pure (.tuple #[])], [(1, { cells := [], opn := none, kind := .deep k2 c2 }), (0, { cells := [], opn := none, kind := .deep k c })])
def ints_L4_A : LoopAt := ⟨36, loopAt Tryd.prog 36 0, 2, 19, 2, noFrame⟩
theorem ints_L4_ok : (ints_L4_A).OK := ⟨by show 2 ≤ 19; decide, by show 2 ≤ 2; decide, by kernel_rfl, rfl⟩
def ints_L4_gs (k : Nat) (c : List D) (k2 : Nat) (c2 : List D)  : Go.Ev.Rd → Option GS
  | .next 0 ds => ghost [.val 5] (4 :: (List.range' 11 15)) (ints_L4_E k c k2 c2).1 (ints_L4_E k c k2 c2).2 2 ds
  | .out 0 ds => ghost ints_x4_0.live ints_x4_0.junk (ints_L4_E k c k2 c2).1 (ints_L4_E k c k2 c2).2 2 ds
  | .out 1 ds => ghost ints_x4_1.live ints_x4_1.junk (ints_L4_E k c k2 c2).1 (ints_L4_E k c k2 c2).2 2 ds
  | _ => none
def ints_L4_ex : Nat → Option Nat
  | 0 => ints_x4_0.ex
  | 1 => ints_x4_1.ex
  | _ => none
def ints_L4_ax : Go.Ev.Rd → AX
  | .next _ _ => .normal
  | .out j _ => axOf (ints_L4_ex j)
def ints_L4_S0 (k : Nat) (c : List D) (k2 : Nat) (c2 : List D)  (ds : List D) : Option Go.Ev.Rd := pullD (α := Int) (some (.tup ds)) (fun d => ((D.vi (D.at d 0)))) (fun s5 => .tup [.one (.int .i64 s5)]) fun s5 => ((if s5 < (k : Int) then guardP ((0 : Int) ≤ s5 ∧ s5.toNat < k) (pullD (α := Int) (readD c (s5.toNat * 1) 1 false) (fun d => ((D.vi d))) (fun v0 => .one (.int .i64 v0)) fun v0 => (guardP ((0 : Int) ≤ s5 ∧ s5.toNat < k2) (pullD (α := Int) (readD c2 (s5.toNat * 1) 1 false) (fun d => ((D.vi d))) (fun v1 => .one (.int .i64 v1)) fun v1 => ((if v0 ≠ v1 then some (.out 1 [.one (.bool false)]) else some (.next 0 [.one (.int .i64 (IntKind.i64.wrap (s5 + (1 : Int))))])))))) else some (.out 0 [])))
def ints_L4_S (k : Nat) (c : List D) (k2 : Nat) (c2 : List D)  : Go.Ev.Rd → Option Go.Ev.Rd
  | .next 0 ds => ints_L4_S0 k c k2 c2 ds
  | _ => none
theorem ints_L4_S_ok (k : Nat) (c : List D) (k2 : Nat) (c2 : List D)  : ∀ s_ t_, ints_L4_S k c k2 c2 s_ = some t_ → Step (ctx [36] ints_sp) Tabs ints_L4_A (stateOf (ints_L4_gs k c k2 c2 s_)) (stateOf (ints_L4_gs k c k2 c2 t_)) (ints_L4_ax t_) ∧ EndOK ints_L4_A.nx ints_L4_A.low (ints_L4_gs k c k2 c2) t_
  | .next 0 ds, t_, h => by
    have h_ : ints_L4_S0 k c k2 c2 ds = some t_ := h
    clear h
    unfold ints_L4_S0 at h_
    obtain ⟨s5, e0, h0⟩ := pullD_elim h_
    clear h_
    obtain rfl := tup_inj e0
    by_cases b1_ : s5 < (k : Int)
    · have h2_ := (if_pos b1_).symm.trans h0
      obtain ⟨f3_, h4_⟩ := guardP_elim h2_
      obtain ⟨v0, f5_, h6_⟩ := pullD_elim h4_
      replace f5_ := readD_elim f5_
      obtain ⟨f7_, h8_⟩ := guardP_elim h6_
      obtain ⟨v1, f9_, h10_⟩ := pullD_elim h8_
      replace f9_ := readD_elim f9_
      by_cases b11_ : v0 ≠ v1
      · have h12_ := (if_pos b11_).symm.trans h10_
        obtain rfl := Option.some.inj h12_
        exact ⟨step_pc 3000 (bT 2 []) [.one (.int .i64 v0), .one (.int .i64 v1)] [c_d b1_, c_f f3_, c_f f5_, c_f f7_, c_f f9_, c_b b11_] [] _ rfl (by kernel_rfl) (by kernel_rfl) (by kernel_rfl) (by kernel_rfl) (by kernel_rfl) (by kernel_rfl), by kernel_rfl, by kernel_rfl⟩
      · have h12_ := (if_neg b11_).symm.trans h10_
        have b13_ : v0 = v1 := by first | exact b11_ | simpa using b11_
        obtain rfl := Option.some.inj h12_
        exact ⟨step_pc 3000 (bT 1 (bF 1 [])) [.one (.int .i64 v0), .one (.int .i64 v1)] [c_d b1_, c_f f3_, c_f f5_, c_f f7_, c_f f9_, c_bn b13_] [] _ rfl (by kernel_rfl) (by kernel_rfl) (by kernel_rfl) (by kernel_rfl) (by kernel_rfl) (by kernel_rfl), trivial⟩
    · have h2_ := (if_neg b1_).symm.trans h0
      obtain rfl := Option.some.inj h2_
      exact ⟨step_pc 3000 (bF 1 []) [] [c_n b1_] [] _ rfl (by kernel_rfl) (by kernel_rfl) (by kernel_rfl) (by kernel_rfl) (by kernel_rfl) (by kernel_rfl), by kernel_rfl, by kernel_rfl⟩
  | .next (_ + 1) _, _, h => by cases h
  | .out _ _, _, h => by cases h
theorem ints_L4_go (k : Nat) (c : List D) (k2 : Nat) (c2 : List D)  {q : Nat} {ds : List D} {j : Nat} {es : List D} (h : runR (ints_L4_S k c k2 c2) (.next q ds) = some (.out j es)) : Runs (ctx [36] ints_sp) Tabs ints_L4_A (stateOf (ints_L4_gs k c k2 c2 (.next q ds))) (stateOf (ints_L4_gs k c k2 c2 (.out j es))) (ints_L4_ax (.out j es)) ∧ (nxtOf (ints_L4_gs k c k2 c2 (.out j es)), lowGS (ints_L4_gs k c k2 c2 (.out j es))) = (ints_L4_A.nx, ints_L4_A.low) :=
  runs_of' (good true _ _) ints_L4_ok (ax := ints_L4_ax) (fun _ _ => rfl) (fun _ _ => axOf_end _) (ints_L4_S_ok k c k2 c2) h
theorem ints_L4_in0 (k : Nat) (c : List D) (k2 : Nat) (c2 : List D)  {es : List D} (h : runR (ints_L4_S k c k2 c2) (.next 0 [.one (.int .i64 ((0 : Int)))]) = some (.out 0 es)) : LoopC (loopAt Tryd.prog 36 0) (ints_L4_E k c k2 c2) 2 noFrame ints_x4_0 es :=
  have r := ints_L4_go k c k2 c2 h
  loopin_as rfl (loop_in (l := ints_L4_A) (E := (ints_L4_E k c k2 c2)) (S := stateOf (ints_L4_gs k c k2 c2 (.next 0 [.one (.int .i64 ((0 : Int)))]))) (ns := nsOf (ints_L4_gs k c k2 c2 (.next 0 [.one (.int .i64 ((0 : Int)))]))) ints_L4_ok r.1 r.2 (by kernel_rfl) (by kernel_rfl) (by kernel_rfl) (by kernel_rfl))
theorem ints_L4_in1 (k : Nat) (c : List D) (k2 : Nat) (c2 : List D)  {es : List D} (h : runR (ints_L4_S k c k2 c2) (.next 0 [.one (.int .i64 ((0 : Int)))]) = some (.out 1 es)) : LoopC (loopAt Tryd.prog 36 0) (ints_L4_E k c k2 c2) 2 noFrame ints_x4_1 es :=
  have r := ints_L4_go k c k2 c2 h
  loopin_as rfl (loop_in (l := ints_L4_A) (E := (ints_L4_E k c k2 c2)) (S := stateOf (ints_L4_gs k c k2 c2 (.next 0 [.one (.int .i64 ((0 : Int)))]))) (ns := nsOf (ints_L4_gs k c k2 c2 (.next 0 [.one (.int .i64 ((0 : Int)))]))) ints_L4_ok r.1 r.2 (by kernel_rfl) (by kernel_rfl) (by kernel_rfl) (by kernel_rfl))
def ints_M (k : Nat) (c : List D) (k2 : Nat) (c2 : List D) : Option D := (if (k : Int) ≠ (k2 : Int) then some (.one (.bool false)) else bindL (runR (ints_L4_S k c k2 c2) (.next 0 [.one (.int .i64 ((0 : Int)))])) fun j ds => (if j = 0 then pullD (some (.tup ds)) (fun _ => ()) (fun _ => .tup []) fun _ => (some (.one (.bool true))) else if j = 1 then pullD (α := Bool) (some (.tup ds)) (fun d => ((D.vb (D.at d 0)))) (fun l0 => .tup [.one (.bool l0)]) fun l0 => (some (.one (.bool l0))) else none))
theorem ints_M_ok (k : Nat) (c : List D) (k2 : Nat) (c2 : List D) {r : D} (h : ints_M k c k2 c2 = some r) : Con 36 [.list k c, .list k2 c2] r := by
  unfold ints_M at h
  by_cases b1_ : (k : Int) ≠ (k2 : Int)
  · have h2_ := (if_pos b1_).symm.trans h
    obtain rfl := Option.some.inj h2_
    exact con_pc (op := true) (I := [36]) (sp := ints_sp) 3000 (bT 1 []) [] [c_b b1_] [] (by kernel_rfl)
  · have h2_ := (if_neg b1_).symm.trans h
    have b3_ : (k : Int) = (k2 : Int) := by first | exact b1_ | simpa using b1_
    obtain ⟨j, ds, e4_, h5_⟩ := bindL_elim h2_
    by_cases j6_ : j = 0
    · have h9_ := (if_pos j6_).symm.trans h5_
      clear h5_
      subst j6_
      obtain ⟨⟨⟩, e7_, h10_⟩ := pullD_elim h9_
      clear h9_
      obtain rfl := tup_inj e7_
      have k8_ := ints_L4_in0 k c k2 c2 e4_
      obtain rfl := Option.some.inj h10_
      exact con_pc (op := true) (I := [36]) (sp := ints_sp) 3000 (bF 1 []) [.tup [.one (.int .i64 (Int.ofNat 0))]] [c_bn b3_] [k_l k8_ [] [.tup [.one (.int .i64 (Int.ofNat 0))]] []] (by kernel_rfl)
    have h11_ := (if_neg j6_).symm.trans h5_
    clear h5_
    by_cases j12_ : j = 1
    · have h15_ := (if_pos j12_).symm.trans h11_
      clear h11_
      subst j12_
      obtain ⟨l0, e13_, h16_⟩ := pullD_elim h15_
      clear h15_
      obtain rfl := tup_inj e13_
      have k14_ := ints_L4_in1 k c k2 c2 e4_
      obtain rfl := Option.some.inj h16_
      exact con_pc (op := true) (I := [36]) (sp := ints_sp) 3000 (bF 1 []) [.tup [.one (.int .i64 (Int.ofNat 1)), .one (.bool l0)]] [c_bn b3_] [k_l k14_ [] [.tup [.one (.int .i64 (Int.ofNat 1)), .one (.bool l0)]] []] (by kernel_rfl)
    have h17_ := (if_neg j12_).symm.trans h11_
    clear h11_
    cases h17_
def m_36 (ds : List D) : Option D := pullD (α := Nat × (List D) × Nat × (List D)) (some (.tup ds)) (fun d => ((D.ln (D.at d 0)), (D.lc (D.at d 0)), (D.ln (D.at d 1)), (D.lc (D.at d 1)))) (fun (k, c, k2, c2) => .tup [.list k c, .list k2 c2]) fun (k, c, k2, c2) => ints_M k c k2 c2
theorem m_36_ok {ds : List D} {r : D} (h : m_36 ds = some r) : Con 36 ds r := by
  unfold m_36 at h
  obtain ⟨⟨k, c, k2, c2⟩, e0, h0⟩ := pullD_elim h
  obtain rfl := tup_inj e0
  exact ints_M_ok k c k2 c2 h0
theorem m_36_eq (k : Nat) (c : List D) (k2 : Nat) (c2 : List D) : m_36 [.list k c, .list k2 c2] = ints_M k c k2 c2 := pullD_some (k, c, k2, c2) rfl rfl
end
end Go.Proofs.YtegjgcogikjemaaDoor
