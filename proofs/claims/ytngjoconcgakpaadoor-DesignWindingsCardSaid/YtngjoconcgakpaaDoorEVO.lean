/- Running the program's functions on values that are known in part: the theorem. -/
import Derived.Test.YtngjoconcgakpaaDoorEVP
import Derived.Test.YtngjoconcgakpaaDoorEVR
import Derived.Test.YtngjoconcgakpaaDoorEVBG
set_option linter.unusedVariables false
set_option linter.unusedSimpArgs false
set_option linter.unusedSectionVars false
set_option linter.unnecessarySimpa false
namespace Go.Ev
open Go.RowKit

section
variable {C : Ctx} {w0 : World} {ops : Array Oper} {base : Nat} {h0 : AHeap} {tm0 : List AV} {L : List Item} {ρ0 : Env} {ws : World} {ds : List Deferred} {rd : Option Nat}

/-- How many operations are left. -/
def leftOver (ops : Array Oper) (listed : Array Bool) : List Nat := (List.range ops.size).filter fun i => !listed.getD i true

theorem leftOver_lt {ops : Array Oper} {listed : Array Bool} {i : Nat} (hi : i < ops.size) (hl : listed.getD i true = false) (hs : listed.size = ops.size) :
    (leftOver ops (listed.setIfInBounds i true)).length < (leftOver ops listed).length := by
  unfold leftOver
  have hsub : ∀ j, (!(listed.setIfInBounds i true).getD j true) = (!listed.getD j true && !(j == i)) := by
    intro j
    by_cases hji : j = i
    · subst hji
      simp [hs, hi]
    · have : (listed.setIfInBounds i true).getD j true = listed.getD j true := by
        simp [Ne.symm hji]
      rw [this]; simp [hji]
  have heq : ((List.range ops.size).filter fun j => !(listed.setIfInBounds i true).getD j true) = ((List.range ops.size).filter fun j => !listed.getD j true).filter fun j => !(j == i) := by
    rw [List.filter_filter]
    apply List.filter_congr
    intro j _
    rw [hsub j, Bool.and_comm]
  rw [heq]
  refine Nat.lt_of_le_of_ne (List.length_filter_le _ _) (fun e => ?_)
  have hall := List.length_filter_eq_length_iff.1 e
  have := hall i (List.mem_filter.2 ⟨List.mem_range.2 hi, by simp [hl]⟩)
  simp at this

theorem mem_depsOf {p : Oper} {d : Nat} (h : d ∈ depsOf p) : ∃ e ∈ p.after, Region.binds .any e = true ∧ e.on = d := by
  unfold depsOf at h
  obtain ⟨e, he, hb⟩ := List.mem_filterMap.1 h
  split at hb
  · rename_i hb'
    exact ⟨e, by simpa using he, hb', by simpa using hb⟩
  · cases hb

theorem ready_spec {ops : Array Oper} {listed : Array Bool} {i : Nat} (hi : i ∈ Region.ready .any ops listed) : ∃ p, ops[i]? = some p ∧ i < ops.size ∧ listed.getD i true = false ∧ ∀ d ∈ depsOf p, listed[d]? = some true := by
  unfold Region.ready at hi
  simp only [List.mem_filter, List.mem_range, Bool.and_eq_true, Bool.not_eq_true'] at hi
  obtain ⟨h1, h2, h3⟩ := hi
  have hp : ops[i]? = some ops[i] := by simp
  rw [hp] at h3
  simp only [Option.map_some, Option.getD_some] at h3
  refine ⟨_, hp, h1, h2, fun d hdm => ?_⟩
  obtain ⟨e, he, hb, rfl⟩ := mem_depsOf hdm
  have := Array.all_eq_true'.1 h3 e he
  rw [hb] at this
  simp only [Bool.not_true, Bool.false_or] at this
  rw [Array.getD_eq_getD_getElem?] at this
  cases hx : listed[e.on]? with
  | none => rw [hx] at this; simp at this
  | some b => rw [hx] at this; simp at this; rw [this]

theorem ready_mk {ops : Array Oper} {listed : Array Bool} {i : Nat} {p : Oper} (hp : ops[i]? = some p) (hl : listed.getD i true = false) (hdep : ∀ d ∈ depsOf p, listed[d]? = some true) : i ∈ Region.ready .any ops listed := by
  have hi : i < ops.size := by
    rcases Nat.lt_or_ge i ops.size with h | h
    · exact h
    · simp [Array.getElem?_eq_none h] at hp
  unfold Region.ready
  simp only [List.mem_filter, List.mem_range, Bool.and_eq_true, Bool.not_eq_true']
  refine ⟨hi, hl, ?_⟩
  rw [hp]
  simp only [Option.map_some, Option.getD_some]
  refine Array.all_eq_true'.2 fun e he => ?_
  cases hbe : Region.binds .any e with
  | false => rfl
  | true =>
    have hdm : e.on ∈ depsOf p := by
      unfold depsOf
      exact List.mem_filterMap.2 ⟨e, by simpa using he, by simp [hbe]⟩
    simp [hdep _ hdm]

theorem ready_nil {ops : Array Oper} {listed : Array Bool} (hd : baseOk ops = true) (hs : listed.size = ops.size) (hr : Region.ready .any ops listed = []) : ∀ i, i < ops.size → listed[i]? = some true := by
  intro i
  induction i using Nat.strongRecOn with
  | _ i ih =>
    intro hi
    have hil : i < listed.size := by omega
    cases hb : listed[i] with
    | true => rw [Array.getElem?_eq_getElem hil, hb]
    | false =>
      exfalso
      have hp : ops[i]? = some ops[i] := by simp
      have : i ∈ Region.ready .any ops listed := ready_mk hp (by rw [Array.getD_eq_getD_getElem?, Array.getElem?_eq_getElem hil, hb]; rfl) fun d hdm => by
        have hlt := (baseOk_spec hd hp).1 d hdm
        exact ih d hlt (by omega)
      rw [hr] at this; cases this

theorem leftOver_ge {ops : Array Oper} {listed : Array Bool} {k : Nat} (hs : listed.size = ops.size) (hk : k ≤ ops.size) (hl : ∀ i, i < ops.size → (listed[i]? = some true ↔ i < k)) : ops.size - k ≤ (leftOver ops listed).length := by
  unfold leftOver
  have : List.range ops.size = List.range' 0 k ++ List.range' k (ops.size - k) := by
    rw [List.range_eq_range', show ops.size = k + (ops.size - k) by omega, ← List.range'_append]
    simp
  rw [this, List.filter_append, List.length_append]
  have h2 : (List.range' k (ops.size - k)).filter (fun i => !listed.getD i true) = List.range' k (ops.size - k) := by
    refine List.filter_eq_self.2 fun i hi => ?_
    rw [List.mem_range'_1] at hi
    have hlt : i < listed.size := by omega
    have : ¬ (listed[i]? = some true) := fun h => by have := (hl i (by omega)).1 h; omega
    rw [Array.getElem?_eq_getElem hlt] at this
    rw [Array.getD_eq_getD_getElem?, Array.getElem?_eq_getElem hlt]
    simpa using this
  rw [h2]
  simp

/-- What comes last comes in its order. -/
theorem tail_serial {P : Program} (hb : baseOk ops = true) {m : Nat} (htail : ∀ (i : Nat) (p : Oper), ops[i]? = some p → m ≤ i → ∀ j, j < i → j ∈ anc (before ops.toList []) i) {Q : Exit → Act → World → Prop} : ∀ (n k : Nat) (fuel : Nat) (listed : Array Bool) (a : Act) (w : World), k + n = ops.size → m ≤ k → listed.size = ops.size →
    (∀ i, i < ops.size → (listed[i]? = some true ↔ i < k)) → n ≤ fuel → wpOpsIn (fenceR rd) 0 P ops Q (List.range' k n) a w → wpAnyIn (fenceR rd) 0 P .any ops Q fuel listed a w := by
  have hclosed : ∀ (k : Nat) (listed : Array Bool), listed.size = ops.size → k ≤ ops.size → (∀ i, i < ops.size → (listed[i]? = some true ↔ i < k)) → ∀ (i : Nat) (p : Oper), ops[i]? = some p → listed[i]? = some true → ∀ d ∈ depsOf p, listed[d]? = some true := by
    intro k listed hs hks hl i p hp hi d hdm
    have hil : i < ops.size := by
      rcases Nat.lt_or_ge i ops.size with h | h
      · exact h
      · simp [Array.getElem?_eq_none h] at hp
    have := (hl i hil).1 hi
    have hlt := (baseOk_spec hb hp).1 d hdm
    exact (hl d (by omega)).2 (by omega)
  intro n
  induction n with
  | zero =>
    intro k fuel listed a w hkn hm hs hl hf hw
    have hr : Region.ready .any ops listed = [] := by
      cases hrr : Region.ready .any ops listed with
      | nil => rfl
      | cons i rest =>
        exfalso
        obtain ⟨p, hp, hi, hli, -⟩ := ready_spec (show i ∈ Region.ready .any ops listed by rw [hrr]; exact List.mem_cons_self)
        have := (hl i hi).2 (by omega)
        rw [Array.getD_eq_getD_getElem?, this] at hli; cases hli
    cases fuel with
    | zero => exact ⟨hr, hw⟩
    | succ f => exact ⟨fun _ => hw, fun i hi => by rw [hr] at hi; cases hi⟩
  | succ n ih =>
    intro k fuel listed a w hkn hm hs hl hf hw
    obtain ⟨f, rfl⟩ : ∃ f, fuel = f + 1 := ⟨fuel - 1, by omega⟩
    have hk : k < ops.size := by omega
    have hp : ops[k]? = some ops[k] := by simp
    have hlk : listed.getD k true = false := by
      have hlt : k < listed.size := by omega
      have : ¬ (listed[k]? = some true) := fun h => by have := (hl k hk).1 h; omega
      rw [Array.getElem?_eq_getElem hlt] at this
      rw [Array.getD_eq_getD_getElem?, Array.getElem?_eq_getElem hlt]
      simpa using this
    have hrk : k ∈ Region.ready .any ops listed := ready_mk hp hlk fun d hdm => by
      have hlt := (baseOk_spec hb hp).1 d hdm
      exact (hl d (by omega)).2 hlt
    refine ⟨fun hr => absurd hrk (by rw [hr]; exact List.not_mem_nil), fun i hi => ?_⟩
    obtain ⟨p, hpi, hil, hli, hdep⟩ := ready_spec hi
    have hik : i = k := by
      have hnot : ¬ i < k := fun h => by
        have := (hl i hil).2 h
        rw [Array.getD_eq_getD_getElem?, this] at hli; cases hli
      rcases Nat.lt_or_ge k i with h | h
      · exfalso
        have hka := htail i p hpi (by omega) k h
        have := anc_listed (D := fun j => listed[j]? = some true) (hclosed k listed hs (by omega) hl) i p hpi hdep k hka
        have := (hl k hk).1 this
        omega
      · omega
    subst hik
    rw [List.range'_succ, wpOpsIn_cons] at hw
    refine wpOpIn_mono (fun a' w' h' => ih (i + 1) f _ a' w' (by omega) (by omega) (by simp [hs]) (fun j hj => ?_) (by omega) h') hw
    rw [Array.getElem?_setIfInBounds]
    by_cases hji : i = j
    · subst hji; simp [hs, hil]
    · rw [if_neg hji, hl j hj]; omega

theorem firstStore_not : ∀ (l : List Oper) (i : Nat) (p : Oper), i < firstStore l → l[i]? = some p → isStore p.op = false
  | [], i, p, h, _ => by cases h
  | o :: l, i, p, h, hp => by
    unfold firstStore at h
    split at h
    · cases h
    · rename_i hs
      cases i with
      | zero => simp at hp; subst hp; exact hs
      | succ i => exact firstStore_not l i p (by omega) (by simpa using hp)

theorem firstStore_is : ∀ (l : List Oper) (p : Oper), l[firstStore l]? = some p → isStore p.op = true
  | [], p, hp => by simp at hp
  | o :: l, p, hp => by
    unfold firstStore at hp
    split at hp
    · rename_i hs; simp at hp; subst hp; exact hs
    · exact firstStore_is l p (by simpa using hp)

/-- Quiet operations in any order, once the rest of what comes first is done. -/
theorem quiet_any {P : Program} (hb : baseOk ops = true) {Q : Exit → Act → World → Prop} {f : Act} {w : World} {k : Nat} (hk : k < ops.size) (htail : ∀ (i : Nat) (p : Oper), ops[i]? = some p → k < i → ∀ j, j < i → j ∈ anc (before ops.toList []) i)
    (hf : ∀ (fuel : Nat) (listed : Array Bool), listed.size = ops.size → (∀ i, i < ops.size → (listed[i]? = some true ↔ i < k + 1)) → ops.size - (k + 1) ≤ fuel → wpAnyIn (fenceR rd) 0 P .any ops Q fuel listed f w) :
    ∀ (fuel : Nat) (M : List Nat) (listed : Array Bool) (a : Act), listed.size = ops.size →
    (∀ i, i < ops.size → (listed[i]? = some true ↔ (i < k + 1 ∧ i ∉ M))) → (∀ i ∈ M, i < k) → M.Pairwise (· < ·) → M.length + (ops.size - (k + 1)) ≤ fuel → (∀ i ∈ M, ∀ p, ops[i]? = some p → quietOp p.op = true ∧ p.guard = none) →
    (∀ (i : Nat) (p : Oper), ops[i]? = some p → listed[i]? = some true → ∀ d ∈ depsOf p, listed[d]? = some true) → runQ ops M a = some f → wpAnyIn (fenceR rd) 0 P .any ops Q fuel listed a w := by
  intro fuel
  induction fuel with
  | zero =>
    intro M listed a hs hl hM hpw hle hq hcl hr
    have hnil : M = [] := List.length_eq_zero_iff.1 (by omega)
    subst hnil
    cases hr
    exact hf 0 listed hs (fun i hi => by rw [hl i hi]; simp) (by omega)
  | succ fuel ih =>
    intro M listed a hs hl hM hpw hle hq hcl hr
    by_cases hne : M = []
    · subst hne
      cases hr
      exact hf _ listed hs (fun i hi => by rw [hl i hi]; simp) (by simpa using hle)
    obtain ⟨i0, hi0⟩ := List.exists_mem_of_ne_nil M hne
    have h0 : ¬ (listed[i0]? = some true) := fun e => ((hl i0 (by have := hM i0 hi0; omega)).1 e).2 hi0
    refine ⟨fun hrd => absurd (ready_nil hb hs hrd i0 (by have := hM i0 hi0; omega)) h0, fun i hi => ?_⟩
    obtain ⟨p, hp, hil, hli, hdep⟩ := ready_spec hi
    have hnl : ¬ (listed[i]? = some true) := fun e => by rw [Array.getD_eq_getD_getElem?, e] at hli; cases hli
    have hik : i < k + 1 := by
      rcases Nat.lt_or_ge i (k + 1) with h | h
      · exact h
      · exact absurd (anc_listed (D := fun j => listed[j]? = some true) hcl i p hp hdep i0 (htail i p hp (by omega) i0 (by have := hM i0 hi0; omega))) h0
    have hiM : i ∈ M := Classical.byContradiction fun h => hnl ((hl i hil).2 ⟨hik, h⟩)
    obtain ⟨pre, post, rfl⟩ := List.append_of_mem hiM
    have hpre : ∀ j ∈ pre, j < i := fun j hj => (List.pairwise_append.1 hpw).2.2 j hj i List.mem_cons_self
    have hapart : ∀ j ∈ pre, (∀ (p' q : Oper) (d : Tmp), ops[i]? = some p' → ops[j]? = some q → q.dst = some d → d ∉ p'.looksAt ops ∧ p'.dst ≠ some d) ∧ (∀ (p' q : Oper) (d : Tmp), ops[i]? = some p' → ops[j]? = some q → p'.dst = some d → d ∉ q.looksAt ops) := by
      intro j hj
      have hji := hpre j hj
      have hjM : j ∈ pre ++ i :: post := List.mem_append_left _ hj
      have na : ∀ p', ops[i]? = some p' → j ∉ anc (before ops.toList []) i := fun p' hp' hk => by
        rw [hp] at hp'; cases hp'
        have := anc_listed (D := fun j => listed[j]? = some true) hcl i p hp hdep j hk
        exact ((hl j (by have := hM j hjM; omega)).1 this).2 hjM
      have nb : ∀ q, ops[j]? = some q → i ∉ anc (before ops.toList []) j := fun q hq' hk => by
        have := (anc_spec hq' hk).1; omega
      refine ⟨fun p' q d hp' hq' hd' => ⟨fun hlook => ?_, ((baseOk_spec hb hp').2.2.1 j q d hq' hd').2 (by omega)⟩, fun p' q d hp' hq' hd' hlook => ?_⟩
      · rcases ((baseOk_spec hb hp').2.2.1 j q d hq' hd').1 hlook with h | h
        · exact na p' hp' h
        · exact nb q hq' h
      · rcases ((baseOk_spec hb hq').2.2.1 i p' d hp' hd').1 hlook with h | h
        · exact nb q hq' h
        · exact na p' hp' h
    obtain ⟨p2, v, hp2, hv, hr2⟩ := runQ_cons (frontQ hapart hr)
    rw [hp] at hp2; cases hp2
    obtain ⟨q1, q2⟩ := hq i hiM p hp
    have hset : ∀ j, (listed.setIfInBounds i true)[j]? = some true ↔ (listed[j]? = some true ∨ j = i) := by
      intro j
      rw [Array.getElem?_setIfInBounds]
      by_cases hji : i = j
      · subst hji; simp [hs, hil]
      · rw [if_neg hji]; simp [Ne.symm hji]
    have hnotin : i ∉ pre ++ post := by
      intro h
      have hp1 := (List.pairwise_append.1 hpw)
      rcases List.mem_append.1 h with h | h
      · have := hpre i h; omega
      · have := (List.pairwise_cons.1 hp1.2.1).1 i h; omega
    unfold wpOpIn
    have hw : Region.wanted p (yielded ops a.tmps) = true := by unfold Region.wanted; rw [q2]
    simp only [hp, hw, if_true]
    refine quiet_mk q1 hv (ih (pre ++ post) _ _ (by simp [hs]) (fun j hj => ?_) (fun j hj => hM j ?_) ?_ (by simp at hle ⊢; omega) (fun j hj => hq j ?_) (fun j q hq' hj d hd' => ?_) hr2)
    · rw [hset, hl j hj]
      constructor
      · rintro (⟨h1, h⟩ | rfl)
        · exact ⟨h1, fun h' => h (by rcases List.mem_append.1 h' with h' | h'; exact List.mem_append_left _ h'; exact List.mem_append_right _ (List.mem_cons_of_mem _ h'))⟩
        · exact ⟨hik, hnotin⟩
      · rintro ⟨h1, h⟩
        by_cases hji : j = i
        · exact .inr hji
        · refine .inl ⟨h1, fun h' => h ?_⟩
          rcases List.mem_append.1 h' with h' | h'
          · exact List.mem_append_left _ h'
          · rcases List.mem_cons.1 h' with h' | h'
            · exact absurd h' hji
            · exact List.mem_append_right _ h'
    · rcases List.mem_append.1 hj with h' | h'
      · exact List.mem_append_left _ h'
      · exact List.mem_append_right _ (List.mem_cons_of_mem _ h')
    · exact hpw.sublist (List.Sublist.append (List.Sublist.refl _) (List.sublist_cons_self _ _))
    · rcases List.mem_append.1 hj with h' | h'
      · exact List.mem_append_left _ h'
      · exact List.mem_append_right _ (List.mem_cons_of_mem _ h')
    · rw [hset]
      rcases (hset j).1 hj with h | rfl
      · exact .inl (hcl j q hq' h d hd')
      · rw [hp] at hq'; cases hq'; exact .inl (hdep d hd')

/-- Quiet operations one after another, as they were reckoned. -/
theorem serial_inv (hc : Chain C w0 ops base h0 tm0 L) (hlen : L.length ≤ ops.size) (hb : baseOk ops = true) (hs0 : ∀ n b, hget h0 n = some b → n < base ∧ AV.okL base b.cells = true) (ht0 : AV.okL base tm0 = true) {w : World} :
    ∀ (M : List Nat) (D : Nat → Prop) (ρ : Env) (a : Act), Inv w0 ops base h0 tm0 L ρ0 ws ds D ρ a w → (∀ i ∈ M, i < L.length ∧ ¬ D i) → M.Pairwise (· < ·) → (∀ i ∈ M, ∀ p, ops[i]? = some p → quietOp p.op = true ∧ p.guard = none ∧ isStore p.op = false ∧ ∀ d ∈ depsOf p, D d ∨ d ∈ M) →
      ∃ (f : Act) (ρ' : Env), runQ ops M a = some f ∧ Inv w0 ops base h0 tm0 L ρ0 ws ds (fun i => D i ∨ i ∈ M) ρ' f w
  | [], D, ρ, a, hI, _, _, _ => ⟨a, ρ, rfl, by simpa using hI⟩
  | i :: M, D, ρ, a, hI, hM, hpw, hq => by
    obtain ⟨hiL, hDi⟩ := hM i List.mem_cons_self
    have hp : ops[i]? = some ops[i] := by simp
    obtain ⟨q1, q2, q3, q4⟩ := hq i List.mem_cons_self _ hp
    have hlt := (List.pairwise_cons.1 hpw).1
    have hdep : ∀ d ∈ depsOf ops[i], D d := fun d hdm => by
      have hdi := (baseOk_spec hb hp).1 d hdm
      rcases q4 d hdm with h | h
      · exact h
      · rcases List.mem_cons.1 h with h | h
        · omega
        · have := hlt d h; omega
    have hit : L[i]? = some L[i] := List.getElem?_eq_getElem hiL
    obtain ⟨-, -, -, -, hf⟩ := hc.item i _ _ hit hp
    have hg := guard_stands hc hlen hb hI hp hit hdep hDi
    have hw : ∀ tmps, Region.wanted ops[i] (yielded ops tmps) = true := fun tmps => by unfold Region.wanted; rw [q2]
    rcases hf with ⟨f1, -⟩ | ⟨f1, f2, f3, f4, s, o, g1, g2, g3, g4, g5, g6, g7, g8⟩ | ⟨f1, -⟩
    · have := f1 ρ a.tmps hg; rw [hw] at this; cases this
    · obtain ⟨v, k1, k2, k3, k4, k5⟩ := g8
      rw [g4] at k1
      cases k1
      obtain ⟨hRep, hstep⟩ := inv_on hc hlen hb hs0 ht0 hI hp hit hdep hDi g2 g3 g5 g6 g7
      have hwp := k5 none ρ a w (fun a' w' => ∃ ρ', Inv w0 ops base h0 tm0 L ρ0 ws ds (fun j => D j ∨ j = i) ρ' a' w' ∧ True) (fun _ _ _ => False) (fun x hx => by rw [g1]; exact operand_stands hc hlen hb hI hp hit hdep hDi x hx) hRep hI.below fun ρ' w' hr' hp' => ⟨ρ', hstep ρ' w' hr' hp', trivial⟩
      obtain ⟨u, hu, ρ', hI', -⟩ := quiet_wp q1 (fun _ _ _ h => h) hwp
      obtain ⟨f, ρ2, hr, hI2⟩ := serial_inv hc hlen hb hs0 ht0 M _ ρ' _ hI' (fun j hj => ⟨(hM j (List.mem_cons_of_mem _ hj)).1, fun h => by
        rcases h with h | h
        · exact (hM j (List.mem_cons_of_mem _ hj)).2 h
        · have := hlt j hj; omega⟩) (List.pairwise_cons.1 hpw).2 (fun j hj p hp' => by
          obtain ⟨r1, r2, r3, r4⟩ := hq j (List.mem_cons_of_mem _ hj) p hp'
          refine ⟨r1, r2, r3, fun d hdm => ?_⟩
          rcases r4 d hdm with h | h
          · exact .inl (.inl h)
          · rcases List.mem_cons.1 h with h | h
            · exact .inl (.inr h)
            · exact .inr h)
      refine ⟨f, ρ2, by rw [runQ_mk hp hu]; exact hr, ?_⟩
      have : (fun j => D j ∨ j ∈ i :: M) = (fun j => (D j ∨ j = i) ∨ j ∈ M) := funext fun j => propext ⟨fun h => by
        rcases h with h | h
        · exact .inl (.inl h)
        · rcases List.mem_cons.1 h with h | h
          · exact .inl (.inr h)
          · exact .inr h, fun h => by
        rcases h with (h | h) | h
        · exact .inl h
        · exact .inr (by rw [h]; exact List.mem_cons_self)
        · exact .inr (List.mem_cons_of_mem _ h)⟩
      rw [this]; exact hI2
    · rw [q3] at f1; cases f1

theorem any_order (hc : Chain C w0 ops base h0 tm0 L) (hlen : L.length ≤ ops.size) (hd : drawOk ops = true) (hser : ∀ (i : Nat) (p : Oper), ops[i]? = some p → L.length ≤ i → ∀ j, j < i → j ∈ anc (before ops.toList []) i) (hns : ∀ i p, i < L.length → ops[i]? = some p → isStore p.op = false) (hs0 : ∀ n b, hget h0 n = some b → n < base ∧ AV.okL base b.cells = true) (ht0 : AV.okL base tm0 = true)
    {Q : Exit → Act → World → Prop} (hQ : ∀ D ρ a w, (∀ i, i < ops.size → (D i ↔ i < L.length)) → Inv w0 ops base h0 tm0 L ρ0 ws ds D ρ a w → wpOpsIn (fenceR rd) 0 C.P ops Q (List.range' L.length (ops.size - L.length)) a w) :
    ∀ (fuel : Nat) (listed : Array Bool) (ρ : Env) (a : Act) (w : World), listed.size = ops.size → (leftOver ops listed).length ≤ fuel → (∀ i, L.length ≤ i → listed[i]? ≠ some true) → Inv w0 ops base h0 tm0 L ρ0 ws ds (fun i => listed[i]? = some true) ρ a w →
      wpAnyIn (fenceR rd) 0 C.P .any ops Q fuel listed a w := by
  have hfin : ∀ (fuel : Nat) (listed : Array Bool) (ρ : Env) (a : Act) (w : World), listed.size = ops.size → (leftOver ops listed).length ≤ fuel → (∀ i, L.length ≤ i → listed[i]? ≠ some true) → Inv w0 ops base h0 tm0 L ρ0 ws ds (fun i => listed[i]? = some true) ρ a w →
      (∀ i, i < L.length → listed[i]? = some true) → wpAnyIn (fenceR rd) 0 C.P .any ops Q fuel listed a w := by
    intro fuel listed ρ a w hs hle hno hI hall
    have hl : ∀ i, i < ops.size → (listed[i]? = some true ↔ i < L.length) := fun i _ => ⟨fun h => by
      rcases Nat.lt_or_ge i L.length with h1 | h1
      · exact h1
      · exact absurd h (hno i h1), fun h => hall i h⟩
    refine tail_serial (drawOk_base hd) (m := L.length) (fun i p hp hi => hser i p hp hi) (ops.size - L.length) L.length fuel listed a w (by omega) (Nat.le_refl _) hs hl (Nat.le_trans (leftOver_ge hs hlen hl) hle) ?_
    exact hQ _ ρ a w hl hI
  intro fuel
  induction fuel with
  | zero =>
    intro listed ρ a w hs hle hno hI
    refine hfin 0 listed ρ a w hs hle hno hI fun i hi => ?_
    have hr : Region.ready .any ops listed = [] := by
      cases hrr : Region.ready .any ops listed with
      | nil => rfl
      | cons i rest =>
        exfalso
        obtain ⟨p, hp, hi, hl, -⟩ := ready_spec (show i ∈ Region.ready .any ops listed by rw [hrr]; exact List.mem_cons_self)
        have : i ∈ leftOver ops listed := List.mem_filter.2 ⟨List.mem_range.2 hi, by rw [hl]; rfl⟩
        have := List.length_pos_of_mem this
        omega
    exact ready_nil (drawOk_base hd) hs hr i (by omega)
  | succ fuel ih =>
    intro listed ρ a w hs hle hno hI
    by_cases hall : ∀ i, i < L.length → listed[i]? = some true
    · exact hfin _ listed ρ a w hs hle hno hI hall
    refine ⟨fun hr => absurd (fun i hi => ready_nil (drawOk_base hd) hs hr i (by omega)) hall, fun i hi => ?_⟩
    obtain ⟨p, hp, hil, hl, hdep⟩ := ready_spec hi
    have hiL : i < L.length := by
      rcases Nat.lt_or_ge i L.length with h | h
      · exact h
      · exfalso
        refine hall fun j hj => ?_
        have hka := hser i p hp (by omega) j (by omega)
        exact anc_listed (D := fun j => listed[j]? = some true) hI.closed i p hp hdep j hka
    have hit : L[i]? = some L[i] := List.getElem?_eq_getElem hiL
    have hset : ∀ j, (listed.setIfInBounds i true)[j]? = some true ↔ (listed[j]? = some true ∨ j = i) := by
      intro j
      rw [Array.getElem?_setIfInBounds]
      by_cases hji : i = j
      · subst hji; simp [hs, hil]
      · rw [if_neg hji]; simp [Ne.symm hji]
    have hDi : ¬ (listed[i]? = some true) := by
      intro e; rw [Array.getD_eq_getD_getElem?, e] at hl; cases hl
    have hnext : ∀ ρ' a' w', Inv w0 ops base h0 tm0 L ρ0 ws ds (fun j => listed[j]? = some true ∨ j = i) ρ' a' w' → wpAnyIn (fenceR rd) 0 C.P .any ops Q fuel (listed.setIfInBounds i true) a' w' := by
      intro ρ' a' w' hI'
      refine ih _ ρ' a' w' (by simp [hs]) (by have := leftOver_lt hil hl hs; omega) (fun j hj e => ?_) ?_
      · rcases (hset j).1 e with h | h
        · exact hno j hj h
        · omega
      · have : (fun j => (listed.setIfInBounds i true)[j]? = some true) = (fun j => listed[j]? = some true ∨ j = i) := funext fun j => propext (hset j)
        rw [this]; exact hI'
    obtain ⟨-, -, -, -, hf⟩ := hc.item i _ p hit hp
    have hg := guard_stands hc hlen (drawOk_base hd) hI hp hit hdep hDi
    unfold wpOpIn
    simp only [hp]
    rcases hf with ⟨f1, f2, f3, f4, f5⟩ | ⟨f1, f2, f3, f4, s, o, g1, g2, g3, g4, g5, g6, g7, g8⟩ | ⟨f1, -⟩
    rotate_left 2
    · rw [hns i p hiL hp] at f1; cases f1
    · rw [f1 ρ a.tmps hg]
      simp only [Bool.false_eq_true, if_false]
      exact ⟨fun _ _ => trivial, hnext ρ _ w (inv_off (drawOk_base hd) hI hp hit hdep hDi f2 f3)⟩
    · rw [f1 ρ a.tmps hg]
      simp only [if_true]
      obtain ⟨v, k1, k2, k3, k4, k5⟩ := g8
      rw [g4] at k1
      cases k1
      obtain ⟨hRep, hstep⟩ := inv_on hc hlen (drawOk_base hd) hs0 ht0 hI hp hit hdep hDi g2 g3 g5 g6 g7
      refine k5 rd ρ a w _ Q (fun x hx => by rw [g1]; exact operand_stands hc hlen (drawOk_base hd) hI hp hit hdep hDi x hx) hRep hI.below fun ρ' w' hr' hp' => ?_
      exact hnext ρ' _ w' (hstep ρ' w' hr' hp')
theorem lateOk_spec (h : lateOk ops = true) : baseOk ops = true ∧ firstStore ops.toList < ops.size ∧ ∀ (i : Nat) (p : Oper), ops[i]? = some p →
    (i < firstStore ops.toList → i ∈ anc (before ops.toList []) (firstStore ops.toList) ∨ (quietOp p.op = true ∧ p.guard = none)) ∧ (i = firstStore ops.toList → p.guard = none ∧ p.dst = none) ∧ (firstStore ops.toList < i → ∀ j, j < i → j ∈ anc (before ops.toList []) i) := by
  have hbare : ∀ p : Oper, bare p = true → p.guard = none := fun p h => by
    unfold bare at h; split at h
    · assumption
    · cases h
  unfold lateOk at h
  simp only [Bool.and_eq_true, List.all_eq_true, List.mem_range] at h
  obtain ⟨⟨h1, h2⟩, h3⟩ := h
  refine ⟨h1, blt_lt h2, fun i p hp => ?_⟩
  have hi : i < ops.size := by
    rcases Nat.lt_or_ge i ops.size with h | h
    · exact h
    · simp [Array.getElem?_eq_none h] at hp
  have h3 := h3 i hi
  rw [hp] at h3
  simp only at h3
  split at h3
  · rename_i e
    have e := blt_lt e
    simp only [Bool.or_eq_true, Bool.and_eq_true, List.any_eq_true] at h3
    refine ⟨fun _ => ?_, fun h => by omega, fun h => by omega⟩
    rcases h3 with ⟨k, hk, hb⟩ | h6
    · have := Nat.eq_of_beq_eq_true hb
      subst this
      exact .inl hk
    · exact .inr ⟨h6.1, hbare p h6.2⟩
  · rename_i e
    have e : ¬ i < firstStore ops.toList := fun h => by
      have : Nat.blt i (firstStore ops.toList) = true := by simpa [Nat.blt_eq] using h
      rw [this] at e; cases e
    split at h3
    · rename_i e2
      have e2 := Nat.eq_of_beq_eq_true e2
      simp only [Bool.and_eq_true] at h3
      refine ⟨fun h => absurd h e, fun _ => ⟨hbare p h3.1, ?_⟩, fun h => by omega⟩
      have h4 := h3.2
      split at h4
      · assumption
      · cases h4
    · rename_i e2
      refine ⟨fun h => absurd h e, fun h => by rw [h] at e2; simp at e2, fun _ => anc_full hp (Nat.eq_of_beq_eq_true h3)⟩

theorem wpOps_store {P : Program} {Q : Exit → Act → World → Prop} (hQ : ∀ x a w, Q x a w → x = .normal) {k n : Nat} {p : Oper} (hp : ops[k]? = some p) (hs : isStore p.op = true) (hg : p.guard = none) (hd : p.dst = none) {a : Act} {w : World}
    (h : wpOpsIn (fenceR rd) 0 P ops Q (List.range' k (n + 1)) a w) : ∃ w', (execOp a.eval p).run P w = .ok .skip w' ∧ wpOpsIn (fenceR rd) 0 P ops Q (List.range' (k + 1) n) a w' := by
  rw [List.range'_succ, wpOpsIn_cons] at h
  unfold wpOpIn at h
  have hw : Region.wanted p (yielded ops a.tmps) = true := by unfold Region.wanted; rw [hg]
  simp only [hp, hw, if_true] at h
  have hdf : isDefer p.op = false := by revert hs; cases p.op <;> simp [isStore, isDefer]
  replace h := wpIn_inv hdf h
  obtain ⟨dst, op, type, pos, after, guard⟩ := p
  cases op <;> simp only [isStore] at hs <;> try (cases hs; done)
  rename_i t x y
  simp only at hd
  subst hd
  simp only [execOp, Sem.run_bind] at h ⊢
  cases hr : (Instr.storeAt t (a.eval x) (a.eval y)).run P w with
  | ok u w' =>
    rw [hr] at h
    simp only [Result.andThen_ok, Sem.run_pure, Oper.uponIn] at h ⊢
    exact ⟨_, rfl, h⟩
  | halt z w' =>
    rw [hr] at h
    cases z <;> simp [Result.andThen, Oper.uponIn] at h
    have := hQ _ _ _ h; cases this

/-- A region in any order, its first store before or behind what is quiet. -/
theorem late_order (hc : Chain C w0 ops base h0 tm0 L) (hd : lateOk ops = true) (hlen : L.length = firstStore ops.toList) (hs0 : ∀ n b, hget h0 n = some b → n < base ∧ AV.okL base b.cells = true) (ht0 : AV.okL base tm0 = true)
    {Q : Exit → Act → World → Prop} (hQn : ∀ x a w, Q x a w → x = .normal) (hQ : ∀ D ρ a w, (∀ i, i < ops.size → (D i ↔ i < L.length)) → Inv w0 ops base h0 tm0 L ρ0 ws ds D ρ a w → wpOpsIn (fenceR rd) 0 C.P ops Q (List.range' L.length (ops.size - L.length)) a w) :
    ∀ (fuel : Nat) (listed : Array Bool) (ρ : Env) (a : Act) (w : World), listed.size = ops.size → (leftOver ops listed).length ≤ fuel → (∀ i, L.length ≤ i → listed[i]? ≠ some true) → Inv w0 ops base h0 tm0 L ρ0 ws ds (fun i => listed[i]? = some true) ρ a w →
      wpAnyIn (fenceR rd) 0 C.P .any ops Q fuel listed a w := by
  obtain ⟨hb, hk, hspec⟩ := lateOk_spec hd
  have hst : ∀ p, ops[firstStore ops.toList]? = some p → isStore p.op = true := fun p hp => firstStore_is ops.toList p (by simpa using hp)
  have hns : ∀ i p, i < firstStore ops.toList → ops[i]? = some p → isStore p.op = false := fun i p hi hp => firstStore_not ops.toList i p hi (by simpa using hp)
  rw [hlen] at hQ ⊢
  generalize firstStore ops.toList = k at *
  have hlen' : L.length ≤ ops.size := by omega
  have hleft : ∀ listed : Array Bool, listed.size = ops.size → listed[k]? ≠ some true → listed.getD k true = false := fun listed hs hno => by
    have hlt : k < listed.size := by omega
    rw [Array.getElem?_eq_getElem hlt] at hno
    rw [Array.getD_eq_getD_getElem?, Array.getElem?_eq_getElem hlt]
    simpa using hno
  intro fuel
  induction fuel with
  | zero =>
    intro listed ρ a w hs hle hno hI
    exfalso
    have : k ∈ leftOver ops listed := List.mem_filter.2 ⟨List.mem_range.2 hk, by rw [hleft listed hs (hno k (Nat.le_refl _))]; rfl⟩
    have := List.length_pos_of_mem this
    omega
  | succ fuel ih =>
    intro listed ρ a w hs hle hno hI
    refine ⟨fun hr => absurd (ready_nil hb hs hr k hk) (hno k (Nat.le_refl _)), fun i hi => ?_⟩
    obtain ⟨p, hp, hil, hl, hdep⟩ := ready_spec hi
    have hset : ∀ j, (listed.setIfInBounds i true)[j]? = some true ↔ (listed[j]? = some true ∨ j = i) := by
      intro j
      rw [Array.getElem?_setIfInBounds]
      by_cases hji : i = j
      · subst hji; simp [hs, hil]
      · rw [if_neg hji]; simp [Ne.symm hji]
    have hDi : ¬ (listed[i]? = some true) := by
      intro e; rw [Array.getD_eq_getD_getElem?, e] at hl; cases hl
    have hlt := leftOver_lt hil hl hs
    rcases Nat.lt_trichotomy i k with hik | hik | hik
    rotate_left
    · subst hik
      obtain ⟨g1, g2⟩ := (hspec i p hp).2.1 rfl
      let M := (List.range i).filter fun j => !listed.getD j true
      have hM : ∀ j, j ∈ M ↔ (j < i ∧ ¬ (listed[j]? = some true)) := by
        intro j
        show j ∈ (List.range i).filter _ ↔ _
        rw [List.mem_filter, List.mem_range]
        constructor
        · rintro ⟨h1, h2⟩
          exact ⟨h1, fun e => by rw [Array.getD_eq_getD_getElem?, e] at h2; simp at h2⟩
        · rintro ⟨h1, h2⟩
          refine ⟨h1, ?_⟩
          have hlt : j < listed.size := by omega
          rw [Array.getElem?_eq_getElem hlt] at h2
          rw [Array.getD_eq_getD_getElem?, Array.getElem?_eq_getElem hlt]
          simpa using h2
      have hpw : M.Pairwise (· < ·) := List.Pairwise.filter _ List.pairwise_lt_range
      have hanc : ∀ j, j ∈ anc (before ops.toList []) i → listed[j]? = some true := fun j hj => anc_listed (D := fun j => listed[j]? = some true) hI.closed i p hp hdep j hj
      have hq : ∀ j ∈ M, ∀ q, ops[j]? = some q → quietOp q.op = true ∧ q.guard = none ∧ isStore q.op = false ∧ ∀ d ∈ depsOf q, listed[d]? = some true ∨ d ∈ M := by
        intro j hj q hqj
        obtain ⟨m1, m2⟩ := (hM j).1 hj
        have s4 : quietOp q.op = true ∧ q.guard = none := by
          rcases (hspec j q hqj).1 m1 with h | h
          · exact absurd (hanc j h) m2
          · exact h
        refine ⟨s4.1, s4.2, hns j q m1 hqj, fun d hdm => ?_⟩
        by_cases hld : listed[d]? = some true
        · exact .inl hld
        · refine .inr ((hM d).2 ⟨?_, hld⟩)
          have := (baseOk_spec hb hqj).1 d hdm
          omega
      obtain ⟨f, ρ', hrun, hI'⟩ := serial_inv hc hlen' hb hs0 ht0 _ _ ρ a hI (fun j hj => ⟨by rw [hlen]; exact ((hM j).1 hj).1, ((hM j).1 hj).2⟩) hpw hq
      have hops := hQ _ ρ' f w (fun j hj => ⟨fun h => by
        rcases h with h | h
        · rcases Nat.lt_or_ge j i with h1 | h1
          · exact h1
          · exact absurd h (hno j h1)
        · exact ((hM j).1 h).1, fun h => by
        by_cases hlj : listed[j]? = some true
        · exact .inl hlj
        · exact .inr ((hM j).2 ⟨h, hlj⟩)⟩) hI'
      rw [show ops.size - i = (ops.size - (i + 1)) + 1 by omega] at hops
      obtain ⟨w', hx, hrest⟩ := wpOps_store hQn hp (hst p hp) g1 g2 hops
      unfold wpOpIn
      have hw : Region.wanted p (yielded ops a.tmps) = true := by unfold Region.wanted; rw [g1]
      simp only [hp, hw, if_true]
      refine store_mk (hst p hp) (fun x hxm => ?_) hx ?_
      · refine (runQ_keep (fun j hj q t hqj hxt hdt => ?_) hrun).symm
        subst hxt
        obtain ⟨m1, m2⟩ := (hM j).1 hj
        rcases ((baseOk_spec hb hp).2.2.1 j q t hqj hdt).1 (looks_mem hxm) with h | h
        · exact m2 (hanc j h)
        · have := (anc_spec hqj h).1; omega
      · rw [g2]
        have htail : ∀ (j : Nat) (q : Oper), ops[j]? = some q → i + 1 ≤ j → ∀ l, l < j → l ∈ anc (before ops.toList []) j := fun j q hqj hij => (hspec j q hqj).2.2 (by omega)
        refine quiet_any (f := f) (k := i) hb hil (fun j q hqj hij => (hspec j q hqj).2.2 hij) (fun fl ls e1 e2 e3 => tail_serial hb htail (ops.size - (i + 1)) (i + 1) fl ls f w' (by omega) (Nat.le_refl _) e1 e2 e3 hrest) fuel M _ a (by simp [hs]) (fun j hj => ?_) (fun j hj => ((hM j).1 hj).1) hpw ?_ (fun j hj q hqj => ⟨(hq j hj q hqj).1, (hq j hj q hqj).2.1⟩) (fun j q hqj hj d hdm => ?_) hrun
        · rw [hset, hM]
          constructor
          · rintro (h | h)
            · have hji : j < i := by
                rcases Nat.lt_or_ge j i with h1 | h1
                · exact h1
                · exact absurd h (hno j h1)
              exact ⟨by omega, fun h' => h'.2 h⟩
            · exact ⟨by omega, fun h' => by omega⟩
          · rintro ⟨h1, h2⟩
            by_cases hji : j = i
            · exact .inr hji
            · exact .inl (Classical.byContradiction fun h3 => h2 ⟨by omega, h3⟩)
        · have hsplit : (leftOver ops listed).length = M.length + (ops.size - i) := by
            show ((List.range ops.size).filter fun j => !listed.getD j true).length = _
            have e : List.range ops.size = List.range i ++ List.range' i (ops.size - i) := by
              rw [List.range_eq_range', List.range_eq_range', show ops.size = i + (ops.size - i) by omega, ← List.range'_append]
              simp
            rw [e, List.filter_append, List.length_append]
            have h2 : (List.range' i (ops.size - i)).filter (fun j => !listed.getD j true) = List.range' i (ops.size - i) := by
              refine List.filter_eq_self.2 fun j hj => ?_
              rw [List.mem_range'_1] at hj
              have hlt : j < listed.size := by omega
              have := hno j (by omega)
              rw [Array.getElem?_eq_getElem hlt] at this
              rw [Array.getD_eq_getD_getElem?, Array.getElem?_eq_getElem hlt]
              simpa using this
            rw [h2, List.length_range']
          omega
        · rw [hset]
          left
          rcases (hset j).1 hj with h | rfl
          · exact hI.closed j q hqj h d hdm
          · rw [hp] at hqj; cases hqj; exact hdep d hdm
    · exfalso
      exact hno k (Nat.le_refl _) (anc_listed (D := fun j => listed[j]? = some true) hI.closed i p hp hdep k ((hspec i p hp).2.2 hik k hik))
    · have s1 := hns i p hik hp
      have hit : L[i]? = some (L[i]'(by omega)) := List.getElem?_eq_getElem (by omega)
      have hnext : ∀ ρ' a' w', Inv w0 ops base h0 tm0 L ρ0 ws ds (fun j => listed[j]? = some true ∨ j = i) ρ' a' w' → wpAnyIn (fenceR rd) 0 C.P .any ops Q fuel (listed.setIfInBounds i true) a' w' := by
        intro ρ' a' w' hI'
        refine ih _ ρ' a' w' (by simp [hs]) (by omega) (fun j hj e => ?_) ?_
        · rcases (hset j).1 e with h | h
          · exact hno j hj h
          · omega
        · have : (fun j => (listed.setIfInBounds i true)[j]? = some true) = (fun j => listed[j]? = some true ∨ j = i) := funext fun j => propext (hset j)
          rw [this]; exact hI'
      obtain ⟨-, -, -, -, hf⟩ := hc.item i _ p hit hp
      have hg := guard_stands hc hlen' hb hI hp hit hdep hDi
      unfold wpOpIn
      simp only [hp]
      rcases hf with ⟨f1, f2, f3, f4, f5⟩ | ⟨f1, f2, f3, f4, s, o, g1, g2, g3, g4, g5, g6, g7, g8⟩ | ⟨f1, -⟩
      rotate_left 2
      · rw [s1] at f1; cases f1
      · rw [f1 ρ a.tmps hg]
        simp only [Bool.false_eq_true, if_false]
        exact ⟨fun _ _ => trivial, hnext ρ _ w (inv_off hb hI hp hit hdep hDi f2 f3)⟩
      · rw [f1 ρ a.tmps hg]
        simp only [if_true]
        obtain ⟨v, k1, k2, k3, k4, k5⟩ := g8
        rw [g4] at k1
        cases k1
        obtain ⟨hRep, hstep⟩ := inv_on hc hlen' hb hs0 ht0 hI hp hit hdep hDi g2 g3 g5 g6 g7
        refine k5 rd ρ a w _ Q (fun x hx => by rw [g1]; exact operand_stands hc hlen' hb hI hp hit hdep hDi x hx) hRep hI.below fun ρ' w' hr' hp' => ?_
        exact hnext ρ' _ w' (hstep ρ' w' hr' hp')

end

section
variable {C : Ctx} {G : World → Prop} {w0 : World} {R : Rec}

theorem firstStore_le : ∀ ops : List Oper, firstStore ops ≤ ops.length
  | [] => Nat.le_refl _
  | o :: ops => by
    unfold firstStore
    split
    · exact Nat.zero_le _
    · have := firstStore_le ops
      simp; omega

/-- A region that draws its order, but for what comes last. -/
theorem tailFrom_spec (T : List (List Nat)) : ∀ m, tailFrom T m ≤ m ∧ ∀ i, tailFrom T m ≤ i → i < m → (T.getD i []).length = i
  | 0 => ⟨Nat.le_refl _, fun i _ h => by omega⟩
  | m + 1 => by
    unfold tailFrom
    split
    · rename_i h
      have h := Nat.eq_of_beq_eq_true h
      obtain ⟨a, b⟩ := tailFrom_spec T m
      refine ⟨by omega, fun i h1 h2 => ?_⟩
      rcases Nat.lt_or_ge i m with h3 | h3
      · exact b i h1 h3
      · have : i = m := by omega
        subst this; exact h
    · exact ⟨Nat.le_refl _, fun i h1 h2 => by omega⟩

theorem splitOf_spec {ops : Array Oper} (h : drawOk ops = true) : splitOf ops ≤ firstStore ops.toList ∧ ∀ (i : Nat) (p : Oper), ops[i]? = some p → splitOf ops ≤ i → ∀ j, j < i → j ∈ anc (before ops.toList []) i := by
  have hl : lastOk ops = true := by unfold drawOk at h; simp only [Bool.and_eq_true] at h; exact h.2
  unfold splitOf
  rw [hl]
  obtain ⟨a, b⟩ := tailFrom_spec (before ops.toList []) (firstStore ops.toList)
  refine ⟨a, fun i p hp hi => ?_⟩
  rcases Nat.lt_or_ge i (firstStore ops.toList) with h1 | h1
  · exact anc_full hp (b i hi h1)
  · exact drawOk_last h hp h1

theorem region_ok (hg : Good C G) {id : Nat} {f : FuncId} {ops : Array Oper} {s : St} {o2 : Out} (hd : drawOk ops = true) (hk : StOK s)
    (h2' : goTail R f ops (splitOf ops) (R (.draw f ops (ops.toList.take (splitOf ops)) s.nxt [] []) s) = some o2) (hl : Holds C G o2.log)
    (hdraw : ∀ o, R (.draw f ops (ops.toList.take (splitOf ops)) s.nxt [] []) s = some o → Holds C G o.log → DrawOK C w0 ops (ops.toList.take (splitOf ops)) s.nxt [] [] s o)
    (htail : ∀ s o, R (.ops f ops (ops.toList.drop (splitOf ops))) s = some o → Holds C G o.log → StOK s → OpsOK C w0 ops (ops.toList.drop (splitOf ops)) s o) : CodeOK C w0 (.region id ops true) s o2 := by
  obtain ⟨hle0, hser⟩ := splitOf_spec hd
  have hfs : splitOf ops ≤ ops.size := Nat.le_trans hle0 (by simpa using firstStore_le ops.toList)
  generalize hm : splitOf ops = m at *
  unfold goTail at h2'
  split at h2'
  rotate_left
  · cases h2'
  rename_i s1 l1 c1 k1 hrun
  obtain ⟨o3, hr3, rfl⟩ := behind_eq h2'
  have h := hdraw _ hrun hl.left
  generalize ho : (⟨.normal, s1, l1, ⟨c1, k1⟩⟩ : Out) = o at h
  obtain ⟨L, h1, h2, h3, h4, h5, h6, h7, h8⟩ := h m [] s.tmps hfs rfl rfl rfl rfl rfl (Nat.le_refl _) ⟨fun i it p hi => by simp at hi, fun i it p hi => by simp at hi⟩ (Nat.zero_le _)
  have hs1 : s1 = o.st := by rw [← ho]
  have hl1 : l1 = o.low := by rw [← ho]
  subst hs1
  subst hl1
  obtain ⟨b1, b2, b3, b4⟩ := htail _ _ hr3 hl.right h7
  have hfr := h8.2
  replace h8 := h8.1
  refine ⟨by rw [b1]; rfl, b2, ⟨Nat.le_trans h8 b3.1, by rw [b3.2, hfr]⟩, fun ρ w Q hr hb he => ?_⟩
  unfold fenceOf
  have hs0 : ∀ n b, hget s.heap n = some b → n < s.nxt ∧ AV.okL s.nxt b.cells = true := hr.scope
  refine wpIn_region_any hg.mixed ?_
  have hI0 : Inv w0 ops s.nxt s.heap s.tmps L ρ w (act ρ s.res.fr s.tmps).defers (fun i => (Array.replicate ops.size false)[i]? = some true) ρ (act ρ s.res.fr s.tmps) { w with drawn := w.drawn + 1 } := by
    have hno : ∀ i, ¬ ((Array.replicate ops.size false)[i]? = some true) := fun i e => by
      rw [Array.getElem?_replicate] at e; split at e <;> simp at e
    have hth : ∀ n b, There s.heap L (fun i => (Array.replicate ops.size false)[i]? = some true) n b → hget s.heap n = some b := fun n b h => by
      rcases h with h | ⟨j, it, hj, -⟩
      · exact h
      · exact absurd hj (hno j)
    exact ⟨fun i p _ hi => absurd hi (hno i), rfl, by simp [act, denL_length], fun j it p t hj => absurd hj (hno j), fun t _ => by simp [act], fun n b hn => hr.block n b (hth n b hn), fun n m b c hn hm => hr.inj n m b c (hth n b hn) (hth m c hm),
      fun n b hn => hr.above n b (hth n b hn), fun j it n b hj => absurd hj (hno j), fun n _ => ⟨rfl, rfl⟩, rfl, rfl, rfl, Nat.le_refl _, fun k _ _ => rfl, hb.drew⟩
  refine any_order (ρ0 := ρ) (ws := w) h2 (by omega) hd (fun i p hp hi => hser i p hp (by omega)) (fun i p hi hp => firstStore_not ops.toList i p (by omega) (by simpa using hp)) hs0 hk.1 ?_ ops.size _ ρ _ _ (by simp) (by unfold leftOver; exact Nat.le_trans (List.length_filter_le _ _) (by simp)) (fun i _ e => by
    rw [Array.getElem?_replicate] at e; split at e <;> simp at e) hI0
  intro D ρ' a w' hD hI
  -- all is done that may come in any order
  have hD' : ∀ i, i < m → D i := fun i hi => (hD i (by omega)).2 (by omega)
  have hDm : ∀ i p, ops[i]? = some p → D i → i < m := fun i p hp hDi => by
    have hi : i < ops.size := by
      rcases Nat.lt_or_ge i ops.size with h | h
      · exact h
      · simp [Array.getElem?_eq_none h] at hp
    have := (hD i hi).1 hDi
    omega
  rw [h1]
  have hle : s.nxt ≤ nxAt s.nxt L m := by rw [← h6]; exact h8
  have hth : ∀ n b, hget o.st.heap n = some b → There s.heap L D n b := by
    intro n b hn
    rw [h5, hget_append] at hn
    cases hm : hget (L.map Item.made).flatten n with
    | some c =>
      rw [hm] at hn; cases hn
      obtain ⟨j, hh, hj, hb⟩ := flatten_get' hm
      rw [List.getElem?_map] at hj
      cases hjt : L[j]? with
      | none => rw [hjt] at hj; cases hj
      | some jt =>
        rw [hjt] at hj
        simp only [Option.map_some, Option.some.injEq] at hj
        subst hj
        exact .inr ⟨j, jt, hD' j (by have := (List.getElem?_eq_some_iff.1 hjt).1; omega), hjt, hb⟩
    | none => rw [hm] at hn; exact .inl hn
  have hσ : ∀ n, n < s.nxt → ρ'.σ n = ρ.σ n := fun n hn => (hI.agree n (.inl hn)).1
  have ha : a = act ρ' o.st.res.fr o.st.tmps := by
    obtain ⟨tmps, defers⟩ := a
    have hdf := hI.defers
    simp only [act] at hdf
    subst hdf
    rw [hfr]
    unfold act
    rw [marks_eq hσ hk.2]
    congr 1
    rw [h4]
    apply Array.ext'
    apply List.ext_getElem?
    intro t
    rw [Array.getElem?_toList]
    by_cases hex : ∃ (j : Nat) (q : Oper), j < m ∧ ops[j]? = some q ∧ q.dst = some t
    · obtain ⟨j, q, hj, hq, hdq⟩ := hex
      have hjt : L[j]? = some L[j] := List.getElem?_eq_getElem (by omega)
      rcases Nat.lt_or_ge t s.tmps.length with hlt | hge
      · have e1 := hI.put j _ q t (hD' j hj) hjt hq hdq hlt
        simp only at e1
        rw [e1, denL_map, List.getElem?_map, tmAt_put hjt hq hdq hlt (fun k r hk hr hdr => ((baseOk_spec (drawOk_base hd) hr).2.2.1 j q t hq hdq).2 hk hdr) hj]
        rfl
      · have hsz := hI.size
        simp only at hsz
        rw [Array.getElem?_eq_none (by omega), denL_map, List.getElem?_map, List.getElem?_eq_none (by rw [tmAt_length]; exact hge)]; rfl
    · have hno : ∀ (j : Nat) (q : Oper), j < m → ops[j]? = some q → q.dst ≠ some t := fun j q hj hq hdq => hex ⟨j, q, hj, hq, hdq⟩
      have e1 := hI.left t (fun j q hDj hq => hno j q (hDm j q hq hDj) hq)
      simp only at e1
      rw [e1, denL_map, denL_map, List.getElem?_map, List.getElem?_map, tmAt_keep (fun j q hj hq => hno j q hj hq)]
  have hmade : ∀ n b, hget o.st.heap n = some b → ¬ hget s.heap n = some b → s.nxt ≤ n ∧ n < o.st.nxt ∧ AV.okL o.st.nxt b.cells = true ∧ w.heap.size ≤ ρ'.σ n := by
    intro n b hn hne
    rcases hth n b hn with h | ⟨j, jt, hDj, hjt, hb⟩
    · exact absurd h hne
    · obtain ⟨m1, m2, m3, m4⟩ := hI.made j jt n b hDj hjt hb
      have := base_le h2 (by omega) hjt
      rw [h1] at this
      rw [h6]
      exact ⟨by omega, by omega, okL_mono (by omega) _ m3, m4⟩
  rw [ha]
  have hRep : Rep w0.heap.size ρ' o.st.heap o.st.nxt w' := by
    refine ⟨fun n b hn => hI.block n b (hth n b hn), fun n m b c hn hm => hI.inj n m b c (hth n b hn) (hth m c hm), fun n b hn => ?_, fun n b hn => hI.above n b (hth n b hn)⟩
    by_cases hne : hget s.heap n = some b
    · obtain ⟨q1, q2⟩ := hs0 n b hne
      exact ⟨by rw [h6]; omega, okL_mono (by rw [h6]; exact hle) _ q2⟩
    · obtain ⟨-, q1, q2, -⟩ := hmade n b hn hne
      exact ⟨q1, q2⟩
  have hPost : Post ρ ρ' s.heap o.st.heap s.nxt o.st.nxt o.low w w' := by
    refine ⟨fun n hn => hI.agree n (by rw [h1, ← h6]; exact hn), h8, hI.os, hI.tape, hI.output, hI.wsize, fun k hk hne => hI.frame k hk hne, fun n b hn => ?_, fun n hl hx => ?_⟩
    · by_cases hne : hget s.heap n = some b
      · exact .inl ⟨n, b, hne, (hI.agree n (.inl (hs0 n b hne).1)).1⟩
      · exact .inr (hmade n b hn hne).2.2.2
    · rw [h5, hget_append]
      cases hm : hget (L.map Item.made).flatten n with
      | none => rfl
      | some c =>
        obtain ⟨j, hh, hj, hb⟩ := flatten_get' hm
        rw [List.getElem?_map] at hj
        cases hjt : L[j]? with
        | none => rw [hjt] at hj; cases hj
        | some jt =>
          rw [hjt] at hj
          simp only [Option.map_some, Option.some.injEq] at hj
          subst hj
          have hjl := (List.getElem?_eq_some_iff.1 hjt).1
          obtain ⟨m1, -⟩ := hI.made j jt n c (hD' j (by omega)) hjt hb
          have := base_le h2 (by omega) hjt
          omega
  simp only [b1] at he
  have b4' := fun Q => b4 m rfl ρ' w' Q
  have hfe := fence_eq (ρ := ρ) (ρ1 := ρ') hσ hk.2 (show o.st.res.fr.rnd = s.res.fr.rnd by rw [hfr])
  rw [hfe] at b4'
  exact b4' Q hRep (below_of_post hr hPost hb) (he.trans (x := .normal) (l := ⟨c1 ++ o3.log.conds, k1 ++ o3.log.calls⟩) hr hRep hPost)

/-- A region that draws its order, its first store before or behind what is quiet. -/
theorem region_late (hg : Good C G) {id : Nat} {f : FuncId} {ops : Array Oper} {s : St} {o2 : Out} (hd : lateOk ops = true) (hk : StOK s)
    (h2' : goTail R f ops (firstStore ops.toList) (R (.draw f ops (ops.toList.take (firstStore ops.toList)) s.nxt [] []) s) = some o2) (hl : Holds C G o2.log)
    (hdraw : ∀ o, R (.draw f ops (ops.toList.take (firstStore ops.toList)) s.nxt [] []) s = some o → Holds C G o.log → DrawOK C w0 ops (ops.toList.take (firstStore ops.toList)) s.nxt [] [] s o)
    (htail : ∀ s o, R (.ops f ops (ops.toList.drop (firstStore ops.toList))) s = some o → Holds C G o.log → StOK s → OpsOK C w0 ops (ops.toList.drop (firstStore ops.toList)) s o) : CodeOK C w0 (.region id ops true) s o2 := by
  have hfs : firstStore ops.toList ≤ ops.size := by simpa using firstStore_le ops.toList
  generalize hm : firstStore ops.toList = m at *
  unfold goTail at h2'
  split at h2'
  rotate_left
  · cases h2'
  rename_i s1 l1 c1 k1 hrun
  obtain ⟨o3, hr3, rfl⟩ := behind_eq h2'
  have h := hdraw _ hrun hl.left
  generalize ho : (⟨.normal, s1, l1, ⟨c1, k1⟩⟩ : Out) = o at h
  obtain ⟨L, h1, h2, h3, h4, h5, h6, h7, h8⟩ := h m [] s.tmps hfs rfl rfl rfl rfl rfl (Nat.le_refl _) ⟨fun i it p hi => by simp at hi, fun i it p hi => by simp at hi⟩ (Nat.zero_le _)
  have hs1 : s1 = o.st := by rw [← ho]
  have hl1 : l1 = o.low := by rw [← ho]
  subst hs1
  subst hl1
  obtain ⟨b1, b2, b3, b4⟩ := htail _ _ hr3 hl.right h7
  have hfr := h8.2
  replace h8 := h8.1
  refine ⟨by rw [b1]; rfl, b2, ⟨Nat.le_trans h8 b3.1, by rw [b3.2, hfr]⟩, fun ρ w Q hr hb he => ?_⟩
  unfold fenceOf
  have hs0 : ∀ n b, hget s.heap n = some b → n < s.nxt ∧ AV.okL s.nxt b.cells = true := hr.scope
  refine wpIn_mono (Q := fun x a w => x = .normal ∧ Q x a w) ?_ (fun _ _ _ h => h.2)
  refine wpIn_region_any hg.mixed ?_
  have hI0 : Inv w0 ops s.nxt s.heap s.tmps L ρ w (act ρ s.res.fr s.tmps).defers (fun i => (Array.replicate ops.size false)[i]? = some true) ρ (act ρ s.res.fr s.tmps) { w with drawn := w.drawn + 1 } := by
    have hno : ∀ i, ¬ ((Array.replicate ops.size false)[i]? = some true) := fun i e => by
      rw [Array.getElem?_replicate] at e; split at e <;> simp at e
    have hth : ∀ n b, There s.heap L (fun i => (Array.replicate ops.size false)[i]? = some true) n b → hget s.heap n = some b := fun n b h => by
      rcases h with h | ⟨j, it, hj, -⟩
      · exact h
      · exact absurd hj (hno j)
    exact ⟨fun i p _ hi => absurd hi (hno i), rfl, by simp [act, denL_length], fun j it p t hj => absurd hj (hno j), fun t _ => by simp [act], fun n b hn => hr.block n b (hth n b hn), fun n m b c hn hm => hr.inj n m b c (hth n b hn) (hth m c hm),
      fun n b hn => hr.above n b (hth n b hn), fun j it n b hj => absurd hj (hno j), fun n _ => ⟨rfl, rfl⟩, rfl, rfl, rfl, Nat.le_refl _, fun k _ _ => rfl, hb.drew⟩
  refine late_order (ρ0 := ρ) (ws := w) h2 hd (by omega) hs0 hk.1 (fun _ _ _ h => h.1) ?_ ops.size _ ρ _ _ (by simp) (by unfold leftOver; exact Nat.le_trans (List.length_filter_le _ _) (by simp)) (fun i _ e => by
    rw [Array.getElem?_replicate] at e; split at e <;> simp at e) hI0
  intro D ρ' a w' hD hI
  -- all is done that may come in any order
  have hD' : ∀ i, i < m → D i := fun i hi => (hD i (by omega)).2 (by omega)
  have hDm : ∀ i p, ops[i]? = some p → D i → i < m := fun i p hp hDi => by
    have hi : i < ops.size := by
      rcases Nat.lt_or_ge i ops.size with h | h
      · exact h
      · simp [Array.getElem?_eq_none h] at hp
    have := (hD i hi).1 hDi
    omega
  rw [h1]
  have hle : s.nxt ≤ nxAt s.nxt L m := by rw [← h6]; exact h8
  have hth : ∀ n b, hget o.st.heap n = some b → There s.heap L D n b := by
    intro n b hn
    rw [h5, hget_append] at hn
    cases hm : hget (L.map Item.made).flatten n with
    | some c =>
      rw [hm] at hn; cases hn
      obtain ⟨j, hh, hj, hb⟩ := flatten_get' hm
      rw [List.getElem?_map] at hj
      cases hjt : L[j]? with
      | none => rw [hjt] at hj; cases hj
      | some jt =>
        rw [hjt] at hj
        simp only [Option.map_some, Option.some.injEq] at hj
        subst hj
        exact .inr ⟨j, jt, hD' j (by have := (List.getElem?_eq_some_iff.1 hjt).1; omega), hjt, hb⟩
    | none => rw [hm] at hn; exact .inl hn
  have hσ : ∀ n, n < s.nxt → ρ'.σ n = ρ.σ n := fun n hn => (hI.agree n (.inl hn)).1
  have ha : a = act ρ' o.st.res.fr o.st.tmps := by
    obtain ⟨tmps, defers⟩ := a
    have hdf := hI.defers
    simp only [act] at hdf
    subst hdf
    rw [hfr]
    unfold act
    rw [marks_eq hσ hk.2]
    congr 1
    rw [h4]
    apply Array.ext'
    apply List.ext_getElem?
    intro t
    rw [Array.getElem?_toList]
    by_cases hex : ∃ (j : Nat) (q : Oper), j < m ∧ ops[j]? = some q ∧ q.dst = some t
    · obtain ⟨j, q, hj, hq, hdq⟩ := hex
      have hjt : L[j]? = some L[j] := List.getElem?_eq_getElem (by omega)
      rcases Nat.lt_or_ge t s.tmps.length with hlt | hge
      · have e1 := hI.put j _ q t (hD' j hj) hjt hq hdq hlt
        simp only at e1
        rw [e1, denL_map, List.getElem?_map, tmAt_put hjt hq hdq hlt (fun k r hk hr hdr => ((baseOk_spec (lateOk_spec hd).1 hr).2.2.1 j q t hq hdq).2 hk hdr) hj]
        rfl
      · have hsz := hI.size
        simp only at hsz
        rw [Array.getElem?_eq_none (by omega), denL_map, List.getElem?_map, List.getElem?_eq_none (by rw [tmAt_length]; exact hge)]; rfl
    · have hno : ∀ (j : Nat) (q : Oper), j < m → ops[j]? = some q → q.dst ≠ some t := fun j q hj hq hdq => hex ⟨j, q, hj, hq, hdq⟩
      have e1 := hI.left t (fun j q hDj hq => hno j q (hDm j q hq hDj) hq)
      simp only at e1
      rw [e1, denL_map, denL_map, List.getElem?_map, List.getElem?_map, tmAt_keep (fun j q hj hq => hno j q hj hq)]
  have hmade : ∀ n b, hget o.st.heap n = some b → ¬ hget s.heap n = some b → s.nxt ≤ n ∧ n < o.st.nxt ∧ AV.okL o.st.nxt b.cells = true ∧ w.heap.size ≤ ρ'.σ n := by
    intro n b hn hne
    rcases hth n b hn with h | ⟨j, jt, hDj, hjt, hb⟩
    · exact absurd h hne
    · obtain ⟨m1, m2, m3, m4⟩ := hI.made j jt n b hDj hjt hb
      have := base_le h2 (by omega) hjt
      rw [h1] at this
      rw [h6]
      exact ⟨by omega, by omega, okL_mono (by omega) _ m3, m4⟩
  rw [ha]
  have hRep : Rep w0.heap.size ρ' o.st.heap o.st.nxt w' := by
    refine ⟨fun n b hn => hI.block n b (hth n b hn), fun n m b c hn hm => hI.inj n m b c (hth n b hn) (hth m c hm), fun n b hn => ?_, fun n b hn => hI.above n b (hth n b hn)⟩
    by_cases hne : hget s.heap n = some b
    · obtain ⟨q1, q2⟩ := hs0 n b hne
      exact ⟨by rw [h6]; omega, okL_mono (by rw [h6]; exact hle) _ q2⟩
    · obtain ⟨-, q1, q2, -⟩ := hmade n b hn hne
      exact ⟨q1, q2⟩
  have hPost : Post ρ ρ' s.heap o.st.heap s.nxt o.st.nxt o.low w w' := by
    refine ⟨fun n hn => hI.agree n (by rw [h1, ← h6]; exact hn), h8, hI.os, hI.tape, hI.output, hI.wsize, fun k hk hne => hI.frame k hk hne, fun n b hn => ?_, fun n hl hx => ?_⟩
    · by_cases hne : hget s.heap n = some b
      · exact .inl ⟨n, b, hne, (hI.agree n (.inl (hs0 n b hne).1)).1⟩
      · exact .inr (hmade n b hn hne).2.2.2
    · rw [h5, hget_append]
      cases hm : hget (L.map Item.made).flatten n with
      | none => rfl
      | some c =>
        obtain ⟨j, hh, hj, hb⟩ := flatten_get' hm
        rw [List.getElem?_map] at hj
        cases hjt : L[j]? with
        | none => rw [hjt] at hj; cases hj
        | some jt =>
          rw [hjt] at hj
          simp only [Option.map_some, Option.some.injEq] at hj
          subst hj
          have hjl := (List.getElem?_eq_some_iff.1 hjt).1
          obtain ⟨m1, -⟩ := hI.made j jt n c (hD' j (by omega)) hjt hb
          have := base_le h2 (by omega) hjt
          omega
  simp only [b1] at he
  have b4' := fun Q => b4 m rfl ρ' w' Q
  have he2 := he.trans (x := .normal) (l := ⟨c1 ++ o3.log.conds, k1 ++ o3.log.calls⟩) hr hRep hPost
  have hfe := fence_eq (ρ := ρ) (ρ1 := ρ') hσ hk.2 (show o.st.res.fr.rnd = s.res.fr.rnd by rw [hfr])
  rw [hfe] at b4'
  exact b4' _ hRep (below_of_post hr hPost hb) (fun ρ2 w2 r2 p2 => ⟨rfl, he2 ρ2 w2 r2 p2⟩)

/-- What each job's run says. -/
def JobOK (C : Ctx) (w0 : World) (n : Nat) (s : St) (o : Out) : Job → Prop
  | .code _ c => okCode c = true → StOK s → CodeOK C w0 c s o
  | .loop _ c => okCode c = true → StOK s → LoopOK C w0 n c s o
  | .ops _ ops todo => StOK s → OpsOK C w0 ops todo s o
  | .draw _ ops todo base seen acc => StOK s → DrawOK C w0 ops todo base seen acc s o
  | .op _ p => StOK s → OpOK C w0 p s o
  | .enter g vs => EnterOK C w0 g vs s o

/-- What the contracted functions are: functions with a body. -/
structure Good' (C : Ctx) (G : World → Prop) : Prop extends Good C G where
  fnpBody : ∀ (g : FuncId) (vs : List AV) (h : AHeap) (v : Value), C.fnp g vs h = some v → ∃ fn, C.P.funcs[g]? = some fn ∧ fn.body.isSome = true
  con : ∀ g, C.con g = true → ∃ fn, C.P.funcs[g]? = some fn ∧ fn.body.isSome = true

theorem sound (hg : Good' C G) (hw0 : G w0) : ∀ (n : Nat) (j : Job) (s : St) (o : Out), run C n j s = some o → Holds C G o.log → JobOK C w0 n s o j := by
  intro n
  induction n with
  | zero => intro j s o h; simp [run] at h
  | succ n ih =>
    intro j s o h hl
    simp only [run] at h
    have hbody : ∀ g vs s o, run C n (.enter g vs) s = some o → ∃ fn, C.P.funcs[g]? = some fn ∧ fn.body.isSome = true := by
      intro g vs s o h
      cases n with
      | zero => simp [run] at h
      | succ n =>
        simp only [run, step] at h
        split at h
        · rename_i hcon; exact hg.con g hcon
        · split at h
          · rename_i v hv; exact hg.fnpBody g vs _ v hv
          · unfold goEnter at h
            obtain ⟨tm, hh, nx, ora, rs⟩ := s
            simp only at h
            split at h
            · rename_i fn _ hfn
              rw [listGet_eq, Array.getElem?_toList] at hfn
              split at h
              · rename_i c hb _; exact ⟨fn, hfn, by rw [hb]; rfl⟩
              · cases h
            · cases h
    cases j with
    | code f c =>
      intro hok hk
      simp only [step] at h
      cases c with
      | skip => exact skip_ok h rfl hk (fun F Q a w hq => wpIn_skip hq)
      | seq a b =>
        simp only [okCode, Bool.and_eq_true] at hok
        exact seq_ok h hl (fun s o h1 h2 h3 => ih (.code f a) s o h1 h2 hok.1 h3) (fun s o h1 h2 h3 => ih (.code f b) s o h1 h2 hok.2 h3) hk
      | cond c x y =>
        simp only [okCode, Bool.and_eq_true] at hok
        exact cond_ok h hl (fun s o h1 h2 h3 => ih (.code f x) s o h1 h2 hok.1 h3) (fun s o h1 h2 h3 => ih (.code f y) s o h1 h2 hok.2 h3) hk
      | block id c =>
        simp only [okCode] at hok
        exact block_ok h hl (fun s o h1 h2 h3 => ih (.code f c) s o h1 h2 hok h3) hk
      | loop c =>
        simp only [okCode] at hok
        obtain ⟨tm, hh, nx, ora, rs⟩ := s
        simp only [goCode] at h
        split at h
        · split at h
          · split at h
            · simp only [Option.some.injEq] at h
              subst h
              exact hl.2 _ List.mem_cons_self w0 hw0 hk
            · simp only [Option.some.injEq] at h
              subst h
              exact hl.2 _ List.mem_cons_self w0 hw0 hk
          · cases h
        · obtain ⟨a1, a2, a3, a4⟩ := ih (.loop f c) _ o h hl hok hk
          exact ⟨a1, a2, a3, fun ρ w Q hr hb he => wpIn_loop_rounds n (a4 ρ w Q hr hb he)⟩
      | exit id => exact skip_ok h rfl hk (fun F Q a w hq => wpIn_exit hq)
      | ret => exact skip_ok h rfl hk (fun F Q a w hq => wpIn_ret hq)
      | region id ops draw =>
        cases draw with
        | false =>
          obtain ⟨a1, a2, a3, a4⟩ := ih (.ops f ops ops.toList) s o h hl hk
          refine ⟨by rw [a1]; rfl, a2, ⟨a3.1, by rw [a3.2]⟩, fun ρ w Q hr hb he => wpIn_region ?_⟩
          have := a4 0 rfl ρ w Q hr hb (by rw [a1] at he; exact he)
          rw [Nat.sub_zero, ← List.range_eq_range'] at this
          exact this
        | true =>
          simp only [okCode] at hok
          simp only [Bool.or_eq_true] at hok
          simp only [goCode] at h
          cases hlast : lastOk ops with
          | true =>
            have hdr : drawOk ops = true := by
              rcases hok with hok | hok
              · exact hok
              · unfold drawOk
                rw [(lateOk_spec hok).1, hlast]; rfl
            exact region_ok hg.toGood hdr hk h hl (fun o h1 h2 => ih (.draw f ops _ s.nxt [] []) s o h1 h2 hk) (fun s o h1 h2 h3 => ih (.ops f ops _) s o h1 h2 h3)
          | false =>
            have hla : lateOk ops = true := by
              rcases hok with hok | hok
              · unfold drawOk at hok; rw [hlast] at hok; simp at hok
              · exact hok
            have hsp : splitOf ops = firstStore ops.toList := by unfold splitOf; rw [hlast]
            rw [hsp] at h
            exact region_late hg.toGood hla hk h hl (fun o h1 h2 => ih (.draw f ops _ s.nxt [] []) s o h1 h2 hk) (fun s o h1 h2 h3 => ih (.ops f ops _) s o h1 h2 h3)
      | rangeFunc g ps a b =>
        simp only [okCode, Bool.and_eq_true] at hok
        simp only [goCode] at h
        exact range_ok hg.toGood h hl (fun g vs s o h1 h2 => ih (.enter g vs) s o h1 h2) hok.1 hok.2 hk
      | scope b => simp [goCode] at h
      | label l => simp [goCode] at h
      | goto l => simp [goCode] at h
      | refuse w => simp [goCode] at h
    | loop f c =>
      intro hok hk
      simp only [step] at h
      exact loop_ok h hl (fun s o h1 h2 h3 => ih (.code f c) s o h1 h2 hok h3) (fun s o h1 h2 h3 => ih (.loop f c) s o h1 h2 hok h3) hk
    | ops f ops todo =>
      intro hk
      simp only [step] at h
      exact ops_ok h hl (fun p s o h1 h2 h3 => ih (.op f p) s o h1 h2 h3) (fun todo s o h1 h2 h3 => ih (.ops f ops todo) s o h1 h2 h3) hk
    | draw f ops todo base seen acc =>
      intro hk
      simp only [step] at h
      exact draw_ok h hl (fun p s o h1 h2 h3 => ih (.op f p) s o h1 h2 h3) (fun todo seen acc s o h1 h2 h3 => ih (.draw f ops todo base seen acc) s o h1 h2 h3) hk
    | op f p =>
      intro hk
      simp only [step, goOp] at h
      split at h
      · rename_i r hbig
        exact goBig_ok hbig h hl
      simp only [goSmall] at h
      split at h
      · rename_i c x y hc
        exact pick_ok hg.toGood hc hw0 h hl
      · rename_i c hc
        split at h
        · split at h
          · rename_i l args hy
            exact yield_ok hc hy h hl (fun f c s o h1 h2 h3 h4 => ih (.code f c) s o h1 h2 h3 h4) hk
          · exact call_ok hg.toGood hc h hl (fun g vs s o h1 h2 => ih (.enter g vs) s o h1 h2) hbody
        · exact plain_ok hg.toGood hw0 h
      · split at h
        · exact div_ok hg.toGood hw0 h hl
        · exact div_ok hg.toGood hw0 h hl
        · exact plain_ok hg.toGood hw0 h
      · exact plain_ok hg.toGood hw0 h
    | enter g vs =>
      simp only [step] at h
      split at h
      · exact contract_ok hg.toGood hw0 h hl
      · split at h
        · rename_i v hv
          exact summary_ok hg.toGood hw0 hv h
        · exact enter_ok hg.toGood hw0 h hl (fun c s o h1 h2 h3 h4 => ih (.code g c) s o h1 h2 h3 h4)

/-- THE THEOREM: a run from values without own addresses that ends with one is a contract of the function. -/
theorem calls {C : Ctx} {G : World → Prop} (hg : Good' C G) {n : Nat} {g : FuncId} {vs : List Value} {ora : List Bool} {res : List Value} {o : Out} {v : Value}
    (h : run C n (.enter g (vs.map .pure)) ⟨[], [], 0, ora, ⟨res, noFrame⟩⟩ = some o) (hx : o.x = .val (.pure v)) (hl : Holds C G o.log) (w : World) (hw : G w) :
    Calls C.P g vs.toArray w fun e w' => e = .returned v ∧ Below w.heap.size w w' := by
  obtain ⟨v', a1, a2, a3, a4⟩ := sound (w0 := w) hg hw n _ _ _ h hl
  rw [hx] at a1
  cases a1
  have hr : Rep w.heap.size ⟨fun _ => 0, fun _ => ⟨0, noVal⟩⟩ [] 0 w := ⟨fun n b hn => by simp [hget] at hn, fun n m b c hn => by simp [hget] at hn, fun n b hn => by simp [hget] at hn, fun n b hn => by simp [hget] at hn⟩
  have := a4 _ w hr (Below.refl _ _)
  rw [denL_pure] at this
  refine this.mono fun e w' ⟨ρ', he, hr', hp⟩ => ⟨by simpa [AV.den] using he, hp.below hr (Nat.le_refl _)⟩

end
end Go.Ev
