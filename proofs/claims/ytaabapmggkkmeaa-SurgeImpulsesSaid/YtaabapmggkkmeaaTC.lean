import Derived.Test.YtaabapmggkkmeaaTB
set_option linter.unusedVariables false
set_option linter.unusedSimpArgs false
set_option linter.unusedSectionVars false
set_option linter.unnecessarySimpa false
/- Running the program's functions on values that are known in part: the theorem. -/
namespace Go.Ev
open Go.RowKit
section
variable {C : Ctx} {w0 : World} {ops : Array Oper} {base : Nat} {h0 : AHeap} {tm0 : List AV} {L : List Item} {ρ0 : Env} {ws : World} {ds : List Deferred} {rd : Option Nat}
/-- How many operations are left. -/
def leftOver (ops : Array Oper) (listed : Array Bool) : List Nat := (List.range ops.size).filter fun i => !listed.getD i true
theorem leftOver_lt {ops : Array Oper} {listed : Array Bool} {i : Nat} (hi : i < ops.size) (hl : listed.getD i true = false) (hs : listed.size = ops.size) :
    (leftOver ops (listed.setIfInBounds i true)).length < (leftOver ops listed).length := by
  unfold leftOver
  have hsub : ∀ j, (!(listed.setIfInBounds i true).getD j true) = (!listed.getD j true && !(j == i)) := by
    intro j
    by_cases hji : j = i
    · subst hji
      simp [hs, hi]
    · have : (listed.setIfInBounds i true).getD j true = listed.getD j true := by
        simp [Ne.symm hji]
      rw [this]; simp [hji]
  have heq : ((List.range ops.size).filter fun j => !(listed.setIfInBounds i true).getD j true) = ((List.range ops.size).filter fun j => !listed.getD j true).filter fun j => !(j == i) := by
    rw [List.filter_filter]
    apply List.filter_congr
    intro j _
    rw [hsub j, Bool.and_comm]
  rw [heq]
  refine Nat.lt_of_le_of_ne (List.length_filter_le _ _) (fun e => ?_)
  have hall := List.length_filter_eq_length_iff.1 e
  have := hall i (List.mem_filter.2 ⟨List.mem_range.2 hi, by simp [hl]⟩)
  simp at this
theorem mem_depsOf {p : Oper} {d : Nat} (h : d ∈ depsOf p) : ∃ e ∈ p.after, Region.binds .any e = true ∧ e.on = d := by
  unfold depsOf at h
  obtain ⟨e, he, hb⟩ := List.mem_filterMap.1 h
  split at hb
  · rename_i hb'
    exact ⟨e, by simpa using he, hb', by simpa using hb⟩
  · cases hb
theorem ready_spec {ops : Array Oper} {listed : Array Bool} {i : Nat} (hi : i ∈ Region.ready .any ops listed) : ∃ p, ops[i]? = some p ∧ i < ops.size ∧ listed.getD i true = false ∧ ∀ d ∈ depsOf p, listed[d]? = some true := by
  unfold Region.ready at hi
  simp only [List.mem_filter, List.mem_range, Bool.and_eq_true, Bool.not_eq_true'] at hi
  obtain ⟨h1, h2, h3⟩ := hi
  have hp : ops[i]? = some ops[i] := by simp
  rw [hp] at h3
  simp only [Option.map_some, Option.getD_some] at h3
  refine ⟨_, hp, h1, h2, fun d hdm => ?_⟩
  obtain ⟨e, he, hb, rfl⟩ := mem_depsOf hdm
  have := Array.all_eq_true'.1 h3 e he
  rw [hb] at this
  simp only [Bool.not_true, Bool.false_or] at this
  rw [Array.getD_eq_getD_getElem?] at this
  cases hx : listed[e.on]? with
  | none => rw [hx] at this; simp at this
  | some b => rw [hx] at this; simp at this; rw [this]
theorem ready_mk {ops : Array Oper} {listed : Array Bool} {i : Nat} {p : Oper} (hp : ops[i]? = some p) (hl : listed.getD i true = false) (hdep : ∀ d ∈ depsOf p, listed[d]? = some true) : i ∈ Region.ready .any ops listed := by
  have hi : i < ops.size := by
    rcases Nat.lt_or_ge i ops.size with h | h
    · exact h
    · simp [Array.getElem?_eq_none h] at hp
  unfold Region.ready
  simp only [List.mem_filter, List.mem_range, Bool.and_eq_true, Bool.not_eq_true']
  refine ⟨hi, hl, ?_⟩
  rw [hp]
  simp only [Option.map_some, Option.getD_some]
  refine Array.all_eq_true'.2 fun e he => ?_
  cases hbe : Region.binds .any e with
  | false => rfl
  | true =>
    have hdm : e.on ∈ depsOf p := by
      unfold depsOf
      exact List.mem_filterMap.2 ⟨e, by simpa using he, by simp [hbe]⟩
    simp [hdep _ hdm]
theorem ready_nil {ops : Array Oper} {listed : Array Bool} (hd : baseOk ops = true) (hs : listed.size = ops.size) (hr : Region.ready .any ops listed = []) : ∀ i, i < ops.size → listed[i]? = some true := by
  intro i
  induction i using Nat.strongRecOn with
  | _ i ih =>
    intro hi
    have hil : i < listed.size := by omega
    cases hb : listed[i] with
    | true => rw [Array.getElem?_eq_getElem hil, hb]
    | false =>
      exfalso
      have hp : ops[i]? = some ops[i] := by simp
      have : i ∈ Region.ready .any ops listed := ready_mk hp (by rw [Array.getD_eq_getD_getElem?, Array.getElem?_eq_getElem hil, hb]; rfl) fun d hdm => by
        have hlt := (baseOk_spec hd hp).1 d hdm
        exact ih d hlt (by omega)
      rw [hr] at this; cases this
theorem leftOver_ge {ops : Array Oper} {listed : Array Bool} {k : Nat} (hs : listed.size = ops.size) (hk : k ≤ ops.size) (hl : ∀ i, i < ops.size → (listed[i]? = some true ↔ i < k)) : ops.size - k ≤ (leftOver ops listed).length := by
  unfold leftOver
  have : List.range ops.size = List.range' 0 k ++ List.range' k (ops.size - k) := by
    rw [List.range_eq_range', show ops.size = k + (ops.size - k) by omega, ← List.range'_append]
    simp
  rw [this, List.filter_append, List.length_append]
  have h2 : (List.range' k (ops.size - k)).filter (fun i => !listed.getD i true) = List.range' k (ops.size - k) := by
    refine List.filter_eq_self.2 fun i hi => ?_
    rw [List.mem_range'_1] at hi
    have hlt : i < listed.size := by omega
    have : ¬ (listed[i]? = some true) := fun h => by have := (hl i (by omega)).1 h; omega
    rw [Array.getElem?_eq_getElem hlt] at this
    rw [Array.getD_eq_getD_getElem?, Array.getElem?_eq_getElem hlt]
    simpa using this
  rw [h2]
  simp
/-- What comes last comes in its order. -/
theorem tail_serial {P : Program} (hb : baseOk ops = true) {m : Nat} (htail : ∀ (i : Nat) (p : Oper), ops[i]? = some p → m ≤ i → ∀ j, j < i → j ∈ anc (before ops.toList []) i) {Q : Exit → Act → World → Prop} : ∀ (n k : Nat) (fuel : Nat) (listed : Array Bool) (a : Act) (w : World), k + n = ops.size → m ≤ k → listed.size = ops.size →
    (∀ i, i < ops.size → (listed[i]? = some true ↔ i < k)) → n ≤ fuel → wpOpsIn (fenceR rd) 0 P ops Q (List.range' k n) a w → wpAnyIn (fenceR rd) 0 P .any ops Q fuel listed a w := by
  have hclosed : ∀ (k : Nat) (listed : Array Bool), listed.size = ops.size → k ≤ ops.size → (∀ i, i < ops.size → (listed[i]? = some true ↔ i < k)) → ∀ (i : Nat) (p : Oper), ops[i]? = some p → listed[i]? = some true → ∀ d ∈ depsOf p, listed[d]? = some true := by
    intro k listed hs hks hl i p hp hi d hdm
    have hil : i < ops.size := by
      rcases Nat.lt_or_ge i ops.size with h | h
      · exact h
      · simp [Array.getElem?_eq_none h] at hp
    have := (hl i hil).1 hi
    have hlt := (baseOk_spec hb hp).1 d hdm
    exact (hl d (by omega)).2 (by omega)
  intro n
  induction n with
  | zero =>
    intro k fuel listed a w hkn hm hs hl hf hw
    have hr : Region.ready .any ops listed = [] := by
      cases hrr : Region.ready .any ops listed with
      | nil => rfl
      | cons i rest =>
        exfalso
        obtain ⟨p, hp, hi, hli, -⟩ := ready_spec (show i ∈ Region.ready .any ops listed by rw [hrr]; exact List.mem_cons_self)
        have := (hl i hi).2 (by omega)
        rw [Array.getD_eq_getD_getElem?, this] at hli; cases hli
    cases fuel with
    | zero => exact ⟨hr, hw⟩
    | succ f => exact ⟨fun _ => hw, fun i hi => by rw [hr] at hi; cases hi⟩
  | succ n ih =>
    intro k fuel listed a w hkn hm hs hl hf hw
    obtain ⟨f, rfl⟩ : ∃ f, fuel = f + 1 := ⟨fuel - 1, by omega⟩
    have hk : k < ops.size := by omega
    have hp : ops[k]? = some ops[k] := by simp
    have hlk : listed.getD k true = false := by
      have hlt : k < listed.size := by omega
      have : ¬ (listed[k]? = some true) := fun h => by have := (hl k hk).1 h; omega
      rw [Array.getElem?_eq_getElem hlt] at this
      rw [Array.getD_eq_getD_getElem?, Array.getElem?_eq_getElem hlt]
      simpa using this
    have hrk : k ∈ Region.ready .any ops listed := ready_mk hp hlk fun d hdm => by
      have hlt := (baseOk_spec hb hp).1 d hdm
      exact (hl d (by omega)).2 hlt
    refine ⟨fun hr => absurd hrk (by rw [hr]; exact List.not_mem_nil), fun i hi => ?_⟩
    obtain ⟨p, hpi, hil, hli, hdep⟩ := ready_spec hi
    have hik : i = k := by
      have hnot : ¬ i < k := fun h => by
        have := (hl i hil).2 h
        rw [Array.getD_eq_getD_getElem?, this] at hli; cases hli
      rcases Nat.lt_or_ge k i with h | h
      · exfalso
        have hka := htail i p hpi (by omega) k h
        have := anc_listed (D := fun j => listed[j]? = some true) (hclosed k listed hs (by omega) hl) i p hpi hdep k hka
        have := (hl k hk).1 this
        omega
      · omega
    subst hik
    rw [List.range'_succ, wpOpsIn_cons] at hw
    refine wpOpIn_mono (fun a' w' h' => ih (i + 1) f _ a' w' (by omega) (by omega) (by simp [hs]) (fun j hj => ?_) (by omega) h') hw
    rw [Array.getElem?_setIfInBounds]
    by_cases hji : i = j
    · subst hji; simp [hs, hil]
    · rw [if_neg hji, hl j hj]; omega
theorem firstStore_not : ∀ (l : List Oper) (i : Nat) (p : Oper), i < firstStore l → l[i]? = some p → isStore p.op = false
  | [], i, p, h, _ => by cases h
  | o :: l, i, p, h, hp => by
    unfold firstStore at h
    split at h
    · cases h
    · rename_i hs
      cases i with
      | zero => simp at hp; subst hp; exact hs
      | succ i => exact firstStore_not l i p (by omega) (by simpa using hp)
theorem firstStore_is : ∀ (l : List Oper) (p : Oper), l[firstStore l]? = some p → isStore p.op = true
  | [], p, hp => by simp at hp
  | o :: l, p, hp => by
    unfold firstStore at hp
    split at hp
    · rename_i hs; simp at hp; subst hp; exact hs
    · exact firstStore_is l p (by simpa using hp)
/-- Quiet operations in any order, once the rest of what comes first is done. -/
theorem quiet_any {P : Program} (hb : baseOk ops = true) {Q : Exit → Act → World → Prop} {f : Act} {w : World} {m : Nat} (hm : m ≤ ops.size) (htail : ∀ (i : Nat) (p : Oper), ops[i]? = some p → m ≤ i → ∀ j, j < i → j ∈ anc (before ops.toList []) i)
    (hf : ∀ (fuel : Nat) (listed : Array Bool), listed.size = ops.size → (∀ i, i < ops.size → (listed[i]? = some true ↔ i < m)) → ops.size - m ≤ fuel → wpAnyIn (fenceR rd) 0 P .any ops Q fuel listed f w) :
    ∀ (fuel : Nat) (M : List Nat) (listed : Array Bool) (a : Act), listed.size = ops.size →
    (∀ i, i < ops.size → (listed[i]? = some true ↔ (i < m ∧ i ∉ M))) → (∀ i ∈ M, i < m) → M.Pairwise (· < ·) → M.length + (ops.size - m) ≤ fuel → (∀ i ∈ M, ∀ p, ops[i]? = some p → quietOp p.op = true ∧ p.guard = none) →
    (∀ (i : Nat) (p : Oper), ops[i]? = some p → listed[i]? = some true → ∀ d ∈ depsOf p, listed[d]? = some true) → runQ ops M a = some f → wpAnyIn (fenceR rd) 0 P .any ops Q fuel listed a w := by
  intro fuel
  induction fuel with
  | zero =>
    intro M listed a hs hl hM hpw hle hq hcl hr
    have hnil : M = [] := List.length_eq_zero_iff.1 (by omega)
    subst hnil
    cases hr
    exact hf 0 listed hs (fun i hi => by rw [hl i hi]; simp) (by omega)
  | succ fuel ih =>
    intro M listed a hs hl hM hpw hle hq hcl hr
    by_cases hne : M = []
    · subst hne
      cases hr
      exact hf _ listed hs (fun i hi => by rw [hl i hi]; simp) (by simpa using hle)
    obtain ⟨i0, hi0⟩ := List.exists_mem_of_ne_nil M hne
    have h0 : ¬ (listed[i0]? = some true) := fun e => ((hl i0 (by have := hM i0 hi0; omega)).1 e).2 hi0
    refine ⟨fun hrd => absurd (ready_nil hb hs hrd i0 (by have := hM i0 hi0; omega)) h0, fun i hi => ?_⟩
    obtain ⟨p, hp, hil, hli, hdep⟩ := ready_spec hi
    have hnl : ¬ (listed[i]? = some true) := fun e => by rw [Array.getD_eq_getD_getElem?, e] at hli; cases hli
    have hik : i < m := by
      rcases Nat.lt_or_ge i m with h | h
      · exact h
      · exact absurd (anc_listed (D := fun j => listed[j]? = some true) hcl i p hp hdep i0 (htail i p hp (by omega) i0 (by have := hM i0 hi0; omega))) h0
    have hiM : i ∈ M := Classical.byContradiction fun h => hnl ((hl i hil).2 ⟨hik, h⟩)
    obtain ⟨pre, post, rfl⟩ := List.append_of_mem hiM
    have hpre : ∀ j ∈ pre, j < i := fun j hj => (List.pairwise_append.1 hpw).2.2 j hj i List.mem_cons_self
    have hapart : ∀ j ∈ pre, (∀ (p' q : Oper) (d : Tmp), ops[i]? = some p' → ops[j]? = some q → q.dst = some d → d ∉ p'.looksAt ops ∧ p'.dst ≠ some d) ∧ (∀ (p' q : Oper) (d : Tmp), ops[i]? = some p' → ops[j]? = some q → p'.dst = some d → d ∉ q.looksAt ops) := by
      intro j hj
      have hji := hpre j hj
      have hjM : j ∈ pre ++ i :: post := List.mem_append_left _ hj
      have na : ∀ p', ops[i]? = some p' → j ∉ anc (before ops.toList []) i := fun p' hp' hk => by
        rw [hp] at hp'; cases hp'
        have := anc_listed (D := fun j => listed[j]? = some true) hcl i p hp hdep j hk
        exact ((hl j (by have := hM j hjM; omega)).1 this).2 hjM
      have nb : ∀ q, ops[j]? = some q → i ∉ anc (before ops.toList []) j := fun q hq' hk => by
        have := (anc_spec hq' hk).1; omega
      refine ⟨fun p' q d hp' hq' hd' => ⟨fun hlook => ?_, ((baseOk_spec hb hp').2.2.1 j q d hq' hd').2 (by omega)⟩, fun p' q d hp' hq' hd' hlook => ?_⟩
      · rcases ((baseOk_spec hb hp').2.2.1 j q d hq' hd').1 hlook with h | h
        · exact na p' hp' h
        · exact nb q hq' h
      · rcases ((baseOk_spec hb hq').2.2.1 i p' d hp' hd').1 hlook with h | h
        · exact nb q hq' h
        · exact na p' hp' h
    obtain ⟨p2, v, hp2, hv, hr2⟩ := runQ_cons (frontQ hapart hr)
    rw [hp] at hp2; cases hp2
    obtain ⟨q1, q2⟩ := hq i hiM p hp
    have hset : ∀ j, (listed.setIfInBounds i true)[j]? = some true ↔ (listed[j]? = some true ∨ j = i) := by
      intro j
      rw [Array.getElem?_setIfInBounds]
      by_cases hji : i = j
      · subst hji; simp [hs, hil]
      · rw [if_neg hji]; simp [Ne.symm hji]
    have hnotin : i ∉ pre ++ post := by
      intro h
      have hp1 := (List.pairwise_append.1 hpw)
      rcases List.mem_append.1 h with h | h
      · have := hpre i h; omega
      · have := (List.pairwise_cons.1 hp1.2.1).1 i h; omega
    unfold wpOpIn
    have hw : Region.wanted p (yielded ops a.tmps) = true := by unfold Region.wanted; rw [q2]
    simp only [hp, hw, if_true]
    refine quiet_mk q1 hv (ih (pre ++ post) _ _ (by simp [hs]) (fun j hj => ?_) (fun j hj => hM j ?_) ?_ (by simp at hle ⊢; omega) (fun j hj => hq j ?_) (fun j q hq' hj d hd' => ?_) hr2)
    · rw [hset, hl j hj]
      constructor
      · rintro (⟨h1, h⟩ | rfl)
        · exact ⟨h1, fun h' => h (by rcases List.mem_append.1 h' with h' | h'; exact List.mem_append_left _ h'; exact List.mem_append_right _ (List.mem_cons_of_mem _ h'))⟩
        · exact ⟨hik, hnotin⟩
      · rintro ⟨h1, h⟩
        by_cases hji : j = i
        · exact .inr hji
        · refine .inl ⟨h1, fun h' => h ?_⟩
          rcases List.mem_append.1 h' with h' | h'
          · exact List.mem_append_left _ h'
          · rcases List.mem_cons.1 h' with h' | h'
            · exact absurd h' hji
            · exact List.mem_append_right _ h'
    · rcases List.mem_append.1 hj with h' | h'
      · exact List.mem_append_left _ h'
      · exact List.mem_append_right _ (List.mem_cons_of_mem _ h')
    · exact hpw.sublist (List.Sublist.append (List.Sublist.refl _) (List.sublist_cons_self _ _))
    · rcases List.mem_append.1 hj with h' | h'
      · exact List.mem_append_left _ h'
      · exact List.mem_append_right _ (List.mem_cons_of_mem _ h')
    · rw [hset]
      rcases (hset j).1 hj with h | rfl
      · exact .inl (hcl j q hq' h d hd')
      · rw [hp] at hq'; cases hq'; exact .inl (hdep d hd')
/-- Quiet operations one after another, as they were reckoned. -/
theorem serial_inv (hc : Chain C w0 ops base h0 tm0 L) (hlen : L.length ≤ ops.size) (hb : baseOk ops = true) (hs0 : ∀ n b, hget h0 n = some b → n < base ∧ AV.okL base b.cells = true) (ht0 : AV.okL base tm0 = true) {w : World} :
    ∀ (M : List Nat) (D : Nat → Prop) (ρ : Env) (a : Act), Inv w0 ops base h0 tm0 L ρ0 ws ds D ρ a w → (∀ i ∈ M, i < L.length ∧ ¬ D i) → M.Pairwise (· < ·) → (∀ i ∈ M, ∀ p, ops[i]? = some p → quietOp p.op = true ∧ p.guard = none ∧ isStore p.op = false ∧ ∀ d ∈ depsOf p, D d ∨ d ∈ M) →
      ∃ (f : Act) (ρ' : Env), runQ ops M a = some f ∧ Inv w0 ops base h0 tm0 L ρ0 ws ds (fun i => D i ∨ i ∈ M) ρ' f w
  | [], D, ρ, a, hI, _, _, _ => ⟨a, ρ, rfl, by simpa using hI⟩
  | i :: M, D, ρ, a, hI, hM, hpw, hq => by
    obtain ⟨hiL, hDi⟩ := hM i List.mem_cons_self
    have hp : ops[i]? = some ops[i] := by simp
    obtain ⟨q1, q2, q3, q4⟩ := hq i List.mem_cons_self _ hp
    have hlt := (List.pairwise_cons.1 hpw).1
    have hdep : ∀ d ∈ depsOf ops[i], D d := fun d hdm => by
      have hdi := (baseOk_spec hb hp).1 d hdm
      rcases q4 d hdm with h | h
      · exact h
      · rcases List.mem_cons.1 h with h | h
        · omega
        · have := hlt d h; omega
    have hit : L[i]? = some L[i] := List.getElem?_eq_getElem hiL
    obtain ⟨-, -, -, -, hf⟩ := hc.item i _ _ hit hp
    have hg := guard_stands hc hlen hb hI hp hit hdep hDi
    have hw : ∀ tmps, Region.wanted ops[i] (yielded ops tmps) = true := fun tmps => by unfold Region.wanted; rw [q2]
    rcases hf with ⟨f1, -⟩ | ⟨f1, f2, f3, f4, s, o, g1, g2, g3, g4, g5, g6, g7, g8⟩ | ⟨f1, -⟩
    · have := f1 ρ a.tmps hg; rw [hw] at this; cases this
    · obtain ⟨v, k1, k2, k3, k4, k5⟩ := g8
      rw [g4] at k1
      cases k1
      obtain ⟨ρi, hdi, hRep, hstep⟩ := inv_on hc hlen hb hs0 ht0 hI hp hit hdep hDi g2 g3 g5 g6 g7
      have hwp := k5 none ρi a w (fun a' w' => ∃ ρ', Inv w0 ops base h0 tm0 L ρ0 ws ds (fun j => D j ∨ j = i) ρ' a' w' ∧ True) (fun _ _ _ => False) (fun x hx => by rw [g1, hdi]; exact operand_stands hc hlen hb hI hp hit hdep hDi x hx) hRep hI.below fun ρ' w' hr' hp' => by
        obtain ⟨ρ2, h2⟩ := hstep ρ' w' hr' hp'
        exact ⟨ρ2, h2, trivial⟩
      obtain ⟨u, hu, ρ', hI', -⟩ := quiet_wp q1 hwp
      obtain ⟨f, ρ2, hr, hI2⟩ := serial_inv hc hlen hb hs0 ht0 M _ ρ' _ hI' (fun j hj => ⟨(hM j (List.mem_cons_of_mem _ hj)).1, fun h => by
        rcases h with h | h
        · exact (hM j (List.mem_cons_of_mem _ hj)).2 h
        · have := hlt j hj; omega⟩) (List.pairwise_cons.1 hpw).2 (fun j hj p hp' => by
          obtain ⟨r1, r2, r3, r4⟩ := hq j (List.mem_cons_of_mem _ hj) p hp'
          refine ⟨r1, r2, r3, fun d hdm => ?_⟩
          rcases r4 d hdm with h | h
          · exact .inl (.inl h)
          · rcases List.mem_cons.1 h with h | h
            · exact .inl (.inr h)
            · exact .inr h)
      refine ⟨f, ρ2, by rw [runQ_mk hp hu]; exact hr, ?_⟩
      have : (fun j => D j ∨ j ∈ i :: M) = (fun j => (D j ∨ j = i) ∨ j ∈ M) := funext fun j => propext ⟨fun h => by
        rcases h with h | h
        · exact .inl (.inl h)
        · rcases List.mem_cons.1 h with h | h
          · exact .inl (.inr h)
          · exact .inr h, fun h => by
        rcases h with (h | h) | h
        · exact .inl h
        · exact .inr (by rw [h]; exact List.mem_cons_self)
        · exact .inr (List.mem_cons_of_mem _ h)⟩
      rw [this]; exact hI2
    · rw [q3] at f1; cases f1
theorem any_order (hc : Chain C w0 ops base h0 tm0 L) (hlen : L.length ≤ ops.size) (hd : drawOk ops = true) (hser : ∀ (i : Nat) (p : Oper), ops[i]? = some p → L.length ≤ i → ∀ j, j < i → j ∈ anc (before ops.toList []) i) (hns : ∀ i p, i < L.length → ops[i]? = some p → isStore p.op = false) (hs0 : ∀ n b, hget h0 n = some b → n < base ∧ AV.okL base b.cells = true) (ht0 : AV.okL base tm0 = true)
    {Q : Exit → Act → World → Prop} (hQ : ∀ D ρ a w, (∀ i, i < ops.size → (D i ↔ i < L.length)) → Inv w0 ops base h0 tm0 L ρ0 ws ds D ρ a w → wpOpsIn (fenceR rd) 0 C.P ops Q (List.range' L.length (ops.size - L.length)) a w) :
    ∀ (fuel : Nat) (listed : Array Bool) (ρ : Env) (a : Act) (w : World), listed.size = ops.size → (leftOver ops listed).length ≤ fuel → (∀ i, L.length ≤ i → listed[i]? ≠ some true) → Inv w0 ops base h0 tm0 L ρ0 ws ds (fun i => listed[i]? = some true) ρ a w →
      wpAnyIn (fenceR rd) 0 C.P .any ops Q fuel listed a w := by
  have hfin : ∀ (fuel : Nat) (listed : Array Bool) (ρ : Env) (a : Act) (w : World), listed.size = ops.size → (leftOver ops listed).length ≤ fuel → (∀ i, L.length ≤ i → listed[i]? ≠ some true) → Inv w0 ops base h0 tm0 L ρ0 ws ds (fun i => listed[i]? = some true) ρ a w →
      (∀ i, i < L.length → listed[i]? = some true) → wpAnyIn (fenceR rd) 0 C.P .any ops Q fuel listed a w := by
    intro fuel listed ρ a w hs hle hno hI hall
    have hl : ∀ i, i < ops.size → (listed[i]? = some true ↔ i < L.length) := fun i _ => ⟨fun h => by
      rcases Nat.lt_or_ge i L.length with h1 | h1
      · exact h1
      · exact absurd h (hno i h1), fun h => hall i h⟩
    refine tail_serial (drawOk_base hd) (m := L.length) (fun i p hp hi => hser i p hp hi) (ops.size - L.length) L.length fuel listed a w (by omega) (Nat.le_refl _) hs hl (Nat.le_trans (leftOver_ge hs hlen hl) hle) ?_
    exact hQ _ ρ a w hl hI
  intro fuel
  induction fuel with
  | zero =>
    intro listed ρ a w hs hle hno hI
    refine hfin 0 listed ρ a w hs hle hno hI fun i hi => ?_
    have hr : Region.ready .any ops listed = [] := by
      cases hrr : Region.ready .any ops listed with
      | nil => rfl
      | cons i rest =>
        exfalso
        obtain ⟨p, hp, hi, hl, -⟩ := ready_spec (show i ∈ Region.ready .any ops listed by rw [hrr]; exact List.mem_cons_self)
        have : i ∈ leftOver ops listed := List.mem_filter.2 ⟨List.mem_range.2 hi, by rw [hl]; rfl⟩
        have := List.length_pos_of_mem this
        omega
    exact ready_nil (drawOk_base hd) hs hr i (by omega)
  | succ fuel ih =>
    intro listed ρ a w hs hle hno hI
    by_cases hall : ∀ i, i < L.length → listed[i]? = some true
    · exact hfin _ listed ρ a w hs hle hno hI hall
    refine ⟨fun hr => absurd (fun i hi => ready_nil (drawOk_base hd) hs hr i (by omega)) hall, fun i hi => ?_⟩
    obtain ⟨p, hp, hil, hl, hdep⟩ := ready_spec hi
    have hiL : i < L.length := by
      rcases Nat.lt_or_ge i L.length with h | h
      · exact h
      · exfalso
        refine hall fun j hj => ?_
        have hka := hser i p hp (by omega) j (by omega)
        exact anc_listed (D := fun j => listed[j]? = some true) hI.closed i p hp hdep j hka
    have hit : L[i]? = some L[i] := List.getElem?_eq_getElem hiL
    have hset : ∀ j, (listed.setIfInBounds i true)[j]? = some true ↔ (listed[j]? = some true ∨ j = i) := by
      intro j
      rw [Array.getElem?_setIfInBounds]
      by_cases hji : i = j
      · subst hji; simp [hs, hil]
      · rw [if_neg hji]; simp [Ne.symm hji]
    have hDi : ¬ (listed[i]? = some true) := by
      intro e; rw [Array.getD_eq_getD_getElem?, e] at hl; cases hl
    have hnext : ∀ ρ' a' w', Inv w0 ops base h0 tm0 L ρ0 ws ds (fun j => listed[j]? = some true ∨ j = i) ρ' a' w' → wpAnyIn (fenceR rd) 0 C.P .any ops Q fuel (listed.setIfInBounds i true) a' w' := by
      intro ρ' a' w' hI'
      refine ih _ ρ' a' w' (by simp [hs]) (by have := leftOver_lt hil hl hs; omega) (fun j hj e => ?_) ?_
      · rcases (hset j).1 e with h | h
        · exact hno j hj h
        · omega
      · have : (fun j => (listed.setIfInBounds i true)[j]? = some true) = (fun j => listed[j]? = some true ∨ j = i) := funext fun j => propext (hset j)
        rw [this]; exact hI'
    obtain ⟨-, -, -, -, hf⟩ := hc.item i _ p hit hp
    have hg := guard_stands hc hlen (drawOk_base hd) hI hp hit hdep hDi
    unfold wpOpIn
    simp only [hp]
    rcases hf with ⟨f1, f2, f3, f4, f5⟩ | ⟨f1, f2, f3, f4, s, o, g1, g2, g3, g4, g5, g6, g7, g8⟩ | ⟨f1, -⟩
    rotate_left 2
    · rw [hns i p hiL hp] at f1; cases f1
    · rw [f1 ρ a.tmps hg]
      simp only [Bool.false_eq_true, if_false]
      exact ⟨fun _ _ => trivial, hnext ρ _ w (inv_off (drawOk_base hd) hI hp hit hdep hDi f2 f3)⟩
    · rw [f1 ρ a.tmps hg]
      simp only [if_true]
      obtain ⟨v, k1, k2, k3, k4, k5⟩ := g8
      rw [g4] at k1
      cases k1
      obtain ⟨ρi, hdi, hRep, hstep⟩ := inv_on hc hlen (drawOk_base hd) hs0 ht0 hI hp hit hdep hDi g2 g3 g5 g6 g7
      refine k5 rd ρi a w _ Q (fun x hx => by rw [g1, hdi]; exact operand_stands hc hlen (drawOk_base hd) hI hp hit hdep hDi x hx) hRep hI.below fun ρ' w' hr' hp' => ?_
      obtain ⟨ρ2, h2⟩ := hstep ρ' w' hr' hp'
      exact hnext ρ2 _ w' h2
theorem lateOk_spec (h : lateOk ops = true) : baseOk ops = true ∧ firstStore ops.toList < ops.size ∧ (∀ (i : Nat) (p : Oper), ops[i]? = some p →
    (i < firstStore ops.toList → i ∈ anc (before ops.toList []) (firstStore ops.toList) ∨ (quietOp p.op = true ∧ p.guard = none)) ∧ (i = firstStore ops.toList → p.guard = none ∧ p.dst = none)) ∧
    ((∀ (i : Nat) (p : Oper), ops[i]? = some p → firstStore ops.toList < i → ∀ j, j < i → j ∈ anc (before ops.toList []) i) ∨ ∀ (i : Nat) (p : Oper), ops[i]? = some p → firstStore ops.toList < i → quietOp p.op = true ∧ p.guard = none ∧ firstStore ops.toList ∈ anc (before ops.toList []) i) := by
  have hbare : ∀ p : Oper, bare p = true → p.guard = none := fun p h => by
    unfold bare at h; split at h
    · assumption
    · cases h
  have hsz : ∀ (i : Nat) (p : Oper), ops[i]? = some p → i < ops.size := fun i p hp => by
    rcases Nat.lt_or_ge i ops.size with h | h
    · exact h
    · simp [Array.getElem?_eq_none h] at hp
  have hany : ∀ (i k : Nat), ((before ops.toList []).getD i []).any (Nat.beq k) = true → k ∈ anc (before ops.toList []) i := fun i k h => by
    simp only [List.any_eq_true] at h
    obtain ⟨l, hl, hb⟩ := h
    have := Nat.eq_of_beq_eq_true hb
    subst this
    exact hl
  unfold lateOk at h
  simp only [Bool.and_eq_true, Bool.or_eq_true, List.all_eq_true, List.mem_range] at h
  obtain ⟨⟨⟨h1, h2⟩, h3⟩, h4⟩ := h
  refine ⟨h1, blt_lt h2, fun i p hp => ?_, ?_⟩
  · have hi := hsz i p hp
    have h3 := h3 i hi
    rw [hp] at h3
    simp only at h3
    split at h3
    · rename_i e
      have e := blt_lt e
      simp only [Bool.or_eq_true, Bool.and_eq_true] at h3
      refine ⟨fun _ => ?_, fun h => by omega⟩
      rcases h3 with h6 | h6
      · exact .inl (hany _ _ h6)
      · exact .inr ⟨h6.1, hbare p h6.2⟩
    · rename_i e
      have e : ¬ i < firstStore ops.toList := fun h => by
        have : Nat.blt i (firstStore ops.toList) = true := by simpa [Nat.blt_eq] using h
        rw [this] at e; cases e
      split at h3
      · simp only [Bool.and_eq_true] at h3
        refine ⟨fun h => absurd h e, fun _ => ⟨hbare p h3.1, ?_⟩⟩
        have h4 := h3.2
        split at h4
        · assumption
        · cases h4
      · rename_i e2
        exact ⟨fun h => absurd h e, fun h => by rw [h] at e2; simp at e2⟩
  · rcases h4 with h4 | h4
    · refine .inl fun i p hp hki => ?_
      rcases h4 i (hsz i p hp) with h5 | h5
      · have := ble_le h5; omega
      · exact anc_full hp (Nat.eq_of_beq_eq_true h5)
    · refine .inr fun i p hp hki => ?_
      rcases h4 i (hsz i p hp) with h5 | h5
      · have := ble_le h5; omega
      · rw [hp] at h5
        simp only [Bool.and_eq_true] at h5
        exact ⟨h5.1.1, hbare p h5.1.2, hany _ _ h5.2⟩
/-- Quiet operations that come last, in their order. -/
theorem quiet_tail {P : Program} {Q : Exit → Act → World → Prop} {w : World} : ∀ (n s : Nat) (f : Act), s + n ≤ ops.size → (∀ (i : Nat) (p : Oper), ops[i]? = some p → s ≤ i → quietOp p.op = true ∧ p.guard = none) →
    wpOpsIn (fenceR rd) 0 P ops Q (List.range' s n) f w → ∃ g, runQ ops (List.range' s n) f = some g ∧ wpOpsIn (fenceR rd) 0 P ops Q [] g w := by
  intro n
  induction n with
  | zero => intro s f _ _ h; exact ⟨f, rfl, h⟩
  | succ n ih =>
    intro s f hs hq h
    have hp : ops[s]? = some ops[s] := by simp
    obtain ⟨q1, q2⟩ := hq s _ hp (Nat.le_refl _)
    rw [List.range'_succ, wpOpsIn_cons] at h
    unfold wpOpIn at h
    have hw : Region.wanted ops[s] (yielded ops f.tmps) = true := by unfold Region.wanted; rw [q2]
    simp only [hp, hw, if_true] at h
    obtain ⟨v, hv, hk⟩ := quiet_wp q1 h
    obtain ⟨g, hg, hr⟩ := ih (s + 1) _ (by omega) (fun i p hpi hi => hq i p hpi (by omega)) hk
    exact ⟨g, by rw [List.range'_succ, runQ_mk hp hv]; exact hg, hr⟩
theorem wpOps_store {P : Program} {Q : Exit → Act → World → Prop} (hQ : ∀ x a w, Q x a w → x = .normal) {k n : Nat} {p : Oper} (hp : ops[k]? = some p) (hs : isStore p.op = true) (hg : p.guard = none) (hd : p.dst = none) {a : Act} {w : World}
    (h : wpOpsIn (fenceR rd) 0 P ops Q (List.range' k (n + 1)) a w) : ∃ w', (execOp a.eval p).run P w = .ok .skip w' ∧ wpOpsIn (fenceR rd) 0 P ops Q (List.range' (k + 1) n) a w' := by
  rw [List.range'_succ, wpOpsIn_cons] at h
  unfold wpOpIn at h
  have hw : Region.wanted p (yielded ops a.tmps) = true := by unfold Region.wanted; rw [hg]
  simp only [hp, hw, if_true] at h
  have hdf : isDefer p.op = false := by revert hs; cases p.op <;> simp [isStore, isDefer]
  replace h := wpIn_inv hdf h
  obtain ⟨dst, op, type, pos, after, guard⟩ := p
  cases op <;> simp only [isStore] at hs <;> try (cases hs; done)
  rename_i t x y
  simp only at hd
  subst hd
  simp only [execOp, Sem.run_bind] at h ⊢
  cases hr : (Instr.storeAt t (a.eval x) (a.eval y)).run P w with
  | ok u w' =>
    rw [hr] at h
    simp only [Result.andThen_ok, Sem.run_pure, Oper.uponIn] at h ⊢
    exact ⟨_, rfl, h⟩
  | halt z w' =>
    rw [hr] at h
    cases z <;> simp [Result.andThen, Oper.uponIn] at h
    have := hQ _ _ _ h; cases this
/-- A region in any order, its first store before or behind what is quiet. -/
theorem late_order (hc : Chain C w0 ops base h0 tm0 L) (hd : lateOk ops = true) (hlen : L.length = firstStore ops.toList) (hs0 : ∀ n b, hget h0 n = some b → n < base ∧ AV.okL base b.cells = true) (ht0 : AV.okL base tm0 = true)
    {Q : Exit → Act → World → Prop} (hQn : ∀ x a w, Q x a w → x = .normal) (hQ : ∀ D ρ a w, (∀ i, i < ops.size → (D i ↔ i < L.length)) → Inv w0 ops base h0 tm0 L ρ0 ws ds D ρ a w → wpOpsIn (fenceR rd) 0 C.P ops Q (List.range' L.length (ops.size - L.length)) a w) :
    ∀ (fuel : Nat) (listed : Array Bool) (ρ : Env) (a : Act) (w : World), listed.size = ops.size → (leftOver ops listed).length ≤ fuel → (∀ i, L.length ≤ i → listed[i]? ≠ some true) → Inv w0 ops base h0 tm0 L ρ0 ws ds (fun i => listed[i]? = some true) ρ a w →
      wpAnyIn (fenceR rd) 0 C.P .any ops Q fuel listed a w := by
  obtain ⟨hb, hk, hspec, htl⟩ := lateOk_spec hd
  have hst : ∀ p, ops[firstStore ops.toList]? = some p → isStore p.op = true := fun p hp => firstStore_is ops.toList p (by simpa using hp)
  have hns : ∀ i p, i < firstStore ops.toList → ops[i]? = some p → isStore p.op = false := fun i p hi hp => firstStore_not ops.toList i p hi (by simpa using hp)
  rw [hlen] at hQ ⊢
  generalize firstStore ops.toList = k at *
  have hlen' : L.length ≤ ops.size := by omega
  have hleft : ∀ listed : Array Bool, listed.size = ops.size → listed[k]? ≠ some true → listed.getD k true = false := fun listed hs hno => by
    have hlt : k < listed.size := by omega
    rw [Array.getElem?_eq_getElem hlt] at hno
    rw [Array.getD_eq_getD_getElem?, Array.getElem?_eq_getElem hlt]
    simpa using hno
  intro fuel
  induction fuel with
  | zero =>
    intro listed ρ a w hs hle hno hI
    exfalso
    have : k ∈ leftOver ops listed := List.mem_filter.2 ⟨List.mem_range.2 hk, by rw [hleft listed hs (hno k (Nat.le_refl _))]; rfl⟩
    have := List.length_pos_of_mem this
    omega
  | succ fuel ih =>
    intro listed ρ a w hs hle hno hI
    refine ⟨fun hr => absurd (ready_nil hb hs hr k hk) (hno k (Nat.le_refl _)), fun i hi => ?_⟩
    obtain ⟨p, hp, hil, hl, hdep⟩ := ready_spec hi
    have hset : ∀ j, (listed.setIfInBounds i true)[j]? = some true ↔ (listed[j]? = some true ∨ j = i) := by
      intro j
      rw [Array.getElem?_setIfInBounds]
      by_cases hji : i = j
      · subst hji; simp [hs, hil]
      · rw [if_neg hji]; simp [Ne.symm hji]
    have hDi : ¬ (listed[i]? = some true) := by
      intro e; rw [Array.getD_eq_getD_getElem?, e] at hl; cases hl
    have hlt := leftOver_lt hil hl hs
    rcases Nat.lt_trichotomy i k with hik | hik | hik
    rotate_left
    · subst hik
      obtain ⟨g1, g2⟩ := (hspec i p hp).2 rfl
      let M := (List.range i).filter fun j => !listed.getD j true
      have hM : ∀ j, j ∈ M ↔ (j < i ∧ ¬ (listed[j]? = some true)) := by
        intro j
        show j ∈ (List.range i).filter _ ↔ _
        rw [List.mem_filter, List.mem_range]
        constructor
        · rintro ⟨h1, h2⟩
          exact ⟨h1, fun e => by rw [Array.getD_eq_getD_getElem?, e] at h2; simp at h2⟩
        · rintro ⟨h1, h2⟩
          refine ⟨h1, ?_⟩
          have hlt : j < listed.size := by omega
          rw [Array.getElem?_eq_getElem hlt] at h2
          rw [Array.getD_eq_getD_getElem?, Array.getElem?_eq_getElem hlt]
          simpa using h2
      have hpw : M.Pairwise (· < ·) := List.Pairwise.filter _ List.pairwise_lt_range
      have hanc : ∀ j, j ∈ anc (before ops.toList []) i → listed[j]? = some true := fun j hj => anc_listed (D := fun j => listed[j]? = some true) hI.closed i p hp hdep j hj
      have hq : ∀ j ∈ M, ∀ q, ops[j]? = some q → quietOp q.op = true ∧ q.guard = none ∧ isStore q.op = false ∧ ∀ d ∈ depsOf q, listed[d]? = some true ∨ d ∈ M := by
        intro j hj q hqj
        obtain ⟨m1, m2⟩ := (hM j).1 hj
        have s4 : quietOp q.op = true ∧ q.guard = none := by
          rcases (hspec j q hqj).1 m1 with h | h
          · exact absurd (hanc j h) m2
          · exact h
        refine ⟨s4.1, s4.2, hns j q m1 hqj, fun d hdm => ?_⟩
        by_cases hld : listed[d]? = some true
        · exact .inl hld
        · refine .inr ((hM d).2 ⟨?_, hld⟩)
          have := (baseOk_spec hb hqj).1 d hdm
          omega
      obtain ⟨f, ρ', hrun, hI'⟩ := serial_inv hc hlen' hb hs0 ht0 _ _ ρ a hI (fun j hj => ⟨by rw [hlen]; exact ((hM j).1 hj).1, ((hM j).1 hj).2⟩) hpw hq
      have hops := hQ _ ρ' f w (fun j hj => ⟨fun h => by
        rcases h with h | h
        · rcases Nat.lt_or_ge j i with h1 | h1
          · exact h1
          · exact absurd h (hno j h1)
        · exact ((hM j).1 h).1, fun h => by
        by_cases hlj : listed[j]? = some true
        · exact .inl hlj
        · exact .inr ((hM j).2 ⟨h, hlj⟩)⟩) hI'
      rw [show ops.size - i = (ops.size - (i + 1)) + 1 by omega] at hops
      obtain ⟨w', hx, hrest⟩ := wpOps_store hQn hp (hst p hp) g1 g2 hops
      unfold wpOpIn
      have hw : Region.wanted p (yielded ops a.tmps) = true := by unfold Region.wanted; rw [g1]
      simp only [hp, hw, if_true]
      refine store_mk (hst p hp) (fun x hxm => ?_) hx ?_
      · refine (runQ_keep (fun j hj q t hqj hxt hdt => ?_) hrun).symm
        subst hxt
        obtain ⟨m1, m2⟩ := (hM j).1 hj
        rcases ((baseOk_spec hb hp).2.2.1 j q t hqj hdt).1 (looks_mem hxm) with h | h
        · exact m2 (hanc j h)
        · have := (anc_spec hqj h).1; omega
      · rw [g2]
        have hsplit : (leftOver ops listed).length = M.length + (ops.size - i) := by
          show ((List.range ops.size).filter fun j => !listed.getD j true).length = _
          have e : List.range ops.size = List.range i ++ List.range' i (ops.size - i) := by
            rw [List.range_eq_range', List.range_eq_range', show ops.size = i + (ops.size - i) by omega, ← List.range'_append]
            simp
          rw [e, List.filter_append, List.length_append]
          have h2 : (List.range' i (ops.size - i)).filter (fun j => !listed.getD j true) = List.range' i (ops.size - i) := by
            refine List.filter_eq_self.2 fun j hj => ?_
            rw [List.mem_range'_1] at hj
            have hlt : j < listed.size := by omega
            have := hno j (by omega)
            rw [Array.getElem?_eq_getElem hlt] at this
            rw [Array.getD_eq_getD_getElem?, Array.getElem?_eq_getElem hlt]
            simpa using this
          rw [h2, List.length_range']
        rcases htl with hA | hB
        · refine quiet_any (f := f) (m := i + 1) hb (by omega) (fun j q hqj hij => hA j q hqj (by omega)) (fun fl ls e1 e2 e3 => tail_serial hb (fun j q hqj hij => hA j q hqj (by omega)) (ops.size - (i + 1)) (i + 1) fl ls f w' (by omega) (Nat.le_refl _) e1 e2 e3 hrest) fuel M _ a (by simp [hs]) (fun j hj => ?_) (fun j hj => by have := ((hM j).1 hj).1; omega) hpw ?_ (fun j hj q hqj => ⟨(hq j hj q hqj).1, (hq j hj q hqj).2.1⟩) (fun j q hqj hj d hdm => ?_) hrun
          · rw [hset, hM]
            constructor
            · rintro (h | h)
              · have hji : j < i := by
                  rcases Nat.lt_or_ge j i with h1 | h1
                  · exact h1
                  · exact absurd h (hno j h1)
                exact ⟨by omega, fun h' => h'.2 h⟩
              · exact ⟨by omega, fun h' => by omega⟩
            · rintro ⟨h1, h2⟩
              by_cases hji : j = i
              · exact .inr hji
              · exact .inl (Classical.byContradiction fun h3 => h2 ⟨by omega, h3⟩)
          · omega
          · rw [hset]
            left
            rcases (hset j).1 hj with h | rfl
            · exact hI.closed j q hqj h d hdm
            · rw [hp] at hqj; cases hqj; exact hdep d hdm
        · obtain ⟨g, hg, hrest2⟩ := quiet_tail (ops.size - (i + 1)) (i + 1) f (by omega) (fun j q hqj hij => ⟨(hB j q hqj (by omega)).1, (hB j q hqj (by omega)).2.1⟩) hrest
          have hin : ∀ j, j ∈ List.range' (i + 1) (ops.size - (i + 1)) ↔ (i < j ∧ j < ops.size) := fun j => by rw [List.mem_range'_1]; omega
          refine quiet_any (f := g) (m := ops.size) hb (Nat.le_refl _) (fun j q hqj hij => ?_) (fun fl ls e1 e2 e3 => tail_serial hb (m := ops.size) (fun j q hqj hij => ?_) 0 ops.size fl ls g w' (by omega) (Nat.le_refl _) e1 e2 (by omega) hrest2) fuel (M ++ List.range' (i + 1) (ops.size - (i + 1))) _ a (by simp [hs]) (fun j hj => ?_) (fun j hj => ?_) ?_ ?_ (fun j hj q hqj => ?_) (fun j q hqj hj d hdm => ?_) (runQ_append hrun hg)
          · rw [Array.getElem?_eq_none hij] at hqj; cases hqj
          · rw [Array.getElem?_eq_none hij] at hqj; cases hqj
          · rw [hset, List.mem_append, hM, hin]
            constructor
            · rintro (h | h)
              · have hji : j < i := by
                  rcases Nat.lt_or_ge j i with h1 | h1
                  · exact h1
                  · exact absurd h (hno j h1)
                exact ⟨hj, fun h' => by rcases h' with h' | h'; exact h'.2 h; omega⟩
              · exact ⟨hj, fun h' => by rcases h' with h' | h' <;> omega⟩
            · rintro ⟨h1, h2⟩
              by_cases hji : j = i
              · exact .inr hji
              · refine .inl (Classical.byContradiction fun h3 => h2 ?_)
                rcases Nat.lt_or_ge j i with h4 | h4
                · exact .inl ⟨h4, h3⟩
                · exact .inr ⟨by omega, hj⟩
          · rcases List.mem_append.1 hj with h | h
            · have := ((hM j).1 h).1; omega
            · exact ((hin j).1 h).2
          · refine List.pairwise_append.2 ⟨hpw, List.pairwise_lt_range', fun x hx y hy => ?_⟩
            have := ((hM x).1 hx).1
            have := ((hin y).1 hy).1
            omega
          · rw [List.length_append, List.length_range']; omega
          · rcases List.mem_append.1 hj with h | h
            · exact ⟨(hq j h q hqj).1, (hq j h q hqj).2.1⟩
            · exact ⟨(hB j q hqj ((hin j).1 h).1).1, (hB j q hqj ((hin j).1 h).1).2.1⟩
          · rw [hset]
            left
            rcases (hset j).1 hj with h | rfl
            · exact hI.closed j q hqj h d hdm
            · rw [hp] at hqj; cases hqj; exact hdep d hdm
    · exfalso
      exact hno k (Nat.le_refl _) (anc_listed (D := fun j => listed[j]? = some true) hI.closed i p hp hdep k (by rcases htl with hA | hB; exact hA i p hp hik k hik; exact (hB i p hp hik).2.2))
    · have s1 := hns i p hik hp
      have hit : L[i]? = some (L[i]'(by omega)) := List.getElem?_eq_getElem (by omega)
      have hnext : ∀ ρ' a' w', Inv w0 ops base h0 tm0 L ρ0 ws ds (fun j => listed[j]? = some true ∨ j = i) ρ' a' w' → wpAnyIn (fenceR rd) 0 C.P .any ops Q fuel (listed.setIfInBounds i true) a' w' := by
        intro ρ' a' w' hI'
        refine ih _ ρ' a' w' (by simp [hs]) (by omega) (fun j hj e => ?_) ?_
        · rcases (hset j).1 e with h | h
          · exact hno j hj h
          · omega
        · have : (fun j => (listed.setIfInBounds i true)[j]? = some true) = (fun j => listed[j]? = some true ∨ j = i) := funext fun j => propext (hset j)
          rw [this]; exact hI'
      obtain ⟨-, -, -, -, hf⟩ := hc.item i _ p hit hp
      have hg := guard_stands hc hlen' hb hI hp hit hdep hDi
      unfold wpOpIn
      simp only [hp]
      rcases hf with ⟨f1, f2, f3, f4, f5⟩ | ⟨f1, f2, f3, f4, s, o, g1, g2, g3, g4, g5, g6, g7, g8⟩ | ⟨f1, -⟩
      rotate_left 2
      · rw [s1] at f1; cases f1
      · rw [f1 ρ a.tmps hg]
        simp only [Bool.false_eq_true, if_false]
        exact ⟨fun _ _ => trivial, hnext ρ _ w (inv_off hb hI hp hit hdep hDi f2 f3)⟩
      · rw [f1 ρ a.tmps hg]
        simp only [if_true]
        obtain ⟨v, k1, k2, k3, k4, k5⟩ := g8
        rw [g4] at k1
        cases k1
        obtain ⟨ρi, hdi, hRep, hstep⟩ := inv_on hc hlen' hb hs0 ht0 hI hp hit hdep hDi g2 g3 g5 g6 g7
        refine k5 rd ρi a w _ Q (fun x hx => by rw [g1, hdi]; exact operand_stands hc hlen' hb hI hp hit hdep hDi x hx) hRep hI.below fun ρ' w' hr' hp' => ?_
        obtain ⟨ρ2, h2⟩ := hstep ρ' w' hr' hp'
        exact hnext ρ2 _ w' h2
end
section
variable {C : Ctx} {G : World → Prop} {w0 : World} {R : Rec}
theorem firstStore_le : ∀ ops : List Oper, firstStore ops ≤ ops.length
  | [] => Nat.le_refl _
  | o :: ops => by
    unfold firstStore
    split
    · exact Nat.zero_le _
    · have := firstStore_le ops
      simp; omega
/-- A region that draws its order, but for what comes last. -/
theorem tailFrom_spec (T : List (List Nat)) : ∀ m, tailFrom T m ≤ m ∧ ∀ i, tailFrom T m ≤ i → i < m → (T.getD i []).length = i
  | 0 => ⟨Nat.le_refl _, fun i _ h => by omega⟩
  | m + 1 => by
    unfold tailFrom
    split
    · rename_i h
      have h := Nat.eq_of_beq_eq_true h
      obtain ⟨a, b⟩ := tailFrom_spec T m
      refine ⟨by omega, fun i h1 h2 => ?_⟩
      rcases Nat.lt_or_ge i m with h3 | h3
      · exact b i h1 h3
      · have : i = m := by omega
        subst this; exact h
    · exact ⟨Nat.le_refl _, fun i h1 h2 => by omega⟩
theorem splitOf_spec {ops : Array Oper} (h : drawOk ops = true) : splitOf ops ≤ firstStore ops.toList ∧ ∀ (i : Nat) (p : Oper), ops[i]? = some p → splitOf ops ≤ i → ∀ j, j < i → j ∈ anc (before ops.toList []) i := by
  have hl : lastOk ops = true := by unfold drawOk at h; simp only [Bool.and_eq_true] at h; exact h.2
  unfold splitOf
  rw [hl]
  simp only
  split
  · obtain ⟨a, b⟩ := tailFrom_spec (before ops.toList []) (firstStore ops.toList)
    refine ⟨a, fun i p hp hi => ?_⟩
    rcases Nat.lt_or_ge i (firstStore ops.toList) with h1 | h1
    · exact anc_full hp (b i hi h1)
    · exact drawOk_last h hp h1
  · exact ⟨Nat.le_refl _, fun i p hp hi => drawOk_last h hp hi⟩
theorem region_ok (hg : Good C G) {id : Nat} {f : FuncId} {ops : Array Oper} {s : St} {o2 : Out} (hd : drawOk ops = true) (hk : StOK s)
    (h2' : goTail R f ops (splitOf ops) (R (.draw f ops (ops.toList.take (splitOf ops)) s.nxt [] []) s) = some o2) (hl : Holds C G o2.log)
    (hdraw : ∀ o, R (.draw f ops (ops.toList.take (splitOf ops)) s.nxt [] []) s = some o → Holds C G o.log → DrawOK C w0 ops (ops.toList.take (splitOf ops)) s.nxt [] [] s o)
    (htail : ∀ s o, R (.ops f ops (ops.toList.drop (splitOf ops))) s = some o → Holds C G o.log → StOK s → OpsOK C w0 ops (ops.toList.drop (splitOf ops)) s o) : CodeOK C w0 (.region id ops true) s o2 := by
  obtain ⟨hle0, hser⟩ := splitOf_spec hd
  have hfs : splitOf ops ≤ ops.size := Nat.le_trans hle0 (by simpa using firstStore_le ops.toList)
  generalize hm : splitOf ops = m at *
  unfold goTail at h2'
  split at h2'
  rotate_left
  · cases h2'
  rename_i s1 l1 c1 k1 hrun
  obtain ⟨o3, hr3, rfl⟩ := behind_eq h2'
  have h := hdraw _ hrun hl.left
  generalize ho : (⟨.normal, s1, l1, ⟨c1, k1⟩⟩ : Out) = o at h
  obtain ⟨L, h1, h2, h3, h4, h5, h6, h7, h8⟩ := h m [] s.tmps hfs rfl rfl rfl rfl rfl (Nat.le_refl _) ⟨fun i it p hi => by simp at hi, fun i it p hi => by simp at hi⟩ (Nat.zero_le _)
  have hs1 : s1 = o.st := by rw [← ho]
  have hl1 : l1 = o.low := by rw [← ho]
  subst hs1
  subst hl1
  obtain ⟨b1, b2, b3, b4⟩ := htail _ _ hr3 hl.right h7
  have hfr := h8.2
  replace h8 := h8.1
  refine ⟨by rw [b1]; rfl, b2, ⟨Nat.le_trans h8 b3.1, by rw [b3.2, hfr]⟩, fun ρ w Q hr hb he => ?_⟩
  unfold fenceOf
  have hs0 : ∀ n b, hget s.heap n = some b → n < s.nxt ∧ AV.okL s.nxt b.cells = true := hr.scope
  refine wpIn_region_any hg.mixed ?_
  have hI0 : Inv w0 ops s.nxt s.heap s.tmps L ρ w (act ρ s.res.fr s.tmps).defers (fun i => (Array.replicate ops.size false)[i]? = some true) ρ (act ρ s.res.fr s.tmps) { w with drawn := w.drawn + 1 } := by
    have hno : ∀ i, ¬ ((Array.replicate ops.size false)[i]? = some true) := fun i e => by
      rw [Array.getElem?_replicate] at e; split at e <;> simp at e
    have hth : ∀ n b, There s.heap L (fun i => (Array.replicate ops.size false)[i]? = some true) n b → hget s.heap n = some b := fun n b h => by
      rcases h with h | ⟨j, it, hj, -⟩
      · exact h
      · exact absurd hj (hno j)
    exact ⟨fun i p _ hi => absurd hi (hno i), rfl, by simp [act, denL_length], fun j it p t hj => absurd hj (hno j), fun t _ => by simp [act], fun n b hn => (hr.block n b (hth n b hn)).keep (fun k hk hf => ⟨rfl, hf.1, fun n b hn hm => hf.2 n b (hth n b hn) hm⟩) rfl rfl fun _ => rfl, fun n m b c hn hm => hr.inj n m b c (hth n b hn) (hth m c hm),
      fun n b hn => hr.above n b (hth n b hn), fun j it n b hj => absurd hj (hno j), ⟨rfl, rfl⟩, hr.base, fun n b hn => hr.reach n b (hth n b hn), fun n _ => ⟨rfl, rfl⟩, rfl, rfl, rfl, Nat.le_refl _, fun k _ => rfl, hb.drew⟩
  refine any_order (ρ0 := ρ) (ws := w) h2 (by omega) hd (fun i p hp hi => hser i p hp (by omega)) (fun i p hi hp => firstStore_not ops.toList i p (by omega) (by simpa using hp)) hs0 hk.1 ?_ ops.size _ ρ _ _ (by simp) (by unfold leftOver; exact Nat.le_trans (List.length_filter_le _ _) (by simp)) (fun i _ e => by
    rw [Array.getElem?_replicate] at e; split at e <;> simp at e) hI0
  intro D ρ' a w' hD hI
  -- all is done that may come in any order
  have hD' : ∀ i, i < m → D i := fun i hi => (hD i (by omega)).2 (by omega)
  have hDm : ∀ i p, ops[i]? = some p → D i → i < m := fun i p hp hDi => by
    have hi : i < ops.size := by
      rcases Nat.lt_or_ge i ops.size with h | h
      · exact h
      · simp [Array.getElem?_eq_none h] at hp
    have := (hD i hi).1 hDi
    omega
  rw [h1]
  have hle : s.nxt ≤ nxAt s.nxt L m := by rw [← h6]; exact h8
  have hth : ∀ n b, hget o.st.heap n = some b → There s.heap L D n b := by
    intro n b hn
    rw [h5, hget_append] at hn
    cases hm : hget (L.map Item.made).flatten n with
    | some c =>
      rw [hm] at hn; cases hn
      obtain ⟨j, hh, hj, hb⟩ := flatten_get' hm
      rw [List.getElem?_map] at hj
      cases hjt : L[j]? with
      | none => rw [hjt] at hj; cases hj
      | some jt =>
        rw [hjt] at hj
        simp only [Option.map_some, Option.some.injEq] at hj
        subst hj
        exact .inr ⟨j, jt, hD' j (by have := (List.getElem?_eq_some_iff.1 hjt).1; omega), hjt, hb⟩
    | none => rw [hm] at hn; exact .inl hn
  have hσ : ∀ n, n < s.nxt → ρ'.σ n = ρ.σ n := fun n hn => (hI.agree n (.inl hn)).1
  have ha : a = act ρ' o.st.res.fr o.st.tmps := by
    obtain ⟨tmps, defers⟩ := a
    have hdf := hI.defers
    simp only [act] at hdf
    subst hdf
    rw [hfr]
    unfold act
    rw [marks_eq hσ hk.2]
    congr 1
    rw [h4]
    apply Array.ext'
    apply List.ext_getElem?
    intro t
    rw [Array.getElem?_toList]
    by_cases hex : ∃ (j : Nat) (q : Oper), j < m ∧ ops[j]? = some q ∧ q.dst = some t
    · obtain ⟨j, q, hj, hq, hdq⟩ := hex
      have hjt : L[j]? = some L[j] := List.getElem?_eq_getElem (by omega)
      rcases Nat.lt_or_ge t s.tmps.length with hlt | hge
      · have e1 := hI.put j _ q t (hD' j hj) hjt hq hdq hlt
        simp only at e1
        rw [e1, denL_map, List.getElem?_map, tmAt_put hjt hq hdq hlt (fun k r hk hr hdr => ((baseOk_spec (drawOk_base hd) hr).2.2.1 j q t hq hdq).2 hk hdr) hj]
        rfl
      · have hsz := hI.size
        simp only at hsz
        rw [Array.getElem?_eq_none (by omega), denL_map, List.getElem?_map, List.getElem?_eq_none (by rw [tmAt_length]; exact hge)]; rfl
    · have hno : ∀ (j : Nat) (q : Oper), j < m → ops[j]? = some q → q.dst ≠ some t := fun j q hj hq hdq => hex ⟨j, q, hj, hq, hdq⟩
      have e1 := hI.left t (fun j q hDj hq => hno j q (hDm j q hq hDj) hq)
      simp only at e1
      rw [e1, denL_map, denL_map, List.getElem?_map, List.getElem?_map, tmAt_keep (fun j q hj hq => hno j q hj hq)]
  have hmade : ∀ n b, hget o.st.heap n = some b → ¬ hget s.heap n = some b → s.nxt ≤ n ∧ n < o.st.nxt ∧ AV.okL o.st.nxt b.cells = true ∧ (b.mem = true → w.heap.size ≤ ρ'.σ n) := by
    intro n b hn hne
    rcases hth n b hn with h | ⟨j, jt, hDj, hjt, hb⟩
    · exact absurd h hne
    · obtain ⟨m1, m2, m3, m4⟩ := hI.made j jt n b hDj hjt hb
      have := base_le h2 (by omega) hjt
      rw [h1] at this
      rw [h6]
      exact ⟨by omega, by omega, okL_mono (by omega) _ m3, m4⟩
  rw [ha]
  have hRep : Rep w0.heap.size ρ' o.st.heap o.st.nxt w' := by
    refine ⟨fun n b hn => (hI.block n b (hth n b hn)).keep (Keep.wide fun k hk hf => ⟨hf.1, fun n b hn hm => hf.2 n b (hth n b hn) hm⟩) rfl rfl fun _ => rfl, fun n m b c hn hm => hI.inj n m b c (hth n b hn) (hth m c hm), fun n b hn => ?_, fun n b hn => hI.above n b (hth n b hn), by rw [hI.area.2]; exact Nat.le_trans hI.ground hI.wsize, fun n b hn => hI.reach n b (hth n b hn)⟩
    by_cases hne : hget s.heap n = some b
    · obtain ⟨q1, q2⟩ := hs0 n b hne
      exact ⟨by rw [h6]; omega, okL_mono (by rw [h6]; exact hle) _ q2⟩
    · obtain ⟨-, q1, q2, -⟩ := hmade n b hn hne
      exact ⟨q1, q2⟩
  have hPost : Post ρ ρ' s.heap o.st.heap s.nxt o.st.nxt o.low w w' := by
    refine ⟨fun n hn => hI.agree n (by rw [h1, ← h6]; exact hn), hI.area, h8, hI.os, hI.tape, hI.output, hI.wsize, fun k hk _ => hI.frame k hk, fun n b hn hbm => ?_, fun n hl hx => ?_⟩
    · by_cases hne : hget s.heap n = some b
      · exact .inl ⟨n, b, hne, hbm, (hI.agree n (.inl (hs0 n b hne).1)).1, .inl rfl⟩
      · exact .inr ((hmade n b hn hne).2.2.2 hbm)
    · rw [h5, hget_append]
      cases hm : hget (L.map Item.made).flatten n with
      | none => rfl
      | some c =>
        obtain ⟨j, hh, hj, hb⟩ := flatten_get' hm
        rw [List.getElem?_map] at hj
        cases hjt : L[j]? with
        | none => rw [hjt] at hj; cases hj
        | some jt =>
          rw [hjt] at hj
          simp only [Option.map_some, Option.some.injEq] at hj
          subst hj
          have hjl := (List.getElem?_eq_some_iff.1 hjt).1
          obtain ⟨m1, -⟩ := hI.made j jt n c (hD' j (by omega)) hjt hb
          have := base_le h2 (by omega) hjt
          omega
  simp only [b1] at he
  have b4' := fun Q => b4 m rfl ρ' w' Q
  have hfe := fence_eq (ρ := ρ) (ρ1 := ρ') hσ hk.2 (show o.st.res.fr.rnd = s.res.fr.rnd by rw [hfr])
  rw [hfe] at b4'
  exact b4' Q hRep (below_of_post hr hPost hb) (he.trans (x := .normal) (l := ⟨c1 ++ o3.log.conds, k1 ++ o3.log.calls⟩) hr hRep hPost)
/-- A region that draws its order, its first store before or behind what is quiet. -/
theorem region_late (hg : Good C G) {id : Nat} {f : FuncId} {ops : Array Oper} {s : St} {o2 : Out} (hd : lateOk ops = true) (hk : StOK s)
    (h2' : goTail R f ops (firstStore ops.toList) (R (.draw f ops (ops.toList.take (firstStore ops.toList)) s.nxt [] []) s) = some o2) (hl : Holds C G o2.log)
    (hdraw : ∀ o, R (.draw f ops (ops.toList.take (firstStore ops.toList)) s.nxt [] []) s = some o → Holds C G o.log → DrawOK C w0 ops (ops.toList.take (firstStore ops.toList)) s.nxt [] [] s o)
    (htail : ∀ s o, R (.ops f ops (ops.toList.drop (firstStore ops.toList))) s = some o → Holds C G o.log → StOK s → OpsOK C w0 ops (ops.toList.drop (firstStore ops.toList)) s o) : CodeOK C w0 (.region id ops true) s o2 := by
  have hfs : firstStore ops.toList ≤ ops.size := by simpa using firstStore_le ops.toList
  generalize hm : firstStore ops.toList = m at *
  unfold goTail at h2'
  split at h2'
  rotate_left
  · cases h2'
  rename_i s1 l1 c1 k1 hrun
  obtain ⟨o3, hr3, rfl⟩ := behind_eq h2'
  have h := hdraw _ hrun hl.left
  generalize ho : (⟨.normal, s1, l1, ⟨c1, k1⟩⟩ : Out) = o at h
  obtain ⟨L, h1, h2, h3, h4, h5, h6, h7, h8⟩ := h m [] s.tmps hfs rfl rfl rfl rfl rfl (Nat.le_refl _) ⟨fun i it p hi => by simp at hi, fun i it p hi => by simp at hi⟩ (Nat.zero_le _)
  have hs1 : s1 = o.st := by rw [← ho]
  have hl1 : l1 = o.low := by rw [← ho]
  subst hs1
  subst hl1
  obtain ⟨b1, b2, b3, b4⟩ := htail _ _ hr3 hl.right h7
  have hfr := h8.2
  replace h8 := h8.1
  refine ⟨by rw [b1]; rfl, b2, ⟨Nat.le_trans h8 b3.1, by rw [b3.2, hfr]⟩, fun ρ w Q hr hb he => ?_⟩
  unfold fenceOf
  have hs0 : ∀ n b, hget s.heap n = some b → n < s.nxt ∧ AV.okL s.nxt b.cells = true := hr.scope
  refine wpIn_mono (Q := fun x a w => x = .normal ∧ Q x a w) ?_ (fun _ _ _ h => h.2)
  refine wpIn_region_any hg.mixed ?_
  have hI0 : Inv w0 ops s.nxt s.heap s.tmps L ρ w (act ρ s.res.fr s.tmps).defers (fun i => (Array.replicate ops.size false)[i]? = some true) ρ (act ρ s.res.fr s.tmps) { w with drawn := w.drawn + 1 } := by
    have hno : ∀ i, ¬ ((Array.replicate ops.size false)[i]? = some true) := fun i e => by
      rw [Array.getElem?_replicate] at e; split at e <;> simp at e
    have hth : ∀ n b, There s.heap L (fun i => (Array.replicate ops.size false)[i]? = some true) n b → hget s.heap n = some b := fun n b h => by
      rcases h with h | ⟨j, it, hj, -⟩
      · exact h
      · exact absurd hj (hno j)
    exact ⟨fun i p _ hi => absurd hi (hno i), rfl, by simp [act, denL_length], fun j it p t hj => absurd hj (hno j), fun t _ => by simp [act], fun n b hn => (hr.block n b (hth n b hn)).keep (fun k hk hf => ⟨rfl, hf.1, fun n b hn hm => hf.2 n b (hth n b hn) hm⟩) rfl rfl fun _ => rfl, fun n m b c hn hm => hr.inj n m b c (hth n b hn) (hth m c hm),
      fun n b hn => hr.above n b (hth n b hn), fun j it n b hj => absurd hj (hno j), ⟨rfl, rfl⟩, hr.base, fun n b hn => hr.reach n b (hth n b hn), fun n _ => ⟨rfl, rfl⟩, rfl, rfl, rfl, Nat.le_refl _, fun k _ => rfl, hb.drew⟩
  refine late_order (ρ0 := ρ) (ws := w) h2 hd (by omega) hs0 hk.1 (fun _ _ _ h => h.1) ?_ ops.size _ ρ _ _ (by simp) (by unfold leftOver; exact Nat.le_trans (List.length_filter_le _ _) (by simp)) (fun i _ e => by
    rw [Array.getElem?_replicate] at e; split at e <;> simp at e) hI0
  intro D ρ' a w' hD hI
  -- all is done that may come in any order
  have hD' : ∀ i, i < m → D i := fun i hi => (hD i (by omega)).2 (by omega)
  have hDm : ∀ i p, ops[i]? = some p → D i → i < m := fun i p hp hDi => by
    have hi : i < ops.size := by
      rcases Nat.lt_or_ge i ops.size with h | h
      · exact h
      · simp [Array.getElem?_eq_none h] at hp
    have := (hD i hi).1 hDi
    omega
  rw [h1]
  have hle : s.nxt ≤ nxAt s.nxt L m := by rw [← h6]; exact h8
  have hth : ∀ n b, hget o.st.heap n = some b → There s.heap L D n b := by
    intro n b hn
    rw [h5, hget_append] at hn
    cases hm : hget (L.map Item.made).flatten n with
    | some c =>
      rw [hm] at hn; cases hn
      obtain ⟨j, hh, hj, hb⟩ := flatten_get' hm
      rw [List.getElem?_map] at hj
      cases hjt : L[j]? with
      | none => rw [hjt] at hj; cases hj
      | some jt =>
        rw [hjt] at hj
        simp only [Option.map_some, Option.some.injEq] at hj
        subst hj
        exact .inr ⟨j, jt, hD' j (by have := (List.getElem?_eq_some_iff.1 hjt).1; omega), hjt, hb⟩
    | none => rw [hm] at hn; exact .inl hn
  have hσ : ∀ n, n < s.nxt → ρ'.σ n = ρ.σ n := fun n hn => (hI.agree n (.inl hn)).1
  have ha : a = act ρ' o.st.res.fr o.st.tmps := by
    obtain ⟨tmps, defers⟩ := a
    have hdf := hI.defers
    simp only [act] at hdf
    subst hdf
    rw [hfr]
    unfold act
    rw [marks_eq hσ hk.2]
    congr 1
    rw [h4]
    apply Array.ext'
    apply List.ext_getElem?
    intro t
    rw [Array.getElem?_toList]
    by_cases hex : ∃ (j : Nat) (q : Oper), j < m ∧ ops[j]? = some q ∧ q.dst = some t
    · obtain ⟨j, q, hj, hq, hdq⟩ := hex
      have hjt : L[j]? = some L[j] := List.getElem?_eq_getElem (by omega)
      rcases Nat.lt_or_ge t s.tmps.length with hlt | hge
      · have e1 := hI.put j _ q t (hD' j hj) hjt hq hdq hlt
        simp only at e1
        rw [e1, denL_map, List.getElem?_map, tmAt_put hjt hq hdq hlt (fun k r hk hr hdr => ((baseOk_spec (lateOk_spec hd).1 hr).2.2.1 j q t hq hdq).2 hk hdr) hj]
        rfl
      · have hsz := hI.size
        simp only at hsz
        rw [Array.getElem?_eq_none (by omega), denL_map, List.getElem?_map, List.getElem?_eq_none (by rw [tmAt_length]; exact hge)]; rfl
    · have hno : ∀ (j : Nat) (q : Oper), j < m → ops[j]? = some q → q.dst ≠ some t := fun j q hj hq hdq => hex ⟨j, q, hj, hq, hdq⟩
      have e1 := hI.left t (fun j q hDj hq => hno j q (hDm j q hq hDj) hq)
      simp only at e1
      rw [e1, denL_map, denL_map, List.getElem?_map, List.getElem?_map, tmAt_keep (fun j q hj hq => hno j q hj hq)]
  have hmade : ∀ n b, hget o.st.heap n = some b → ¬ hget s.heap n = some b → s.nxt ≤ n ∧ n < o.st.nxt ∧ AV.okL o.st.nxt b.cells = true ∧ (b.mem = true → w.heap.size ≤ ρ'.σ n) := by
    intro n b hn hne
    rcases hth n b hn with h | ⟨j, jt, hDj, hjt, hb⟩
    · exact absurd h hne
    · obtain ⟨m1, m2, m3, m4⟩ := hI.made j jt n b hDj hjt hb
      have := base_le h2 (by omega) hjt
      rw [h1] at this
      rw [h6]
      exact ⟨by omega, by omega, okL_mono (by omega) _ m3, m4⟩
  rw [ha]
  have hRep : Rep w0.heap.size ρ' o.st.heap o.st.nxt w' := by
    refine ⟨fun n b hn => (hI.block n b (hth n b hn)).keep (Keep.wide fun k hk hf => ⟨hf.1, fun n b hn hm => hf.2 n b (hth n b hn) hm⟩) rfl rfl fun _ => rfl, fun n m b c hn hm => hI.inj n m b c (hth n b hn) (hth m c hm), fun n b hn => ?_, fun n b hn => hI.above n b (hth n b hn), by rw [hI.area.2]; exact Nat.le_trans hI.ground hI.wsize, fun n b hn => hI.reach n b (hth n b hn)⟩
    by_cases hne : hget s.heap n = some b
    · obtain ⟨q1, q2⟩ := hs0 n b hne
      exact ⟨by rw [h6]; omega, okL_mono (by rw [h6]; exact hle) _ q2⟩
    · obtain ⟨-, q1, q2, -⟩ := hmade n b hn hne
      exact ⟨q1, q2⟩
  have hPost : Post ρ ρ' s.heap o.st.heap s.nxt o.st.nxt o.low w w' := by
    refine ⟨fun n hn => hI.agree n (by rw [h1, ← h6]; exact hn), hI.area, h8, hI.os, hI.tape, hI.output, hI.wsize, fun k hk _ => hI.frame k hk, fun n b hn hbm => ?_, fun n hl hx => ?_⟩
    · by_cases hne : hget s.heap n = some b
      · exact .inl ⟨n, b, hne, hbm, (hI.agree n (.inl (hs0 n b hne).1)).1, .inl rfl⟩
      · exact .inr ((hmade n b hn hne).2.2.2 hbm)
    · rw [h5, hget_append]
      cases hm : hget (L.map Item.made).flatten n with
      | none => rfl
      | some c =>
        obtain ⟨j, hh, hj, hb⟩ := flatten_get' hm
        rw [List.getElem?_map] at hj
        cases hjt : L[j]? with
        | none => rw [hjt] at hj; cases hj
        | some jt =>
          rw [hjt] at hj
          simp only [Option.map_some, Option.some.injEq] at hj
          subst hj
          have hjl := (List.getElem?_eq_some_iff.1 hjt).1
          obtain ⟨m1, -⟩ := hI.made j jt n c (hD' j (by omega)) hjt hb
          have := base_le h2 (by omega) hjt
          omega
  simp only [b1] at he
  have b4' := fun Q => b4 m rfl ρ' w' Q
  have he2 := he.trans (x := .normal) (l := ⟨c1 ++ o3.log.conds, k1 ++ o3.log.calls⟩) hr hRep hPost
  have hfe := fence_eq (ρ := ρ) (ρ1 := ρ') hσ hk.2 (show o.st.res.fr.rnd = s.res.fr.rnd by rw [hfr])
  rw [hfe] at b4'
  exact b4' _ hRep (below_of_post hr hPost hb) (fun ρ2 w2 r2 p2 => ⟨rfl, he2 ρ2 w2 r2 p2⟩)
end
end Go.Ev
/- Running the program's functions on values that are known in part: a region that draws its order, its operations written down in another order. -/
namespace Go.Ev
open Go.RowKit
structure Moves (π : Nat → Nat) (ops ops' : Array Oper) : Prop where
  size : ops'.size = ops.size
  op : ∀ i p, ops[i]? = some p → ops'[π i]? = some (renOp π p)
  to : ∀ i, i < ops.size → π i < ops.size
  onto : ∀ j, j < ops.size → ∃ i, i < ops.size ∧ π i = j
  inj : ∀ i j, i < ops.size → j < ops.size → π i = π j → i = j
  out : ∀ i, ops.size ≤ i → ops.size ≤ π i
theorem ren_deps (π : Nat → Nat) (o : Oper) : depsOf (renOp π o) = (depsOf o).map π := by
  unfold depsOf renOp
  simp only [List.filterMap_map, List.map_filterMap]
  congr 1
  funext e
  simp only [Function.comp]
  have : Region.binds .any { on := π e.on, ground := e.ground } = Region.binds .any e := rfl
  rw [this]
  cases Region.binds .any e <;> rfl
theorem ren_wp {F : Fence} {n : Nat} {P : Program} {π : Nat → Nat} {o : Oper} {a : Act} {w : World} {K : Act → World → Prop} {Q : Exit → Act → World → Prop} : (renOp π o).wpIn F n P a w K Q = o.wpIn F n P a w K Q := rfl
section
variable {π : Nat → Nat} {ops ops' : Array Oper}
theorem Moves.some_lt {i : Nat} {p : Oper} (hp : ops[i]? = some p) : i < ops.size := by
  rcases Nat.lt_or_ge i ops.size with h | h
  · exact h
  · simp [Array.getElem?_eq_none h] at hp
theorem Moves.ready (hm : Moves π ops ops') {l l' : Array Bool} (hl : l.size = ops.size) (hl' : l'.size = ops.size) (he : ∀ i, i < ops.size → l'[π i]? = l[i]?) (i : Nat) (hi : i < ops.size) : i ∈ Region.ready .any ops l ↔ π i ∈ Region.ready .any ops' l' := by
  have hd : ∀ d, l[d]? = some true ↔ l'[π d]? = some true := fun d => by
    rcases Nat.lt_or_ge d ops.size with h | h
    · rw [he d h]
    · rw [Array.getElem?_eq_none (by omega), Array.getElem?_eq_none (by have := hm.out d h; omega)]
  have hg : l'.getD (π i) true = l.getD i true := by
    rw [Array.getD_eq_getD_getElem?, Array.getD_eq_getD_getElem?, he i hi]
  constructor
  · intro h
    obtain ⟨p, hp, -, h2, h3⟩ := ready_spec h
    refine ready_mk (hm.op i p hp) (by rw [hg, h2]) fun d hdm => ?_
    rw [ren_deps] at hdm
    obtain ⟨e, he1, rfl⟩ := List.mem_map.1 hdm
    exact (hd e).1 (h3 e he1)
  · intro h
    obtain ⟨p', hp', -, h2, h3⟩ := ready_spec h
    have hp : ops[i]? = some ops[i] := by simp
    have := hm.op i _ hp
    rw [hp'] at this
    cases this
    refine ready_mk hp (by rw [← hg, h2]) fun d hdm => (hd d).2 (h3 _ ?_)
    rw [ren_deps]
    exact List.mem_map.2 ⟨d, hdm, rfl⟩
theorem Moves.yielded (hm : Moves π ops ops') (tmps : Array Value) (j : Nat) : yielded ops' tmps (π j) = yielded ops tmps j := by
  have hx : (ops'[π j]?).bind (·.dst) = (ops[j]?).bind (·.dst) := by
    rcases Nat.lt_or_ge j ops.size with h | h
    · have hp : ops[j]? = some ops[j] := by simp
      rw [hm.op j _ hp, hp]; rfl
    · rw [Array.getElem?_eq_none h, Array.getElem?_eq_none (by have := hm.out j h; have := hm.size; omega)]
  unfold Go.yielded
  rw [hx]
theorem Moves.any (hm : Moves π ops ops') {F : Fence} {n : Nat} {P : Program} {Q : Exit → Act → World → Prop} : ∀ (fuel : Nat) (l l' : Array Bool) (a : Act) (w : World), l.size = ops.size → l'.size = ops.size → (∀ i, i < ops.size → l'[π i]? = l[i]?) →
    wpAnyIn F n P .any ops' Q fuel l' a w → wpAnyIn F n P .any ops Q fuel l a w := by
  have nil : ∀ (l l' : Array Bool), l.size = ops.size → l'.size = ops.size → (∀ i, i < ops.size → l'[π i]? = l[i]?) → (Region.ready .any ops l = [] ↔ Region.ready .any ops' l' = []) := by
    intro l l' h1 h2 h3
    constructor
    · intro h
      refine List.eq_nil_iff_forall_not_mem.2 fun j hj => ?_
      obtain ⟨p, hp, -⟩ := ready_spec hj
      have hjs := Moves.some_lt hp
      rw [hm.size] at hjs
      obtain ⟨i, hi, rfl⟩ := hm.onto j hjs
      have := (hm.ready h1 h2 h3 i hi).2 hj
      rw [h] at this; cases this
    · intro h
      refine List.eq_nil_iff_forall_not_mem.2 fun i hi => ?_
      obtain ⟨p, hp, -⟩ := ready_spec hi
      have := (hm.ready h1 h2 h3 i (Moves.some_lt hp)).1 hi
      rw [h] at this; cases this
  intro fuel
  induction fuel with
  | zero =>
    intro l l' a w h1 h2 h3 h
    exact ⟨(nil l l' h1 h2 h3).2 h.1, h.2⟩
  | succ fuel ih =>
    intro l l' a w h1 h2 h3 h
    refine ⟨fun hr => h.1 ((nil l l' h1 h2 h3).1 hr), fun i hi => ?_⟩
    obtain ⟨p, hp, hil, -⟩ := ready_spec hi
    have hh := h.2 (π i) ((hm.ready h1 h2 h3 i hil).1 hi)
    have next : ∀ a w, wpAnyIn F n P .any ops' Q fuel (l'.setIfInBounds (π i) true) a w → wpAnyIn F n P .any ops Q fuel (l.setIfInBounds i true) a w := fun a w hk => by
      refine ih _ _ a w (by simp [h1]) (by simp [h2]) (fun j hj => ?_) hk
      rw [Array.getElem?_setIfInBounds, Array.getElem?_setIfInBounds]
      by_cases hij : i = j
      · subst hij
        rw [if_pos rfl, if_pos rfl, if_pos (show π i < l'.size by have := hm.to i hil; omega), if_pos (show i < l.size by omega)]
      · rw [if_neg (fun h => hij (hm.inj i j hil hj h)), if_neg hij, h3 j hj]
    unfold wpOpIn at hh ⊢
    rw [hp]
    rw [hm.op i p hp] at hh
    dsimp only at hh ⊢
    have hw : Region.wanted (renOp π p) (Go.yielded ops' a.tmps) = Region.wanted p (Go.yielded ops a.tmps) := by
      unfold Region.wanted renOp
      cases hg : p.guard with
      | none => rfl
      | some g => obtain ⟨j, b⟩ := g; show (Go.yielded ops' a.tmps (π j) == some b) = (Go.yielded ops a.tmps j == some b); rw [hm.yielded]
    rw [hw] at hh
    split
    · rename_i hc
      rw [if_pos hc, ren_wp] at hh
      exact Oper.wpIn_mono next hh
    · rename_i hc
      rw [if_neg hc] at hh
      exact ⟨hh.1, next _ _ hh.2⟩
/-- A region, by its operations in another order of writing, or in their own. -/
theorem wpIn_region_perm {F : Fence} {n : Nat} {P : Program} {Q : Exit → Act → World → Prop} (hm : ops' = ops ∨ ∃ π, Moves π ops ops') {id : Nat} {a : Act} {w : World} (hx : P.follows .mixedOrders = true)
    (h : wpAnyIn F n P .any ops' Q ops'.size (Array.replicate ops'.size false) a { w with drawn := w.drawn + 1 }) : (Code.region id ops true).wpIn F n P Q a w := by
  rcases hm with rfl | ⟨π, hm⟩
  · exact wpIn_region_any hx h
  · refine wpIn_region_any hx (hm.any ops.size (Array.replicate ops.size false) (Array.replicate ops.size false) _ _ (by simp) (by simp) (fun i hi => ?_) (by rw [hm.size] at h; exact h))
    rw [Array.getElem?_replicate, Array.getElem?_replicate, if_pos hi, if_pos (hm.to i hi)]
end
theorem posIn_get : ∀ (l : List Nat) (i : Nat), posIn l i < l.length → l[posIn l i]? = some i
  | [], _, h => absurd h (Nat.not_lt_zero _)
  | x :: xs, i, h => by
    unfold posIn at h ⊢
    cases hb : Nat.beq x i with
    | true => rw [Nat.eq_of_beq_eq_true hb]; rfl
    | false =>
      rw [hb] at h
      simp only [List.length_cons, Nat.add_lt_add_iff_right] at h
      simpa using posIn_get xs i h
theorem takeOps_get {f : Nat → Nat} {l : List Oper} : ∀ (is : List Nat), (∀ i ∈ is, i < l.length) → ∀ p : Nat, (takeOps f l is)[p]? = (is[p]?).bind fun i => (l[i]?).map (renOp f)
  | [], _, p => by simp [takeOps]
  | i :: is, h, p => by
    have hi := h i List.mem_cons_self
    unfold takeOps
    rw [listGet_eq, List.getElem?_eq_getElem hi]
    cases p with
    | zero => simp [List.getElem?_eq_getElem hi]
    | succ p => simpa using takeOps_get is (fun j hj => h j (List.mem_cons_of_mem _ hj)) p
theorem takeOps_len {f : Nat → Nat} {l : List Oper} : ∀ (is : List Nat), (∀ i ∈ is, i < l.length) → (takeOps f l is).length = is.length
  | [], _ => rfl
  | i :: is, h => by
    have hi := h i List.mem_cons_self
    unfold takeOps
    rw [listGet_eq, List.getElem?_eq_getElem hi]
    simpa using takeOps_len is fun j hj => h j (List.mem_cons_of_mem _ hj)
theorem permB_moves {ord : List Nat} {ops : Array Oper} (h : permB ord ops.size = true) : Moves (posIn ord) ops (movedBy ord ops) := by
  unfold permB at h
  simp only [Bool.and_eq_true, List.all_eq_true, List.mem_range] at h
  obtain ⟨⟨h1, h2⟩, h3⟩ := h
  have h1 := Nat.eq_of_beq_eq_true h1
  have h2 : ∀ i ∈ ord, i < ops.toList.length := fun i hi => by simpa using blt_lt (h2 i hi)
  have hto : ∀ i, i < ops.size → posIn ord i < ops.size := fun i hi => blt_lt (h3 i hi).1
  have hget : ∀ i, i < ops.size → ord[posIn ord i]? = some i := fun i hi => posIn_get ord i (by rw [h1]; exact hto i hi)
  refine ⟨?_, fun i p hp => ?_, hto, fun j hj => ?_, fun i j hi hj e => ?_, fun i hi => ?_⟩
  · unfold movedBy
    rw [List.size_toArray, takeOps_len ord h2, h1]
  · have hi := Moves.some_lt hp
    unfold movedBy
    rw [List.getElem?_toArray, takeOps_get ord h2, hget i hi]
    simp [hp]
  · have := (h3 j hj).2
    split at this
    · rename_i i hi
      rw [listGet_eq] at hi
      refine ⟨i, by simpa using h2 i (List.mem_of_getElem? hi), Nat.eq_of_beq_eq_true this⟩
    · cases this
  · have a := hget i hi
    rw [e, hget j hj] at a
    exact (Option.some.inj a).symm
  · rcases Nat.lt_or_ge (posIn ord i) ord.length with h | h
    · have := posIn_get ord i h
      have := h2 i (List.mem_of_getElem? this)
      simp at this; omega
    · omega
end Go.Ev
/- Operations that read at most: they may come before or behind a store elsewhere. -/
namespace Go.Ev
open Go.RowKit
/-! ### Operations that read at most -/
/-- A reckoning that leaves one world as it is, and says the same in another. -/
def Steady {α : Type} (P : Program) (w w' : World) (s : Sem α) : Prop := ∀ v w2, s.run P w = .ok v w2 → w2 = w ∧ s.run P w' = .ok v w'
section
variable {P : Program} {w w' : World} {α β : Type}
theorem steady_pure (a : α) : Steady P w w' (pure a : Sem α) := fun v w2 h => by
  have h' : Result.ok a w = .ok v w2 := h
  cases h'
  exact ⟨rfl, rfl⟩
theorem steady_bind {s : Sem α} {f : α → Sem β} (h1 : Steady P w w' s) (h2 : ∀ v, Steady P w w' (f v)) : Steady P w w' (s >>= f) := fun v w2 h => by
  rw [Sem.run_bind] at h ⊢
  cases hs : s.run P w with
  | halt z w3 => rw [hs] at h; cases h
  | ok u w3 =>
    obtain ⟨rfl, e⟩ := h1 u w3 hs
    rw [hs] at h
    rw [e]
    exact h2 u v w2 h
theorem steady_halt (z : Halt) : Steady P w w' (.halt z : Sem α) := fun v w2 h => by cases h
theorem steady_program : Steady P w w' program := fun v w2 h => by
  have h' : Result.ok P w = .ok v w2 := h
  cases h'
  exact ⟨rfl, rfl⟩
theorem steady_underlying (t : TypeId) : Steady P w w' (underlying t) := by
  unfold underlying
  refine steady_bind steady_program fun p => ?_
  split
  · exact steady_pure _
  · exact steady_halt _
theorem steady_info (t : TypeId) : Steady P w w' (typeInfo t) := by
  unfold typeInfo
  refine steady_bind steady_program fun p => ?_
  split
  · exact steady_pure _
  · exact steady_halt _
theorem steady_sizeOf (t : TypeId) : Steady P w w' (sizeOf t) := by
  unfold sizeOf
  exact steady_bind (steady_info t) fun _ => steady_pure _
theorem steady_isAgg (t : TypeId) : Steady P w w' (isAgg t) := by
  unfold isAgg
  refine steady_bind (steady_underlying t) fun d => ?_
  split <;> exact steady_pure _
theorem steady_load {a : Addr} {arr : Array Value} {e : TypeId} {m : Nat × Nat} (h1 : w.heap[a.block]? = some (.cells arr e m)) (h2 : w'.heap[a.block]? = w.heap[a.block]?) : Steady P w w' (load a) := fun v w2 h => by
  have hc : w'.cell? a = w.cell? a := by unfold World.cell?; rw [h2]
  unfold load at h ⊢
  unfold Sem.run at h ⊢
  rw [hc]
  cases hv : w.cell? a with
  | some u =>
    rw [hv] at h
    have h' : Result.ok u w = .ok v w2 := h
    cases h'
    exact ⟨rfl, rfl⟩
  | none =>
    rw [hv] at h
    simp only [World.farLoad, h1] at h
    cases h
theorem steady_loadCells {a : Addr} {arr : Array Value} {e : TypeId} {m : Nat × Nat} (h1 : w.heap[a.block]? = some (.cells arr e m)) (h2 : w'.heap[a.block]? = w.heap[a.block]?) : ∀ (n i : Nat) (acc : Array Value), Steady P w w' (loadCellsFrom a i n acc)
  | 0, i, acc => steady_pure _
  | n + 1, i, acc => by
    unfold loadCellsFrom
    have hb : (a.add i).block = a.block := by unfold Addr.add; split <;> rfl
    exact steady_bind (steady_load (by rw [hb]; exact h1) (by rw [hb]; exact h2)) fun v => steady_loadCells h1 h2 n (i + 1) _
theorem steady_loadVar {t : TypeId} {a : Addr} {arr : Array Value} {e : TypeId} {m : Nat × Nat} (h1 : w.heap[a.block]? = some (.cells arr e m)) (h2 : w'.heap[a.block]? = w.heap[a.block]?) : Steady P w w' (loadVar t a) := by
  unfold loadVar
  refine steady_bind (steady_isAgg t) fun b => ?_
  split
  · refine steady_bind (steady_sizeOf t) fun n => ?_
    exact steady_bind (steady_loadCells h1 h2 n 0 _) fun _ => steady_pure _
  · exact steady_load h1 h2
theorem steady_sure (x : Value) : Steady P w w' (Instr.sureAddr x) := by
  unfold Instr.sureAddr
  split
  · exact steady_pure _
  · exact steady_halt _
theorem steady_int (x : Value) : Steady P w w' (asIntOf x) := by
  unfold asIntOf
  split
  · exact steady_pure _
  · exact steady_halt _
  · exact steady_halt _
theorem steady_bounds (k : IntKind) (x y : Int) (c : BoundsCode) : Steady P w w' (boundsPanic k x y c : Sem α) := fun v w2 h => by
  unfold boundsPanic at h
  simp only [runtimePanic, goPanic] at h
  split at h
  · simp only [Sem.run_bind] at h
    revert h
    cases (Sem.run P ((fun x => x == 1) <$> choose (.extern "runtime.boundsError.signed" 2)) w) <;> intro h <;> cases h
  · cases h
theorem steady_fieldAt {s : TypeId} {x : Value} {i : Nat} {fs : Array Field} {f : Field} {n : Nat} (h1 : undA P s = some (.struct fs)) (h2 : fs[i]? = some f) (h3 : sizeT P f.type = some (n + 1)) : Steady P w w' (Instr.fieldAt s x i) := fun v w2 h => by
  unfold Instr.fieldAt at h ⊢
  have hu : ∀ w : World, (underlying s).run P w = .ok (.struct fs) w := fun w => by rw [run_underlying (und_of h1)]
  simp only [Sem.run_bind, hu, Result.andThen_ok, h2] at h ⊢
  revert h
  cases hs : (Instr.sureAddr x).run P w with
  | halt z w3 => intro h; cases h
  | ok a w3 =>
    obtain ⟨rfl, e⟩ := steady_sure (w' := w') x a w3 hs
    intro h
    simp only [e, Result.andThen_ok, fieldPlace, Sem.run_bind, run_sizeT h3] at h ⊢
    simp at h ⊢
    obtain ⟨rfl, rfl⟩ := h
    simp
theorem steady_indexAt (t : TypeId) (x ix : Value) : Steady P w w' (Instr.indexAt t x ix) := by
  unfold Instr.indexAt
  refine steady_bind (steady_int ix) fun ki => ?_
  refine steady_bind (steady_underlying t) fun d => ?_
  dsimp only
  split
  · refine steady_bind (steady_sure _) fun a => steady_bind (steady_pure _) fun bl => steady_bind (steady_underlying t) fun d => ?_
    repeat' (first | exact steady_pure _ | exact steady_halt _ | exact steady_bounds _ _ _ _ | exact steady_bind (steady_sizeOf _) fun _ => steady_pure _ | split)
  · refine steady_bind (steady_pure _) fun bl => steady_bind (steady_underlying t) fun d => ?_
    repeat' (first | exact steady_pure _ | exact steady_halt _ | exact steady_bounds _ _ _ _ | exact steady_bind (steady_sizeOf _) fun _ => steady_pure _ | split)
  · refine steady_bind (steady_halt _) fun bl => steady_bind (steady_underlying t) fun d => ?_
    repeat' (first | exact steady_pure _ | exact steady_halt _ | exact steady_bounds _ _ _ _ | exact steady_bind (steady_sizeOf _) fun _ => steady_pure _ | split)
end
/-! ### What operations make, told by what they look at -/
abbrev VF := Oper → (Operand → Value) → Option Value
def CongrV (V : VF) : Prop := ∀ p e e', (∀ x ∈ p.op.operands, e x = e' x) → V p e = V p e'
def runV (V : VF) (ops : Array Oper) : List Nat → Act → Option Act
  | [], a => some a
  | i :: is, a => match ops[i]? with
    | some p => match V p a.eval with
      | some v => runV V ops is (a.put p.dst v)
      | none => none
    | none => none
section
variable {V : VF} {ops : Array Oper}
theorem runV_cons {i : Nat} {is : List Nat} {a f : Act} (h : runV V ops (i :: is) a = some f) : ∃ p v, ops[i]? = some p ∧ V p a.eval = some v ∧ runV V ops is (a.put p.dst v) = some f := by
  unfold runV at h
  split at h
  · rename_i p hp
    split at h
    · rename_i v hv
      exact ⟨p, v, hp, hv, h⟩
    · cases h
  · cases h
theorem runV_mk {i : Nat} {is : List Nat} {a : Act} {p : Oper} {v : Value} (hp : ops[i]? = some p) (hv : V p a.eval = some v) : runV V ops (i :: is) a = runV V ops is (a.put p.dst v) := by
  simp only [runV, hp, hv]
theorem runV_append : ∀ {M N : List Nat} {a f g : Act}, runV V ops M a = some f → runV V ops N f = some g → runV V ops (M ++ N) a = some g
  | [], N, a, f, g, h, k => by cases h; exact k
  | i :: M, N, a, f, g, h, k => by
    obtain ⟨p, v, hp, hv, h⟩ := runV_cons h
    rw [List.cons_append, runV_mk hp hv]
    exact runV_append h k
theorem runV_keep {x : Operand} : ∀ {M : List Nat} {a f : Act}, (∀ j ∈ M, ∀ q t, ops[j]? = some q → x = .tmp t → q.dst ≠ some t) → runV V ops M a = some f → f.eval x = a.eval x
  | [], a, f, _, h => by cases h; rfl
  | j :: M, a, f, hj, h => by
    obtain ⟨q, u, hq, hu, h⟩ := runV_cons h
    rw [runV_keep (fun j hj' => hj j (List.mem_cons_of_mem _ hj')) h]
    exact eval_put fun t ht => hj j List.mem_cons_self q t hq ht
theorem runV_to {V' : VF} (hV : ∀ p e v, V p e = some v → V' p e = some v) : ∀ {M : List Nat} {a f : Act}, runV V ops M a = some f → runV V' ops M a = some f
  | [], a, f, h => h
  | j :: M, a, f, h => by
    obtain ⟨q, u, hq, hu, h⟩ := runV_cons h
    rw [runV_mk hq (hV _ _ _ hu)]
    exact runV_to hV h
theorem swapV (hV : CongrV V) {i j : Nat} {is : List Nat} {a f : Act} (h1 : ∀ p q d, ops[i]? = some p → ops[j]? = some q → q.dst = some d → d ∉ p.looksAt ops ∧ p.dst ≠ some d) (h2 : ∀ p q d, ops[i]? = some p → ops[j]? = some q → p.dst = some d → d ∉ q.looksAt ops)
    (h : runV V ops (j :: i :: is) a = some f) : runV V ops (i :: j :: is) a = some f := by
  obtain ⟨q, u, hq, hu, h⟩ := runV_cons h
  obtain ⟨p, v, hp, hv, h⟩ := runV_cons h
  have e1 : V p (a.put q.dst u).eval = V p a.eval := hV p _ _ fun x hx => eval_put fun t ht hd => by subst ht; exact (h1 p q t hp hq hd).1 (looks_mem hx)
  have e2 : V q (a.put p.dst v).eval = V q a.eval := hV q _ _ fun x hx => eval_put fun t ht hd => by subst ht; exact h2 p q t hp hq hd (looks_mem hx)
  rw [e1] at hv
  rw [runV_mk hp hv, runV_mk hq (e2.trans hu), ← put_comm (fun t ht => (h1 p q t hp hq ht).2)]
  exact h
theorem frontV (hV : CongrV V) {i : Nat} {post : List Nat} {f : Act} : ∀ {pre : List Nat} {a : Act}, (∀ j ∈ pre, (∀ p q d, ops[i]? = some p → ops[j]? = some q → q.dst = some d → d ∉ p.looksAt ops ∧ p.dst ≠ some d) ∧ (∀ p q d, ops[i]? = some p → ops[j]? = some q → p.dst = some d → d ∉ q.looksAt ops)) →
    runV V ops (pre ++ i :: post) a = some f → runV V ops (i :: (pre ++ post)) a = some f
  | [], _, _, h => h
  | j :: pre, a, hj, h => by
    obtain ⟨q, u, hq, hu, h⟩ := runV_cons (is := pre ++ i :: post) h
    have ih := frontV hV (fun j hj' => hj j (List.mem_cons_of_mem _ hj')) h
    refine swapV hV (is := pre ++ post) (hj j List.mem_cons_self).1 (hj j List.mem_cons_self).2 ?_
    rw [runV_mk hq hu]
    exact ih
end
/-- What it looks at is so that a store into the block n does not matter. -/
def Fit (P : Program) (σ0 : Nat → Nat) (h0 : AHeap) (n : Nat) (op : Op) (e : Operand → Value) : Prop := match op with
  | .load _ x => ∃ m o, m ≠ n ∧ cellsAt h0 m = true ∧ e x = .pointer (some ⟨σ0 m, o, none⟩)
  | .fieldAddr s _ i => ∃ fs f k, undA P s = some (.struct fs) ∧ fs[i]? = some f ∧ sizeT P f.type = some (k + 1)
  | .binOp .add _ x y _ => ∃ k a k' b, e x = .int k a ∧ e y = .int k' b
  | .binOp .sub _ x y _ => ∃ k a k' b, e x = .int k a ∧ e y = .int k' b
  | .binOp .mul _ x y _ => ∃ k a k' b, e x = .int k a ∧ e y = .int k' b
  | .call c => ∀ x ∈ c.args.toList, ∃ k a, e x = .int k a
  | _ => True
open Classical in
/-- What an operation that reads at most makes in a world. -/
noncomputable def VW (P : Program) (σ0 : Nat → Nat) (h0 : AHeap) (n : Nat) (w : World) : VF := fun p e => if coolOp p.op = true ∧ Fit P σ0 h0 n p.op e then (match (execOp e p).run P w with
  | .ok (.value v) w2 => if w2 = w then some v else none
  | _ => none) else none
theorem VW_iff {P : Program} {σ0 : Nat → Nat} {h0 : AHeap} {n : Nat} {w : World} {p : Oper} {e : Operand → Value} {v : Value} : VW P σ0 h0 n w p e = some v ↔ coolOp p.op = true ∧ Fit P σ0 h0 n p.op e ∧ (execOp e p).run P w = .ok (.value v) w := by
  unfold VW
  constructor
  · intro h
    split at h
    · rename_i hc
      split at h
      · rename_i u w2 hr
        split at h
        · rename_i hw
          cases h
          subst hw
          exact ⟨hc.1, hc.2, hr⟩
        · cases h
      · cases h
    · cases h
  · rintro ⟨h1, h2, h3⟩
    rw [if_pos ⟨h1, h2⟩, h3]
    simp
theorem VW_congr (P : Program) (σ0 : Nat → Nat) (h0 : AHeap) (n : Nat) (w : World) : CongrV (VW P σ0 h0 n w) := by
  intro p e e' h
  unfold VW
  obtain ⟨dst, op, type, pos, after, guard⟩ := p
  cases hc : coolOp op with
  | false => rw [if_neg (by simp), if_neg (by simp)]
  | true =>
    have key : execOp e ⟨dst, op, type, pos, after, guard⟩ = execOp e' ⟨dst, op, type, pos, after, guard⟩ ∧ (Fit P σ0 h0 n op e ↔ Fit P σ0 h0 n op e') := by
      simp only at h
      cases op <;> simp only [coolOp, quietOp] at hc <;> try (cases hc; done)
      case move x => exact ⟨by simp only [execOp, h x (by simp [Op.operands])], Iff.rfl⟩
      case assign x => exact ⟨by simp only [execOp, h x (by simp [Op.operands])], Iff.rfl⟩
      case extract x i => exact ⟨by simp only [execOp, h x (by simp [Op.operands])], Iff.rfl⟩
      case load t x => exact ⟨by simp only [execOp, h x (by simp [Op.operands])], by unfold Fit; simp only [h x (by simp [Op.operands])]⟩
      case fieldAddr t x i => exact ⟨by simp only [execOp, h x (by simp [Op.operands])], Iff.rfl⟩
      case indexAddr t x i => exact ⟨by simp only [execOp, h x (by simp [Op.operands]), h i (by simp [Op.operands])], Iff.rfl⟩
      case binOp bop t x y u =>
        have hx := h x (by simp [Op.operands])
        have hy := h y (by simp [Op.operands])
        refine ⟨by simp only [execOp, hx, hy], ?_⟩
        unfold Fit
        cases bop <;> simp only [hx, hy]
      case call c =>
        have ha : ∀ x ∈ c.args.toList, e x = e' x := fun x hx => h x (by
          simp only [Op.operands, Call.operands]
          cases c.callee <;> simp <;> first | exact .inr (by simpa using hx) | simpa using hx)
        refine ⟨?_, ?_⟩
        · have hm : c.args.map e = c.args.map e' := by
            apply Array.ext'
            simp only [Array.toList_map]
            exact List.map_congr_left ha
          split at hc
          · rename_i hcal
            simp only [execOp, resolve, hcal, hm]
          · rename_i hcal
            simp only [execOp, resolve, hcal, hm]
          · cases hc
        · unfold Fit
          simp only
          exact ⟨fun k x hx => by rw [← ha x hx]; exact k x hx, fun k x hx => by rw [ha x hx]; exact k x hx⟩
    rw [key.1]
    by_cases hF : Fit P σ0 h0 n op e'
    · rw [if_pos ⟨rfl, key.2.2 hF⟩, if_pos ⟨rfl, hF⟩]
    · rw [if_neg (fun k => hF (key.2.1 k.2)), if_neg (fun k => hF k.2)]
theorem run_fold {P : Program} {f : Value → Value → Sem Value} (hf : ∀ k a k' b, ∃ c, f (.int k a) (.int k' b) = pure (.int k c)) : ∀ (l : List Value), (∀ v ∈ l, ∃ k a, v = .int k a) → ∀ k a, ∃ c, ∀ w : World, (l.foldlM f (.int k a)).run P w = .ok (.int k c) w
  | [], _, k, a => ⟨a, fun w => rfl⟩
  | v :: l, h, k, a => by
    obtain ⟨k', b, rfl⟩ := h v List.mem_cons_self
    obtain ⟨c, hc⟩ := hf k a k' b
    obtain ⟨d, hd⟩ := run_fold hf l (fun u hu => h u (List.mem_cons_of_mem _ hu)) k c
    refine ⟨d, fun w => ?_⟩
    rw [List.foldlM_cons, hc, Sem.run_bind, Sem.run_pure, Result.andThen_ok]
    exact hd w
theorem min2_int (k : IntKind) (a : Int) (k' : IntKind) (b : Int) : ∃ c, Builtin.min2 (.int k a) (.int k' b) = pure (.int k c) := ⟨_, rfl⟩
theorem max2_int (k : IntKind) (a : Int) (k' : IntKind) (b : Int) : ∃ c, Builtin.max2 (.int k a) (.int k' b) = pure (.int k c) := ⟨_, rfl⟩
theorem steady_fold {P : Program} {w w' : World} {f : Value → Value → Sem Value} (hf : ∀ k a k' b, ∃ c, f (.int k a) (.int k' b) = pure (.int k c)) {l : List Value} (h : ∀ v ∈ l, ∃ k a, v = .int k a) (k : IntKind) (a : Int) : Steady P w w' (l.foldlM f (.int k a)) := by
  obtain ⟨c, hc⟩ := run_fold (P := P) hf l h k a
  intro v w2 hx
  rw [hc] at hx ⊢
  cases hx
  exact ⟨rfl, rfl⟩
theorem steady_min {P : Program} {w w' : World} {ts : Array TypeId} {t : TypeId} {args : Array Value} (h : ∀ v ∈ args.toList, ∃ k a, v = .int k a) : Steady P w w' (Builtin.min_ ts t args) := by
  unfold Builtin.min_
  split
  · exact steady_halt _
  · rename_i x rest hx
    rw [hx] at h
    obtain ⟨k, a, rfl⟩ := h x List.mem_cons_self
    exact steady_fold min2_int (fun v hv => h v (List.mem_cons_of_mem _ hv)) k a
theorem steady_max {P : Program} {w w' : World} {ts : Array TypeId} {t : TypeId} {args : Array Value} (h : ∀ v ∈ args.toList, ∃ k a, v = .int k a) : Steady P w w' (Builtin.max_ ts t args) := by
  unfold Builtin.max_
  split
  · exact steady_halt _
  · rename_i x rest hx
    rw [hx] at h
    obtain ⟨k, a, rfl⟩ := h x List.mem_cons_self
    exact steady_fold max2_int (fun v hv => h v (List.mem_cons_of_mem _ hv)) k a
/-- A reckoning of two ints. -/
theorem steady_arith {P : Program} {w w' : World} {op : BinOp} (hop : op = .add ∨ op = .sub ∨ op = .mul) {t : TypeId} {x y : Operand} {k k' : IntKind} {a b : Int} :
    Steady P w w' (do eqGuard op t x y (.int k a) (.int k' b); binOp op t (.int k a) (.int k' b)) := by
  rcases hop with rfl | rfl | rfl
  all_goals
    refine steady_bind ?_ fun _ => ?_
    · unfold eqGuard
      rw [if_pos (by rfl)]
      exact steady_pure _
    · unfold binOp
      simp only
      split
      · exact steady_halt _
      · exact steady_pure _
/-- Operations that read at most leave the world as it is; where it is the same but for the block, they make the same. -/
theorem cool_steady {P : Program} {σ0 : Nat → Nat} {h0 : AHeap} {n : Nat} {w w' : World} {p : Oper} {e : Operand → Value} (hc : coolOp p.op = true) (hF : Fit P σ0 h0 n p.op e)
    (hw : ∀ m, m ≠ n → cellsAt h0 m = true → (∃ arr e mk, w.heap[σ0 m]? = some (.cells arr e mk)) ∧ w'.heap[σ0 m]? = w.heap[σ0 m]?) :
    Steady P w w' (execOp e p) ∧ ∀ nx w2, (execOp e p).run P w = .ok nx w2 → ∃ v, nx = .value v := by
  have key : (∃ v, execOp e p = pure (.value v)) ∨ ∃ s : Sem Value, execOp e p = (do pure (.value (← s))) ∧ Steady P w w' s := by
    obtain ⟨dst, op, type, pos, after, guard⟩ := p
    simp only at hc hF
    cases op <;> simp only [coolOp, quietOp] at hc <;> try (cases hc; done)
    case move x => exact .inl ⟨_, rfl⟩
    case assign x => exact .inl ⟨_, rfl⟩
    case extract x i =>
      refine .inr ⟨_, rfl, ?_⟩
      unfold Instr.extract
      repeat' (first | exact steady_pure _ | exact steady_halt _ | split)
    case load t x =>
      obtain ⟨m, o, h1, h2, h3⟩ := hF
      obtain ⟨⟨arr, et, mk, h4⟩, h5⟩ := hw m h1 h2
      refine .inr ⟨_, rfl, ?_⟩
      rw [h3]
      exact (steady_loadVar (a := ⟨σ0 m, o, none⟩) h4 h5 : Steady P w w' (loadVar t ⟨σ0 m, o, none⟩))
    case fieldAddr t x i =>
      obtain ⟨fs, f, k, h1, h2, h3⟩ := hF
      exact .inr ⟨_, rfl, steady_fieldAt h1 h2 h3⟩
    case indexAddr t x i => exact .inr ⟨_, rfl, steady_indexAt _ _ _⟩
    case binOp bop t x y u =>
      refine .inr ⟨_, rfl, ?_⟩
      cases bop <;> simp only [coolOp, quietOp] at hc <;> try (cases hc; done)
      all_goals
        obtain ⟨k, a, k', b, h1, h2⟩ := hF
        rw [h1, h2]
        exact steady_arith (by simp)
    case call c =>
      have hF : ∀ x ∈ c.args.toList, ∃ k a, e x = .int k a := hF
      have ha : ∀ v ∈ (c.args.map e).toList, ∃ k a, v = .int k a := by
        intro v hv
        simp only [Array.toList_map, List.mem_map] at hv
        obtain ⟨x, hx, rfl⟩ := hv
        exact hF x hx
      split at hc
      · rename_i hcal
        exact .inr ⟨_, by simp only [execOp, resolve, hcal]; rfl, steady_min ha⟩
      · rename_i hcal
        exact .inr ⟨_, by simp only [execOp, resolve, hcal]; rfl, steady_max ha⟩
      · cases hc
  rcases key with ⟨v, hv⟩ | ⟨s, hs, hst⟩
  · rw [hv]
    exact ⟨steady_pure _, fun nx w2 h => by
      have h' : Result.ok (Next.value v) w = .ok nx w2 := h
      cases h'
      exact ⟨v, rfl⟩⟩
  · rw [hs]
    refine ⟨steady_bind hst fun _ => steady_pure _, fun nx w2 h => ?_⟩
    rw [Sem.run_bind] at h
    cases hr : s.run P w with
    | halt z w3 => rw [hr] at h; cases h
    | ok v w3 =>
      rw [hr] at h
      have h' : Result.ok (Next.value v) w3 = .ok nx w2 := h
      cases h'
      exact ⟨v, rfl⟩
/-- A store into a row of cells leaves all other blocks. -/
theorem storeCells_same {P : Program} {a : Addr} {e : TypeId} {mk : Nat × Nat} : ∀ (vs : List Value) (i : Nat) {w w' : World} {u : Unit} {arr : Array Value}, w.heap[a.block]? = some (.cells arr e mk) → (storeCells a vs i).run P w = .ok u w' → ∀ b, b ≠ a.block → w'.heap[b]? = w.heap[b]?
  | [], i, w, w', u, arr, h1, h, b, hb => by
    have h' : Result.ok () w = .ok u w' := h
    cases h'
    rfl
  | v :: vs, i, w, w', u, arr, h1, h, b, hb => by
    unfold storeCells at h
    rw [Sem.run_bind] at h
    have hblk : (a.add i).block = a.block := by unfold Addr.add; split <;> rfl
    cases hr : (store (a.add i) v).run P w with
    | halt z w3 => rw [hr] at h; cases h
    | ok u3 w3 =>
      rw [hr] at h
      have h : (storeCells a vs (i + 1)).run P w3 = .ok u w' := h
      have hw3 : w3 = w.setCell (a.add i) v := by
        have key : ∀ v : Value, (∀ cs, v ≠ .agg cs) → (∀ cs, v ≠ .tuple cs) → (store (a.add i) v).run P w = .ok u3 w3 → w3 = w.setCell (a.add i) v := fun v k1 k2 hr => by
          have e : (store (a.add i) v).run P w = (match w.cell? (a.add i) with
            | some _ => if w.frozen? (a.add i) then Result.halt (.unsupported (.unsafePointer "a write to bytes that a string shares")) w else Result.ok () (w.setCell (a.add i) v)
            | none => match World.farStore P w (a.add i) v (Mode.plain == Mode.atomic) with
              | .ok (w, _) => Result.ok () w
              | .error h => .halt h w) := by
            unfold store Sem.run
            cases v <;> first | exact absurd rfl (k1 _) | exact absurd rfl (k2 _) | rfl
          rw [e] at hr
          split at hr
          · split at hr
            · cases hr
            · cases hr; rfl
          · simp only [World.farStore, hblk, h1] at hr
            cases hr
        cases v with
        | agg cs => have h' : Result.halt (.stuck "store: not the value of one cell") w = Result.ok u3 w3 := hr; cases h'
        | tuple cs => have h' : Result.halt (.stuck "store: not the value of one cell") w = Result.ok u3 w3 := hr; cases h'
        | _ => exact key _ (by simp) (by simp) hr
      subst hw3
      have hne : b ≠ (a.add i).block := by rw [hblk]; exact hb
      have hget : ∃ arr', (w.setCell (a.add i) v).heap[a.block]? = some (.cells arr' e mk) := by
        unfold World.setCell
        simp only [hblk, Array.getElem?_modify, if_true, h1, Option.map_some]
        exact ⟨_, rfl⟩
      obtain ⟨arr', hget⟩ := hget
      rw [storeCells_same vs (i + 1) hget h b hb]
      unfold World.setCell
      rw [Array.getElem?_modify, if_neg (Ne.symm hne)]
theorem store_same {P : Program} {t : TypeId} {ad : Addr} {v : Value} {w w' : World} {u : Unit} {arr : Array Value} {e : TypeId} {mk : Nat × Nat} (h1 : w.heap[ad.block]? = some (.cells arr e mk)) (h : (Instr.storeAt t (.pointer (some ad)) v).run P w = .ok u w') : ∀ b, b ≠ ad.block → w'.heap[b]? = w.heap[b]? := by
  have h : (storeVar t ad v).run P w = .ok u w' := h
  unfold storeVar at h
  rw [Sem.run_bind] at h
  cases hs : (sizeOf t).run P w with
  | halt z w3 => rw [hs] at h; cases h
  | ok n w3 =>
    obtain ⟨rfl, -⟩ := steady_sizeOf (w' := w) t n w3 hs
    rw [hs] at h
    simp only [Result.andThen_ok] at h
    split at h
    · rw [Sem.run_bind] at h; cases h
    · exact storeCells_same _ 0 h1 h
end Go.Ev
/- Running the program's functions on values that are known in part: regions in which what reads at most comes before or behind a store elsewhere. -/
namespace Go.Ev
open Go.RowKit
theorem cellsAt_spec {h : AHeap} {m : Nat} (e : cellsAt h m = true) : ∃ b, hget h m = some b ∧ b.kind = .cells := by
  unfold cellsAt at e
  split at e
  · rename_i b hb
    split at e
    · rename_i hk; exact ⟨b, hb, hk⟩
    · cases e
  · cases e
theorem cells_obj {A : Nat → Prop} {w : World} {ρ : Env} {b : ABlock} {kp : Kap} {o : Option Obj} (h : BlockOK A w ρ b kp o) (hk : b.kind = .cells) : ∃ arr e mk, o = some (.cells arr e mk) := by
  unfold BlockOK at h
  rw [hk] at h
  obtain ⟨arr, e, rest, h1, -⟩ := h
  exact ⟨arr, e, _, h1⟩
theorem cool_defer {p : Oper} (hc : coolOp p.op = true) : isDefer p.op = false := by
  revert hc
  cases p.op <;> simp [coolOp, quietOp, isDefer]
theorem cool_wp {P : Program} {w : World} {p : Oper} {a : Act} {K : Act → World → Prop} (hc : coolOp p.op = true) (hst : Steady P w w (execOp a.eval p) ∧ ∀ nx w2, (execOp a.eval p).run P w = .ok nx w2 → ∃ v, nx = .value v)
    (h : p.wpIn (fenceR none) 0 P a w K (fun _ _ _ => False)) : ∃ v, (execOp a.eval p).run P w = .ok (.value v) w ∧ K (a.put p.dst v) w := by
  replace h := wpIn_inv (cool_defer hc) h
  cases hr : (execOp a.eval p).run P w with
  | ok nx w2 =>
    obtain ⟨v, rfl⟩ := hst.2 _ _ hr
    obtain ⟨rfl, -⟩ := hst.1 _ _ hr
    rw [hr] at h
    exact ⟨v, rfl, h⟩
  | halt z w2 =>
    rw [hr] at h
    cases z <;> simp [Oper.uponIn] at h
theorem cool_mk {P : Program} {σ0 : Nat → Nat} {h0 : AHeap} {n : Nat} {w : World} {p : Oper} {a : Act} {v : Value} {K : Act → World → Prop} {Q : Exit → Act → World → Prop} {rd : Option Nat} (hv : VW P σ0 h0 n w p a.eval = some v) (hk : K (a.put p.dst v) w) : p.wpIn (fenceR rd) 0 P a w K Q := by
  obtain ⟨h1, -, h3⟩ := VW_iff.1 hv
  refine wpIn_op (cool_defer h1) ?_
  rw [h3]
  exact hk
/-- What a quiet operation makes. -/
theorem quiet_V {P : Program} {σ0 : Nat → Nat} {h0 : AHeap} {n : Nat} {w : World} {p : Oper} {a : Act} {v : Value} (hq : quietOp p.op = true) (hv : qval p.op a.eval = some v) : VW P σ0 h0 n w p a.eval = some v := by
  obtain ⟨dst, op, type, pos, after, guard⟩ := p
  cases op <;> simp only [quietOp] at hq <;> try (cases hq; done)
  case move x =>
    simp only [qval, Option.some.injEq] at hv; subst hv
    exact VW_iff.2 ⟨rfl, trivial, by simp [execOp]⟩
  case assign x =>
    simp only [qval, Option.some.injEq] at hv; subst hv
    exact VW_iff.2 ⟨rfl, trivial, by simp [execOp]⟩
  case extract x i =>
    refine VW_iff.2 ⟨rfl, trivial, ?_⟩
    unfold execOp Instr.extract
    unfold qval at hv
    simp only at hv ⊢
    cases hx : a.eval x <;> rw [hx] at hv <;> try (simp at hv; done)
    rename_i vs
    simp only at hv ⊢
    rw [hv]
    simp
  case binOp op t x y u =>
    obtain ⟨k, c, rfl, rfl⟩ := quiet_bin hq
    unfold qval at hv
    simp only at hv
    cases hy : a.eval y <;> rw [hy] at hv <;> try (simp at hv; done)
    rename_i k' b
    simp only at hv
    split at hv
    · rename_i hkk
      subst hkk
      simp only [Option.some.injEq] at hv
      subst hv
      refine VW_iff.2 ⟨rfl, ⟨k, c, k, b, rfl, hy⟩, ?_⟩
      unfold execOp
      simp only
      rw [show a.eval (.const (.int k c)) = .int k c from rfl, hy]
      simp [eqGuard, binOp, Op.intArith]
    · cases hv
section
variable {C : Ctx} {w0 : World} {ops : Array Oper} {base : Nat} {h0 : AHeap} {tm0 : List AV} {L : List Item} {ρ0 : Env} {ws : World} {ds : List Deferred} {rd : Option Nat}
/-- Quiet operations in any order, once the rest of what comes first is done. -/
theorem anyV {V : VF} (hV : CongrV V) {P : Program} (hb : baseOk ops = true) {Q : Exit → Act → World → Prop} {f : Act} {w : World} {m : Nat} (hm : m ≤ ops.size) (htail : ∀ (i : Nat) (p : Oper), ops[i]? = some p → m ≤ i → ∀ j, j < i → j ∈ anc (before ops.toList []) i)
    (hf : ∀ (fuel : Nat) (listed : Array Bool), listed.size = ops.size → (∀ i, i < ops.size → (listed[i]? = some true ↔ i < m)) → ops.size - m ≤ fuel → wpAnyIn (fenceR rd) 0 P .any ops Q fuel listed f w) :
    ∀ (fuel : Nat) (M : List Nat) (listed : Array Bool) (a : Act), listed.size = ops.size →
    (∀ i, i < ops.size → (listed[i]? = some true ↔ (i < m ∧ i ∉ M))) → (∀ i ∈ M, i < m) → M.Pairwise (· < ·) → M.length + (ops.size - m) ≤ fuel → (∀ i ∈ M, ∀ p, ops[i]? = some p → (∀ (a : Act) (v : Value) (K : Act → World → Prop), V p a.eval = some v → K (a.put p.dst v) w → p.wpIn (fenceR rd) 0 P a w K Q) ∧ p.guard = none) →
    (∀ (i : Nat) (p : Oper), ops[i]? = some p → listed[i]? = some true → ∀ d ∈ depsOf p, listed[d]? = some true) → runV V ops M a = some f → wpAnyIn (fenceR rd) 0 P .any ops Q fuel listed a w := by
  intro fuel
  induction fuel with
  | zero =>
    intro M listed a hs hl hM hpw hle hq hcl hr
    have hnil : M = [] := List.length_eq_zero_iff.1 (by omega)
    subst hnil
    cases hr
    exact hf 0 listed hs (fun i hi => by rw [hl i hi]; simp) (by omega)
  | succ fuel ih =>
    intro M listed a hs hl hM hpw hle hq hcl hr
    by_cases hne : M = []
    · subst hne
      cases hr
      exact hf _ listed hs (fun i hi => by rw [hl i hi]; simp) (by simpa using hle)
    obtain ⟨i0, hi0⟩ := List.exists_mem_of_ne_nil M hne
    have h0 : ¬ (listed[i0]? = some true) := fun e => ((hl i0 (by have := hM i0 hi0; omega)).1 e).2 hi0
    refine ⟨fun hrd => absurd (ready_nil hb hs hrd i0 (by have := hM i0 hi0; omega)) h0, fun i hi => ?_⟩
    obtain ⟨p, hp, hil, hli, hdep⟩ := ready_spec hi
    have hnl : ¬ (listed[i]? = some true) := fun e => by rw [Array.getD_eq_getD_getElem?, e] at hli; cases hli
    have hik : i < m := by
      rcases Nat.lt_or_ge i m with h | h
      · exact h
      · exact absurd (anc_listed (D := fun j => listed[j]? = some true) hcl i p hp hdep i0 (htail i p hp (by omega) i0 (by have := hM i0 hi0; omega))) h0
    have hiM : i ∈ M := Classical.byContradiction fun h => hnl ((hl i hil).2 ⟨hik, h⟩)
    obtain ⟨pre, post, rfl⟩ := List.append_of_mem hiM
    have hpre : ∀ j ∈ pre, j < i := fun j hj => (List.pairwise_append.1 hpw).2.2 j hj i List.mem_cons_self
    have hapart : ∀ j ∈ pre, (∀ (p' q : Oper) (d : Tmp), ops[i]? = some p' → ops[j]? = some q → q.dst = some d → d ∉ p'.looksAt ops ∧ p'.dst ≠ some d) ∧ (∀ (p' q : Oper) (d : Tmp), ops[i]? = some p' → ops[j]? = some q → p'.dst = some d → d ∉ q.looksAt ops) := by
      intro j hj
      have hji := hpre j hj
      have hjM : j ∈ pre ++ i :: post := List.mem_append_left _ hj
      have na : ∀ p', ops[i]? = some p' → j ∉ anc (before ops.toList []) i := fun p' hp' hk => by
        rw [hp] at hp'; cases hp'
        have := anc_listed (D := fun j => listed[j]? = some true) hcl i p hp hdep j hk
        exact ((hl j (by have := hM j hjM; omega)).1 this).2 hjM
      have nb : ∀ q, ops[j]? = some q → i ∉ anc (before ops.toList []) j := fun q hq' hk => by
        have := (anc_spec hq' hk).1; omega
      refine ⟨fun p' q d hp' hq' hd' => ⟨fun hlook => ?_, ((baseOk_spec hb hp').2.2.1 j q d hq' hd').2 (by omega)⟩, fun p' q d hp' hq' hd' hlook => ?_⟩
      · rcases ((baseOk_spec hb hp').2.2.1 j q d hq' hd').1 hlook with h | h
        · exact na p' hp' h
        · exact nb q hq' h
      · rcases ((baseOk_spec hb hq').2.2.1 i p' d hp' hd').1 hlook with h | h
        · exact nb q hq' h
        · exact na p' hp' h
    obtain ⟨p2, v, hp2, hv, hr2⟩ := runV_cons (frontV hV hapart hr)
    rw [hp] at hp2; cases hp2
    obtain ⟨q1, q2⟩ := hq i hiM p hp
    have hset : ∀ j, (listed.setIfInBounds i true)[j]? = some true ↔ (listed[j]? = some true ∨ j = i) := by
      intro j
      rw [Array.getElem?_setIfInBounds]
      by_cases hji : i = j
      · subst hji; simp [hs, hil]
      · rw [if_neg hji]; simp [Ne.symm hji]
    have hnotin : i ∉ pre ++ post := by
      intro h
      have hp1 := (List.pairwise_append.1 hpw)
      rcases List.mem_append.1 h with h | h
      · have := hpre i h; omega
      · have := (List.pairwise_cons.1 hp1.2.1).1 i h; omega
    unfold wpOpIn
    have hw : Region.wanted p (yielded ops a.tmps) = true := by unfold Region.wanted; rw [q2]
    simp only [hp, hw, if_true]
    refine q1 a v _ hv (ih (pre ++ post) _ _ (by simp [hs]) (fun j hj => ?_) (fun j hj => hM j ?_) ?_ (by simp at hle ⊢; omega) (fun j hj => hq j ?_) (fun j q hq' hj d hd' => ?_) hr2)
    · rw [hset, hl j hj]
      constructor
      · rintro (⟨h1, h⟩ | rfl)
        · exact ⟨h1, fun h' => h (by rcases List.mem_append.1 h' with h' | h'; exact List.mem_append_left _ h'; exact List.mem_append_right _ (List.mem_cons_of_mem _ h'))⟩
        · exact ⟨hik, hnotin⟩
      · rintro ⟨h1, h⟩
        by_cases hji : j = i
        · exact .inr hji
        · refine .inl ⟨h1, fun h' => h ?_⟩
          rcases List.mem_append.1 h' with h' | h'
          · exact List.mem_append_left _ h'
          · rcases List.mem_cons.1 h' with h' | h'
            · exact absurd h' hji
            · exact List.mem_append_right _ h'
    · rcases List.mem_append.1 hj with h' | h'
      · exact List.mem_append_left _ h'
      · exact List.mem_append_right _ (List.mem_cons_of_mem _ h')
    · exact hpw.sublist (List.Sublist.append (List.Sublist.refl _) (List.sublist_cons_self _ _))
    · rcases List.mem_append.1 hj with h' | h'
      · exact List.mem_append_left _ h'
      · exact List.mem_append_right _ (List.mem_cons_of_mem _ h')
    · rw [hset]
      rcases (hset j).1 hj with h | rfl
      · exact .inl (hcl j q hq' h d hd')
      · rw [hp] at hq'; cases hq'; exact .inl (hdep d hd')
/-- Quiet operations one after another, as they were reckoned. -/
theorem serialV {n : Nat} (hc : Chain C w0 ops base h0 tm0 L) (hlen : L.length ≤ ops.size) (hb : baseOk ops = true) (hs0 : ∀ n b, hget h0 n = some b → n < base ∧ AV.okL base b.cells = true) (ht0 : AV.okL base tm0 = true) {w : World} (hcells : ∀ m, cellsAt h0 m = true → ∃ arr e mk, w.heap[ρ0.σ m]? = some (.cells arr e mk)) :
    ∀ (M : List Nat) (D : Nat → Prop) (ρ : Env) (a : Act), Inv w0 ops base h0 tm0 L ρ0 ws ds D ρ a w → (∀ i ∈ M, i < L.length ∧ ¬ D i) → M.Pairwise (· < ·) → (∀ i ∈ M, ∀ p, ops[i]? = some p → coolOp p.op = true ∧ p.guard = none ∧ isStore p.op = false ∧ (∀ d ∈ depsOf p, D d ∨ d ∈ M) ∧ ∀ it, L[i]? = some it → ∀ (ρ : Env) (e : Operand → Value), (∀ m, m < base → ρ.σ m = ρ0.σ m) → (∀ x ∈ p.op.operands, e x = (aeval it.tm x).den ρ) → Fit C.P ρ0.σ h0 n p.op e) →
      ∃ (f : Act) (ρ' : Env), runV (VW C.P ρ0.σ h0 n w) ops M a = some f ∧ Inv w0 ops base h0 tm0 L ρ0 ws ds (fun i => D i ∨ i ∈ M) ρ' f w
  | [], D, ρ, a, hI, _, _, _ => ⟨a, ρ, rfl, by simpa using hI⟩
  | i :: M, D, ρ, a, hI, hM, hpw, hq => by
    obtain ⟨hiL, hDi⟩ := hM i List.mem_cons_self
    have hp : ops[i]? = some ops[i] := by simp
    obtain ⟨q1, q2, q3, q4, q5⟩ := hq i List.mem_cons_self _ hp
    have hlt := (List.pairwise_cons.1 hpw).1
    have hdep : ∀ d ∈ depsOf ops[i], D d := fun d hdm => by
      have hdi := (baseOk_spec hb hp).1 d hdm
      rcases q4 d hdm with h | h
      · exact h
      · rcases List.mem_cons.1 h with h | h
        · omega
        · have := hlt d h; omega
    have hit : L[i]? = some L[i] := List.getElem?_eq_getElem hiL
    obtain ⟨-, -, -, -, hf⟩ := hc.item i _ _ hit hp
    have hg := guard_stands hc hlen hb hI hp hit hdep hDi
    have hw : ∀ tmps, Region.wanted ops[i] (yielded ops tmps) = true := fun tmps => by unfold Region.wanted; rw [q2]
    rcases hf with ⟨f1, -⟩ | ⟨f1, f2, f3, f4, s, o, g1, g2, g3, g4, g5, g6, g7, g8⟩ | ⟨f1, -⟩
    · have := f1 ρ a.tmps hg; rw [hw] at this; cases this
    · obtain ⟨v, k1, k2, k3, k4, k5⟩ := g8
      rw [g4] at k1
      cases k1
      obtain ⟨ρi, hdi, hRep, hstep⟩ := inv_on hc hlen hb hs0 ht0 hI hp hit hdep hDi g2 g3 g5 g6 g7
      have hwp := k5 none ρi a w (fun a' w' => ∃ ρ', Inv w0 ops base h0 tm0 L ρ0 ws ds (fun j => D j ∨ j = i) ρ' a' w' ∧ True) (fun _ _ _ => False) (fun x hx => by rw [g1, hdi]; exact operand_stands hc hlen hb hI hp hit hdep hDi x hx) hRep hI.below fun ρ' w' hr' hp' => by
        obtain ⟨ρ2, h2⟩ := hstep ρ' w' hr' hp'
        exact ⟨ρ2, h2, trivial⟩
      have hfit : Fit C.P ρ0.σ h0 n ops[i].op a.eval := q5 _ hit ρ a.eval (fun m hm => (hI.agree m (.inl hm)).1) (operand_stands hc hlen hb hI hp hit hdep hDi)
      obtain ⟨u, hu0, ρ', hI', -⟩ := cool_wp q1 (cool_steady (w := w) (w' := w) q1 hfit fun m _ hm => ⟨hcells m hm, rfl⟩) hwp
      have hu : VW C.P ρ0.σ h0 n w ops[i] a.eval = some u := VW_iff.2 ⟨q1, hfit, hu0⟩
      obtain ⟨f, ρ2, hr, hI2⟩ := serialV hc hlen hb hs0 ht0 hcells M _ ρ' _ hI' (fun j hj => ⟨(hM j (List.mem_cons_of_mem _ hj)).1, fun h => by
        rcases h with h | h
        · exact (hM j (List.mem_cons_of_mem _ hj)).2 h
        · have := hlt j hj; omega⟩) (List.pairwise_cons.1 hpw).2 (fun j hj p hp' => by
          obtain ⟨r1, r2, r3, r4, r5⟩ := hq j (List.mem_cons_of_mem _ hj) p hp'
          refine ⟨r1, r2, r3, fun d hdm => ?_, r5⟩
          rcases r4 d hdm with h | h
          · exact .inl (.inl h)
          · rcases List.mem_cons.1 h with h | h
            · exact .inl (.inr h)
            · exact .inr h)
      refine ⟨f, ρ2, by rw [runV_mk hp hu]; exact hr, ?_⟩
      have : (fun j => D j ∨ j ∈ i :: M) = (fun j => (D j ∨ j = i) ∨ j ∈ M) := funext fun j => propext ⟨fun h => by
        rcases h with h | h
        · exact .inl (.inl h)
        · rcases List.mem_cons.1 h with h | h
          · exact .inl (.inr h)
          · exact .inr h, fun h => by
        rcases h with (h | h) | h
        · exact .inl h
        · exact .inr (by rw [h]; exact List.mem_cons_self)
        · exact .inr (List.mem_cons_of_mem _ h)⟩
      rw [this]; exact hI2
    · rw [q3] at f1; cases f1
theorem coolOk_spec (h : coolOk ops = true) : baseOk ops = true ∧ firstStore ops.toList < ops.size ∧ (∀ (i : Nat) (p : Oper), ops[i]? = some p →
    (i < firstStore ops.toList → i ∈ anc (before ops.toList []) (firstStore ops.toList) ∨ (coolOp p.op = true ∧ p.guard = none)) ∧ (i = firstStore ops.toList → p.guard = none ∧ p.dst = none)) ∧
    ((∀ (i : Nat) (p : Oper), ops[i]? = some p → firstStore ops.toList < i → ∀ j, j < i → j ∈ anc (before ops.toList []) i) ∨ ∀ (i : Nat) (p : Oper), ops[i]? = some p → firstStore ops.toList < i → quietOp p.op = true ∧ p.guard = none ∧ firstStore ops.toList ∈ anc (before ops.toList []) i) := by
  have hbare : ∀ p : Oper, bare p = true → p.guard = none := fun p h => by
    unfold bare at h; split at h
    · assumption
    · cases h
  have hsz : ∀ (i : Nat) (p : Oper), ops[i]? = some p → i < ops.size := fun i p hp => by
    rcases Nat.lt_or_ge i ops.size with h | h
    · exact h
    · simp [Array.getElem?_eq_none h] at hp
  have hany : ∀ (i k : Nat), ((before ops.toList []).getD i []).any (Nat.beq k) = true → k ∈ anc (before ops.toList []) i := fun i k h => by
    simp only [List.any_eq_true] at h
    obtain ⟨l, hl, hb⟩ := h
    have := Nat.eq_of_beq_eq_true hb
    subst this
    exact hl
  unfold coolOk at h
  simp only [Bool.and_eq_true, Bool.or_eq_true, List.all_eq_true, List.mem_range] at h
  obtain ⟨⟨⟨h1, h2⟩, h3⟩, h4⟩ := h
  refine ⟨h1, blt_lt h2, fun i p hp => ?_, ?_⟩
  · have hi := hsz i p hp
    have h3 := h3 i hi
    rw [hp] at h3
    simp only at h3
    split at h3
    · rename_i e
      have e := blt_lt e
      simp only [Bool.or_eq_true, Bool.and_eq_true] at h3
      refine ⟨fun _ => ?_, fun h => by omega⟩
      rcases h3 with h6 | h6
      · exact .inl (hany _ _ h6)
      · exact .inr ⟨h6.1, hbare p h6.2⟩
    · rename_i e
      have e : ¬ i < firstStore ops.toList := fun h => by
        have : Nat.blt i (firstStore ops.toList) = true := by simpa [Nat.blt_eq] using h
        rw [this] at e; cases e
      split at h3
      · simp only [Bool.and_eq_true] at h3
        refine ⟨fun h => absurd h e, fun _ => ⟨hbare p h3.1, ?_⟩⟩
        have h4 := h3.2
        split at h4
        · assumption
        · cases h4
      · rename_i e2
        exact ⟨fun h => absurd h e, fun h => by rw [h] at e2; simp at e2⟩
  · rcases h4 with h4 | h4
    · refine .inl fun i p hp hki => ?_
      rcases h4 i (hsz i p hp) with h5 | h5
      · have := ble_le h5; omega
      · exact anc_full hp (Nat.eq_of_beq_eq_true h5)
    · refine .inr fun i p hp hki => ?_
      rcases h4 i (hsz i p hp) with h5 | h5
      · have := ble_le h5; omega
      · rw [hp] at h5
        simp only [Bool.and_eq_true] at h5
        exact ⟨h5.1.1, hbare p h5.1.2, hany _ _ h5.2⟩
/-- Quiet operations that come last, in their order. -/
theorem quiet_tailV {P : Program} {σ0 : Nat → Nat} {h0 : AHeap} {n0 : Nat} {Q : Exit → Act → World → Prop} {w : World} : ∀ (n s : Nat) (f : Act), s + n ≤ ops.size → (∀ (i : Nat) (p : Oper), ops[i]? = some p → s ≤ i → quietOp p.op = true ∧ p.guard = none) →
    wpOpsIn (fenceR rd) 0 P ops Q (List.range' s n) f w → ∃ g, runV (VW P σ0 h0 n0 w) ops (List.range' s n) f = some g ∧ wpOpsIn (fenceR rd) 0 P ops Q [] g w := by
  intro n
  induction n with
  | zero => intro s f _ _ h; exact ⟨f, rfl, h⟩
  | succ n ih =>
    intro s f hs hq h
    have hp : ops[s]? = some ops[s] := by simp
    obtain ⟨q1, q2⟩ := hq s _ hp (Nat.le_refl _)
    rw [List.range'_succ, wpOpsIn_cons] at h
    unfold wpOpIn at h
    have hw : Region.wanted ops[s] (yielded ops f.tmps) = true := by unfold Region.wanted; rw [q2]
    simp only [hp, hw, if_true] at h
    obtain ⟨v, hv, hk⟩ := quiet_wp q1 h
    obtain ⟨g, hg, hr⟩ := ih (s + 1) _ (by omega) (fun i p hpi hi => hq i p hpi (by omega)) hk
    exact ⟨g, by rw [List.range'_succ, runV_mk hp (quiet_V q1 hv)]; exact hg, hr⟩
/-- Once all that may come in any order is done, every operand stands as it was reckoned. -/
theorem eval_full {k : Nat} (hc : Chain C w0 ops base h0 tm0 L) (hb : baseOk ops = true) (hlen : L.length = k) {D : Nat → Prop} {ρ : Env} {a : Act} {w : World} (hI : Inv w0 ops base h0 tm0 L ρ0 ws ds D ρ a w) (hD2 : ∀ (j : Nat) (q : Oper), ops[j]? = some q → D j → j < k) (hD3 : ∀ j, j < k → D j) (x : Operand) : a.eval x = (aeval (tmAt ops tm0 L k) x).den ρ := by
  cases x with
  | tmp t =>
    have key : a.tmps[t]? = (AV.denL ρ (tmAt ops tm0 L k))[t]? := by
      by_cases hex : ∃ (j : Nat) (q : Oper), j < k ∧ ops[j]? = some q ∧ q.dst = some t
      · obtain ⟨j, q, hj, hq, hdq⟩ := hex
        have hjt : L[j]? = some L[j] := List.getElem?_eq_getElem (by omega)
        rcases Nat.lt_or_ge t tm0.length with hlt | hge
        · rw [hI.put j _ q t (hD3 j hj) hjt hq hdq hlt, denL_map, List.getElem?_map, tmAt_put hjt hq hdq hlt (fun k r hk hr hdr => ((baseOk_spec hb hr).2.2.1 j q t hq hdq).2 hk hdr) hj]
          rfl
        · rw [Array.getElem?_eq_none (by rw [hI.size]; exact hge), denL_map, List.getElem?_map, List.getElem?_eq_none (by rw [tmAt_length]; exact hge)]; rfl
      · have hno : ∀ (j : Nat) (q : Oper), j < k → ops[j]? = some q → q.dst ≠ some t := fun j q hj hq hdq => hex ⟨j, q, hj, hq, hdq⟩
        rw [hI.left t (fun j q hDj hq => hno j q (hD2 j q hq hDj) hq), denL_map, denL_map, List.getElem?_map, List.getElem?_map, tmAt_keep (fun j q hj hq => hno j q hj hq)]
    simp only [Act.eval, aeval, getD_den]
    rw [Array.getD_eq_getD_getElem?, key, List.getD_eq_getElem?_getD]
  | const v => simp [Act.eval, aeval, AV.den]
  | global g => simp [Act.eval, aeval, AV.den]
  | func f => simp [Act.eval, aeval, AV.den]
/-- What no operation from i on writes. -/
theorem tmAt_from {t i : Nat} : ∀ {k : Nat}, i ≤ k → (∀ j q, i ≤ j → j < k → ops[j]? = some q → q.dst ≠ some t) → (tmAt ops tm0 L k)[t]? = (tmAt ops tm0 L i)[t]?
  | 0, h, _ => by
    have : i = 0 := by omega
    subst this; rfl
  | k + 1, h, hn => by
    rcases Nat.lt_or_ge k i with hlt | hge
    · have : i = k + 1 := by omega
      subst this; rfl
    · have ih := tmAt_from (t := t) (i := i) (k := k) hge (fun j q h1 h2 => hn j q h1 (by omega))
      rw [← ih]
      simp only [tmAt]
      split
      · rename_i it p hit hp
        have := hn k p hge (by omega) hp
        unfold setT
        split
        · rename_i d hd
          rw [List.getElem?_set_ne (fun e => this (by rw [hd, e]))]
        · rfl
      · rfl
theorem standsFrom_spec {i k : Nat} {op : Op} (h : standsFrom ops i k op = true) (hik : i ≤ k) : ∀ x ∈ op.operands, aeval (tmAt ops tm0 L i) x = aeval (tmAt ops tm0 L k) x := by
  intro x hx
  unfold standsFrom at h
  simp only [List.all_eq_true] at h
  have h := h x (by simpa using hx)
  cases x with
  | tmp t =>
    simp only [List.all_eq_true, List.mem_range, Bool.or_eq_true] at h
    have key := tmAt_from (ops := ops) (tm0 := tm0) (L := L) (t := t) hik (fun j q h1 h2 hq hd => by
      rcases h j h2 with h3 | h3
      · have := blt_lt h3; omega
      · rw [hq] at h3
        simp only [hd] at h3
        simp at h3)
    simp only [aeval, slot_eq, List.getD_eq_getElem?_getD, key]
  | const v => rfl
  | global g => rfl
  | func f => rfl
theorem coolFit_spec {P : Program} {h : AHeap} {tm : List AV} {h1 : AHeap} (e : coolFit P ops h tm h1 = true) : ∃ (p : Oper) (t : TypeId) (xs ys : Operand) (n off : Nat), ops[firstStore ops.toList]? = some p ∧ p.op = .store t xs ys ∧ aeval tm xs = .ptr n off ∧ cellsAt h1 n = true ∧
    ∀ i, i < firstStore ops.toList → i ∉ anc (before ops.toList []) (firstStore ops.toList) → ∀ q, ops[i]? = some q → fitB P h tm n q.op = true ∧ standsFrom ops i (firstStore ops.toList) q.op = true := by
  unfold coolFit at e
  split at e
  rotate_left
  · cases e
  rename_i p hp
  split at e
  rotate_left
  · cases e
  rename_i t xs ys hop
  split at e
  rotate_left
  · cases e
  rename_i n off hx
  simp only [Bool.and_eq_true, List.all_eq_true, List.mem_range, Bool.or_eq_true] at e
  refine ⟨p, t, xs, ys, n, off, hp, hop, hx, e.1, fun i hi hna q hq => ?_⟩
  rcases e.2 i hi with h6 | h6
  · refine absurd ?_ hna
    simp only [List.any_eq_true] at h6
    obtain ⟨l, hl, hb⟩ := h6
    have := Nat.eq_of_beq_eq_true hb
    subst this
    exact hl
  · rw [hq] at h6
    simpa using h6
theorem fitB_spec {P : Program} {h : AHeap} {tm : List AV} {n : Nat} {op : Op} (hb : fitB P h tm n op = true) (hbase : ∀ n b, hget h n = some b → n < base) {σ0 : Nat → Nat} {ρ : Env} {e : Operand → Value} (hσ : ∀ m, m < base → ρ.σ m = σ0 m) (he : ∀ x ∈ op.operands, e x = (aeval tm x).den ρ) : Fit P σ0 h n op e := by
  have hint : ∀ v : AV, fitB.isIntA v = true → ∃ k a, v.den ρ = .int k a := fun v hv => by
    unfold fitB.isIntA at hv
    split at hv
    · exact ⟨_, _, rfl⟩
    · cases hv
  cases op <;> try exact trivial
  case load t x =>
    unfold fitB at hb
    simp only at hb
    split at hb
    rotate_left
    · cases hb
    rename_i m o hm
    simp only [Bool.and_eq_true, Bool.not_eq_true'] at hb
    obtain ⟨b, hb1, -⟩ := cellsAt_spec hb.2
    refine ⟨m, o, fun hmn => ?_, hb.2, ?_⟩
    · rw [hmn] at hb; simp at hb
    · rw [he x (by simp [Op.operands]), hm, ← hσ m (hbase m b hb1)]
      rfl
  case fieldAddr t x i =>
    unfold fitB at hb
    simp only at hb
    split at hb
    rotate_left
    · cases hb
    rename_i fs hfs
    split at hb
    rotate_left
    · cases hb
    rename_i f hf
    split at hb
    rotate_left
    · cases hb
    rename_i k hk
    rw [listGet_eq, Array.getElem?_toList] at hf
    exact ⟨fs, f, k, hfs, hf, hk⟩
  case binOp bop t x y u =>
    have hx := he x (by simp [Op.operands])
    have hy := he y (by simp [Op.operands])
    cases bop <;> try exact trivial
    all_goals
      unfold fitB at hb
      simp only [Bool.and_eq_true] at hb
      obtain ⟨k, a, h1⟩ := hint _ hb.1
      obtain ⟨k', b, h2⟩ := hint _ hb.2
      exact ⟨k, a, k', b, hx.trans h1, hy.trans h2⟩
  case call c =>
    intro x hx
    unfold fitB at hb
    simp only [List.all_eq_true] at hb
    obtain ⟨k, a, h1⟩ := hint _ (hb x hx)
    exact ⟨k, a, (he x (by
      simp only [Op.operands, Call.operands]
      cases c.callee <;> simp <;> first | exact .inr (by simpa using hx) | simpa using hx)).trans h1⟩
/-- A region in any order, its first store before or behind what is quiet. -/
theorem cool_order {n : Nat} (hc : Chain C w0 ops base h0 tm0 L) (hd : coolOk ops = true) (hlen : L.length = firstStore ops.toList) (hst2 : ∃ (p : Oper) (t : TypeId) (xs ys : Operand) (off : Nat), ops[firstStore ops.toList]? = some p ∧ p.op = .store t xs ys ∧ aeval (tmAt ops tm0 L (firstStore ops.toList)) xs = .ptr n off) (hnb : ∃ b, (∀ D : Nat → Prop, (∀ i, i < L.length → D i) → There h0 L D n b) ∧ b.kind = .cells) (hfit : ∀ (i : Nat) (p : Oper) (it : Item), i < firstStore ops.toList → i ∉ anc (before ops.toList []) (firstStore ops.toList) → ops[i]? = some p → L[i]? = some it → ∀ (ρ : Env) (e : Operand → Value), (∀ m, m < base → ρ.σ m = ρ0.σ m) → (∀ x ∈ p.op.operands, e x = (aeval it.tm x).den ρ) → Fit C.P ρ0.σ h0 n p.op e) (hs0 : ∀ n b, hget h0 n = some b → n < base ∧ AV.okL base b.cells = true) (ht0 : AV.okL base tm0 = true)
    {Q : Exit → Act → World → Prop} (hQn : ∀ x a w, Q x a w → x = .normal) (hQ : ∀ D ρ a w, (∀ i, i < ops.size → (D i ↔ i < L.length)) → Inv w0 ops base h0 tm0 L ρ0 ws ds D ρ a w → wpOpsIn (fenceR rd) 0 C.P ops Q (List.range' L.length (ops.size - L.length)) a w) :
    ∀ (fuel : Nat) (listed : Array Bool) (ρ : Env) (a : Act) (w : World), listed.size = ops.size → (leftOver ops listed).length ≤ fuel → (∀ i, L.length ≤ i → listed[i]? ≠ some true) → Inv w0 ops base h0 tm0 L ρ0 ws ds (fun i => listed[i]? = some true) ρ a w →
      wpAnyIn (fenceR rd) 0 C.P .any ops Q fuel listed a w := by
  obtain ⟨hb, hk, hspec, htl⟩ := coolOk_spec hd
  have hst : ∀ p, ops[firstStore ops.toList]? = some p → isStore p.op = true := fun p hp => firstStore_is ops.toList p (by simpa using hp)
  have hns : ∀ i p, i < firstStore ops.toList → ops[i]? = some p → isStore p.op = false := fun i p hi hp => firstStore_not ops.toList i p hi (by simpa using hp)
  rw [hlen] at hQ hnb ⊢
  generalize firstStore ops.toList = k at *
  have hlen' : L.length ≤ ops.size := by omega
  have hleft : ∀ listed : Array Bool, listed.size = ops.size → listed[k]? ≠ some true → listed.getD k true = false := fun listed hs hno => by
    have hlt : k < listed.size := by omega
    rw [Array.getElem?_eq_getElem hlt] at hno
    rw [Array.getD_eq_getD_getElem?, Array.getElem?_eq_getElem hlt]
    simpa using hno
  intro fuel
  induction fuel with
  | zero =>
    intro listed ρ a w hs hle hno hI
    exfalso
    have : k ∈ leftOver ops listed := List.mem_filter.2 ⟨List.mem_range.2 hk, by rw [hleft listed hs (hno k (Nat.le_refl _))]; rfl⟩
    have := List.length_pos_of_mem this
    omega
  | succ fuel ih =>
    intro listed ρ a w hs hle hno hI
    refine ⟨fun hr => absurd (ready_nil hb hs hr k hk) (hno k (Nat.le_refl _)), fun i hi => ?_⟩
    obtain ⟨p, hp, hil, hl, hdep⟩ := ready_spec hi
    have hset : ∀ j, (listed.setIfInBounds i true)[j]? = some true ↔ (listed[j]? = some true ∨ j = i) := by
      intro j
      rw [Array.getElem?_setIfInBounds]
      by_cases hji : i = j
      · subst hji; simp [hs, hil]
      · rw [if_neg hji]; simp [Ne.symm hji]
    have hDi : ¬ (listed[i]? = some true) := by
      intro e; rw [Array.getD_eq_getD_getElem?, e] at hl; cases hl
    have hlt := leftOver_lt hil hl hs
    rcases Nat.lt_trichotomy i k with hik | hik | hik
    rotate_left
    · subst hik
      obtain ⟨g1, g2⟩ := (hspec i p hp).2 rfl
      let M := (List.range i).filter fun j => !listed.getD j true
      have hM : ∀ j, j ∈ M ↔ (j < i ∧ ¬ (listed[j]? = some true)) := by
        intro j
        show j ∈ (List.range i).filter _ ↔ _
        rw [List.mem_filter, List.mem_range]
        constructor
        · rintro ⟨h1, h2⟩
          exact ⟨h1, fun e => by rw [Array.getD_eq_getD_getElem?, e] at h2; simp at h2⟩
        · rintro ⟨h1, h2⟩
          refine ⟨h1, ?_⟩
          have hlt : j < listed.size := by omega
          rw [Array.getElem?_eq_getElem hlt] at h2
          rw [Array.getD_eq_getD_getElem?, Array.getElem?_eq_getElem hlt]
          simpa using h2
      have hpw : M.Pairwise (· < ·) := List.Pairwise.filter _ List.pairwise_lt_range
      have hanc : ∀ j, j ∈ anc (before ops.toList []) i → listed[j]? = some true := fun j hj => anc_listed (D := fun j => listed[j]? = some true) hI.closed i p hp hdep j hj
      have hq : ∀ j ∈ M, ∀ q, ops[j]? = some q → coolOp q.op = true ∧ q.guard = none ∧ isStore q.op = false ∧ (∀ d ∈ depsOf q, listed[d]? = some true ∨ d ∈ M) ∧ ∀ it, L[j]? = some it → ∀ (ρ : Env) (e : Operand → Value), (∀ m, m < base → ρ.σ m = ρ0.σ m) → (∀ x ∈ q.op.operands, e x = (aeval it.tm x).den ρ) → Fit C.P ρ0.σ h0 n q.op e := by
        intro j hj q hqj
        obtain ⟨m1, m2⟩ := (hM j).1 hj
        have s4 : coolOp q.op = true ∧ q.guard = none := by
          rcases (hspec j q hqj).1 m1 with h | h
          · exact absurd (hanc j h) m2
          · exact h
        refine ⟨s4.1, s4.2, hns j q m1 hqj, fun d hdm => ?_, fun it hit => hfit j q it m1 (fun hk => m2 (hanc j hk)) hqj hit⟩
        by_cases hld : listed[d]? = some true
        · exact .inl hld
        · refine .inr ((hM d).2 ⟨?_, hld⟩)
          have := (baseOk_spec hb hqj).1 d hdm
          omega
      have hcells : ∀ m, cellsAt h0 m = true → ∃ arr e mk, w.heap[ρ0.σ m]? = some (.cells arr e mk) := fun m hm => by
        obtain ⟨b, hb0, hbk⟩ := cellsAt_spec hm
        have := hI.block m b (.inl hb0)
        rw [(hI.agree m (.inl (hs0 m b hb0).1)).1] at this
        exact cells_obj this hbk
      obtain ⟨f, ρ', hrun, hI'⟩ := serialV (n := n) hc hlen' hb hs0 ht0 hcells _ _ ρ a hI (fun j hj => ⟨by rw [hlen]; exact ((hM j).1 hj).1, ((hM j).1 hj).2⟩) hpw hq
      have hops := hQ _ ρ' f w (fun j hj => ⟨fun h => by
        rcases h with h | h
        · rcases Nat.lt_or_ge j i with h1 | h1
          · exact h1
          · exact absurd h (hno j h1)
        · exact ((hM j).1 h).1, fun h => by
        by_cases hlj : listed[j]? = some true
        · exact .inl hlj
        · exact .inr ((hM j).2 ⟨h, hlj⟩)⟩) hI'
      rw [show ops.size - i = (ops.size - (i + 1)) + 1 by omega] at hops
      obtain ⟨w', hx, hrest⟩ := wpOps_store hQn hp (hst p hp) g1 g2 hops
      have hD2 : ∀ (j : Nat) (q : Oper), ops[j]? = some q → ((fun j => listed[j]? = some true) j ∨ j ∈ M) → j < i := fun j q _ h => by
        rcases h with h | h
        · rcases Nat.lt_or_ge j i with h1 | h1
          · exact h1
          · exact absurd h (hno j h1)
        · exact ((hM j).1 h).1
      have hD3 : ∀ j, j < i → ((fun j => listed[j]? = some true) j ∨ j ∈ M) := fun j hj => by
        by_cases hlj : listed[j]? = some true
        · exact .inl hlj
        · exact .inr ((hM j).2 ⟨hj, hlj⟩)
      obtain ⟨p2, t2, xs, ys, off, s1, s2, s3⟩ := hst2
      rw [hp] at s1; cases s1
      have hxs : f.eval xs = .pointer (some ⟨ρ'.σ n, off, none⟩) := by
        rw [eval_full hc hb hlen hI' hD2 hD3 xs, s3]; rfl
      obtain ⟨bn, hbn1, hbn2⟩ := hnb
      have hbn := hbn1 _ hD3
      obtain ⟨arrn, en, mkn, hobj⟩ := cells_obj (hI'.block n bn hbn) hbn2
      have hsame : ∀ b, b ≠ ρ'.σ n → w'.heap[b]? = w.heap[b]? := by
        refine store_same (P := C.P) (ad := ⟨ρ'.σ n, off, none⟩) (t := t2) (v := f.eval ys) (u := ()) hobj ?_
        have hx2 := hx
        unfold execOp at hx2
        rw [s2] at hx2
        simp only [hxs, Sem.run_bind] at hx2
        cases hr : (Instr.storeAt t2 (.pointer (some ⟨ρ'.σ n, off, none⟩)) (f.eval ys)).run C.P w with
        | halt z w3 => rw [hr] at hx2; cases hx2
        | ok u w3 =>
          rw [hr] at hx2
          have hx3 : Result.ok Next.skip w3 = .ok .skip w' := hx2
          cases hx3
          rfl
      have hto : ∀ (q : Oper) (e : Operand → Value) (v : Value), VW C.P ρ0.σ h0 n w q e = some v → VW C.P ρ0.σ h0 n w' q e = some v := fun q e v hv => by
        obtain ⟨v1, v2, v3⟩ := VW_iff.1 hv
        refine VW_iff.2 ⟨v1, v2, ((cool_steady (w := w) (w' := w') v1 v2 fun m hmn hm => ⟨hcells m hm, hsame _ fun he => hmn ?_⟩).1 _ _ v3).2⟩
        obtain ⟨bm, hbm0, hbmk⟩ := cellsAt_spec hm
        rw [← (hI'.agree m (.inl (hs0 m bm hbm0).1)).1] at he
        exact hI'.inj m n bm bn (.inl hbm0) hbn (mem_cells hbmk) (mem_cells hbn2) he
      have hrun2 := runV_to hto hrun
      unfold wpOpIn
      have hw : Region.wanted p (yielded ops a.tmps) = true := by unfold Region.wanted; rw [g1]
      simp only [hp, hw, if_true]
      refine store_mk (hst p hp) (fun x hxm => ?_) hx ?_
      · refine (runV_keep (fun j hj q t hqj hxt hdt => ?_) hrun).symm
        subst hxt
        obtain ⟨m1, m2⟩ := (hM j).1 hj
        rcases ((baseOk_spec hb hp).2.2.1 j q t hqj hdt).1 (looks_mem hxm) with h | h
        · exact m2 (hanc j h)
        · have := (anc_spec hqj h).1; omega
      · rw [g2]
        have hsplit : (leftOver ops listed).length = M.length + (ops.size - i) := by
          show ((List.range ops.size).filter fun j => !listed.getD j true).length = _
          have e : List.range ops.size = List.range i ++ List.range' i (ops.size - i) := by
            rw [List.range_eq_range', List.range_eq_range', show ops.size = i + (ops.size - i) by omega, ← List.range'_append]
            simp
          rw [e, List.filter_append, List.length_append]
          have h2 : (List.range' i (ops.size - i)).filter (fun j => !listed.getD j true) = List.range' i (ops.size - i) := by
            refine List.filter_eq_self.2 fun j hj => ?_
            rw [List.mem_range'_1] at hj
            have hlt : j < listed.size := by omega
            have := hno j (by omega)
            rw [Array.getElem?_eq_getElem hlt] at this
            rw [Array.getD_eq_getD_getElem?, Array.getElem?_eq_getElem hlt]
            simpa using this
          rw [h2, List.length_range']
        rcases htl with hA | hB
        · refine anyV (VW_congr C.P ρ0.σ h0 n w') (f := f) (m := i + 1) hb (by omega) (fun j q hqj hij => hA j q hqj (by omega)) (fun fl ls e1 e2 e3 => tail_serial hb (fun j q hqj hij => hA j q hqj (by omega)) (ops.size - (i + 1)) (i + 1) fl ls f w' (by omega) (Nat.le_refl _) e1 e2 e3 hrest) fuel M _ a (by simp [hs]) (fun j hj => ?_) (fun j hj => by have := ((hM j).1 hj).1; omega) hpw ?_ (fun j hj q hqj => ⟨fun a v K hv hk => cool_mk hv hk, (hq j hj q hqj).2.1⟩) (fun j q hqj hj d hdm => ?_) hrun2
          · rw [hset, hM]
            constructor
            · rintro (h | h)
              · have hji : j < i := by
                  rcases Nat.lt_or_ge j i with h1 | h1
                  · exact h1
                  · exact absurd h (hno j h1)
                exact ⟨by omega, fun h' => h'.2 h⟩
              · exact ⟨by omega, fun h' => by omega⟩
            · rintro ⟨h1, h2⟩
              by_cases hji : j = i
              · exact .inr hji
              · exact .inl (Classical.byContradiction fun h3 => h2 ⟨by omega, h3⟩)
          · omega
          · rw [hset]
            left
            rcases (hset j).1 hj with h | rfl
            · exact hI.closed j q hqj h d hdm
            · rw [hp] at hqj; cases hqj; exact hdep d hdm
        · obtain ⟨g, hg, hrest2⟩ := quiet_tailV (σ0 := ρ0.σ) (h0 := h0) (n0 := n) (ops.size - (i + 1)) (i + 1) f (by omega) (fun j q hqj hij => ⟨(hB j q hqj (by omega)).1, (hB j q hqj (by omega)).2.1⟩) hrest
          have hin : ∀ j, j ∈ List.range' (i + 1) (ops.size - (i + 1)) ↔ (i < j ∧ j < ops.size) := fun j => by rw [List.mem_range'_1]; omega
          refine anyV (VW_congr C.P ρ0.σ h0 n w') (f := g) (m := ops.size) hb (Nat.le_refl _) (fun j q hqj hij => ?_) (fun fl ls e1 e2 e3 => tail_serial hb (m := ops.size) (fun j q hqj hij => ?_) 0 ops.size fl ls g w' (by omega) (Nat.le_refl _) e1 e2 (by omega) hrest2) fuel (M ++ List.range' (i + 1) (ops.size - (i + 1))) _ a (by simp [hs]) (fun j hj => ?_) (fun j hj => ?_) ?_ ?_ (fun j hj q hqj => ?_) (fun j q hqj hj d hdm => ?_) (runV_append hrun2 hg)
          · rw [Array.getElem?_eq_none hij] at hqj; cases hqj
          · rw [Array.getElem?_eq_none hij] at hqj; cases hqj
          · rw [hset, List.mem_append, hM, hin]
            constructor
            · rintro (h | h)
              · have hji : j < i := by
                  rcases Nat.lt_or_ge j i with h1 | h1
                  · exact h1
                  · exact absurd h (hno j h1)
                exact ⟨hj, fun h' => by rcases h' with h' | h'; exact h'.2 h; omega⟩
              · exact ⟨hj, fun h' => by rcases h' with h' | h' <;> omega⟩
            · rintro ⟨h1, h2⟩
              by_cases hji : j = i
              · exact .inr hji
              · refine .inl (Classical.byContradiction fun h3 => h2 ?_)
                rcases Nat.lt_or_ge j i with h4 | h4
                · exact .inl ⟨h4, h3⟩
                · exact .inr ⟨by omega, hj⟩
          · rcases List.mem_append.1 hj with h | h
            · have := ((hM j).1 h).1; omega
            · exact ((hin j).1 h).2
          · refine List.pairwise_append.2 ⟨hpw, List.pairwise_lt_range', fun x hx y hy => ?_⟩
            have := ((hM x).1 hx).1
            have := ((hin y).1 hy).1
            omega
          · rw [List.length_append, List.length_range']; omega
          · rcases List.mem_append.1 hj with h | h
            · exact ⟨fun a v K hv hk => cool_mk hv hk, (hq j h q hqj).2.1⟩
            · exact ⟨fun a v K hv hk => cool_mk hv hk, (hB j q hqj ((hin j).1 h).1).2.1⟩
          · rw [hset]
            left
            rcases (hset j).1 hj with h | rfl
            · exact hI.closed j q hqj h d hdm
            · rw [hp] at hqj; cases hqj; exact hdep d hdm
    · exfalso
      exact hno k (Nat.le_refl _) (anc_listed (D := fun j => listed[j]? = some true) hI.closed i p hp hdep k (by rcases htl with hA | hB; exact hA i p hp hik k hik; exact (hB i p hp hik).2.2))
    · have s1 := hns i p hik hp
      have hit : L[i]? = some (L[i]'(by omega)) := List.getElem?_eq_getElem (by omega)
      have hnext : ∀ ρ' a' w', Inv w0 ops base h0 tm0 L ρ0 ws ds (fun j => listed[j]? = some true ∨ j = i) ρ' a' w' → wpAnyIn (fenceR rd) 0 C.P .any ops Q fuel (listed.setIfInBounds i true) a' w' := by
        intro ρ' a' w' hI'
        refine ih _ ρ' a' w' (by simp [hs]) (by omega) (fun j hj e => ?_) ?_
        · rcases (hset j).1 e with h | h
          · exact hno j hj h
          · omega
        · have : (fun j => (listed.setIfInBounds i true)[j]? = some true) = (fun j => listed[j]? = some true ∨ j = i) := funext fun j => propext (hset j)
          rw [this]; exact hI'
      obtain ⟨-, -, -, -, hf⟩ := hc.item i _ p hit hp
      have hg := guard_stands hc hlen' hb hI hp hit hdep hDi
      unfold wpOpIn
      simp only [hp]
      rcases hf with ⟨f1, f2, f3, f4, f5⟩ | ⟨f1, f2, f3, f4, s, o, g1, g2, g3, g4, g5, g6, g7, g8⟩ | ⟨f1, -⟩
      rotate_left 2
      · rw [s1] at f1; cases f1
      · rw [f1 ρ a.tmps hg]
        simp only [Bool.false_eq_true, if_false]
        exact ⟨fun _ _ => trivial, hnext ρ _ w (inv_off hb hI hp hit hdep hDi f2 f3)⟩
      · rw [f1 ρ a.tmps hg]
        simp only [if_true]
        obtain ⟨v, k1, k2, k3, k4, k5⟩ := g8
        rw [g4] at k1
        cases k1
        obtain ⟨ρi, hdi, hRep, hstep⟩ := inv_on hc hlen' hb hs0 ht0 hI hp hit hdep hDi g2 g3 g5 g6 g7
        refine k5 rd ρi a w _ Q (fun x hx => by rw [g1, hdi]; exact operand_stands hc hlen' hb hI hp hit hdep hDi x hx) hRep hI.below fun ρ' w' hr' hp' => ?_
        obtain ⟨ρ2, h2⟩ := hstep ρ' w' hr' hp'
        exact hnext ρ2 _ w' h2
end
section
variable {C : Ctx} {G : World → Prop} {w0 : World} {R : Rec}
/-- A region that draws its order, its first store before or behind what is quiet. -/
theorem region_cool (hg : Good C G) {id : Nat} {f : FuncId} {ops : Array Oper} {s : St} {o2 : Out} (hd : coolOk ops = true) (hk : StOK s)
    (h2' : goCool C R f ops s.heap (R (.draw f ops (ops.toList.take (firstStore ops.toList)) s.nxt [] []) s) = some o2) (hl : Holds C G o2.log)
    (hdraw : ∀ o, R (.draw f ops (ops.toList.take (firstStore ops.toList)) s.nxt [] []) s = some o → Holds C G o.log → DrawOK C w0 ops (ops.toList.take (firstStore ops.toList)) s.nxt [] [] s o)
    (htail : ∀ s o, R (.ops f ops (ops.toList.drop (firstStore ops.toList))) s = some o → Holds C G o.log → StOK s → OpsOK C w0 ops (ops.toList.drop (firstStore ops.toList)) s o) : CodeOK C w0 (.region id ops true) s o2 := by
  have hfs : firstStore ops.toList ≤ ops.size := by simpa using firstStore_le ops.toList
  unfold goCool at h2'
  split at h2'
  rotate_left
  · cases h2'
  rename_i s1 l1 c1 k1 hrun
  split at h2'
  rotate_left
  · cases h2'
  rename_i hcf
  obtain ⟨pS, tS, xS, yS, nS, offS, g1, g2, g3, g4, g5⟩ := coolFit_spec hcf
  generalize hm : firstStore ops.toList = m at *
  obtain ⟨o3, hr3, rfl⟩ := behind_eq h2'
  have h := hdraw _ hrun hl.left
  generalize ho : (⟨.normal, s1, l1, ⟨c1, k1⟩⟩ : Out) = o at h
  obtain ⟨L, h1, h2, h3, h4, h5, h6, h7, h8⟩ := h m [] s.tmps hfs rfl rfl rfl rfl rfl (Nat.le_refl _) ⟨fun i it p hi => by simp at hi, fun i it p hi => by simp at hi⟩ (Nat.zero_le _)
  have hs1 : s1 = o.st := by rw [← ho]
  have hl1 : l1 = o.low := by rw [← ho]
  subst hs1
  subst hl1
  obtain ⟨b1, b2, b3, b4⟩ := htail _ _ hr3 hl.right h7
  have hfr := h8.2
  replace h8 := h8.1
  refine ⟨by rw [b1]; rfl, b2, ⟨Nat.le_trans h8 b3.1, by rw [b3.2, hfr]⟩, fun ρ w Q hr hb he => ?_⟩
  unfold fenceOf
  have hs0 : ∀ n b, hget s.heap n = some b → n < s.nxt ∧ AV.okL s.nxt b.cells = true := hr.scope
  refine wpIn_mono (Q := fun x a w => x = .normal ∧ Q x a w) ?_ (fun _ _ _ h => h.2)
  refine wpIn_region_any hg.mixed ?_
  have hI0 : Inv w0 ops s.nxt s.heap s.tmps L ρ w (act ρ s.res.fr s.tmps).defers (fun i => (Array.replicate ops.size false)[i]? = some true) ρ (act ρ s.res.fr s.tmps) { w with drawn := w.drawn + 1 } := by
    have hno : ∀ i, ¬ ((Array.replicate ops.size false)[i]? = some true) := fun i e => by
      rw [Array.getElem?_replicate] at e; split at e <;> simp at e
    have hth : ∀ n b, There s.heap L (fun i => (Array.replicate ops.size false)[i]? = some true) n b → hget s.heap n = some b := fun n b h => by
      rcases h with h | ⟨j, it, hj, -⟩
      · exact h
      · exact absurd hj (hno j)
    exact ⟨fun i p _ hi => absurd hi (hno i), rfl, by simp [act, denL_length], fun j it p t hj => absurd hj (hno j), fun t _ => by simp [act], fun n b hn => (hr.block n b (hth n b hn)).keep (fun k hk hf => ⟨rfl, hf.1, fun n b hn hm => hf.2 n b (hth n b hn) hm⟩) rfl rfl fun _ => rfl, fun n m b c hn hm => hr.inj n m b c (hth n b hn) (hth m c hm),
      fun n b hn => hr.above n b (hth n b hn), fun j it n b hj => absurd hj (hno j), ⟨rfl, rfl⟩, hr.base, fun n b hn => hr.reach n b (hth n b hn), fun n _ => ⟨rfl, rfl⟩, rfl, rfl, rfl, Nat.le_refl _, fun k _ => rfl, hb.drew⟩
  have gth : ∀ D : Nat → Prop, (∀ i, i < L.length → D i) → ∀ n b, hget o.st.heap n = some b → There s.heap L D n b := by
    intro D hD n b hn
    rw [h5, hget_append] at hn
    cases hm : hget (L.map Item.made).flatten n with
    | some c =>
      rw [hm] at hn; cases hn
      obtain ⟨j, hh, hj, hb⟩ := flatten_get' hm
      rw [List.getElem?_map] at hj
      cases hjt : L[j]? with
      | none => rw [hjt] at hj; cases hj
      | some jt =>
        rw [hjt] at hj
        simp only [Option.map_some, Option.some.injEq] at hj
        subst hj
        exact .inr ⟨j, jt, hD j (List.getElem?_eq_some_iff.1 hjt).1, hjt, hb⟩
    | none => rw [hm] at hn; exact .inl hn
  obtain ⟨bS, hbS, hbSk⟩ := cellsAt_spec g4
  refine cool_order (n := nS) (ρ0 := ρ) (ws := w) h2 hd (by omega) ⟨pS, tS, xS, yS, offS, by rw [hm]; exact g1, g2, by rw [hm, ← h4]; exact g3⟩ ⟨bS, fun D hD => gth D hD nS bS hbS, hbSk⟩ ?_ hs0 hk.1 (fun _ _ _ h => h.1) ?_ ops.size _ ρ _ _ (by simp) (by unfold leftOver; exact Nat.le_trans (List.length_filter_le _ _) (by simp)) (fun i _ e => by
    rw [Array.getElem?_replicate] at e; split at e <;> simp at e) hI0
  · rw [hm]
    intro i p it hi hna hp hit ρ1 e hσ1 he1
    obtain ⟨f1, f2⟩ := g5 i hi hna p hp
    have hitm := (h2.item i it p hit hp).1
    refine fitB_spec f1 (fun n b hn => (hs0 n b hn).1) hσ1 fun x hx => ?_
    rw [he1 x hx, hitm, standsFrom_spec f2 (by omega) x hx, h4]
  intro D ρ' a w' hD hI
  -- all is done that may come in any order
  have hD' : ∀ i, i < m → D i := fun i hi => (hD i (by omega)).2 (by omega)
  have hDm : ∀ i p, ops[i]? = some p → D i → i < m := fun i p hp hDi => by
    have hi : i < ops.size := by
      rcases Nat.lt_or_ge i ops.size with h | h
      · exact h
      · simp [Array.getElem?_eq_none h] at hp
    have := (hD i hi).1 hDi
    omega
  rw [h1]
  have hle : s.nxt ≤ nxAt s.nxt L m := by rw [← h6]; exact h8
  have hth : ∀ n b, hget o.st.heap n = some b → There s.heap L D n b := by
    intro n b hn
    rw [h5, hget_append] at hn
    cases hm : hget (L.map Item.made).flatten n with
    | some c =>
      rw [hm] at hn; cases hn
      obtain ⟨j, hh, hj, hb⟩ := flatten_get' hm
      rw [List.getElem?_map] at hj
      cases hjt : L[j]? with
      | none => rw [hjt] at hj; cases hj
      | some jt =>
        rw [hjt] at hj
        simp only [Option.map_some, Option.some.injEq] at hj
        subst hj
        exact .inr ⟨j, jt, hD' j (by have := (List.getElem?_eq_some_iff.1 hjt).1; omega), hjt, hb⟩
    | none => rw [hm] at hn; exact .inl hn
  have hσ : ∀ n, n < s.nxt → ρ'.σ n = ρ.σ n := fun n hn => (hI.agree n (.inl hn)).1
  have ha : a = act ρ' o.st.res.fr o.st.tmps := by
    obtain ⟨tmps, defers⟩ := a
    have hdf := hI.defers
    simp only [act] at hdf
    subst hdf
    rw [hfr]
    unfold act
    rw [marks_eq hσ hk.2]
    congr 1
    rw [h4]
    apply Array.ext'
    apply List.ext_getElem?
    intro t
    rw [Array.getElem?_toList]
    by_cases hex : ∃ (j : Nat) (q : Oper), j < m ∧ ops[j]? = some q ∧ q.dst = some t
    · obtain ⟨j, q, hj, hq, hdq⟩ := hex
      have hjt : L[j]? = some L[j] := List.getElem?_eq_getElem (by omega)
      rcases Nat.lt_or_ge t s.tmps.length with hlt | hge
      · have e1 := hI.put j _ q t (hD' j hj) hjt hq hdq hlt
        simp only at e1
        rw [e1, denL_map, List.getElem?_map, tmAt_put hjt hq hdq hlt (fun k r hk hr hdr => ((baseOk_spec (coolOk_spec hd).1 hr).2.2.1 j q t hq hdq).2 hk hdr) hj]
        rfl
      · have hsz := hI.size
        simp only at hsz
        rw [Array.getElem?_eq_none (by omega), denL_map, List.getElem?_map, List.getElem?_eq_none (by rw [tmAt_length]; exact hge)]; rfl
    · have hno : ∀ (j : Nat) (q : Oper), j < m → ops[j]? = some q → q.dst ≠ some t := fun j q hj hq hdq => hex ⟨j, q, hj, hq, hdq⟩
      have e1 := hI.left t (fun j q hDj hq => hno j q (hDm j q hq hDj) hq)
      simp only at e1
      rw [e1, denL_map, denL_map, List.getElem?_map, List.getElem?_map, tmAt_keep (fun j q hj hq => hno j q hj hq)]
  have hmade : ∀ n b, hget o.st.heap n = some b → ¬ hget s.heap n = some b → s.nxt ≤ n ∧ n < o.st.nxt ∧ AV.okL o.st.nxt b.cells = true ∧ (b.mem = true → w.heap.size ≤ ρ'.σ n) := by
    intro n b hn hne
    rcases hth n b hn with h | ⟨j, jt, hDj, hjt, hb⟩
    · exact absurd h hne
    · obtain ⟨m1, m2, m3, m4⟩ := hI.made j jt n b hDj hjt hb
      have := base_le h2 (by omega) hjt
      rw [h1] at this
      rw [h6]
      exact ⟨by omega, by omega, okL_mono (by omega) _ m3, m4⟩
  rw [ha]
  have hRep : Rep w0.heap.size ρ' o.st.heap o.st.nxt w' := by
    refine ⟨fun n b hn => (hI.block n b (hth n b hn)).keep (Keep.wide fun k hk hf => ⟨hf.1, fun n b hn hm => hf.2 n b (hth n b hn) hm⟩) rfl rfl fun _ => rfl, fun n m b c hn hm => hI.inj n m b c (hth n b hn) (hth m c hm), fun n b hn => ?_, fun n b hn => hI.above n b (hth n b hn), by rw [hI.area.2]; exact Nat.le_trans hI.ground hI.wsize, fun n b hn => hI.reach n b (hth n b hn)⟩
    by_cases hne : hget s.heap n = some b
    · obtain ⟨q1, q2⟩ := hs0 n b hne
      exact ⟨by rw [h6]; omega, okL_mono (by rw [h6]; exact hle) _ q2⟩
    · obtain ⟨-, q1, q2, -⟩ := hmade n b hn hne
      exact ⟨q1, q2⟩
  have hPost : Post ρ ρ' s.heap o.st.heap s.nxt o.st.nxt o.low w w' := by
    refine ⟨fun n hn => hI.agree n (by rw [h1, ← h6]; exact hn), hI.area, h8, hI.os, hI.tape, hI.output, hI.wsize, fun k hk _ => hI.frame k hk, fun n b hn hbm => ?_, fun n hl hx => ?_⟩
    · by_cases hne : hget s.heap n = some b
      · exact .inl ⟨n, b, hne, hbm, (hI.agree n (.inl (hs0 n b hne).1)).1, .inl rfl⟩
      · exact .inr ((hmade n b hn hne).2.2.2 hbm)
    · rw [h5, hget_append]
      cases hm : hget (L.map Item.made).flatten n with
      | none => rfl
      | some c =>
        obtain ⟨j, hh, hj, hb⟩ := flatten_get' hm
        rw [List.getElem?_map] at hj
        cases hjt : L[j]? with
        | none => rw [hjt] at hj; cases hj
        | some jt =>
          rw [hjt] at hj
          simp only [Option.map_some, Option.some.injEq] at hj
          subst hj
          have hjl := (List.getElem?_eq_some_iff.1 hjt).1
          obtain ⟨m1, -⟩ := hI.made j jt n c (hD' j (by omega)) hjt hb
          have := base_le h2 (by omega) hjt
          omega
  simp only [b1] at he
  have b4' := fun Q => b4 m rfl ρ' w' Q
  have he2 := he.trans (x := .normal) (l := ⟨c1 ++ o3.log.conds, k1 ++ o3.log.calls⟩) hr hRep hPost
  have hfe := fence_eq (ρ := ρ) (ρ1 := ρ') hσ hk.2 (show o.st.res.fr.rnd = s.res.fr.rnd by rw [hfr])
  rw [hfe] at b4'
  exact b4' _ hRep (below_of_post hr hPost hb) (fun ρ2 w2 r2 p2 => ⟨rfl, he2 ρ2 w2 r2 p2⟩)
end
end Go.Ev
/- An append touches no block but the one that it appends to. -/
namespace Go.Ev
open Go.RowKit
theorem storeCells_row {P : Program} {a : Addr} {e : TypeId} {mk : Nat × Nat} : ∀ (vs : List Value) (i : Nat) {w w' : World} {u : Unit} {arr : Array Value}, w.heap[a.block]? = some (.cells arr e mk) → (storeCells a vs i).run P w = .ok u w' → w'.heap.size = w.heap.size ∧ ∃ arr', w'.heap[a.block]? = some (.cells arr' e mk)
  | [], i, w, w', u, arr, h1, h => by
    have h' : Result.ok () w = .ok u w' := h
    cases h'
    exact ⟨rfl, arr, h1⟩
  | v :: vs, i, w, w', u, arr, h1, h => by
    unfold storeCells at h
    rw [Sem.run_bind] at h
    have hblk : (a.add i).block = a.block := by unfold Addr.add; split <;> rfl
    cases hr : (store (a.add i) v).run P w with
    | halt z w3 => rw [hr] at h; cases h
    | ok u3 w3 =>
      rw [hr] at h
      have h : (storeCells a vs (i + 1)).run P w3 = .ok u w' := h
      have hw3 : w3 = w.setCell (a.add i) v := by
        have key : ∀ v : Value, (∀ cs, v ≠ .agg cs) → (∀ cs, v ≠ .tuple cs) → (store (a.add i) v).run P w = .ok u3 w3 → w3 = w.setCell (a.add i) v := fun v k1 k2 hr => by
          have e : (store (a.add i) v).run P w = (match w.cell? (a.add i) with
            | some _ => if w.frozen? (a.add i) then Result.halt (.unsupported (.unsafePointer "a write to bytes that a string shares")) w else Result.ok () (w.setCell (a.add i) v)
            | none => match World.farStore P w (a.add i) v (Mode.plain == Mode.atomic) with
              | .ok (w, _) => Result.ok () w
              | .error h => .halt h w) := by
            unfold store Sem.run
            cases v <;> first | exact absurd rfl (k1 _) | exact absurd rfl (k2 _) | rfl
          rw [e] at hr
          split at hr
          · split at hr
            · cases hr
            · cases hr; rfl
          · simp only [World.farStore, hblk, h1] at hr
            cases hr
        cases v with
        | agg cs => have h' : Result.halt (.stuck "store: not the value of one cell") w = Result.ok u3 w3 := hr; cases h'
        | tuple cs => have h' : Result.halt (.stuck "store: not the value of one cell") w = Result.ok u3 w3 := hr; cases h'
        | _ => exact key _ (by simp) (by simp) hr
      subst hw3
      have hget : ∃ arr', (w.setCell (a.add i) v).heap[a.block]? = some (.cells arr' e mk) := by
        unfold World.setCell
        simp only [hblk, Array.getElem?_modify, if_true, h1, Option.map_some]
        exact ⟨_, rfl⟩
      obtain ⟨arr', hget⟩ := hget
      obtain ⟨q1, q2⟩ := storeCells_row vs (i + 1) hget h
      refine ⟨?_, q2⟩
      rw [q1]
      unfold World.setCell
      simp
structure NearW (B : Nat) (w0 w : World) : Prop where
  size : w0.heap.size ≤ w.heap.size
  same : ∀ b, b < w0.heap.size → b ≠ B → w.heap[b]? = w0.heap[b]?
  row : ∃ arr e mk, w.heap[B]? = some (.cells arr e mk)
def Near {α : Type} (P : Program) (B : Nat) (w0 : World) (s : Sem α) : Prop := ∀ w v w', NearW B w0 w → s.run P w = .ok v w' → NearW B w0 w'
section
variable {P : Program} {B : Nat} {w0 : World} {α β : Type}
theorem near_bind {s : Sem α} {f : α → Sem β} (h1 : Near P B w0 s) (h2 : ∀ v, Near P B w0 (f v)) : Near P B w0 (s >>= f) := fun w v w' hn h => by
  rw [Sem.run_bind] at h
  cases hs : s.run P w with
  | halt z w3 => rw [hs] at h; cases h
  | ok u w3 =>
    rw [hs] at h
    exact h2 u w3 v w' (h1 w u w3 hn hs) h
theorem near_steady {s : Sem α} (h : ∀ w, NearW B w0 w → Steady P w w s) : Near P B w0 s := fun w v w' hn hr => by
  obtain ⟨rfl, -⟩ := h w hn v w' hr
  exact hn
theorem near_pure (a : α) : Near P B w0 (pure a : Sem α) := near_steady fun _ _ => steady_pure a
theorem near_halt (z : Halt) : Near P B w0 (.halt z : Sem α) := near_steady fun _ _ => steady_halt z
theorem near_never {s : Sem α} (h : ∀ w v w', s.run P w ≠ .ok v w') : Near P B w0 s := fun w v w' _ hr => absurd hr (h w v w')
theorem never_bind {s : Sem α} {f : α → Sem β} (h : ∀ u w v w', (f u).run P w ≠ .ok v w') : ∀ w v w', (s >>= f).run P w ≠ .ok v w' := fun w v w' hr => by
  rw [Sem.run_bind] at hr
  cases hs : s.run P w with
  | halt z w3 => rw [hs] at hr; cases hr
  | ok u w3 => rw [hs] at hr; exact h u w3 v w' hr
theorem near_underlying (t : TypeId) : Near P B w0 (underlying t) := near_steady fun _ _ => steady_underlying t
theorem near_info (t : TypeId) : Near P B w0 (typeInfo t) := near_steady fun _ _ => steady_info t
theorem near_sizeOf (t : TypeId) : Near P B w0 (sizeOf t) := near_steady fun _ _ => steady_sizeOf t
theorem push_lt' {α : Type} {a : Array α} {x : α} {i : Nat} (h : i < a.size) : (a.push x)[i]? = a[i]? := by
  rw [Array.getElem?_push]; split
  · omega
  · rfl
theorem NearW.heap {w w' : World} (hn : NearW B w0 w) (h : w'.heap = w.heap) : NearW B w0 w' := ⟨by rw [h]; exact hn.size, by rw [h]; exact hn.same, by rw [h]; exact hn.row⟩
theorem near_choose (q : Question) : Near P B w0 (choose q) := fun w v w' hn h => by
  refine hn.heap ?_
  unfold choose at h
  simp only [Sem.run] at h
  split at h
  · have h' : Result.ok _ _ = Result.ok v w' := h
    cases h'
    rfl
  · have h' : Result.ok _ _ = Result.ok v w' := h
    cases h'
    rfl
theorem near_mark (m : Mark) : Near P B w0 (mark m) := fun w v w' hn h => by
  have h' : Result.ok () w = .ok v w' := h
  cases h'
  exact hn
theorem near_newRow (e : TypeId) (cs : Array Value) : Near P B w0 (newRow e cs) := fun w v w' hn h => by
  rw [run_newRow] at h
  cases h
  have hB : B < w.heap.size := by
    obtain ⟨arr, e, mk, hr⟩ := hn.row
    rcases Nat.lt_or_ge B w.heap.size with h1 | h1
    · exact h1
    · rw [Array.getElem?_eq_none h1] at hr; cases hr
  refine ⟨by simp; have := hn.size; omega, fun b hb hne => ?_, ?_⟩
  · rw [← hn.same b hb hne]
    exact push_lt' (by have := hn.size; omega)
  · obtain ⟨arr, e, mk, hr⟩ := hn.row
    refine ⟨arr, e, mk, ?_⟩
    rw [← hr]
    exact push_lt' hB
theorem near_load1 (a : Addr) : Near P B w0 (load a) := fun w v w' hn h => by
  unfold load at h
  simp only [Sem.run] at h
  split at h
  · have h' : Result.ok _ w = Result.ok v w' := h
    cases h'
    exact hn
  · split at h
    · have h' : Result.ok _ w = Result.ok v w' := h
      cases h'
      exact hn
    · cases h
theorem near_load (A : Addr) : ∀ (n i : Nat) (acc : Array Value), Near P B w0 (loadCellsFrom A i n acc)
  | 0, i, acc => near_pure _
  | n + 1, i, acc => by
    unfold loadCellsFrom
    exact near_bind (near_load1 _) fun v => near_load A n (i + 1) _
theorem near_store {A : Addr} (hA : A.block = B) (vs : List Value) : Near P B w0 (storeCells A vs) := fun w v w' hn h => by
  obtain ⟨arr, e, mk, hr⟩ := hn.row
  obtain ⟨q1, arr', q2⟩ := storeCells_row vs 0 (by rw [hA]; exact hr) h
  rw [hA] at q2
  refine ⟨by rw [q1]; exact hn.size, fun b hb hne => ?_, arr', e, mk, q2⟩
  rw [storeCells_same vs 0 (by rw [hA]; exact hr) h b (by rw [hA]; exact hne), hn.same b hb hne]
theorem near_zeroValue (t : TypeId) : Near P B w0 (zeroValue t) := near_steady fun _ _ => by
  unfold zeroValue
  refine steady_bind (steady_info t) fun i => ?_
  split
  · exact steady_pure _
  · exact steady_halt _
theorem near_first (size n : Nat) (x : Value) : Near P B w0 (Builtin.firstCells size n x) := by
  unfold Builtin.firstCells
  split
  · exact near_load _ _ _ _
  · exact near_pure _
  · exact near_pure _
  · exact near_halt _
theorem near_lenOf (x : Value) : Near P B w0 (Builtin.lenOf x) := by
  unfold Builtin.lenOf
  split
  · exact near_pure _
  · exact near_pure _
  · exact near_halt _
theorem near_room (b : Nat) : Near P B w0 (askRoom b) := by
  unfold askRoom
  split
  · exact near_mark _
  · exact near_pure _
theorem near_runtimePanic (m : String) : Near P B w0 (runtimePanic (.error m) : Sem α) := near_never fun w v w' h => by
  unfold runtimePanic goPanic at h
  cases h
theorem near_asInt (x : Value) : Near P B w0 (asInt x) := near_steady fun w _ => by
  unfold asInt
  exact steady_bind (steady_int x) fun _ => steady_pure _
theorem near_unsupported (z : Unsupported) : Near P B w0 (unsupported z : Sem α) := near_halt _
theorem near_then {s : Sem α} {f : α → Sem β} (h : ∀ u w v w', (f u).run P w ≠ .ok v w') : Near P B w0 (s >>= f) := near_never (never_bind h)
theorem near_shape (r : Nat) : Near P B w0 (shape r) := fun w v w' hn h => by
  have h' : Result.ok _ w = .ok v w' := h
  cases h'
  exact hn
theorem near_frozen (a : Addr) : Near P B w0 (frozen a) := fun w v w' hn h => by
  have h' : Result.ok _ w = .ok v w' := h
  cases h'
  exact hn
theorem near_ite {c : Prop} [Decidable c] {s t : Sem α} (h1 : Near P B w0 s) (h2 : Near P B w0 t) : Near P B w0 (if c then s else t) := by
  split
  · exact h1
  · exact h2
set_option maxHeartbeats 4000000 in
theorem near_append {t u ty : TypeId} {off len cap : Nat} {y : Value} : Near P B w0 (Builtin.append_ #[t, u] ty #[.slice (some ⟨B, off, none⟩) len cap, y]) := by
  unfold Builtin.append_
  refine near_bind (near_underlying t) fun d => ?_
  split
  · rename_i elem
    show Near P B w0 (sizeOf elem >>= _)
    repeat' (first
      | exact near_pure _
      | exact near_halt _
      | exact near_unsupported _
      | exact near_runtimePanic _
      | exact near_underlying _
      | exact near_info _
      | exact near_sizeOf _
      | exact near_zeroValue _
      | exact near_choose _
      | exact near_mark _
      | exact near_room _
      | exact near_first _ _ _
      | exact near_lenOf _
      | exact near_asInt _
      | exact near_newRow _ _
      | exact near_store (by unfold Addr.add; split <;> rfl) _
      | exact near_then (never_bind fun _ _ _ _ h => by cases h)
      | refine near_bind ?_ fun _ => ?_
      | refine near_ite ?_ ?_
      | exact near_shape _
      | exact near_frozen _
      | dsimp only
      | split)
  · exact near_halt _
set_option maxHeartbeats 4000000 in
theorem near_append_nil {t u ty : TypeId} {len cap : Nat} {y : Value} : Near P B w0 (Builtin.append_ #[t, u] ty #[.slice none len cap, y]) := by
  unfold Builtin.append_
  refine near_bind (near_underlying t) fun d => ?_
  split
  · rename_i elem
    show Near P B w0 (sizeOf elem >>= _)
    repeat' (first
      | exact near_pure _
      | exact near_halt _
      | exact near_unsupported _
      | exact near_runtimePanic _
      | exact near_underlying _
      | exact near_info _
      | exact near_sizeOf _
      | exact near_zeroValue _
      | exact near_choose _
      | exact near_mark _
      | exact near_room _
      | exact near_first _ _ _
      | exact near_lenOf _
      | exact near_asInt _
      | exact near_newRow _ _
      | exact near_store (by unfold Addr.add; split <;> rfl) _
      | exact near_then (never_bind fun _ _ _ _ h => by cases h)
      | refine near_bind ?_ fun _ => ?_
      | refine near_ite ?_ ?_
      | exact near_shape _
      | exact near_frozen _
      | dsimp only
      | split)
  · exact near_halt _
end
end Go.Ev
/- Running the program's functions on values that are known in part: appends in regions that draw their order. -/
namespace Go.Ev
open Go.RowKit
def isRow (b : ABlock) : Bool := match b.kind with
  | .cells => true
  | .big _ => true
  | _ => false
theorem rowAt_spec {h : AHeap} {n : Nat} (e : rowAt h n = true) : ∃ b, hget h n = some b ∧ isRow b = true := by
  unfold rowAt at e
  split at e
  · rename_i b hb
    refine ⟨b, hb, ?_⟩
    unfold isRow
    split at e <;> simp_all
  · cases e
theorem row_mem {b : ABlock} (h : isRow b = true) : b.mem = true := by
  unfold isRow at h
  unfold ABlock.mem
  split at h <;> simp_all
theorem row_obj {A : Nat → Prop} {w : World} {ρ : Env} {b : ABlock} {kp : Kap} {o : Option Obj} (h : BlockOK A w ρ b kp o) (hk : isRow b = true) : ∃ arr e mk, o = some (.cells arr e mk) := by
  unfold BlockOK at h
  unfold isRow at hk
  split at hk
  · rename_i hk2
    rw [hk2] at h
    obtain ⟨arr, e, rest, h1, -⟩ := h
    exact ⟨arr, e, _, h1⟩
  · rename_i hk2
    rw [hk2] at h
    obtain ⟨arr, e, rest, vs, h1, -⟩ := h
    exact ⟨arr, e, _, h1⟩
  · cases hk
theorem rowName_den {v : AV} {n : Nat} (h : rowName v = some n) (ρ : Env) : ∃ off len cap, v.den ρ = .slice (some ⟨ρ.σ n, off, none⟩) len cap := by
  unfold rowName at h
  split at h
  · cases h; exact ⟨_, _, _, rfl⟩
  · cases h; exact ⟨_, _, _, rfl⟩
  · cases h; exact ⟨_, _, _, rfl⟩
  · cases h
theorem exec_app {P : Program} {w : World} {p : Oper} {c : Call} (hp : p.op = .call c) (hc : c.callee = .builtin .append) (e : Operand → Value) : execOp e p = (do let v ← Builtin.append_ c.argTypes p.type (c.args.map e); pure (.value v)) := by
  obtain ⟨dst, op, type, pos, after, guard⟩ := p
  simp only at hp
  subst hp
  obtain ⟨callee, args, argTypes⟩ := c
  simp only at hc
  subst hc
  rfl
theorem app_ran {P : Program} {w w' : World} {p : Oper} {c : Call} (hp : p.op = .call c) (hc : c.callee = .builtin .append) {e : Operand → Value} {nx : Next} (h : (execOp e p).run P w = .ok nx w') : ∃ v, nx = .value v ∧ (Builtin.append_ c.argTypes p.type (c.args.map e)).run P w = .ok v w' := by
  rw [exec_app (P := P) (w := w) hp hc, Sem.run_bind] at h
  cases hr : (Builtin.append_ c.argTypes p.type (c.args.map e)).run P w with
  | halt z w3 => rw [hr] at h; cases h
  | ok v w3 =>
    rw [hr] at h
    have h' : Result.ok (Next.value v) w3 = .ok nx w' := h
    cases h'
    exact ⟨v, rfl, rfl⟩
theorem app_near {P : Program} {w w' : World} {p : Oper} {c : Call} {B : Nat} (hp : p.op = .call c) (hc : c.callee = .builtin .append) {x y : Operand} {t u : TypeId} (ha : c.args = #[x, y]) (ht : c.argTypes = #[t, u]) {e : Operand → Value} {off len cap : Nat} (hx : e x = .slice (some ⟨B, off, none⟩) len cap) {w0 : World} (hn : NearW B w0 w) {v : Value} (h : (execOp e p).run P w = .ok (.value v) w') : NearW B w0 w' := by
  obtain ⟨v2, hv, hr⟩ := app_ran hp hc h
  rw [ha, ht] at hr
  have hr2 : (Builtin.append_ #[t, u] p.type #[.slice (some ⟨B, off, none⟩) len cap, e y]).run P w = .ok v2 w' := by
    rw [← hx]
    simpa using hr
  exact near_append w v2 w' hn hr2
theorem app_near_nil {P : Program} {w w' : World} {p : Oper} {c : Call} {B : Nat} (hp : p.op = .call c) (hc : c.callee = .builtin .append) {x y : Operand} {t u : TypeId} (ha : c.args = #[x, y]) (ht : c.argTypes = #[t, u]) {e : Operand → Value} {len cap : Nat} (hx : e x = .slice none len cap) {w0 : World} (hn : NearW B w0 w) {v : Value} (h : (execOp e p).run P w = .ok (.value v) w') : NearW B w0 w' := by
  obtain ⟨v2, hv, hr⟩ := app_ran hp hc h
  rw [ha, ht] at hr
  have hr2 : (Builtin.append_ #[t, u] p.type #[.slice none len cap, e y]).run P w = .ok v2 w' := by
    rw [← hx]
    simpa using hr
  exact near_append_nil w v2 w' hn hr2
theorem isNilS_den {v : AV} (h : isNilS v = true) (ρ : Env) : ∃ len cap, v.den ρ = .slice none len cap := by
  unfold isNilS at h
  split at h
  · exact ⟨_, _, rfl⟩
  · cases h
theorem app_mk {P : Program} {rd : Option Nat} {p : Oper} {c : Call} (hp : p.op = .call c) (hc : c.callee = .builtin .append) {a b : Act} {w w' : World} {v : Value} {K : Act → World → Prop} {Q : Exit → Act → World → Prop} (he : ∀ x ∈ p.op.operands, b.eval x = a.eval x) (h : (execOp a.eval p).run P w = .ok (.value v) w') (hk : K (b.put p.dst v) w') : p.wpIn (fenceR rd) 0 P b w K Q := by
  have hdf : isDefer p.op = false := by rw [hp]; rfl
  have e : execOp b.eval p = execOp a.eval p := by
    rw [exec_app (P := P) (w := w) hp hc, exec_app (P := P) (w := w) hp hc]
    congr 2
    apply Array.map_congr_left
    intro x hx
    exact he x (by rw [hp]; simp [Op.operands, Call.operands, hx])
  refine wpIn_op hdf ?_
  rw [e, h]
  exact hk
section
variable {C : Ctx} {w0 : World} {ops : Array Oper} {base : Nat} {h0 : AHeap} {tm0 : List AV} {L : List Item} {ρ0 : Env} {ws : World} {ds : List Deferred} {rd : Option Nat}
theorem wpOps_app {P : Program} {Q : Exit → Act → World → Prop} (hQ : ∀ x a w, Q x a w → x = .normal) {k n : Nat} {p : Oper} {c : Call} (hp : ops[k]? = some p) (h1 : p.op = .call c) (h2 : c.callee = .builtin .append) (hg : p.guard = none) {a : Act} {w : World}
    (h : wpOpsIn (fenceR rd) 0 P ops Q (List.range' k (n + 1)) a w) : ∃ v w', (execOp a.eval p).run P w = .ok (.value v) w' ∧ wpOpsIn (fenceR rd) 0 P ops Q (List.range' (k + 1) n) (a.put p.dst v) w' := by
  rw [List.range'_succ, wpOpsIn_cons] at h
  unfold wpOpIn at h
  have hw : Region.wanted p (yielded ops a.tmps) = true := by unfold Region.wanted; rw [hg]
  simp only [hp, hw, if_true] at h
  have hdf : isDefer p.op = false := by rw [h1]; rfl
  replace h := wpIn_inv hdf h
  cases hr : (execOp a.eval p).run P w with
  | ok nx w' =>
    obtain ⟨v, rfl, -⟩ := app_ran h1 h2 hr
    rw [hr] at h
    exact ⟨v, w', rfl, h⟩
  | halt z w' =>
    rw [hr] at h
    cases z <;> simp [Oper.uponIn] at h
    have := hQ _ _ _ h; cases this
theorem runV_put {V : VF} (hV : CongrV V) {d : Option Tmp} {u : Value} : ∀ {M : List Nat} {a f : Act}, (∀ j ∈ M, ∀ q t, ops[j]? = some q → d = some t → t ∉ q.looksAt ops ∧ q.dst ≠ some t) → runV V ops M a = some f → runV V ops M (a.put d u) = some (f.put d u)
  | [], a, f, _, h => by cases h; rfl
  | j :: M, a, f, hj, h => by
    obtain ⟨q, v, hq, hv, h⟩ := runV_cons h
    have hv2 : V q (a.put d u).eval = some v := by
      rw [← hv]
      exact hV q _ _ fun x hx => eval_put fun t ht hd => by subst ht; exact (hj j List.mem_cons_self q t hq hd).1 (looks_mem hx)
    rw [runV_mk hq hv2, put_comm (fun t ht => (hj j List.mem_cons_self q t hq ht).2)]
    exact runV_put hV (fun j hj' => hj j (List.mem_cons_of_mem _ hj')) h
theorem appOk_spec {k : Nat} (h : appOk ops k = true) : baseOk ops = true ∧ k < ops.size ∧ k ≤ firstStore ops.toList ∧ (∀ (i : Nat) (p : Oper), ops[i]? = some p →
    (i < k → i ∈ anc (before ops.toList []) k ∨ (coolOp p.op = true ∧ p.guard = none)) ∧ (i = k → p.guard = none ∧ isApp p.op = true)) ∧
    (∀ (i : Nat) (p : Oper), ops[i]? = some p → k < i → ∀ j, j < i → j ∈ anc (before ops.toList []) i) := by
  have hbare : ∀ p : Oper, bare p = true → p.guard = none := fun p h => by
    unfold bare at h; split at h
    · assumption
    · cases h
  have hsz : ∀ (i : Nat) (p : Oper), ops[i]? = some p → i < ops.size := fun i p hp => by
    rcases Nat.lt_or_ge i ops.size with h | h
    · exact h
    · simp [Array.getElem?_eq_none h] at hp
  have hany : ∀ (i k : Nat), ((before ops.toList []).getD i []).any (Nat.beq k) = true → k ∈ anc (before ops.toList []) i := fun i k h => by
    simp only [List.any_eq_true] at h
    obtain ⟨l, hl, hb⟩ := h
    have := Nat.eq_of_beq_eq_true hb
    subst this
    exact hl
  unfold appOk appOk1 at h
  simp only [Bool.and_eq_true, List.all_eq_true, List.mem_range] at h
  obtain ⟨h1, ⟨h2, h2b⟩, h3⟩ := h
  refine ⟨h1, blt_lt h2, ble_le h2b, fun i p hp => ?_, fun i p hp hki => ?_⟩
  · have h3 := h3 i (hsz i p hp)
    rw [hp] at h3
    simp only at h3
    split at h3
    · rename_i e
      have e := blt_lt e
      simp only [Bool.or_eq_true, Bool.and_eq_true] at h3
      refine ⟨fun _ => ?_, fun h => by omega⟩
      rcases h3 with h6 | h6
      · exact .inl (hany _ _ h6)
      · exact .inr ⟨h6.1, hbare p h6.2⟩
    · rename_i e
      have e : ¬ i < k := fun h => by
        have : Nat.blt i k = true := by simpa [Nat.blt_eq] using h
        rw [this] at e; cases e
      split at h3
      · simp only [Bool.and_eq_true] at h3
        exact ⟨fun h => absurd h e, fun _ => ⟨hbare p h3.1, h3.2⟩⟩
      · rename_i e2
        exact ⟨fun h => absurd h e, fun h => by rw [h] at e2; simp at e2⟩
  · have h3 := h3 i (hsz i p hp)
    rw [hp] at h3
    simp only at h3
    split at h3
    · rename_i e
      have e := blt_lt e
      omega
    · split at h3
      · rename_i e2
        have := Nat.eq_of_beq_eq_true e2
        omega
      · exact anc_full hp (Nat.eq_of_beq_eq_true h3)
theorem isApp_spec {op : Op} (h : isApp op = true) : ∃ c, op = .call c ∧ c.callee = .builtin .append := by
  unfold isApp at h
  split at h
  · rename_i c
    split at h
    · rename_i hc
      exact ⟨c, rfl, hc⟩
    · cases h
  · cases h
theorem appOk_app {k : Nat} (h : appOk ops k = true) : ∀ p, ops[k]? = some p → isApp p.op = true := fun p hp => (((appOk_spec h).2.2.2.1 k p hp).2 rfl).2
theorem appFit_spec {P : Program} {k : Nat} {h : AHeap} {tm : List AV} {h1 : AHeap} (ha : ∀ p, ops[k]? = some p → isApp p.op = true) (e : appFit P ops k h tm h1 = true) : ∃ (p : Oper) (c : Call) (x y : Operand) (t u : TypeId) (n : Nat), ops[k]? = some p ∧ p.op = .call c ∧ c.callee = .builtin .append ∧ c.args = #[x, y] ∧ c.argTypes = #[t, u] ∧ appRow (aeval tm x) (aeval tm y) = some n ∧ rowAt h1 n = true ∧
    ∀ i, i < k → i ∉ anc (before ops.toList []) k → ∀ q, ops[i]? = some q → fitB P h tm n q.op = true ∧ standsFrom ops i k q.op = true := by
  unfold appFit at e
  split at e
  rotate_left
  · cases e
  rename_i p hp
  split at e
  rotate_left
  · cases e
  rename_i c hop
  split at e
  rotate_left
  · cases e
  rename_i x y t u hargs htys
  split at e
  rotate_left
  · cases e
  rename_i ee n m hu hn hm
  simp only [Bool.and_eq_true, List.all_eq_true, List.mem_range, Bool.or_eq_true] at e
  obtain ⟨c2, hc2, hc3⟩ := isApp_spec (ha p hp)
  rw [hop] at hc2; cases hc2
  refine ⟨p, c, x, y, t, u, n, hp, hop, hc3, Array.ext' hargs, Array.ext' htys, hn, e.1.1, fun i hi hna q hq => ?_⟩
  rcases e.2 i hi with h6 | h6
  · refine absurd ?_ hna
    simp only [List.any_eq_true] at h6
    obtain ⟨l, hl, hb⟩ := h6
    have := Nat.eq_of_beq_eq_true hb
    subst this
    exact hl
  · rw [hq] at h6
    simpa using h6
theorem hard_order {n k : Nat} (hc : Chain C w0 ops base h0 tm0 L) (hd : appOk ops k = true) (hlen : L.length = k) (hst2 : ∃ (p : Oper) (c : Call) (x y : Operand) (t u : TypeId), ops[k]? = some p ∧ p.op = .call c ∧ c.callee = .builtin .append ∧ c.args = #[x, y] ∧ c.argTypes = #[t, u] ∧ appRow (aeval (tmAt ops tm0 L k) x) (aeval (tmAt ops tm0 L k) y) = some n) (hnb : ∃ b, (∀ D : Nat → Prop, (∀ i, i < L.length → D i) → There h0 L D n b) ∧ isRow b = true) (hfit : ∀ (i : Nat) (p : Oper) (it : Item), i < k → i ∉ anc (before ops.toList []) k → ops[i]? = some p → L[i]? = some it → ∀ (ρ : Env) (e : Operand → Value), (∀ m, m < base → ρ.σ m = ρ0.σ m) → (∀ x ∈ p.op.operands, e x = (aeval it.tm x).den ρ) → Fit C.P ρ0.σ h0 n p.op e) (hs0 : ∀ n b, hget h0 n = some b → n < base ∧ AV.okL base b.cells = true) (ht0 : AV.okL base tm0 = true)
    {Q : Exit → Act → World → Prop} (hQn : ∀ x a w, Q x a w → x = .normal) (hQ : ∀ D ρ a w, (∀ i, i < ops.size → (D i ↔ i < L.length)) → Inv w0 ops base h0 tm0 L ρ0 ws ds D ρ a w → wpOpsIn (fenceR rd) 0 C.P ops Q (List.range' L.length (ops.size - L.length)) a w) :
    ∀ (fuel : Nat) (listed : Array Bool) (ρ : Env) (a : Act) (w : World), listed.size = ops.size → (leftOver ops listed).length ≤ fuel → (∀ i, L.length ≤ i → listed[i]? ≠ some true) → Inv w0 ops base h0 tm0 L ρ0 ws ds (fun i => listed[i]? = some true) ρ a w →
      wpAnyIn (fenceR rd) 0 C.P .any ops Q fuel listed a w := by
  obtain ⟨hb, hk, hkf, hspec, htl⟩ := appOk_spec hd
  have hns : ∀ i p, i < k → ops[i]? = some p → isStore p.op = false := fun i p hi hp => firstStore_not ops.toList i p (by omega) (by simpa using hp)
  rw [hlen] at hQ hnb ⊢
  have hlen' : L.length ≤ ops.size := by omega
  have hleft : ∀ listed : Array Bool, listed.size = ops.size → listed[k]? ≠ some true → listed.getD k true = false := fun listed hs hno => by
    have hlt : k < listed.size := by omega
    rw [Array.getElem?_eq_getElem hlt] at hno
    rw [Array.getD_eq_getD_getElem?, Array.getElem?_eq_getElem hlt]
    simpa using hno
  intro fuel
  induction fuel with
  | zero =>
    intro listed ρ a w hs hle hno hI
    exfalso
    have : k ∈ leftOver ops listed := List.mem_filter.2 ⟨List.mem_range.2 hk, by rw [hleft listed hs (hno k (Nat.le_refl _))]; rfl⟩
    have := List.length_pos_of_mem this
    omega
  | succ fuel ih =>
    intro listed ρ a w hs hle hno hI
    refine ⟨fun hr => absurd (ready_nil hb hs hr k hk) (hno k (Nat.le_refl _)), fun i hi => ?_⟩
    obtain ⟨p, hp, hil, hl, hdep⟩ := ready_spec hi
    have hset : ∀ j, (listed.setIfInBounds i true)[j]? = some true ↔ (listed[j]? = some true ∨ j = i) := by
      intro j
      rw [Array.getElem?_setIfInBounds]
      by_cases hji : i = j
      · subst hji; simp [hs, hil]
      · rw [if_neg hji]; simp [Ne.symm hji]
    have hDi : ¬ (listed[i]? = some true) := by
      intro e; rw [Array.getD_eq_getD_getElem?, e] at hl; cases hl
    have hlt := leftOver_lt hil hl hs
    rcases Nat.lt_trichotomy i k with hik | hik | hik
    rotate_left
    · subst hik
      obtain ⟨g1, g2⟩ := (hspec i p hp).2 rfl
      let M := (List.range i).filter fun j => !listed.getD j true
      have hM : ∀ j, j ∈ M ↔ (j < i ∧ ¬ (listed[j]? = some true)) := by
        intro j
        show j ∈ (List.range i).filter _ ↔ _
        rw [List.mem_filter, List.mem_range]
        constructor
        · rintro ⟨h1, h2⟩
          exact ⟨h1, fun e => by rw [Array.getD_eq_getD_getElem?, e] at h2; simp at h2⟩
        · rintro ⟨h1, h2⟩
          refine ⟨h1, ?_⟩
          have hlt : j < listed.size := by omega
          rw [Array.getElem?_eq_getElem hlt] at h2
          rw [Array.getD_eq_getD_getElem?, Array.getElem?_eq_getElem hlt]
          simpa using h2
      have hpw : M.Pairwise (· < ·) := List.Pairwise.filter _ List.pairwise_lt_range
      have hanc : ∀ j, j ∈ anc (before ops.toList []) i → listed[j]? = some true := fun j hj => anc_listed (D := fun j => listed[j]? = some true) hI.closed i p hp hdep j hj
      have hq : ∀ j ∈ M, ∀ q, ops[j]? = some q → coolOp q.op = true ∧ q.guard = none ∧ isStore q.op = false ∧ (∀ d ∈ depsOf q, listed[d]? = some true ∨ d ∈ M) ∧ ∀ it, L[j]? = some it → ∀ (ρ : Env) (e : Operand → Value), (∀ m, m < base → ρ.σ m = ρ0.σ m) → (∀ x ∈ q.op.operands, e x = (aeval it.tm x).den ρ) → Fit C.P ρ0.σ h0 n q.op e := by
        intro j hj q hqj
        obtain ⟨m1, m2⟩ := (hM j).1 hj
        have s4 : coolOp q.op = true ∧ q.guard = none := by
          rcases (hspec j q hqj).1 m1 with h | h
          · exact absurd (hanc j h) m2
          · exact h
        refine ⟨s4.1, s4.2, hns j q m1 hqj, fun d hdm => ?_, fun it hit => hfit j q it m1 (fun hk => m2 (hanc j hk)) hqj hit⟩
        by_cases hld : listed[d]? = some true
        · exact .inl hld
        · refine .inr ((hM d).2 ⟨?_, hld⟩)
          have := (baseOk_spec hb hqj).1 d hdm
          omega
      have hcells : ∀ m, cellsAt h0 m = true → ∃ arr e mk, w.heap[ρ0.σ m]? = some (.cells arr e mk) := fun m hm => by
        obtain ⟨b, hb0, hbk⟩ := cellsAt_spec hm
        have := hI.block m b (.inl hb0)
        rw [(hI.agree m (.inl (hs0 m b hb0).1)).1] at this
        exact cells_obj this hbk
      obtain ⟨f, ρ', hrun, hI'⟩ := serialV (n := n) hc hlen' hb hs0 ht0 hcells _ _ ρ a hI (fun j hj => ⟨by rw [hlen]; exact ((hM j).1 hj).1, ((hM j).1 hj).2⟩) hpw hq
      have hops := hQ _ ρ' f w (fun j hj => ⟨fun h => by
        rcases h with h | h
        · rcases Nat.lt_or_ge j i with h1 | h1
          · exact h1
          · exact absurd h (hno j h1)
        · exact ((hM j).1 h).1, fun h => by
        by_cases hlj : listed[j]? = some true
        · exact .inl hlj
        · exact .inr ((hM j).2 ⟨h, hlj⟩)⟩) hI'
      rw [show ops.size - i = (ops.size - (i + 1)) + 1 by omega] at hops
      obtain ⟨p2, cc, ax, ay, tt, tu, s1, s2, s3, s4, s5, s6⟩ := hst2
      rw [hp] at s1; cases s1
      obtain ⟨v, w', hx, hrest⟩ := wpOps_app hQn hp s2 s3 g1 hops
      have hD2 : ∀ (j : Nat) (q : Oper), ops[j]? = some q → ((fun j => listed[j]? = some true) j ∨ j ∈ M) → j < i := fun j q _ h => by
        rcases h with h | h
        · rcases Nat.lt_or_ge j i with h1 | h1
          · exact h1
          · exact absurd h (hno j h1)
        · exact ((hM j).1 h).1
      have hD3 : ∀ j, j < i → ((fun j => listed[j]? = some true) j ∨ j ∈ M) := fun j hj => by
        by_cases hlj : listed[j]? = some true
        · exact .inl hlj
        · exact .inr ((hM j).2 ⟨hj, hlj⟩)
      have hev := eval_full hc hb hlen hI' hD2 hD3 ax
      obtain ⟨bn, hbn1, hbn2⟩ := hnb
      have hbn := hbn1 _ hD3
      have hobj := row_obj (hI'.block n bn hbn) hbn2
      have hnear : NearW (ρ'.σ n) w w' := by
        unfold appRow at s6
        cases hnl : isNilS (aeval (tmAt ops tm0 L i) ax) with
        | false =>
          rw [hnl] at s6
          obtain ⟨off, len, cap, hxs⟩ := rowName_den s6 ρ'
          exact app_near s2 s3 s4 s5 (hev.trans hxs) ⟨Nat.le_refl _, fun _ _ _ => rfl, hobj⟩ hx
        | true =>
          obtain ⟨len, cap, hxs⟩ := isNilS_den hnl ρ'
          exact app_near_nil s2 s3 s4 s5 (hev.trans hxs) ⟨Nat.le_refl _, fun _ _ _ => rfl, hobj⟩ hx
      have hsame : ∀ b, b < w.heap.size → b ≠ ρ'.σ n → w'.heap[b]? = w.heap[b]? := hnear.same
      have hto : ∀ (q : Oper) (e : Operand → Value) (v : Value), VW C.P ρ0.σ h0 n w q e = some v → VW C.P ρ0.σ h0 n w' q e = some v := fun q e v hv => by
        obtain ⟨v1, v2, v3⟩ := VW_iff.1 hv
        refine VW_iff.2 ⟨v1, v2, ((cool_steady (w := w) (w' := w') v1 v2 fun m hmn hm => ⟨hcells m hm, hsame _ (by obtain ⟨a1, a2, a3, a4⟩ := hcells m hm; rcases Nat.lt_or_ge (ρ0.σ m) w.heap.size with h1 | h1; exact h1; rw [Array.getElem?_eq_none h1] at a4; cases a4) fun he => hmn ?_⟩).1 _ _ v3).2⟩
        obtain ⟨bm, hbm0, hbmk⟩ := cellsAt_spec hm
        rw [← (hI'.agree m (.inl (hs0 m bm hbm0).1)).1] at he
        exact hI'.inj m n bm bn (.inl hbm0) hbn (mem_cells hbmk) (row_mem hbn2) he
      have hrun2 := runV_put (u := v) (VW_congr C.P ρ0.σ h0 n w') (d := p.dst) (fun j hj q t hqj hdt => by
        obtain ⟨m1, m2⟩ := (hM j).1 hj
        obtain ⟨z1, z2⟩ := (baseOk_spec hb hqj).2.2.1 i p t hp hdt
        refine ⟨fun hl => ?_, z2 (by omega)⟩
        rcases z1 hl with h | h
        · have := (anc_spec hqj h).1; omega
        · exact m2 (hanc j h)) (runV_to hto hrun)
      unfold wpOpIn
      have hw : Region.wanted p (yielded ops a.tmps) = true := by unfold Region.wanted; rw [g1]
      simp only [hp, hw, if_true]
      refine app_mk s2 s3 (fun x hxm => ?_) hx ?_
      · refine (runV_keep (fun j hj q t hqj hxt hdt => ?_) hrun).symm
        subst hxt
        obtain ⟨m1, m2⟩ := (hM j).1 hj
        rcases ((baseOk_spec hb hp).2.2.1 j q t hqj hdt).1 (looks_mem hxm) with h | h
        · exact m2 (hanc j h)
        · have := (anc_spec hqj h).1; omega
      · have hsplit : (leftOver ops listed).length = M.length + (ops.size - i) := by
          show ((List.range ops.size).filter fun j => !listed.getD j true).length = _
          have e : List.range ops.size = List.range i ++ List.range' i (ops.size - i) := by
            rw [List.range_eq_range', List.range_eq_range', show ops.size = i + (ops.size - i) by omega, ← List.range'_append]
            simp
          rw [e, List.filter_append, List.length_append]
          have h2 : (List.range' i (ops.size - i)).filter (fun j => !listed.getD j true) = List.range' i (ops.size - i) := by
            refine List.filter_eq_self.2 fun j hj => ?_
            rw [List.mem_range'_1] at hj
            have hlt : j < listed.size := by omega
            have := hno j (by omega)
            rw [Array.getElem?_eq_getElem hlt] at this
            rw [Array.getD_eq_getD_getElem?, Array.getElem?_eq_getElem hlt]
            simpa using this
          rw [h2, List.length_range']
        have hA := htl
        · refine anyV (VW_congr C.P ρ0.σ h0 n w') (f := f.put p.dst v) (m := i + 1) hb (by omega) (fun j q hqj hij => hA j q hqj (by omega)) (fun fl ls e1 e2 e3 => tail_serial hb (fun j q hqj hij => hA j q hqj (by omega)) (ops.size - (i + 1)) (i + 1) fl ls (f.put p.dst v) w' (by omega) (Nat.le_refl _) e1 e2 e3 hrest) fuel M _ (a.put p.dst v) (by simp [hs]) (fun j hj => ?_) (fun j hj => by have := ((hM j).1 hj).1; omega) hpw ?_ (fun j hj q hqj => ⟨fun a v K hv hk => cool_mk hv hk, (hq j hj q hqj).2.1⟩) (fun j q hqj hj d hdm => ?_) hrun2
          · rw [hset, hM]
            constructor
            · rintro (h | h)
              · have hji : j < i := by
                  rcases Nat.lt_or_ge j i with h1 | h1
                  · exact h1
                  · exact absurd h (hno j h1)
                exact ⟨by omega, fun h' => h'.2 h⟩
              · exact ⟨by omega, fun h' => by omega⟩
            · rintro ⟨h1, h2⟩
              by_cases hji : j = i
              · exact .inr hji
              · exact .inl (Classical.byContradiction fun h3 => h2 ⟨by omega, h3⟩)
          · omega
          · rw [hset]
            left
            rcases (hset j).1 hj with h | rfl
            · exact hI.closed j q hqj h d hdm
            · rw [hp] at hqj; cases hqj; exact hdep d hdm
    · exfalso
      exact hno k (Nat.le_refl _) (anc_listed (D := fun j => listed[j]? = some true) hI.closed i p hp hdep k (htl i p hp hik k hik))
    · have s1 := hns i p hik hp
      have hit : L[i]? = some (L[i]'(by omega)) := List.getElem?_eq_getElem (by omega)
      have hnext : ∀ ρ' a' w', Inv w0 ops base h0 tm0 L ρ0 ws ds (fun j => listed[j]? = some true ∨ j = i) ρ' a' w' → wpAnyIn (fenceR rd) 0 C.P .any ops Q fuel (listed.setIfInBounds i true) a' w' := by
        intro ρ' a' w' hI'
        refine ih _ ρ' a' w' (by simp [hs]) (by omega) (fun j hj e => ?_) ?_
        · rcases (hset j).1 e with h | h
          · exact hno j hj h
          · omega
        · have : (fun j => (listed.setIfInBounds i true)[j]? = some true) = (fun j => listed[j]? = some true ∨ j = i) := funext fun j => propext (hset j)
          rw [this]; exact hI'
      obtain ⟨-, -, -, -, hf⟩ := hc.item i _ p hit hp
      have hg := guard_stands hc hlen' hb hI hp hit hdep hDi
      unfold wpOpIn
      simp only [hp]
      rcases hf with ⟨f1, f2, f3, f4, f5⟩ | ⟨f1, f2, f3, f4, s, o, g1, g2, g3, g4, g5, g6, g7, g8⟩ | ⟨f1, -⟩
      rotate_left 2
      · rw [s1] at f1; cases f1
      · rw [f1 ρ a.tmps hg]
        simp only [Bool.false_eq_true, if_false]
        exact ⟨fun _ _ => trivial, hnext ρ _ w (inv_off hb hI hp hit hdep hDi f2 f3)⟩
      · rw [f1 ρ a.tmps hg]
        simp only [if_true]
        obtain ⟨v, k1, k2, k3, k4, k5⟩ := g8
        rw [g4] at k1
        cases k1
        obtain ⟨ρi, hdi, hRep, hstep⟩ := inv_on hc hlen' hb hs0 ht0 hI hp hit hdep hDi g2 g3 g5 g6 g7
        refine k5 rd ρi a w _ Q (fun x hx => by rw [g1, hdi]; exact operand_stands hc hlen' hb hI hp hit hdep hDi x hx) hRep hI.below fun ρ' w' hr' hp' => ?_
        obtain ⟨ρ2, h2⟩ := hstep ρ' w' hr' hp'
        exact hnext ρ2 _ w' h2
end
section
variable {C : Ctx} {G : World → Prop} {w0 : World} {R : Rec}
theorem region_hard (hg : Good C G) {id : Nat} {f : FuncId} {ops ops0 : Array Oper} (hmv : ops = ops0 ∨ ∃ π, Moves π ops0 ops) {s : St} {o2 : Out} {k : Nat} (hd : appOk ops k = true) (hk : StOK s)
    (h2' : goHard C R f ops k s.heap (R (.draw f ops (ops.toList.take (k)) s.nxt [] []) s) = some o2) (hl : Holds C G o2.log)
    (hdraw : ∀ o, R (.draw f ops (ops.toList.take (k)) s.nxt [] []) s = some o → Holds C G o.log → DrawOK C w0 ops (ops.toList.take (k)) s.nxt [] [] s o)
    (htail : ∀ s o, R (.ops f ops (ops.toList.drop (k))) s = some o → Holds C G o.log → StOK s → OpsOK C w0 ops (ops.toList.drop (k)) s o) : CodeOK C w0 (.region id ops0 true) s o2 := by
  have hfs : k ≤ ops.size := Nat.le_of_lt (appOk_spec hd).2.1
  unfold goHard at h2'
  split at h2'
  rotate_left
  · cases h2'
  rename_i s1 l1 c1 k1 hrun
  split at h2'
  rotate_left
  · cases h2'
  rename_i hcf
  obtain ⟨pS, cS, xS, yS, tS, uS, nS, g1, g2, g2a, g2b, g2c, g3, g4, g5⟩ := appFit_spec (appOk_app hd) hcf
  obtain ⟨o3, hr3, rfl⟩ := behind_eq h2'
  have h := hdraw _ hrun hl.left
  generalize ho : (⟨.normal, s1, l1, ⟨c1, k1⟩⟩ : Out) = o at h
  obtain ⟨L, h1, h2, h3, h4, h5, h6, h7, h8⟩ := h k [] s.tmps hfs rfl rfl rfl rfl rfl (Nat.le_refl _) ⟨fun i it p hi => by simp at hi, fun i it p hi => by simp at hi⟩ (Nat.zero_le _)
  have hs1 : s1 = o.st := by rw [← ho]
  have hl1 : l1 = o.low := by rw [← ho]
  subst hs1
  subst hl1
  obtain ⟨b1, b2, b3, b4⟩ := htail _ _ hr3 hl.right h7
  have hfr := h8.2
  replace h8 := h8.1
  refine ⟨by rw [b1]; rfl, b2, ⟨Nat.le_trans h8 b3.1, by rw [b3.2, hfr]⟩, fun ρ w Q hr hb he => ?_⟩
  unfold fenceOf
  have hs0 : ∀ n b, hget s.heap n = some b → n < s.nxt ∧ AV.okL s.nxt b.cells = true := hr.scope
  refine wpIn_mono (Q := fun x a w => x = .normal ∧ Q x a w) ?_ (fun _ _ _ h => h.2)
  refine wpIn_region_perm hmv hg.mixed ?_
  have hI0 : Inv w0 ops s.nxt s.heap s.tmps L ρ w (act ρ s.res.fr s.tmps).defers (fun i => (Array.replicate ops.size false)[i]? = some true) ρ (act ρ s.res.fr s.tmps) { w with drawn := w.drawn + 1 } := by
    have hno : ∀ i, ¬ ((Array.replicate ops.size false)[i]? = some true) := fun i e => by
      rw [Array.getElem?_replicate] at e; split at e <;> simp at e
    have hth : ∀ n b, There s.heap L (fun i => (Array.replicate ops.size false)[i]? = some true) n b → hget s.heap n = some b := fun n b h => by
      rcases h with h | ⟨j, it, hj, -⟩
      · exact h
      · exact absurd hj (hno j)
    exact ⟨fun i p _ hi => absurd hi (hno i), rfl, by simp [act, denL_length], fun j it p t hj => absurd hj (hno j), fun t _ => by simp [act], fun n b hn => (hr.block n b (hth n b hn)).keep (fun k hk hf => ⟨rfl, hf.1, fun n b hn hm => hf.2 n b (hth n b hn) hm⟩) rfl rfl fun _ => rfl, fun n k b c hn hm => hr.inj n k b c (hth n b hn) (hth k c hm),
      fun n b hn => hr.above n b (hth n b hn), fun j it n b hj => absurd hj (hno j), ⟨rfl, rfl⟩, hr.base, fun n b hn => hr.reach n b (hth n b hn), fun n _ => ⟨rfl, rfl⟩, rfl, rfl, rfl, Nat.le_refl _, fun k _ => rfl, hb.drew⟩
  have gth : ∀ D : Nat → Prop, (∀ i, i < L.length → D i) → ∀ n b, hget o.st.heap n = some b → There s.heap L D n b := by
    intro D hD n b hn
    rw [h5, hget_append] at hn
    cases hm : hget (L.map Item.made).flatten n with
    | some c =>
      rw [hm] at hn; cases hn
      obtain ⟨j, hh, hj, hb⟩ := flatten_get' hm
      rw [List.getElem?_map] at hj
      cases hjt : L[j]? with
      | none => rw [hjt] at hj; cases hj
      | some jt =>
        rw [hjt] at hj
        simp only [Option.map_some, Option.some.injEq] at hj
        subst hj
        exact .inr ⟨j, jt, hD j (List.getElem?_eq_some_iff.1 hjt).1, hjt, hb⟩
    | none => rw [hm] at hn; exact .inl hn
  obtain ⟨bS, hbS, hbSk⟩ := rowAt_spec g4
  refine hard_order (n := nS) (ρ0 := ρ) (ws := w) h2 hd (by omega) ⟨pS, cS, xS, yS, tS, uS, g1, g2, g2a, g2b, g2c, by rw [← h4]; exact g3⟩ ⟨bS, fun D hD => gth D hD nS bS hbS, hbSk⟩ ?_ hs0 hk.1 (fun _ _ _ h => h.1) ?_ ops.size _ ρ _ _ (by simp) (by unfold leftOver; exact Nat.le_trans (List.length_filter_le _ _) (by simp)) (fun i _ e => by
    rw [Array.getElem?_replicate] at e; split at e <;> simp at e) hI0
  · intro i p it hi hna hp hit ρ1 e hσ1 he1
    obtain ⟨f1, f2⟩ := g5 i hi hna p hp
    have hitm := (h2.item i it p hit hp).1
    refine fitB_spec f1 (fun n b hn => (hs0 n b hn).1) hσ1 fun x hx => ?_
    rw [he1 x hx, hitm, standsFrom_spec f2 (by omega) x hx, h4]
  intro D ρ' a w' hD hI
  -- all is done that may come in any order
  have hD' : ∀ i, i < k → D i := fun i hi => (hD i (by omega)).2 (by omega)
  have hDm : ∀ i p, ops[i]? = some p → D i → i < k := fun i p hp hDi => by
    have hi : i < ops.size := by
      rcases Nat.lt_or_ge i ops.size with h | h
      · exact h
      · simp [Array.getElem?_eq_none h] at hp
    have := (hD i hi).1 hDi
    omega
  rw [h1]
  have hle : s.nxt ≤ nxAt s.nxt L k := by rw [← h6]; exact h8
  have hth : ∀ n b, hget o.st.heap n = some b → There s.heap L D n b := by
    intro n b hn
    rw [h5, hget_append] at hn
    cases hm : hget (L.map Item.made).flatten n with
    | some c =>
      rw [hm] at hn; cases hn
      obtain ⟨j, hh, hj, hb⟩ := flatten_get' hm
      rw [List.getElem?_map] at hj
      cases hjt : L[j]? with
      | none => rw [hjt] at hj; cases hj
      | some jt =>
        rw [hjt] at hj
        simp only [Option.map_some, Option.some.injEq] at hj
        subst hj
        exact .inr ⟨j, jt, hD' j (by have := (List.getElem?_eq_some_iff.1 hjt).1; omega), hjt, hb⟩
    | none => rw [hm] at hn; exact .inl hn
  have hσ : ∀ n, n < s.nxt → ρ'.σ n = ρ.σ n := fun n hn => (hI.agree n (.inl hn)).1
  have ha : a = act ρ' o.st.res.fr o.st.tmps := by
    obtain ⟨tmps, defers⟩ := a
    have hdf := hI.defers
    simp only [act] at hdf
    subst hdf
    rw [hfr]
    unfold act
    rw [marks_eq hσ hk.2]
    congr 1
    rw [h4]
    apply Array.ext'
    apply List.ext_getElem?
    intro t
    rw [Array.getElem?_toList]
    by_cases hex : ∃ (j : Nat) (q : Oper), j < k ∧ ops[j]? = some q ∧ q.dst = some t
    · obtain ⟨j, q, hj, hq, hdq⟩ := hex
      have hjt : L[j]? = some L[j] := List.getElem?_eq_getElem (by omega)
      rcases Nat.lt_or_ge t s.tmps.length with hlt | hge
      · have e1 := hI.put j _ q t (hD' j hj) hjt hq hdq hlt
        simp only at e1
        rw [e1, denL_map, List.getElem?_map, tmAt_put hjt hq hdq hlt (fun k r hk hr hdr => ((baseOk_spec (appOk_spec hd).1 hr).2.2.1 j q t hq hdq).2 hk hdr) hj]
        rfl
      · have hsz := hI.size
        simp only at hsz
        rw [Array.getElem?_eq_none (by omega), denL_map, List.getElem?_map, List.getElem?_eq_none (by rw [tmAt_length]; exact hge)]; rfl
    · have hno : ∀ (j : Nat) (q : Oper), j < k → ops[j]? = some q → q.dst ≠ some t := fun j q hj hq hdq => hex ⟨j, q, hj, hq, hdq⟩
      have e1 := hI.left t (fun j q hDj hq => hno j q (hDm j q hq hDj) hq)
      simp only at e1
      rw [e1, denL_map, denL_map, List.getElem?_map, List.getElem?_map, tmAt_keep (fun j q hj hq => hno j q hj hq)]
  have hmade : ∀ n b, hget o.st.heap n = some b → ¬ hget s.heap n = some b → s.nxt ≤ n ∧ n < o.st.nxt ∧ AV.okL o.st.nxt b.cells = true ∧ (b.mem = true → w.heap.size ≤ ρ'.σ n) := by
    intro n b hn hne
    rcases hth n b hn with h | ⟨j, jt, hDj, hjt, hb⟩
    · exact absurd h hne
    · obtain ⟨m1, m2, m3, m4⟩ := hI.made j jt n b hDj hjt hb
      have := base_le h2 (by omega) hjt
      rw [h1] at this
      rw [h6]
      exact ⟨by omega, by omega, okL_mono (by omega) _ m3, m4⟩
  rw [ha]
  have hRep : Rep w0.heap.size ρ' o.st.heap o.st.nxt w' := by
    refine ⟨fun n b hn => (hI.block n b (hth n b hn)).keep (Keep.wide fun k hk hf => ⟨hf.1, fun n b hn hm => hf.2 n b (hth n b hn) hm⟩) rfl rfl fun _ => rfl, fun n k b c hn hm => hI.inj n k b c (hth n b hn) (hth k c hm), fun n b hn => ?_, fun n b hn => hI.above n b (hth n b hn), by rw [hI.area.2]; exact Nat.le_trans hI.ground hI.wsize, fun n b hn => hI.reach n b (hth n b hn)⟩
    by_cases hne : hget s.heap n = some b
    · obtain ⟨q1, q2⟩ := hs0 n b hne
      exact ⟨by rw [h6]; omega, okL_mono (by rw [h6]; exact hle) _ q2⟩
    · obtain ⟨-, q1, q2, -⟩ := hmade n b hn hne
      exact ⟨q1, q2⟩
  have hPost : Post ρ ρ' s.heap o.st.heap s.nxt o.st.nxt o.low w w' := by
    refine ⟨fun n hn => hI.agree n (by rw [h1, ← h6]; exact hn), hI.area, h8, hI.os, hI.tape, hI.output, hI.wsize, fun k hk _ => hI.frame k hk, fun n b hn hbm => ?_, fun n hl hx => ?_⟩
    · by_cases hne : hget s.heap n = some b
      · exact .inl ⟨n, b, hne, hbm, (hI.agree n (.inl (hs0 n b hne).1)).1, .inl rfl⟩
      · exact .inr ((hmade n b hn hne).2.2.2 hbm)
    · rw [h5, hget_append]
      cases hm : hget (L.map Item.made).flatten n with
      | none => rfl
      | some c =>
        obtain ⟨j, hh, hj, hb⟩ := flatten_get' hm
        rw [List.getElem?_map] at hj
        cases hjt : L[j]? with
        | none => rw [hjt] at hj; cases hj
        | some jt =>
          rw [hjt] at hj
          simp only [Option.map_some, Option.some.injEq] at hj
          subst hj
          have hjl := (List.getElem?_eq_some_iff.1 hjt).1
          obtain ⟨m1, -⟩ := hI.made j jt n c (hD' j (by omega)) hjt hb
          have := base_le h2 (by omega) hjt
          omega
  simp only [b1] at he
  have b4' := fun Q => b4 k rfl ρ' w' Q
  have he2 := he.trans (x := .normal) (l := ⟨c1 ++ o3.log.conds, k1 ++ o3.log.calls⟩) hr hRep hPost
  have hfe := fence_eq (ρ := ρ) (ρ1 := ρ') hσ hk.2 (show o.st.res.fr.rnd = s.res.fr.rnd by rw [hfr])
  rw [hfe] at b4'
  exact b4' _ hRep (below_of_post hr hPost hb) (fun ρ2 w2 r2 p2 => ⟨rfl, he2 ρ2 w2 r2 p2⟩)
end
end Go.Ev
