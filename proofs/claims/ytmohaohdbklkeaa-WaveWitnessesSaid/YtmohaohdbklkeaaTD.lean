import Derived.Test.YtmohaohdbklkeaaTC
import Derived.Test.YtmohaohdbklkeaaProg
import Derived.KernelRfl
import Derived.Test.YtmohaohdbklkeaaRows
import Derived.Test.YtmohaohdbklkeaaTA
import Derived.ProofKit
import Derived.OpenShut
import Derived.LaidMore
import Derived.Lib.SmallJoins
import Derived.Deep.DeepHandedRow
import Derived.Lib.LaidTab
set_option linter.unusedVariables false
set_option linter.unusedSimpArgs false
set_option linter.unusedSectionVars false
set_option linter.unnecessarySimpa false
/- Running the program's functions on values that are known in part: regions in which what reads at most comes before or behind a store elsewhere. -/
namespace Go.Ev
open Go.RowKit
theorem cellsAt_spec {h : AHeap} {m : Nat} (e : cellsAt h m = true) : ∃ b, hget h m = some b ∧ b.kind = .cells := by
  unfold cellsAt at e
  split at e
  · rename_i b hb
    split at e
    · rename_i hk; exact ⟨b, hb, hk⟩
    · cases e
  · cases e
theorem cells_obj {A : Nat → Prop} {w : World} {ρ : Env} {b : ABlock} {kp : Kap} {o : Option Obj} (h : BlockOK A w ρ b kp o) (hk : b.kind = .cells) : ∃ arr e mk, o = some (.cells arr e mk) := by
  unfold BlockOK at h
  rw [hk] at h
  obtain ⟨arr, e, rest, h1, -⟩ := h
  exact ⟨arr, e, _, h1⟩
theorem cool_defer {p : Oper} (hc : coolOp p.op = true) : isDefer p.op = false := by
  revert hc
  cases p.op <;> simp [coolOp, quietOp, isDefer]
theorem cool_wp {P : Program} {w : World} {p : Oper} {a : Act} {K : Act → World → Prop} (hc : coolOp p.op = true) (hst : Steady P w w (execOp a.eval p) ∧ ∀ nx w2, (execOp a.eval p).run P w = .ok nx w2 → ∃ v, nx = .value v)
    (h : p.wpIn (fenceR none) 0 P a w K (fun _ _ _ => False)) : ∃ v, (execOp a.eval p).run P w = .ok (.value v) w ∧ K (a.put p.dst v) w := by
  replace h := wpIn_inv (cool_defer hc) h
  cases hr : (execOp a.eval p).run P w with
  | ok nx w2 =>
    obtain ⟨v, rfl⟩ := hst.2 _ _ hr
    obtain ⟨rfl, -⟩ := hst.1 _ _ hr
    rw [hr] at h
    exact ⟨v, rfl, h⟩
  | halt z w2 =>
    rw [hr] at h
    cases z <;> simp [Oper.uponIn] at h
theorem cool_mk {P : Program} {σ0 : Nat → Nat} {h0 : AHeap} {n : Nat} {w : World} {p : Oper} {a : Act} {v : Value} {K : Act → World → Prop} {Q : Exit → Act → World → Prop} {rd : Option Nat} (hv : VW P σ0 h0 n w p a.eval = some v) (hk : K (a.put p.dst v) w) : p.wpIn (fenceR rd) 0 P a w K Q := by
  obtain ⟨h1, -, h3⟩ := VW_iff.1 hv
  refine wpIn_op (cool_defer h1) ?_
  rw [h3]
  exact hk
/-- What a quiet operation makes. -/
theorem quiet_V {P : Program} {σ0 : Nat → Nat} {h0 : AHeap} {n : Nat} {w : World} {p : Oper} {a : Act} {v : Value} (hq : quietOp p.op = true) (hv : qval p.op a.eval = some v) : VW P σ0 h0 n w p a.eval = some v := by
  obtain ⟨dst, op, type, pos, after, guard⟩ := p
  cases op <;> simp only [quietOp] at hq <;> try (cases hq; done)
  case move x =>
    simp only [qval, Option.some.injEq] at hv; subst hv
    exact VW_iff.2 ⟨rfl, trivial, by simp [execOp]⟩
  case assign x =>
    simp only [qval, Option.some.injEq] at hv; subst hv
    exact VW_iff.2 ⟨rfl, trivial, by simp [execOp]⟩
  case extract x i =>
    refine VW_iff.2 ⟨rfl, trivial, ?_⟩
    unfold execOp Instr.extract
    unfold qval at hv
    simp only at hv ⊢
    cases hx : a.eval x <;> rw [hx] at hv <;> try (simp at hv; done)
    rename_i vs
    simp only at hv ⊢
    rw [hv]
    simp
  case binOp op t x y u =>
    obtain ⟨k, c, rfl, rfl⟩ := quiet_bin hq
    unfold qval at hv
    simp only at hv
    cases hy : a.eval y <;> rw [hy] at hv <;> try (simp at hv; done)
    rename_i k' b
    simp only at hv
    split at hv
    · rename_i hkk
      subst hkk
      simp only [Option.some.injEq] at hv
      subst hv
      refine VW_iff.2 ⟨rfl, ⟨k, c, k, b, rfl, hy⟩, ?_⟩
      unfold execOp
      simp only
      rw [show a.eval (.const (.int k c)) = .int k c from rfl, hy]
      simp [eqGuard, binOp, Op.intArith]
    · cases hv
section
variable {C : Ctx} {w0 : World} {ops : Array Oper} {base : Nat} {h0 : AHeap} {tm0 : List AV} {L : List Item} {ρ0 : Env} {ws : World} {ds : List Deferred} {rd : Option Nat}
/-- Quiet operations in any order, once the rest of what comes first is done. -/
theorem anyV {V : VF} (hV : CongrV V) {P : Program} (hb : baseOk ops = true) {Q : Exit → Act → World → Prop} {f : Act} {w : World} {m : Nat} (hm : m ≤ ops.size) (htail : ∀ (i : Nat) (p : Oper), ops[i]? = some p → m ≤ i → ∀ j, j < i → j ∈ anc (before ops.toList []) i)
    (hf : ∀ (fuel : Nat) (listed : Array Bool), listed.size = ops.size → (∀ i, i < ops.size → (listed[i]? = some true ↔ i < m)) → ops.size - m ≤ fuel → wpAnyIn (fenceR rd) 0 P .any ops Q fuel listed f w) :
    ∀ (fuel : Nat) (M : List Nat) (listed : Array Bool) (a : Act), listed.size = ops.size →
    (∀ i, i < ops.size → (listed[i]? = some true ↔ (i < m ∧ i ∉ M))) → (∀ i ∈ M, i < m) → M.Pairwise (· < ·) → M.length + (ops.size - m) ≤ fuel → (∀ i ∈ M, ∀ p, ops[i]? = some p → (∀ (a : Act) (v : Value) (K : Act → World → Prop), V p a.eval = some v → K (a.put p.dst v) w → p.wpIn (fenceR rd) 0 P a w K Q) ∧ p.guard = none) →
    (∀ (i : Nat) (p : Oper), ops[i]? = some p → listed[i]? = some true → ∀ d ∈ depsOf p, listed[d]? = some true) → runV V ops M a = some f → wpAnyIn (fenceR rd) 0 P .any ops Q fuel listed a w := by
  intro fuel
  induction fuel with
  | zero =>
    intro M listed a hs hl hM hpw hle hq hcl hr
    have hnil : M = [] := List.length_eq_zero_iff.1 (by omega)
    subst hnil
    cases hr
    exact hf 0 listed hs (fun i hi => by rw [hl i hi]; simp) (by omega)
  | succ fuel ih =>
    intro M listed a hs hl hM hpw hle hq hcl hr
    by_cases hne : M = []
    · subst hne
      cases hr
      exact hf _ listed hs (fun i hi => by rw [hl i hi]; simp) (by simpa using hle)
    obtain ⟨i0, hi0⟩ := List.exists_mem_of_ne_nil M hne
    have h0 : ¬ (listed[i0]? = some true) := fun e => ((hl i0 (by have := hM i0 hi0; omega)).1 e).2 hi0
    refine ⟨fun hrd => absurd (ready_nil hb hs hrd i0 (by have := hM i0 hi0; omega)) h0, fun i hi => ?_⟩
    obtain ⟨p, hp, hil, hli, hdep⟩ := ready_spec hi
    have hnl : ¬ (listed[i]? = some true) := fun e => by rw [Array.getD_eq_getD_getElem?, e] at hli; cases hli
    have hik : i < m := by
      rcases Nat.lt_or_ge i m with h | h
      · exact h
      · exact absurd (anc_listed (D := fun j => listed[j]? = some true) hcl i p hp hdep i0 (htail i p hp (by omega) i0 (by have := hM i0 hi0; omega))) h0
    have hiM : i ∈ M := Classical.byContradiction fun h => hnl ((hl i hil).2 ⟨hik, h⟩)
    obtain ⟨pre, post, rfl⟩ := List.append_of_mem hiM
    have hpre : ∀ j ∈ pre, j < i := fun j hj => (List.pairwise_append.1 hpw).2.2 j hj i List.mem_cons_self
    have hapart : ∀ j ∈ pre, (∀ (p' q : Oper) (d : Tmp), ops[i]? = some p' → ops[j]? = some q → q.dst = some d → d ∉ p'.looksAt ops ∧ p'.dst ≠ some d) ∧ (∀ (p' q : Oper) (d : Tmp), ops[i]? = some p' → ops[j]? = some q → p'.dst = some d → d ∉ q.looksAt ops) := by
      intro j hj
      have hji := hpre j hj
      have hjM : j ∈ pre ++ i :: post := List.mem_append_left _ hj
      have na : ∀ p', ops[i]? = some p' → j ∉ anc (before ops.toList []) i := fun p' hp' hk => by
        rw [hp] at hp'; cases hp'
        have := anc_listed (D := fun j => listed[j]? = some true) hcl i p hp hdep j hk
        exact ((hl j (by have := hM j hjM; omega)).1 this).2 hjM
      have nb : ∀ q, ops[j]? = some q → i ∉ anc (before ops.toList []) j := fun q hq' hk => by
        have := (anc_spec hq' hk).1; omega
      refine ⟨fun p' q d hp' hq' hd' => ⟨fun hlook => ?_, ((baseOk_spec hb hp').2.2.1 j q d hq' hd').2 (by omega)⟩, fun p' q d hp' hq' hd' hlook => ?_⟩
      · rcases ((baseOk_spec hb hp').2.2.1 j q d hq' hd').1 hlook with h | h
        · exact na p' hp' h
        · exact nb q hq' h
      · rcases ((baseOk_spec hb hq').2.2.1 i p' d hp' hd').1 hlook with h | h
        · exact nb q hq' h
        · exact na p' hp' h
    obtain ⟨p2, v, hp2, hv, hr2⟩ := runV_cons (frontV hV hapart hr)
    rw [hp] at hp2; cases hp2
    obtain ⟨q1, q2⟩ := hq i hiM p hp
    have hset : ∀ j, (listed.setIfInBounds i true)[j]? = some true ↔ (listed[j]? = some true ∨ j = i) := by
      intro j
      rw [Array.getElem?_setIfInBounds]
      by_cases hji : i = j
      · subst hji; simp [hs, hil]
      · rw [if_neg hji]; simp [Ne.symm hji]
    have hnotin : i ∉ pre ++ post := by
      intro h
      have hp1 := (List.pairwise_append.1 hpw)
      rcases List.mem_append.1 h with h | h
      · have := hpre i h; omega
      · have := (List.pairwise_cons.1 hp1.2.1).1 i h; omega
    unfold wpOpIn
    have hw : Region.wanted p (yielded ops a.tmps) = true := by unfold Region.wanted; rw [q2]
    simp only [hp, hw, if_true]
    refine q1 a v _ hv (ih (pre ++ post) _ _ (by simp [hs]) (fun j hj => ?_) (fun j hj => hM j ?_) ?_ (by simp at hle ⊢; omega) (fun j hj => hq j ?_) (fun j q hq' hj d hd' => ?_) hr2)
    · rw [hset, hl j hj]
      constructor
      · rintro (⟨h1, h⟩ | rfl)
        · exact ⟨h1, fun h' => h (by rcases List.mem_append.1 h' with h' | h'; exact List.mem_append_left _ h'; exact List.mem_append_right _ (List.mem_cons_of_mem _ h'))⟩
        · exact ⟨hik, hnotin⟩
      · rintro ⟨h1, h⟩
        by_cases hji : j = i
        · exact .inr hji
        · refine .inl ⟨h1, fun h' => h ?_⟩
          rcases List.mem_append.1 h' with h' | h'
          · exact List.mem_append_left _ h'
          · rcases List.mem_cons.1 h' with h' | h'
            · exact absurd h' hji
            · exact List.mem_append_right _ h'
    · rcases List.mem_append.1 hj with h' | h'
      · exact List.mem_append_left _ h'
      · exact List.mem_append_right _ (List.mem_cons_of_mem _ h')
    · exact hpw.sublist (List.Sublist.append (List.Sublist.refl _) (List.sublist_cons_self _ _))
    · rcases List.mem_append.1 hj with h' | h'
      · exact List.mem_append_left _ h'
      · exact List.mem_append_right _ (List.mem_cons_of_mem _ h')
    · rw [hset]
      rcases (hset j).1 hj with h | rfl
      · exact .inl (hcl j q hq' h d hd')
      · rw [hp] at hq'; cases hq'; exact .inl (hdep d hd')
/-- Quiet operations one after another, as they were reckoned. -/
theorem serialV {n : Nat} (hc : Chain C w0 ops base h0 tm0 L) (hlen : L.length ≤ ops.size) (hb : baseOk ops = true) (hs0 : ∀ n b, hget h0 n = some b → n < base ∧ AV.okL base b.cells = true) (ht0 : AV.okL base tm0 = true) {w : World} (hcells : ∀ m, cellsAt h0 m = true → ∃ arr e mk, w.heap[ρ0.σ m]? = some (.cells arr e mk)) :
    ∀ (M : List Nat) (D : Nat → Prop) (ρ : Env) (a : Act), Inv w0 ops base h0 tm0 L ρ0 ws ds D ρ a w → (∀ i ∈ M, i < L.length ∧ ¬ D i) → M.Pairwise (· < ·) → (∀ i ∈ M, ∀ p, ops[i]? = some p → coolOp p.op = true ∧ p.guard = none ∧ isStore p.op = false ∧ (∀ d ∈ depsOf p, D d ∨ d ∈ M) ∧ ∀ it, L[i]? = some it → ∀ (ρ : Env) (e : Operand → Value), (∀ m, m < base → ρ.σ m = ρ0.σ m) → (∀ x ∈ p.op.operands, e x = (aeval it.tm x).den ρ) → Fit C.P ρ0.σ h0 n p.op e) →
      ∃ (f : Act) (ρ' : Env), runV (VW C.P ρ0.σ h0 n w) ops M a = some f ∧ Inv w0 ops base h0 tm0 L ρ0 ws ds (fun i => D i ∨ i ∈ M) ρ' f w
  | [], D, ρ, a, hI, _, _, _ => ⟨a, ρ, rfl, by simpa using hI⟩
  | i :: M, D, ρ, a, hI, hM, hpw, hq => by
    obtain ⟨hiL, hDi⟩ := hM i List.mem_cons_self
    have hp : ops[i]? = some ops[i] := by simp
    obtain ⟨q1, q2, q3, q4, q5⟩ := hq i List.mem_cons_self _ hp
    have hlt := (List.pairwise_cons.1 hpw).1
    have hdep : ∀ d ∈ depsOf ops[i], D d := fun d hdm => by
      have hdi := (baseOk_spec hb hp).1 d hdm
      rcases q4 d hdm with h | h
      · exact h
      · rcases List.mem_cons.1 h with h | h
        · omega
        · have := hlt d h; omega
    have hit : L[i]? = some L[i] := List.getElem?_eq_getElem hiL
    obtain ⟨-, -, -, -, hf⟩ := hc.item i _ _ hit hp
    have hg := guard_stands hc hlen hb hI hp hit hdep hDi
    have hw : ∀ tmps, Region.wanted ops[i] (yielded ops tmps) = true := fun tmps => by unfold Region.wanted; rw [q2]
    rcases hf with ⟨f1, -⟩ | ⟨f1, f2, f3, f4, s, o, g1, g2, g3, g4, g5, g6, g7, g8⟩ | ⟨f1, -⟩
    · have := f1 ρ a.tmps hg; rw [hw] at this; cases this
    · obtain ⟨v, k1, k2, k3, k4, k5⟩ := g8
      rw [g4] at k1
      cases k1
      obtain ⟨ρi, hdi, hRep, hstep⟩ := inv_on hc hlen hb hs0 ht0 hI hp hit hdep hDi g2 g3 g5 g6 g7
      have hwp := k5 none ρi a w (fun a' w' => ∃ ρ', Inv w0 ops base h0 tm0 L ρ0 ws ds (fun j => D j ∨ j = i) ρ' a' w' ∧ True) (fun _ _ _ => False) (fun x hx => by rw [g1, hdi]; exact operand_stands hc hlen hb hI hp hit hdep hDi x hx) hRep hI.below fun ρ' w' hr' hp' => by
        obtain ⟨ρ2, h2⟩ := hstep ρ' w' hr' hp'
        exact ⟨ρ2, h2, trivial⟩
      have hfit : Fit C.P ρ0.σ h0 n ops[i].op a.eval := q5 _ hit ρ a.eval (fun m hm => (hI.agree m (.inl hm)).1) (operand_stands hc hlen hb hI hp hit hdep hDi)
      obtain ⟨u, hu0, ρ', hI', -⟩ := cool_wp q1 (cool_steady (w := w) (w' := w) q1 hfit fun m _ hm => ⟨hcells m hm, rfl⟩) hwp
      have hu : VW C.P ρ0.σ h0 n w ops[i] a.eval = some u := VW_iff.2 ⟨q1, hfit, hu0⟩
      obtain ⟨f, ρ2, hr, hI2⟩ := serialV hc hlen hb hs0 ht0 hcells M _ ρ' _ hI' (fun j hj => ⟨(hM j (List.mem_cons_of_mem _ hj)).1, fun h => by
        rcases h with h | h
        · exact (hM j (List.mem_cons_of_mem _ hj)).2 h
        · have := hlt j hj; omega⟩) (List.pairwise_cons.1 hpw).2 (fun j hj p hp' => by
          obtain ⟨r1, r2, r3, r4, r5⟩ := hq j (List.mem_cons_of_mem _ hj) p hp'
          refine ⟨r1, r2, r3, fun d hdm => ?_, r5⟩
          rcases r4 d hdm with h | h
          · exact .inl (.inl h)
          · rcases List.mem_cons.1 h with h | h
            · exact .inl (.inr h)
            · exact .inr h)
      refine ⟨f, ρ2, by rw [runV_mk hp hu]; exact hr, ?_⟩
      have : (fun j => D j ∨ j ∈ i :: M) = (fun j => (D j ∨ j = i) ∨ j ∈ M) := funext fun j => propext ⟨fun h => by
        rcases h with h | h
        · exact .inl (.inl h)
        · rcases List.mem_cons.1 h with h | h
          · exact .inl (.inr h)
          · exact .inr h, fun h => by
        rcases h with (h | h) | h
        · exact .inl h
        · exact .inr (by rw [h]; exact List.mem_cons_self)
        · exact .inr (List.mem_cons_of_mem _ h)⟩
      rw [this]; exact hI2
    · rw [q3] at f1; cases f1
theorem coolOk_spec (h : coolOk ops = true) : baseOk ops = true ∧ firstStore ops.toList < ops.size ∧ (∀ (i : Nat) (p : Oper), ops[i]? = some p →
    (i < firstStore ops.toList → i ∈ anc (before ops.toList []) (firstStore ops.toList) ∨ (coolOp p.op = true ∧ p.guard = none)) ∧ (i = firstStore ops.toList → p.guard = none ∧ p.dst = none)) ∧
    ((∀ (i : Nat) (p : Oper), ops[i]? = some p → firstStore ops.toList < i → ∀ j, j < i → j ∈ anc (before ops.toList []) i) ∨ ∀ (i : Nat) (p : Oper), ops[i]? = some p → firstStore ops.toList < i → quietOp p.op = true ∧ p.guard = none ∧ firstStore ops.toList ∈ anc (before ops.toList []) i) := by
  have hbare : ∀ p : Oper, bare p = true → p.guard = none := fun p h => by
    unfold bare at h; split at h
    · assumption
    · cases h
  have hsz : ∀ (i : Nat) (p : Oper), ops[i]? = some p → i < ops.size := fun i p hp => by
    rcases Nat.lt_or_ge i ops.size with h | h
    · exact h
    · simp [Array.getElem?_eq_none h] at hp
  have hany : ∀ (i k : Nat), ((before ops.toList []).getD i []).any (Nat.beq k) = true → k ∈ anc (before ops.toList []) i := fun i k h => by
    simp only [List.any_eq_true] at h
    obtain ⟨l, hl, hb⟩ := h
    have := Nat.eq_of_beq_eq_true hb
    subst this
    exact hl
  unfold coolOk coolRest at h
  simp only [Bool.and_eq_true, Bool.or_eq_true, List.all_eq_true, List.mem_range] at h
  obtain ⟨h1, ⟨h2, h3⟩, h4⟩ := h
  refine ⟨h1, blt_lt h2, fun i p hp => ?_, ?_⟩
  · have hi := hsz i p hp
    have h3 := h3 i hi
    rw [hp] at h3
    simp only at h3
    split at h3
    · rename_i e
      have e := blt_lt e
      simp only [Bool.or_eq_true, Bool.and_eq_true] at h3
      refine ⟨fun _ => ?_, fun h => by omega⟩
      rcases h3 with h6 | h6
      · exact .inl (hany _ _ h6)
      · exact .inr ⟨h6.1, hbare p h6.2⟩
    · rename_i e
      have e : ¬ i < firstStore ops.toList := fun h => by
        have : Nat.blt i (firstStore ops.toList) = true := by simpa [Nat.blt_eq] using h
        rw [this] at e; cases e
      split at h3
      · simp only [Bool.and_eq_true] at h3
        refine ⟨fun h => absurd h e, fun _ => ⟨hbare p h3.1, ?_⟩⟩
        have h4 := h3.2
        split at h4
        · assumption
        · cases h4
      · rename_i e2
        exact ⟨fun h => absurd h e, fun h => by rw [h] at e2; simp at e2⟩
  · rcases h4 with h4 | h4
    · refine .inl fun i p hp hki => ?_
      rcases h4 i (hsz i p hp) with h5 | h5
      · have := ble_le h5; omega
      · exact anc_full hp (Nat.eq_of_beq_eq_true h5)
    · refine .inr fun i p hp hki => ?_
      rcases h4 i (hsz i p hp) with h5 | h5
      · have := ble_le h5; omega
      · rw [hp] at h5
        simp only [Bool.and_eq_true] at h5
        exact ⟨h5.1.1, hbare p h5.1.2, hany _ _ h5.2⟩
/-- Quiet operations that come last, in their order. -/
theorem quiet_tailV {P : Program} {σ0 : Nat → Nat} {h0 : AHeap} {n0 : Nat} {Q : Exit → Act → World → Prop} {w : World} : ∀ (n s : Nat) (f : Act), s + n ≤ ops.size → (∀ (i : Nat) (p : Oper), ops[i]? = some p → s ≤ i → quietOp p.op = true ∧ p.guard = none) →
    wpOpsIn (fenceR rd) 0 P ops Q (List.range' s n) f w → ∃ g, runV (VW P σ0 h0 n0 w) ops (List.range' s n) f = some g ∧ wpOpsIn (fenceR rd) 0 P ops Q [] g w := by
  intro n
  induction n with
  | zero => intro s f _ _ h; exact ⟨f, rfl, h⟩
  | succ n ih =>
    intro s f hs hq h
    have hp : ops[s]? = some ops[s] := by simp
    obtain ⟨q1, q2⟩ := hq s _ hp (Nat.le_refl _)
    rw [List.range'_succ, wpOpsIn_cons] at h
    unfold wpOpIn at h
    have hw : Region.wanted ops[s] (yielded ops f.tmps) = true := by unfold Region.wanted; rw [q2]
    simp only [hp, hw, if_true] at h
    obtain ⟨v, hv, hk⟩ := quiet_wp q1 h
    obtain ⟨g, hg, hr⟩ := ih (s + 1) _ (by omega) (fun i p hpi hi => hq i p hpi (by omega)) hk
    exact ⟨g, by rw [List.range'_succ, runV_mk hp (quiet_V q1 hv)]; exact hg, hr⟩
/-- Once all that may come in any order is done, every operand stands as it was reckoned. -/
theorem eval_full {k : Nat} (hc : Chain C w0 ops base h0 tm0 L) (hb : baseOk ops = true) (hlen : L.length = k) {D : Nat → Prop} {ρ : Env} {a : Act} {w : World} (hI : Inv w0 ops base h0 tm0 L ρ0 ws ds D ρ a w) (hD2 : ∀ (j : Nat) (q : Oper), ops[j]? = some q → D j → j < k) (hD3 : ∀ j, j < k → D j) (x : Operand) : a.eval x = (aeval (tmAt ops tm0 L k) x).den ρ := by
  cases x with
  | tmp t =>
    have key : a.tmps[t]? = (AV.denL ρ (tmAt ops tm0 L k))[t]? := by
      by_cases hex : ∃ (j : Nat) (q : Oper), j < k ∧ ops[j]? = some q ∧ q.dst = some t
      · obtain ⟨j, q, hj, hq, hdq⟩ := hex
        have hjt : L[j]? = some L[j] := List.getElem?_eq_getElem (by omega)
        rcases Nat.lt_or_ge t tm0.length with hlt | hge
        · rw [hI.put j _ q t (hD3 j hj) hjt hq hdq hlt, denL_map, List.getElem?_map, tmAt_put hjt hq hdq hlt (fun k r hk hr hdr => ((baseOk_spec hb hr).2.2.1 j q t hq hdq).2 hk hdr) hj]
          rfl
        · rw [Array.getElem?_eq_none (by rw [hI.size]; exact hge), denL_map, List.getElem?_map, List.getElem?_eq_none (by rw [tmAt_length]; exact hge)]; rfl
      · have hno : ∀ (j : Nat) (q : Oper), j < k → ops[j]? = some q → q.dst ≠ some t := fun j q hj hq hdq => hex ⟨j, q, hj, hq, hdq⟩
        rw [hI.left t (fun j q hDj hq => hno j q (hD2 j q hq hDj) hq), denL_map, denL_map, List.getElem?_map, List.getElem?_map, tmAt_keep (fun j q hj hq => hno j q hj hq)]
    simp only [Act.eval, aeval, getD_den]
    rw [Array.getD_eq_getD_getElem?, key, List.getD_eq_getElem?_getD]
  | const v => simp [Act.eval, aeval, AV.den]
  | global g => simp [Act.eval, aeval, AV.den]
  | func f => simp [Act.eval, aeval, AV.den]
/-- What no operation from i on writes. -/
theorem tmAt_from {t i : Nat} : ∀ {k : Nat}, i ≤ k → (∀ j q, i ≤ j → j < k → ops[j]? = some q → q.dst ≠ some t) → (tmAt ops tm0 L k)[t]? = (tmAt ops tm0 L i)[t]?
  | 0, h, _ => by
    have : i = 0 := by omega
    subst this; rfl
  | k + 1, h, hn => by
    rcases Nat.lt_or_ge k i with hlt | hge
    · have : i = k + 1 := by omega
      subst this; rfl
    · have ih := tmAt_from (t := t) (i := i) (k := k) hge (fun j q h1 h2 => hn j q h1 (by omega))
      rw [← ih]
      simp only [tmAt]
      split
      · rename_i it p hit hp
        have := hn k p hge (by omega) hp
        unfold setT
        split
        · rename_i d hd
          rw [List.getElem?_set_ne (fun e => this (by rw [hd, e]))]
        · rfl
      · rfl
theorem standsFrom_spec {i k : Nat} {op : Op} (h : standsFrom ops i k op = true) (hik : i ≤ k) : ∀ x ∈ op.operands, aeval (tmAt ops tm0 L i) x = aeval (tmAt ops tm0 L k) x := by
  intro x hx
  unfold standsFrom at h
  simp only [List.all_eq_true] at h
  have h := h x (by simpa using hx)
  cases x with
  | tmp t =>
    simp only [List.all_eq_true, List.mem_range, Bool.or_eq_true] at h
    have key := tmAt_from (ops := ops) (tm0 := tm0) (L := L) (t := t) hik (fun j q h1 h2 hq hd => by
      rcases h j h2 with h3 | h3
      · have := blt_lt h3; omega
      · rw [hq] at h3
        simp only [hd] at h3
        simp at h3)
    simp only [aeval, slot_eq, List.getD_eq_getElem?_getD, key]
  | const v => rfl
  | global g => rfl
  | func f => rfl
theorem coolFit_spec {P : Program} {h : AHeap} {tm : List AV} {h1 : AHeap} (e : coolFit P ops h tm h1 = true) : ∃ (p : Oper) (t : TypeId) (xs ys : Operand) (n off : Nat), ops[firstStore ops.toList]? = some p ∧ p.op = .store t xs ys ∧ aeval tm xs = .ptr n off ∧ cellsAt h1 n = true ∧
    ∀ i, i < firstStore ops.toList → i ∉ anc (before ops.toList []) (firstStore ops.toList) → ∀ q, ops[i]? = some q → fitB P h tm n q.op = true ∧ standsFrom ops i (firstStore ops.toList) q.op = true := by
  unfold coolFit at e
  split at e
  rotate_left
  · cases e
  rename_i p hp
  split at e
  rotate_left
  · cases e
  rename_i t xs ys hop
  split at e
  rotate_left
  · cases e
  rename_i n off hx
  simp only [Bool.and_eq_true, List.all_eq_true, List.mem_range, Bool.or_eq_true] at e
  refine ⟨p, t, xs, ys, n, off, hp, hop, hx, e.1, fun i hi hna q hq => ?_⟩
  rcases e.2 i hi with h6 | h6
  · refine absurd ?_ hna
    simp only [List.any_eq_true] at h6
    obtain ⟨l, hl, hb⟩ := h6
    have := Nat.eq_of_beq_eq_true hb
    subst this
    exact hl
  · rw [hq] at h6
    simpa using h6
theorem fitB_spec {P : Program} {h : AHeap} {tm : List AV} {n : Nat} {op : Op} (hb : fitB P h tm n op = true) (hbase : ∀ n b, hget h n = some b → n < base) {σ0 : Nat → Nat} {ρ : Env} {e : Operand → Value} (hσ : ∀ m, m < base → ρ.σ m = σ0 m) (he : ∀ x ∈ op.operands, e x = (aeval tm x).den ρ) : Fit P σ0 h n op e := by
  have hint : ∀ v : AV, fitB.isIntA v = true → ∃ k a, v.den ρ = .int k a := fun v hv => by
    unfold fitB.isIntA at hv
    split at hv
    · exact ⟨_, _, rfl⟩
    · cases hv
  cases op <;> try exact trivial
  case load t x =>
    unfold fitB at hb
    simp only at hb
    split at hb
    rotate_left
    · cases hb
    rename_i m o hm
    simp only [Bool.and_eq_true, Bool.not_eq_true'] at hb
    obtain ⟨b, hb1, -⟩ := cellsAt_spec hb.2
    refine ⟨m, o, fun hmn => ?_, hb.2, ?_⟩
    · rw [hmn] at hb; simp at hb
    · rw [he x (by simp [Op.operands]), hm, ← hσ m (hbase m b hb1)]
      rfl
  case fieldAddr t x i =>
    unfold fitB at hb
    simp only at hb
    split at hb
    rotate_left
    · cases hb
    rename_i fs hfs
    split at hb
    rotate_left
    · cases hb
    rename_i f hf
    split at hb
    rotate_left
    · cases hb
    rename_i k hk
    rw [listGet_eq, Array.getElem?_toList] at hf
    exact ⟨fs, f, k, hfs, hf, hk⟩
  case binOp bop t x y u =>
    have hx := he x (by simp [Op.operands])
    have hy := he y (by simp [Op.operands])
    cases bop <;> try exact trivial
    all_goals
      unfold fitB at hb
      simp only [Bool.and_eq_true] at hb
      obtain ⟨k, a, h1⟩ := hint _ hb.1
      obtain ⟨k', b, h2⟩ := hint _ hb.2
      exact ⟨k, a, k', b, hx.trans h1, hy.trans h2⟩
  case call c =>
    intro x hx
    unfold fitB at hb
    simp only [List.all_eq_true] at hb
    obtain ⟨k, a, h1⟩ := hint _ (hb x hx)
    exact ⟨k, a, (he x (by
      simp only [Op.operands, Call.operands]
      cases c.callee <;> simp <;> first | exact .inr (by simpa using hx) | simpa using hx)).trans h1⟩
/-- A region in any order, its first store before or behind what is quiet. -/
theorem cool_order {n : Nat} (hc : Chain C w0 ops base h0 tm0 L) (hd : coolOk ops = true) (hlen : L.length = firstStore ops.toList) (hst2 : ∃ (p : Oper) (t : TypeId) (xs ys : Operand) (off : Nat), ops[firstStore ops.toList]? = some p ∧ p.op = .store t xs ys ∧ aeval (tmAt ops tm0 L (firstStore ops.toList)) xs = .ptr n off) (hnb : ∃ b, (∀ D : Nat → Prop, (∀ i, i < L.length → D i) → There h0 L D n b) ∧ b.kind = .cells) (hfit : ∀ (i : Nat) (p : Oper) (it : Item), i < firstStore ops.toList → i ∉ anc (before ops.toList []) (firstStore ops.toList) → ops[i]? = some p → L[i]? = some it → ∀ (ρ : Env) (e : Operand → Value), (∀ m, m < base → ρ.σ m = ρ0.σ m) → (∀ x ∈ p.op.operands, e x = (aeval it.tm x).den ρ) → Fit C.P ρ0.σ h0 n p.op e) (hs0 : ∀ n b, hget h0 n = some b → n < base ∧ AV.okL base b.cells = true) (ht0 : AV.okL base tm0 = true)
    {Q : Exit → Act → World → Prop} (hQn : ∀ x a w, Q x a w → x = .normal) (hQ : ∀ D ρ a w, (∀ i, i < ops.size → (D i ↔ i < L.length)) → Inv w0 ops base h0 tm0 L ρ0 ws ds D ρ a w → wpOpsIn (fenceR rd) 0 C.P ops Q (List.range' L.length (ops.size - L.length)) a w) :
    ∀ (fuel : Nat) (listed : Array Bool) (ρ : Env) (a : Act) (w : World), listed.size = ops.size → (leftOver ops listed).length ≤ fuel → (∀ i, L.length ≤ i → listed[i]? ≠ some true) → Inv w0 ops base h0 tm0 L ρ0 ws ds (fun i => listed[i]? = some true) ρ a w →
      wpAnyIn (fenceR rd) 0 C.P .any ops Q fuel listed a w := by
  obtain ⟨hb, hk, hspec, htl⟩ := coolOk_spec hd
  have hst : ∀ p, ops[firstStore ops.toList]? = some p → isStore p.op = true := fun p hp => firstStore_is ops.toList p (by simpa using hp)
  have hns : ∀ i p, i < firstStore ops.toList → ops[i]? = some p → isStore p.op = false := fun i p hi hp => firstStore_not ops.toList i p hi (by simpa using hp)
  rw [hlen] at hQ hnb ⊢
  generalize firstStore ops.toList = k at *
  have hlen' : L.length ≤ ops.size := by omega
  have hleft : ∀ listed : Array Bool, listed.size = ops.size → listed[k]? ≠ some true → listed.getD k true = false := fun listed hs hno => by
    have hlt : k < listed.size := by omega
    rw [Array.getElem?_eq_getElem hlt] at hno
    rw [Array.getD_eq_getD_getElem?, Array.getElem?_eq_getElem hlt]
    simpa using hno
  intro fuel
  induction fuel with
  | zero =>
    intro listed ρ a w hs hle hno hI
    exfalso
    have : k ∈ leftOver ops listed := List.mem_filter.2 ⟨List.mem_range.2 hk, by rw [hleft listed hs (hno k (Nat.le_refl _))]; rfl⟩
    have := List.length_pos_of_mem this
    omega
  | succ fuel ih =>
    intro listed ρ a w hs hle hno hI
    refine ⟨fun hr => absurd (ready_nil hb hs hr k hk) (hno k (Nat.le_refl _)), fun i hi => ?_⟩
    obtain ⟨p, hp, hil, hl, hdep⟩ := ready_spec hi
    have hset : ∀ j, (listed.setIfInBounds i true)[j]? = some true ↔ (listed[j]? = some true ∨ j = i) := by
      intro j
      rw [Array.getElem?_setIfInBounds]
      by_cases hji : i = j
      · subst hji; simp [hs, hil]
      · rw [if_neg hji]; simp [Ne.symm hji]
    have hDi : ¬ (listed[i]? = some true) := by
      intro e; rw [Array.getD_eq_getD_getElem?, e] at hl; cases hl
    have hlt := leftOver_lt hil hl hs
    rcases Nat.lt_trichotomy i k with hik | hik | hik
    rotate_left
    · subst hik
      obtain ⟨g1, g2⟩ := (hspec i p hp).2 rfl
      let M := (List.range i).filter fun j => !listed.getD j true
      have hM : ∀ j, j ∈ M ↔ (j < i ∧ ¬ (listed[j]? = some true)) := by
        intro j
        show j ∈ (List.range i).filter _ ↔ _
        rw [List.mem_filter, List.mem_range]
        constructor
        · rintro ⟨h1, h2⟩
          exact ⟨h1, fun e => by rw [Array.getD_eq_getD_getElem?, e] at h2; simp at h2⟩
        · rintro ⟨h1, h2⟩
          refine ⟨h1, ?_⟩
          have hlt : j < listed.size := by omega
          rw [Array.getElem?_eq_getElem hlt] at h2
          rw [Array.getD_eq_getD_getElem?, Array.getElem?_eq_getElem hlt]
          simpa using h2
      have hpw : M.Pairwise (· < ·) := List.Pairwise.filter _ List.pairwise_lt_range
      have hanc : ∀ j, j ∈ anc (before ops.toList []) i → listed[j]? = some true := fun j hj => anc_listed (D := fun j => listed[j]? = some true) hI.closed i p hp hdep j hj
      have hq : ∀ j ∈ M, ∀ q, ops[j]? = some q → coolOp q.op = true ∧ q.guard = none ∧ isStore q.op = false ∧ (∀ d ∈ depsOf q, listed[d]? = some true ∨ d ∈ M) ∧ ∀ it, L[j]? = some it → ∀ (ρ : Env) (e : Operand → Value), (∀ m, m < base → ρ.σ m = ρ0.σ m) → (∀ x ∈ q.op.operands, e x = (aeval it.tm x).den ρ) → Fit C.P ρ0.σ h0 n q.op e := by
        intro j hj q hqj
        obtain ⟨m1, m2⟩ := (hM j).1 hj
        have s4 : coolOp q.op = true ∧ q.guard = none := by
          rcases (hspec j q hqj).1 m1 with h | h
          · exact absurd (hanc j h) m2
          · exact h
        refine ⟨s4.1, s4.2, hns j q m1 hqj, fun d hdm => ?_, fun it hit => hfit j q it m1 (fun hk => m2 (hanc j hk)) hqj hit⟩
        by_cases hld : listed[d]? = some true
        · exact .inl hld
        · refine .inr ((hM d).2 ⟨?_, hld⟩)
          have := (baseOk_spec hb hqj).1 d hdm
          omega
      have hcells : ∀ m, cellsAt h0 m = true → ∃ arr e mk, w.heap[ρ0.σ m]? = some (.cells arr e mk) := fun m hm => by
        obtain ⟨b, hb0, hbk⟩ := cellsAt_spec hm
        have := hI.block m b (.inl hb0)
        rw [(hI.agree m (.inl (hs0 m b hb0).1)).1] at this
        exact cells_obj this hbk
      obtain ⟨f, ρ', hrun, hI'⟩ := serialV (n := n) hc hlen' hb hs0 ht0 hcells _ _ ρ a hI (fun j hj => ⟨by rw [hlen]; exact ((hM j).1 hj).1, ((hM j).1 hj).2⟩) hpw hq
      have hops := hQ _ ρ' f w (fun j hj => ⟨fun h => by
        rcases h with h | h
        · rcases Nat.lt_or_ge j i with h1 | h1
          · exact h1
          · exact absurd h (hno j h1)
        · exact ((hM j).1 h).1, fun h => by
        by_cases hlj : listed[j]? = some true
        · exact .inl hlj
        · exact .inr ((hM j).2 ⟨h, hlj⟩)⟩) hI'
      rw [show ops.size - i = (ops.size - (i + 1)) + 1 by omega] at hops
      obtain ⟨w', hx, hrest⟩ := wpOps_store hQn hp (hst p hp) g1 g2 hops
      have hD2 : ∀ (j : Nat) (q : Oper), ops[j]? = some q → ((fun j => listed[j]? = some true) j ∨ j ∈ M) → j < i := fun j q _ h => by
        rcases h with h | h
        · rcases Nat.lt_or_ge j i with h1 | h1
          · exact h1
          · exact absurd h (hno j h1)
        · exact ((hM j).1 h).1
      have hD3 : ∀ j, j < i → ((fun j => listed[j]? = some true) j ∨ j ∈ M) := fun j hj => by
        by_cases hlj : listed[j]? = some true
        · exact .inl hlj
        · exact .inr ((hM j).2 ⟨hj, hlj⟩)
      obtain ⟨p2, t2, xs, ys, off, s1, s2, s3⟩ := hst2
      rw [hp] at s1; cases s1
      have hxs : f.eval xs = .pointer (some ⟨ρ'.σ n, off, none⟩) := by
        rw [eval_full hc hb hlen hI' hD2 hD3 xs, s3]; rfl
      obtain ⟨bn, hbn1, hbn2⟩ := hnb
      have hbn := hbn1 _ hD3
      obtain ⟨arrn, en, mkn, hobj⟩ := cells_obj (hI'.block n bn hbn) hbn2
      have hsame : ∀ b, b ≠ ρ'.σ n → w'.heap[b]? = w.heap[b]? := by
        refine store_same (P := C.P) (ad := ⟨ρ'.σ n, off, none⟩) (t := t2) (v := f.eval ys) (u := ()) hobj ?_
        have hx2 := hx
        unfold execOp at hx2
        rw [s2] at hx2
        simp only [hxs, Sem.run_bind] at hx2
        cases hr : (Instr.storeAt t2 (.pointer (some ⟨ρ'.σ n, off, none⟩)) (f.eval ys)).run C.P w with
        | halt z w3 => rw [hr] at hx2; cases hx2
        | ok u w3 =>
          rw [hr] at hx2
          have hx3 : Result.ok Next.skip w3 = .ok .skip w' := hx2
          cases hx3
          rfl
      have hto : ∀ (q : Oper) (e : Operand → Value) (v : Value), VW C.P ρ0.σ h0 n w q e = some v → VW C.P ρ0.σ h0 n w' q e = some v := fun q e v hv => by
        obtain ⟨v1, v2, v3⟩ := VW_iff.1 hv
        refine VW_iff.2 ⟨v1, v2, ((cool_steady (w := w) (w' := w') v1 v2 fun m hmn hm => ⟨hcells m hm, hsame _ fun he => hmn ?_⟩).1 _ _ v3).2⟩
        obtain ⟨bm, hbm0, hbmk⟩ := cellsAt_spec hm
        rw [← (hI'.agree m (.inl (hs0 m bm hbm0).1)).1] at he
        exact hI'.inj m n bm bn (.inl hbm0) hbn (mem_cells hbmk) (mem_cells hbn2) he
      have hrun2 := runV_to hto hrun
      unfold wpOpIn
      have hw : Region.wanted p (yielded ops a.tmps) = true := by unfold Region.wanted; rw [g1]
      simp only [hp, hw, if_true]
      refine store_mk (hst p hp) (fun x hxm => ?_) hx ?_
      · refine (runV_keep (fun j hj q t hqj hxt hdt => ?_) hrun).symm
        subst hxt
        obtain ⟨m1, m2⟩ := (hM j).1 hj
        rcases ((baseOk_spec hb hp).2.2.1 j q t hqj hdt).1 (looks_mem hxm) with h | h
        · exact m2 (hanc j h)
        · have := (anc_spec hqj h).1; omega
      · rw [g2]
        have hsplit : (leftOver ops listed).length = M.length + (ops.size - i) := by
          show ((List.range ops.size).filter fun j => !listed.getD j true).length = _
          have e : List.range ops.size = List.range i ++ List.range' i (ops.size - i) := by
            rw [List.range_eq_range', List.range_eq_range', show ops.size = i + (ops.size - i) by omega, ← List.range'_append]
            simp
          rw [e, List.filter_append, List.length_append]
          have h2 : (List.range' i (ops.size - i)).filter (fun j => !listed.getD j true) = List.range' i (ops.size - i) := by
            refine List.filter_eq_self.2 fun j hj => ?_
            rw [List.mem_range'_1] at hj
            have hlt : j < listed.size := by omega
            have := hno j (by omega)
            rw [Array.getElem?_eq_getElem hlt] at this
            rw [Array.getD_eq_getD_getElem?, Array.getElem?_eq_getElem hlt]
            simpa using this
          rw [h2, List.length_range']
        rcases htl with hA | hB
        · refine anyV (VW_congr C.P ρ0.σ h0 n w') (f := f) (m := i + 1) hb (by omega) (fun j q hqj hij => hA j q hqj (by omega)) (fun fl ls e1 e2 e3 => tail_serial hb (fun j q hqj hij => hA j q hqj (by omega)) (ops.size - (i + 1)) (i + 1) fl ls f w' (by omega) (Nat.le_refl _) e1 e2 e3 hrest) fuel M _ a (by simp [hs]) (fun j hj => ?_) (fun j hj => by have := ((hM j).1 hj).1; omega) hpw ?_ (fun j hj q hqj => ⟨fun a v K hv hk => cool_mk hv hk, (hq j hj q hqj).2.1⟩) (fun j q hqj hj d hdm => ?_) hrun2
          · rw [hset, hM]
            constructor
            · rintro (h | h)
              · have hji : j < i := by
                  rcases Nat.lt_or_ge j i with h1 | h1
                  · exact h1
                  · exact absurd h (hno j h1)
                exact ⟨by omega, fun h' => h'.2 h⟩
              · exact ⟨by omega, fun h' => by omega⟩
            · rintro ⟨h1, h2⟩
              by_cases hji : j = i
              · exact .inr hji
              · exact .inl (Classical.byContradiction fun h3 => h2 ⟨by omega, h3⟩)
          · omega
          · rw [hset]
            left
            rcases (hset j).1 hj with h | rfl
            · exact hI.closed j q hqj h d hdm
            · rw [hp] at hqj; cases hqj; exact hdep d hdm
        · obtain ⟨g, hg, hrest2⟩ := quiet_tailV (σ0 := ρ0.σ) (h0 := h0) (n0 := n) (ops.size - (i + 1)) (i + 1) f (by omega) (fun j q hqj hij => ⟨(hB j q hqj (by omega)).1, (hB j q hqj (by omega)).2.1⟩) hrest
          have hin : ∀ j, j ∈ List.range' (i + 1) (ops.size - (i + 1)) ↔ (i < j ∧ j < ops.size) := fun j => by rw [List.mem_range'_1]; omega
          refine anyV (VW_congr C.P ρ0.σ h0 n w') (f := g) (m := ops.size) hb (Nat.le_refl _) (fun j q hqj hij => ?_) (fun fl ls e1 e2 e3 => tail_serial hb (m := ops.size) (fun j q hqj hij => ?_) 0 ops.size fl ls g w' (by omega) (Nat.le_refl _) e1 e2 (by omega) hrest2) fuel (M ++ List.range' (i + 1) (ops.size - (i + 1))) _ a (by simp [hs]) (fun j hj => ?_) (fun j hj => ?_) ?_ ?_ (fun j hj q hqj => ?_) (fun j q hqj hj d hdm => ?_) (runV_append hrun2 hg)
          · rw [Array.getElem?_eq_none hij] at hqj; cases hqj
          · rw [Array.getElem?_eq_none hij] at hqj; cases hqj
          · rw [hset, List.mem_append, hM, hin]
            constructor
            · rintro (h | h)
              · have hji : j < i := by
                  rcases Nat.lt_or_ge j i with h1 | h1
                  · exact h1
                  · exact absurd h (hno j h1)
                exact ⟨hj, fun h' => by rcases h' with h' | h'; exact h'.2 h; omega⟩
              · exact ⟨hj, fun h' => by rcases h' with h' | h' <;> omega⟩
            · rintro ⟨h1, h2⟩
              by_cases hji : j = i
              · exact .inr hji
              · refine .inl (Classical.byContradiction fun h3 => h2 ?_)
                rcases Nat.lt_or_ge j i with h4 | h4
                · exact .inl ⟨h4, h3⟩
                · exact .inr ⟨by omega, hj⟩
          · rcases List.mem_append.1 hj with h | h
            · have := ((hM j).1 h).1; omega
            · exact ((hin j).1 h).2
          · refine List.pairwise_append.2 ⟨hpw, List.pairwise_lt_range', fun x hx y hy => ?_⟩
            have := ((hM x).1 hx).1
            have := ((hin y).1 hy).1
            omega
          · rw [List.length_append, List.length_range']; omega
          · rcases List.mem_append.1 hj with h | h
            · exact ⟨fun a v K hv hk => cool_mk hv hk, (hq j h q hqj).2.1⟩
            · exact ⟨fun a v K hv hk => cool_mk hv hk, (hB j q hqj ((hin j).1 h).1).2.1⟩
          · rw [hset]
            left
            rcases (hset j).1 hj with h | rfl
            · exact hI.closed j q hqj h d hdm
            · rw [hp] at hqj; cases hqj; exact hdep d hdm
    · exfalso
      exact hno k (Nat.le_refl _) (anc_listed (D := fun j => listed[j]? = some true) hI.closed i p hp hdep k (by rcases htl with hA | hB; exact hA i p hp hik k hik; exact (hB i p hp hik).2.2))
    · have s1 := hns i p hik hp
      have hit : L[i]? = some (L[i]'(by omega)) := List.getElem?_eq_getElem (by omega)
      have hnext : ∀ ρ' a' w', Inv w0 ops base h0 tm0 L ρ0 ws ds (fun j => listed[j]? = some true ∨ j = i) ρ' a' w' → wpAnyIn (fenceR rd) 0 C.P .any ops Q fuel (listed.setIfInBounds i true) a' w' := by
        intro ρ' a' w' hI'
        refine ih _ ρ' a' w' (by simp [hs]) (by omega) (fun j hj e => ?_) ?_
        · rcases (hset j).1 e with h | h
          · exact hno j hj h
          · omega
        · have : (fun j => (listed.setIfInBounds i true)[j]? = some true) = (fun j => listed[j]? = some true ∨ j = i) := funext fun j => propext (hset j)
          rw [this]; exact hI'
      obtain ⟨-, -, -, -, hf⟩ := hc.item i _ p hit hp
      have hg := guard_stands hc hlen' hb hI hp hit hdep hDi
      unfold wpOpIn
      simp only [hp]
      rcases hf with ⟨f1, f2, f3, f4, f5⟩ | ⟨f1, f2, f3, f4, s, o, g1, g2, g3, g4, g5, g6, g7, g8⟩ | ⟨f1, -⟩
      rotate_left 2
      · rw [s1] at f1; cases f1
      · rw [f1 ρ a.tmps hg]
        simp only [Bool.false_eq_true, if_false]
        exact ⟨fun _ _ => trivial, hnext ρ _ w (inv_off hb hI hp hit hdep hDi f2 f3)⟩
      · rw [f1 ρ a.tmps hg]
        simp only [if_true]
        obtain ⟨v, k1, k2, k3, k4, k5⟩ := g8
        rw [g4] at k1
        cases k1
        obtain ⟨ρi, hdi, hRep, hstep⟩ := inv_on hc hlen' hb hs0 ht0 hI hp hit hdep hDi g2 g3 g5 g6 g7
        refine k5 rd ρi a w _ Q (fun x hx => by rw [g1, hdi]; exact operand_stands hc hlen' hb hI hp hit hdep hDi x hx) hRep hI.below fun ρ' w' hr' hp' => ?_
        obtain ⟨ρ2, h2⟩ := hstep ρ' w' hr' hp'
        exact hnext ρ2 _ w' h2
end
section
variable {C : Ctx} {G : World → Prop} {w0 : World} {R : Rec}
/-- A region that draws its order, its first store before or behind what is quiet. -/
theorem region_cool (hg : Good C G) {id : Nat} {f : FuncId} {ops : Array Oper} {s : St} {o2 : Out} (hd : coolOk ops = true) (hk : StOK s)
    (h2' : goCool C R f ops s.heap (R (.draw f ops (ops.toList.take (firstStore ops.toList)) s.nxt [] []) s) = some o2) (hl : Holds C G o2.log)
    (hdraw : ∀ o, R (.draw f ops (ops.toList.take (firstStore ops.toList)) s.nxt [] []) s = some o → Holds C G o.log → DrawOK C w0 ops (ops.toList.take (firstStore ops.toList)) s.nxt [] [] s o)
    (htail : ∀ s o, R (.ops f ops (ops.toList.drop (firstStore ops.toList))) s = some o → Holds C G o.log → StOK s → OpsOK C w0 ops (ops.toList.drop (firstStore ops.toList)) s o) : CodeOK C w0 (.region id ops true) s o2 := by
  have hfs : firstStore ops.toList ≤ ops.size := by simpa using firstStore_le ops.toList
  unfold goCool at h2'
  split at h2'
  rotate_left
  · cases h2'
  rename_i s1 l1 c1 k1 hrun
  split at h2'
  rotate_left
  · cases h2'
  rename_i hcf
  obtain ⟨pS, tS, xS, yS, nS, offS, g1, g2, g3, g4, g5⟩ := coolFit_spec hcf
  generalize hm : firstStore ops.toList = m at *
  obtain ⟨o3, hr3, rfl⟩ := behind_eq h2'
  have h := hdraw _ hrun hl.left
  generalize ho : (⟨.normal, s1, l1, ⟨c1, k1⟩⟩ : Out) = o at h
  obtain ⟨L, h1, h2, h3, h4, h5, h6, h7, h8⟩ := h m [] s.tmps hfs rfl rfl rfl rfl rfl (Nat.le_refl _) ⟨fun i it p hi => by simp at hi, fun i it p hi => by simp at hi⟩ (Nat.zero_le _)
  have hs1 : s1 = o.st := by rw [← ho]
  have hl1 : l1 = o.low := by rw [← ho]
  subst hs1
  subst hl1
  obtain ⟨b1, b2, b3, b4⟩ := htail _ _ hr3 hl.right h7
  have hfr := h8.2
  replace h8 := h8.1
  refine ⟨by rw [b1]; rfl, b2, ⟨Nat.le_trans h8 b3.1, by rw [b3.2, hfr]⟩, fun ρ w Q hr hb he => ?_⟩
  unfold fenceOf
  have hs0 : ∀ n b, hget s.heap n = some b → n < s.nxt ∧ AV.okL s.nxt b.cells = true := hr.scope
  refine wpIn_mono (Q := fun x a w => x = .normal ∧ Q x a w) ?_ (fun _ _ _ h => h.2)
  refine wpIn_region_any hg.mixed ?_
  have hI0 : Inv w0 ops s.nxt s.heap s.tmps L ρ w (act ρ s.res.fr s.tmps).defers (fun i => (Array.replicate ops.size false)[i]? = some true) ρ (act ρ s.res.fr s.tmps) { w with drawn := w.drawn + 1 } := by
    have hno : ∀ i, ¬ ((Array.replicate ops.size false)[i]? = some true) := fun i e => by
      rw [Array.getElem?_replicate] at e; split at e <;> simp at e
    have hth : ∀ n b, There s.heap L (fun i => (Array.replicate ops.size false)[i]? = some true) n b → hget s.heap n = some b := fun n b h => by
      rcases h with h | ⟨j, it, hj, -⟩
      · exact h
      · exact absurd hj (hno j)
    exact ⟨fun i p _ hi => absurd hi (hno i), rfl, by simp [act, denL_length], fun j it p t hj => absurd hj (hno j), fun t _ => by simp [act], fun n b hn => (hr.block n b (hth n b hn)).keep (fun k hk hf => ⟨rfl, hf.1, fun n b hn hm => hf.2 n b (hth n b hn) hm⟩) rfl rfl fun _ => rfl, fun n m b c hn hm => hr.inj n m b c (hth n b hn) (hth m c hm),
      fun n b hn => hr.above n b (hth n b hn), fun j it n b hj => absurd hj (hno j), ⟨rfl, rfl⟩, hr.base, fun n b hn => hr.reach n b (hth n b hn), fun n _ => ⟨rfl, rfl⟩, rfl, rfl, rfl, Nat.le_refl _, fun k _ => rfl, hb.drew⟩
  have gth : ∀ D : Nat → Prop, (∀ i, i < L.length → D i) → ∀ n b, hget o.st.heap n = some b → There s.heap L D n b := by
    intro D hD n b hn
    rw [h5, hget_append] at hn
    cases hm : hget (L.map Item.made).flatten n with
    | some c =>
      rw [hm] at hn; cases hn
      obtain ⟨j, hh, hj, hb⟩ := flatten_get' hm
      rw [List.getElem?_map] at hj
      cases hjt : L[j]? with
      | none => rw [hjt] at hj; cases hj
      | some jt =>
        rw [hjt] at hj
        simp only [Option.map_some, Option.some.injEq] at hj
        subst hj
        exact .inr ⟨j, jt, hD j (List.getElem?_eq_some_iff.1 hjt).1, hjt, hb⟩
    | none => rw [hm] at hn; exact .inl hn
  obtain ⟨bS, hbS, hbSk⟩ := cellsAt_spec g4
  refine cool_order (n := nS) (ρ0 := ρ) (ws := w) h2 hd (by omega) ⟨pS, tS, xS, yS, offS, by rw [hm]; exact g1, g2, by rw [hm, ← h4]; exact g3⟩ ⟨bS, fun D hD => gth D hD nS bS hbS, hbSk⟩ ?_ hs0 hk.1 (fun _ _ _ h => h.1) ?_ ops.size _ ρ _ _ (by simp) (by unfold leftOver; exact Nat.le_trans (List.length_filter_le _ _) (by simp)) (fun i _ e => by
    rw [Array.getElem?_replicate] at e; split at e <;> simp at e) hI0
  · rw [hm]
    intro i p it hi hna hp hit ρ1 e hσ1 he1
    obtain ⟨f1, f2⟩ := g5 i hi hna p hp
    have hitm := (h2.item i it p hit hp).1
    refine fitB_spec f1 (fun n b hn => (hs0 n b hn).1) hσ1 fun x hx => ?_
    rw [he1 x hx, hitm, standsFrom_spec f2 (by omega) x hx, h4]
  intro D ρ' a w' hD hI
  -- all is done that may come in any order
  have hD' : ∀ i, i < m → D i := fun i hi => (hD i (by omega)).2 (by omega)
  have hDm : ∀ i p, ops[i]? = some p → D i → i < m := fun i p hp hDi => by
    have hi : i < ops.size := by
      rcases Nat.lt_or_ge i ops.size with h | h
      · exact h
      · simp [Array.getElem?_eq_none h] at hp
    have := (hD i hi).1 hDi
    omega
  rw [h1]
  have hle : s.nxt ≤ nxAt s.nxt L m := by rw [← h6]; exact h8
  have hth : ∀ n b, hget o.st.heap n = some b → There s.heap L D n b := by
    intro n b hn
    rw [h5, hget_append] at hn
    cases hm : hget (L.map Item.made).flatten n with
    | some c =>
      rw [hm] at hn; cases hn
      obtain ⟨j, hh, hj, hb⟩ := flatten_get' hm
      rw [List.getElem?_map] at hj
      cases hjt : L[j]? with
      | none => rw [hjt] at hj; cases hj
      | some jt =>
        rw [hjt] at hj
        simp only [Option.map_some, Option.some.injEq] at hj
        subst hj
        exact .inr ⟨j, jt, hD' j (by have := (List.getElem?_eq_some_iff.1 hjt).1; omega), hjt, hb⟩
    | none => rw [hm] at hn; exact .inl hn
  have hσ : ∀ n, n < s.nxt → ρ'.σ n = ρ.σ n := fun n hn => (hI.agree n (.inl hn)).1
  have ha : a = act ρ' o.st.res.fr o.st.tmps := by
    obtain ⟨tmps, defers⟩ := a
    have hdf := hI.defers
    simp only [act] at hdf
    subst hdf
    rw [hfr]
    unfold act
    rw [marks_eq hσ hk.2]
    congr 1
    rw [h4]
    apply Array.ext'
    apply List.ext_getElem?
    intro t
    rw [Array.getElem?_toList]
    by_cases hex : ∃ (j : Nat) (q : Oper), j < m ∧ ops[j]? = some q ∧ q.dst = some t
    · obtain ⟨j, q, hj, hq, hdq⟩ := hex
      have hjt : L[j]? = some L[j] := List.getElem?_eq_getElem (by omega)
      rcases Nat.lt_or_ge t s.tmps.length with hlt | hge
      · have e1 := hI.put j _ q t (hD' j hj) hjt hq hdq hlt
        simp only at e1
        rw [e1, denL_map, List.getElem?_map, tmAt_put hjt hq hdq hlt (fun k r hk hr hdr => ((baseOk_spec (coolOk_spec hd).1 hr).2.2.1 j q t hq hdq).2 hk hdr) hj]
        rfl
      · have hsz := hI.size
        simp only at hsz
        rw [Array.getElem?_eq_none (by omega), denL_map, List.getElem?_map, List.getElem?_eq_none (by rw [tmAt_length]; exact hge)]; rfl
    · have hno : ∀ (j : Nat) (q : Oper), j < m → ops[j]? = some q → q.dst ≠ some t := fun j q hj hq hdq => hex ⟨j, q, hj, hq, hdq⟩
      have e1 := hI.left t (fun j q hDj hq => hno j q (hDm j q hq hDj) hq)
      simp only at e1
      rw [e1, denL_map, denL_map, List.getElem?_map, List.getElem?_map, tmAt_keep (fun j q hj hq => hno j q hj hq)]
  have hmade : ∀ n b, hget o.st.heap n = some b → ¬ hget s.heap n = some b → s.nxt ≤ n ∧ n < o.st.nxt ∧ AV.okL o.st.nxt b.cells = true ∧ (b.mem = true → w.heap.size ≤ ρ'.σ n) := by
    intro n b hn hne
    rcases hth n b hn with h | ⟨j, jt, hDj, hjt, hb⟩
    · exact absurd h hne
    · obtain ⟨m1, m2, m3, m4⟩ := hI.made j jt n b hDj hjt hb
      have := base_le h2 (by omega) hjt
      rw [h1] at this
      rw [h6]
      exact ⟨by omega, by omega, okL_mono (by omega) _ m3, m4⟩
  rw [ha]
  have hRep : Rep w0.heap.size ρ' o.st.heap o.st.nxt w' := by
    refine ⟨fun n b hn => (hI.block n b (hth n b hn)).keep (Keep.wide fun k hk hf => ⟨hf.1, fun n b hn hm => hf.2 n b (hth n b hn) hm⟩) rfl rfl fun _ => rfl, fun n m b c hn hm => hI.inj n m b c (hth n b hn) (hth m c hm), fun n b hn => ?_, fun n b hn => hI.above n b (hth n b hn), by rw [hI.area.2]; exact Nat.le_trans hI.ground hI.wsize, fun n b hn => hI.reach n b (hth n b hn)⟩
    by_cases hne : hget s.heap n = some b
    · obtain ⟨q1, q2⟩ := hs0 n b hne
      exact ⟨by rw [h6]; omega, okL_mono (by rw [h6]; exact hle) _ q2⟩
    · obtain ⟨-, q1, q2, -⟩ := hmade n b hn hne
      exact ⟨q1, q2⟩
  have hPost : Post ρ ρ' s.heap o.st.heap s.nxt o.st.nxt o.low w w' := by
    refine ⟨fun n hn => hI.agree n (by rw [h1, ← h6]; exact hn), hI.area, h8, hI.os, hI.tape, hI.output, hI.wsize, fun k hk _ => hI.frame k hk, fun n b hn hbm => ?_, fun n hl hx => ?_⟩
    · by_cases hne : hget s.heap n = some b
      · exact .inl ⟨n, b, hne, hbm, (hI.agree n (.inl (hs0 n b hne).1)).1, .inl rfl⟩
      · exact .inr ((hmade n b hn hne).2.2.2 hbm)
    · rw [h5, hget_append]
      cases hm : hget (L.map Item.made).flatten n with
      | none => rfl
      | some c =>
        obtain ⟨j, hh, hj, hb⟩ := flatten_get' hm
        rw [List.getElem?_map] at hj
        cases hjt : L[j]? with
        | none => rw [hjt] at hj; cases hj
        | some jt =>
          rw [hjt] at hj
          simp only [Option.map_some, Option.some.injEq] at hj
          subst hj
          have hjl := (List.getElem?_eq_some_iff.1 hjt).1
          obtain ⟨m1, -⟩ := hI.made j jt n c (hD' j (by omega)) hjt hb
          have := base_le h2 (by omega) hjt
          omega
  simp only [b1] at he
  have b4' := fun Q => b4 m rfl ρ' w' Q
  have he2 := he.trans (x := .normal) (l := ⟨c1 ++ o3.log.conds, k1 ++ o3.log.calls⟩) hr hRep hPost
  have hfe := fence_eq (ρ := ρ) (ρ1 := ρ') hσ hk.2 (show o.st.res.fr.rnd = s.res.fr.rnd by rw [hfr])
  rw [hfe] at b4'
  exact b4' _ hRep (below_of_post hr hPost hb) (fun ρ2 w2 r2 p2 => ⟨rfl, he2 ρ2 w2 r2 p2⟩)
end
end Go.Ev
/- An append touches no block but the one that it appends to. -/
namespace Go.Ev
open Go.RowKit
theorem storeCells_row {P : Program} {a : Addr} {e : TypeId} {mk : Nat × Nat} : ∀ (vs : List Value) (i : Nat) {w w' : World} {u : Unit} {arr : Array Value}, w.heap[a.block]? = some (.cells arr e mk) → (storeCells a vs i).run P w = .ok u w' → w'.heap.size = w.heap.size ∧ ∃ arr', w'.heap[a.block]? = some (.cells arr' e mk)
  | [], i, w, w', u, arr, h1, h => by
    have h' : Result.ok () w = .ok u w' := h
    cases h'
    exact ⟨rfl, arr, h1⟩
  | v :: vs, i, w, w', u, arr, h1, h => by
    unfold storeCells at h
    rw [Sem.run_bind] at h
    have hblk : (a.add i).block = a.block := by unfold Addr.add; split <;> rfl
    cases hr : (store (a.add i) v).run P w with
    | halt z w3 => rw [hr] at h; cases h
    | ok u3 w3 =>
      rw [hr] at h
      have h : (storeCells a vs (i + 1)).run P w3 = .ok u w' := h
      have hw3 : w3 = w.setCell (a.add i) v := by
        have key : ∀ v : Value, (∀ cs, v ≠ .agg cs) → (∀ cs, v ≠ .tuple cs) → (store (a.add i) v).run P w = .ok u3 w3 → w3 = w.setCell (a.add i) v := fun v k1 k2 hr => by
          have e : (store (a.add i) v).run P w = (match w.cell? (a.add i) with
            | some _ => if w.frozen? (a.add i) then Result.halt (.unsupported (.unsafePointer "a write to bytes that a string shares")) w else Result.ok () (w.setCell (a.add i) v)
            | none => match World.farStore P w (a.add i) v (Mode.plain == Mode.atomic) with
              | .ok (w, _) => Result.ok () w
              | .error h => .halt h w) := by
            unfold store Sem.run
            cases v <;> first | exact absurd rfl (k1 _) | exact absurd rfl (k2 _) | rfl
          rw [e] at hr
          split at hr
          · split at hr
            · cases hr
            · cases hr; rfl
          · simp only [World.farStore, hblk, h1] at hr
            cases hr
        cases v with
        | agg cs => have h' : Result.halt (.stuck "store: not the value of one cell") w = Result.ok u3 w3 := hr; cases h'
        | tuple cs => have h' : Result.halt (.stuck "store: not the value of one cell") w = Result.ok u3 w3 := hr; cases h'
        | _ => exact key _ (by simp) (by simp) hr
      subst hw3
      have hget : ∃ arr', (w.setCell (a.add i) v).heap[a.block]? = some (.cells arr' e mk) := by
        unfold World.setCell
        simp only [hblk, Array.getElem?_modify, if_true, h1, Option.map_some]
        exact ⟨_, rfl⟩
      obtain ⟨arr', hget⟩ := hget
      obtain ⟨q1, q2⟩ := storeCells_row vs (i + 1) hget h
      refine ⟨?_, q2⟩
      rw [q1]
      unfold World.setCell
      simp
structure NearW (B : Nat) (w0 w : World) : Prop where
  size : w0.heap.size ≤ w.heap.size
  same : ∀ b, b < w0.heap.size → b ≠ B → w.heap[b]? = w0.heap[b]?
  row : ∃ arr e mk, w.heap[B]? = some (.cells arr e mk)
def Near {α : Type} (P : Program) (B : Nat) (w0 : World) (s : Sem α) : Prop := ∀ w v w', NearW B w0 w → s.run P w = .ok v w' → NearW B w0 w'
section
variable {P : Program} {B : Nat} {w0 : World} {α β : Type}
theorem near_bind {s : Sem α} {f : α → Sem β} (h1 : Near P B w0 s) (h2 : ∀ v, Near P B w0 (f v)) : Near P B w0 (s >>= f) := fun w v w' hn h => by
  rw [Sem.run_bind] at h
  cases hs : s.run P w with
  | halt z w3 => rw [hs] at h; cases h
  | ok u w3 =>
    rw [hs] at h
    exact h2 u w3 v w' (h1 w u w3 hn hs) h
theorem near_steady {s : Sem α} (h : ∀ w, NearW B w0 w → Steady P w w s) : Near P B w0 s := fun w v w' hn hr => by
  obtain ⟨rfl, -⟩ := h w hn v w' hr
  exact hn
theorem near_pure (a : α) : Near P B w0 (pure a : Sem α) := near_steady fun _ _ => steady_pure a
theorem near_halt (z : Halt) : Near P B w0 (.halt z : Sem α) := near_steady fun _ _ => steady_halt z
theorem near_never {s : Sem α} (h : ∀ w v w', s.run P w ≠ .ok v w') : Near P B w0 s := fun w v w' _ hr => absurd hr (h w v w')
theorem never_bind {s : Sem α} {f : α → Sem β} (h : ∀ u w v w', (f u).run P w ≠ .ok v w') : ∀ w v w', (s >>= f).run P w ≠ .ok v w' := fun w v w' hr => by
  rw [Sem.run_bind] at hr
  cases hs : s.run P w with
  | halt z w3 => rw [hs] at hr; cases hr
  | ok u w3 => rw [hs] at hr; exact h u w3 v w' hr
theorem near_underlying (t : TypeId) : Near P B w0 (underlying t) := near_steady fun _ _ => steady_underlying t
theorem near_info (t : TypeId) : Near P B w0 (typeInfo t) := near_steady fun _ _ => steady_info t
theorem near_sizeOf (t : TypeId) : Near P B w0 (sizeOf t) := near_steady fun _ _ => steady_sizeOf t
theorem push_lt' {α : Type} {a : Array α} {x : α} {i : Nat} (h : i < a.size) : (a.push x)[i]? = a[i]? := by
  rw [Array.getElem?_push]; split
  · omega
  · rfl
theorem NearW.heap {w w' : World} (hn : NearW B w0 w) (h : w'.heap = w.heap) : NearW B w0 w' := ⟨by rw [h]; exact hn.size, by rw [h]; exact hn.same, by rw [h]; exact hn.row⟩
theorem near_choose (q : Question) : Near P B w0 (choose q) := fun w v w' hn h => by
  refine hn.heap ?_
  unfold choose at h
  simp only [Sem.run] at h
  split at h
  · have h' : Result.ok _ _ = Result.ok v w' := h
    cases h'
    rfl
  · have h' : Result.ok _ _ = Result.ok v w' := h
    cases h'
    rfl
theorem near_mark (m : Mark) : Near P B w0 (mark m) := fun w v w' hn h => by
  have h' : Result.ok () w = .ok v w' := h
  cases h'
  exact hn
theorem near_newRow (e : TypeId) (cs : Array Value) : Near P B w0 (newRow e cs) := fun w v w' hn h => by
  rw [run_newRow] at h
  cases h
  have hB : B < w.heap.size := by
    obtain ⟨arr, e, mk, hr⟩ := hn.row
    rcases Nat.lt_or_ge B w.heap.size with h1 | h1
    · exact h1
    · rw [Array.getElem?_eq_none h1] at hr; cases hr
  refine ⟨by simp; have := hn.size; omega, fun b hb hne => ?_, ?_⟩
  · rw [← hn.same b hb hne]
    exact push_lt' (by have := hn.size; omega)
  · obtain ⟨arr, e, mk, hr⟩ := hn.row
    refine ⟨arr, e, mk, ?_⟩
    rw [← hr]
    exact push_lt' hB
theorem near_load1 (a : Addr) : Near P B w0 (load a) := fun w v w' hn h => by
  unfold load at h
  simp only [Sem.run] at h
  split at h
  · have h' : Result.ok _ w = Result.ok v w' := h
    cases h'
    exact hn
  · split at h
    · have h' : Result.ok _ w = Result.ok v w' := h
      cases h'
      exact hn
    · cases h
theorem near_load (A : Addr) : ∀ (n i : Nat) (acc : Array Value), Near P B w0 (loadCellsFrom A i n acc)
  | 0, i, acc => near_pure _
  | n + 1, i, acc => by
    unfold loadCellsFrom
    exact near_bind (near_load1 _) fun v => near_load A n (i + 1) _
theorem near_store {A : Addr} (hA : A.block = B) (vs : List Value) : Near P B w0 (storeCells A vs) := fun w v w' hn h => by
  obtain ⟨arr, e, mk, hr⟩ := hn.row
  obtain ⟨q1, arr', q2⟩ := storeCells_row vs 0 (by rw [hA]; exact hr) h
  rw [hA] at q2
  refine ⟨by rw [q1]; exact hn.size, fun b hb hne => ?_, arr', e, mk, q2⟩
  rw [storeCells_same vs 0 (by rw [hA]; exact hr) h b (by rw [hA]; exact hne), hn.same b hb hne]
theorem near_zeroValue (t : TypeId) : Near P B w0 (zeroValue t) := near_steady fun _ _ => by
  unfold zeroValue
  refine steady_bind (steady_info t) fun i => ?_
  split
  · exact steady_pure _
  · exact steady_halt _
theorem near_first (size n : Nat) (x : Value) : Near P B w0 (Builtin.firstCells size n x) := by
  unfold Builtin.firstCells
  split
  · exact near_load _ _ _ _
  · exact near_pure _
  · exact near_pure _
  · exact near_halt _
theorem near_lenOf (x : Value) : Near P B w0 (Builtin.lenOf x) := by
  unfold Builtin.lenOf
  split
  · exact near_pure _
  · exact near_pure _
  · exact near_halt _
theorem near_room (b : Nat) : Near P B w0 (askRoom b) := by
  unfold askRoom
  split
  · exact near_mark _
  · exact near_pure _
theorem near_runtimePanic (m : String) : Near P B w0 (runtimePanic (.error m) : Sem α) := near_never fun w v w' h => by
  unfold runtimePanic goPanic at h
  cases h
theorem near_asInt (x : Value) : Near P B w0 (asInt x) := near_steady fun w _ => by
  unfold asInt
  exact steady_bind (steady_int x) fun _ => steady_pure _
theorem near_unsupported (z : Unsupported) : Near P B w0 (unsupported z : Sem α) := near_halt _
theorem near_then {s : Sem α} {f : α → Sem β} (h : ∀ u w v w', (f u).run P w ≠ .ok v w') : Near P B w0 (s >>= f) := near_never (never_bind h)
theorem near_shape (r : Nat) : Near P B w0 (shape r) := fun w v w' hn h => by
  have h' : Result.ok _ w = .ok v w' := h
  cases h'
  exact hn
theorem near_frozen (a : Addr) : Near P B w0 (frozen a) := fun w v w' hn h => by
  have h' : Result.ok _ w = .ok v w' := h
  cases h'
  exact hn
theorem near_ite {c : Prop} [Decidable c] {s t : Sem α} (h1 : Near P B w0 s) (h2 : Near P B w0 t) : Near P B w0 (if c then s else t) := by
  split
  · exact h1
  · exact h2
set_option maxHeartbeats 4000000 in
theorem near_append {t u ty : TypeId} {off len cap : Nat} {y : Value} : Near P B w0 (Builtin.append_ #[t, u] ty #[.slice (some ⟨B, off, none⟩) len cap, y]) := by
  unfold Builtin.append_
  refine near_bind (near_underlying t) fun d => ?_
  split
  · rename_i elem
    show Near P B w0 (sizeOf elem >>= _)
    repeat' (first
      | exact near_pure _
      | exact near_halt _
      | exact near_unsupported _
      | exact near_runtimePanic _
      | exact near_underlying _
      | exact near_info _
      | exact near_sizeOf _
      | exact near_zeroValue _
      | exact near_choose _
      | exact near_mark _
      | exact near_room _
      | exact near_first _ _ _
      | exact near_lenOf _
      | exact near_asInt _
      | exact near_newRow _ _
      | exact near_store (by unfold Addr.add; split <;> rfl) _
      | exact near_then (never_bind fun _ _ _ _ h => by cases h)
      | refine near_bind ?_ fun _ => ?_
      | refine near_ite ?_ ?_
      | exact near_shape _
      | exact near_frozen _
      | dsimp only
      | split)
  · exact near_halt _
set_option maxHeartbeats 4000000 in
theorem near_append_nil {t u ty : TypeId} {len cap : Nat} {y : Value} : Near P B w0 (Builtin.append_ #[t, u] ty #[.slice none len cap, y]) := by
  unfold Builtin.append_
  refine near_bind (near_underlying t) fun d => ?_
  split
  · rename_i elem
    show Near P B w0 (sizeOf elem >>= _)
    repeat' (first
      | exact near_pure _
      | exact near_halt _
      | exact near_unsupported _
      | exact near_runtimePanic _
      | exact near_underlying _
      | exact near_info _
      | exact near_sizeOf _
      | exact near_zeroValue _
      | exact near_choose _
      | exact near_mark _
      | exact near_room _
      | exact near_first _ _ _
      | exact near_lenOf _
      | exact near_asInt _
      | exact near_newRow _ _
      | exact near_store (by unfold Addr.add; split <;> rfl) _
      | exact near_then (never_bind fun _ _ _ _ h => by cases h)
      | refine near_bind ?_ fun _ => ?_
      | refine near_ite ?_ ?_
      | exact near_shape _
      | exact near_frozen _
      | dsimp only
      | split)
  · exact near_halt _
end
end Go.Ev
/- Running the program's functions on values that are known in part: appends in regions that draw their order. -/
namespace Go.Ev
open Go.RowKit
def isRow (b : ABlock) : Bool := match b.kind with
  | .cells => true
  | .big _ => true
  | _ => false
theorem rowAt_spec {h : AHeap} {n : Nat} (e : rowAt h n = true) : ∃ b, hget h n = some b ∧ isRow b = true := by
  unfold rowAt at e
  split at e
  · rename_i b hb
    refine ⟨b, hb, ?_⟩
    unfold isRow
    split at e <;> simp_all
  · cases e
theorem row_mem {b : ABlock} (h : isRow b = true) : b.mem = true := by
  unfold isRow at h
  unfold ABlock.mem
  split at h <;> simp_all
theorem row_obj {A : Nat → Prop} {w : World} {ρ : Env} {b : ABlock} {kp : Kap} {o : Option Obj} (h : BlockOK A w ρ b kp o) (hk : isRow b = true) : ∃ arr e mk, o = some (.cells arr e mk) := by
  unfold BlockOK at h
  unfold isRow at hk
  split at hk
  · rename_i hk2
    rw [hk2] at h
    obtain ⟨arr, e, rest, h1, -⟩ := h
    exact ⟨arr, e, _, h1⟩
  · rename_i hk2
    rw [hk2] at h
    obtain ⟨arr, e, rest, vs, h1, -⟩ := h
    exact ⟨arr, e, _, h1⟩
  · cases hk
theorem rowName_den {v : AV} {n : Nat} (h : rowName v = some n) (ρ : Env) : ∃ off len cap, v.den ρ = .slice (some ⟨ρ.σ n, off, none⟩) len cap := by
  unfold rowName at h
  split at h
  · cases h; exact ⟨_, _, _, rfl⟩
  · cases h; exact ⟨_, _, _, rfl⟩
  · cases h; exact ⟨_, _, _, rfl⟩
  · cases h
theorem exec_app {P : Program} {w : World} {p : Oper} {c : Call} (hp : p.op = .call c) (hc : c.callee = .builtin .append) (e : Operand → Value) : execOp e p = (do let v ← Builtin.append_ c.argTypes p.type (c.args.map e); pure (.value v)) := by
  obtain ⟨dst, op, type, pos, after, guard⟩ := p
  simp only at hp
  subst hp
  obtain ⟨callee, args, argTypes⟩ := c
  simp only at hc
  subst hc
  rfl
theorem app_ran {P : Program} {w w' : World} {p : Oper} {c : Call} (hp : p.op = .call c) (hc : c.callee = .builtin .append) {e : Operand → Value} {nx : Next} (h : (execOp e p).run P w = .ok nx w') : ∃ v, nx = .value v ∧ (Builtin.append_ c.argTypes p.type (c.args.map e)).run P w = .ok v w' := by
  rw [exec_app (P := P) (w := w) hp hc, Sem.run_bind] at h
  cases hr : (Builtin.append_ c.argTypes p.type (c.args.map e)).run P w with
  | halt z w3 => rw [hr] at h; cases h
  | ok v w3 =>
    rw [hr] at h
    have h' : Result.ok (Next.value v) w3 = .ok nx w' := h
    cases h'
    exact ⟨v, rfl, rfl⟩
theorem app_near {P : Program} {w w' : World} {p : Oper} {c : Call} {B : Nat} (hp : p.op = .call c) (hc : c.callee = .builtin .append) {x y : Operand} {t u : TypeId} (ha : c.args = #[x, y]) (ht : c.argTypes = #[t, u]) {e : Operand → Value} {off len cap : Nat} (hx : e x = .slice (some ⟨B, off, none⟩) len cap) {w0 : World} (hn : NearW B w0 w) {v : Value} (h : (execOp e p).run P w = .ok (.value v) w') : NearW B w0 w' := by
  obtain ⟨v2, hv, hr⟩ := app_ran hp hc h
  rw [ha, ht] at hr
  have hr2 : (Builtin.append_ #[t, u] p.type #[.slice (some ⟨B, off, none⟩) len cap, e y]).run P w = .ok v2 w' := by
    rw [← hx]
    simpa using hr
  exact near_append w v2 w' hn hr2
theorem app_near_nil {P : Program} {w w' : World} {p : Oper} {c : Call} {B : Nat} (hp : p.op = .call c) (hc : c.callee = .builtin .append) {x y : Operand} {t u : TypeId} (ha : c.args = #[x, y]) (ht : c.argTypes = #[t, u]) {e : Operand → Value} {len cap : Nat} (hx : e x = .slice none len cap) {w0 : World} (hn : NearW B w0 w) {v : Value} (h : (execOp e p).run P w = .ok (.value v) w') : NearW B w0 w' := by
  obtain ⟨v2, hv, hr⟩ := app_ran hp hc h
  rw [ha, ht] at hr
  have hr2 : (Builtin.append_ #[t, u] p.type #[.slice none len cap, e y]).run P w = .ok v2 w' := by
    rw [← hx]
    simpa using hr
  exact near_append_nil w v2 w' hn hr2
theorem isNilS_den {v : AV} (h : isNilS v = true) (ρ : Env) : ∃ len cap, v.den ρ = .slice none len cap := by
  unfold isNilS at h
  split at h
  · exact ⟨_, _, rfl⟩
  · cases h
theorem app_mk {P : Program} {rd : Option Nat} {p : Oper} {c : Call} (hp : p.op = .call c) (hc : c.callee = .builtin .append) {a b : Act} {w w' : World} {v : Value} {K : Act → World → Prop} {Q : Exit → Act → World → Prop} (he : ∀ x ∈ p.op.operands, b.eval x = a.eval x) (h : (execOp a.eval p).run P w = .ok (.value v) w') (hk : K (b.put p.dst v) w') : p.wpIn (fenceR rd) 0 P b w K Q := by
  have hdf : isDefer p.op = false := by rw [hp]; rfl
  have e : execOp b.eval p = execOp a.eval p := by
    rw [exec_app (P := P) (w := w) hp hc, exec_app (P := P) (w := w) hp hc]
    congr 2
    apply Array.map_congr_left
    intro x hx
    exact he x (by rw [hp]; simp [Op.operands, Call.operands, hx])
  refine wpIn_op hdf ?_
  rw [e, h]
  exact hk
section
variable {C : Ctx} {w0 : World} {ops : Array Oper} {base : Nat} {h0 : AHeap} {tm0 : List AV} {L : List Item} {ρ0 : Env} {ws : World} {ds : List Deferred} {rd : Option Nat}
theorem wpOps_app {P : Program} {Q : Exit → Act → World → Prop} (hQ : ∀ x a w, Q x a w → x = .normal) {k n : Nat} {p : Oper} {c : Call} (hp : ops[k]? = some p) (h1 : p.op = .call c) (h2 : c.callee = .builtin .append) (hg : p.guard = none) {a : Act} {w : World}
    (h : wpOpsIn (fenceR rd) 0 P ops Q (List.range' k (n + 1)) a w) : ∃ v w', (execOp a.eval p).run P w = .ok (.value v) w' ∧ wpOpsIn (fenceR rd) 0 P ops Q (List.range' (k + 1) n) (a.put p.dst v) w' := by
  rw [List.range'_succ, wpOpsIn_cons] at h
  unfold wpOpIn at h
  have hw : Region.wanted p (yielded ops a.tmps) = true := by unfold Region.wanted; rw [hg]
  simp only [hp, hw, if_true] at h
  have hdf : isDefer p.op = false := by rw [h1]; rfl
  replace h := wpIn_inv hdf h
  cases hr : (execOp a.eval p).run P w with
  | ok nx w' =>
    obtain ⟨v, rfl, -⟩ := app_ran h1 h2 hr
    rw [hr] at h
    exact ⟨v, w', rfl, h⟩
  | halt z w' =>
    rw [hr] at h
    cases z <;> simp [Oper.uponIn] at h
    have := hQ _ _ _ h; cases this
theorem runV_put {V : VF} (hV : CongrV V) {d : Option Tmp} {u : Value} : ∀ {M : List Nat} {a f : Act}, (∀ j ∈ M, ∀ q t, ops[j]? = some q → d = some t → t ∉ q.looksAt ops ∧ q.dst ≠ some t) → runV V ops M a = some f → runV V ops M (a.put d u) = some (f.put d u)
  | [], a, f, _, h => by cases h; rfl
  | j :: M, a, f, hj, h => by
    obtain ⟨q, v, hq, hv, h⟩ := runV_cons h
    have hv2 : V q (a.put d u).eval = some v := by
      rw [← hv]
      exact hV q _ _ fun x hx => eval_put fun t ht hd => by subst ht; exact (hj j List.mem_cons_self q t hq hd).1 (looks_mem hx)
    rw [runV_mk hq hv2, put_comm (fun t ht => (hj j List.mem_cons_self q t hq ht).2)]
    exact runV_put hV (fun j hj' => hj j (List.mem_cons_of_mem _ hj')) h
theorem appOk_spec {k : Nat} (h : appOk ops k = true) : baseOk ops = true ∧ k < ops.size ∧ k ≤ firstStore ops.toList ∧ (∀ (i : Nat) (p : Oper), ops[i]? = some p →
    (i < k → i ∈ anc (before ops.toList []) k ∨ (coolOp p.op = true ∧ p.guard = none)) ∧ (i = k → p.guard = none ∧ isApp p.op = true)) ∧
    (∀ (i : Nat) (p : Oper), ops[i]? = some p → k < i → ∀ j, j < i → j ∈ anc (before ops.toList []) i) := by
  have hbare : ∀ p : Oper, bare p = true → p.guard = none := fun p h => by
    unfold bare at h; split at h
    · assumption
    · cases h
  have hsz : ∀ (i : Nat) (p : Oper), ops[i]? = some p → i < ops.size := fun i p hp => by
    rcases Nat.lt_or_ge i ops.size with h | h
    · exact h
    · simp [Array.getElem?_eq_none h] at hp
  have hany : ∀ (i k : Nat), ((before ops.toList []).getD i []).any (Nat.beq k) = true → k ∈ anc (before ops.toList []) i := fun i k h => by
    simp only [List.any_eq_true] at h
    obtain ⟨l, hl, hb⟩ := h
    have := Nat.eq_of_beq_eq_true hb
    subst this
    exact hl
  unfold appOk appOk1 at h
  simp only [Bool.and_eq_true, List.all_eq_true, List.mem_range] at h
  obtain ⟨h1, ⟨h2, h2b⟩, h3⟩ := h
  refine ⟨h1, blt_lt h2, ble_le h2b, fun i p hp => ?_, fun i p hp hki => ?_⟩
  · have h3 := h3 i (hsz i p hp)
    rw [hp] at h3
    simp only at h3
    split at h3
    · rename_i e
      have e := blt_lt e
      simp only [Bool.or_eq_true, Bool.and_eq_true] at h3
      refine ⟨fun _ => ?_, fun h => by omega⟩
      rcases h3 with h6 | h6
      · exact .inl (hany _ _ h6)
      · exact .inr ⟨h6.1, hbare p h6.2⟩
    · rename_i e
      have e : ¬ i < k := fun h => by
        have : Nat.blt i k = true := by simpa [Nat.blt_eq] using h
        rw [this] at e; cases e
      split at h3
      · simp only [Bool.and_eq_true] at h3
        exact ⟨fun h => absurd h e, fun _ => ⟨hbare p h3.1, h3.2⟩⟩
      · rename_i e2
        exact ⟨fun h => absurd h e, fun h => by rw [h] at e2; simp at e2⟩
  · have h3 := h3 i (hsz i p hp)
    rw [hp] at h3
    simp only at h3
    split at h3
    · rename_i e
      have e := blt_lt e
      omega
    · split at h3
      · rename_i e2
        have := Nat.eq_of_beq_eq_true e2
        omega
      · exact anc_full hp (Nat.eq_of_beq_eq_true h3)
theorem isApp_spec {op : Op} (h : isApp op = true) : ∃ c, op = .call c ∧ c.callee = .builtin .append := by
  unfold isApp at h
  split at h
  · rename_i c
    split at h
    · rename_i hc
      exact ⟨c, rfl, hc⟩
    · cases h
  · cases h
theorem appOk_app {k : Nat} (h : appOk ops k = true) : ∀ p, ops[k]? = some p → isApp p.op = true := fun p hp => (((appOk_spec h).2.2.2.1 k p hp).2 rfl).2
theorem appFit_spec {P : Program} {k : Nat} {h : AHeap} {tm : List AV} {h1 : AHeap} (ha : ∀ p, ops[k]? = some p → isApp p.op = true) (e : appFit P ops k h tm h1 = true) : ∃ (p : Oper) (c : Call) (x y : Operand) (t u : TypeId) (n : Nat), ops[k]? = some p ∧ p.op = .call c ∧ c.callee = .builtin .append ∧ c.args = #[x, y] ∧ c.argTypes = #[t, u] ∧ appRow (aeval tm x) (aeval tm y) = some n ∧ rowAt h1 n = true ∧
    ∀ i, i < k → i ∉ anc (before ops.toList []) k → ∀ q, ops[i]? = some q → fitB P h tm n q.op = true ∧ standsFrom ops i k q.op = true := by
  unfold appFit at e
  split at e
  rotate_left
  · cases e
  rename_i p hp
  split at e
  rotate_left
  · cases e
  rename_i c hop
  split at e
  rotate_left
  · cases e
  rename_i x y t u hargs htys
  split at e
  rotate_left
  · cases e
  rename_i ee n m hu hn hm
  simp only [Bool.and_eq_true, List.all_eq_true, List.mem_range, Bool.or_eq_true] at e
  obtain ⟨c2, hc2, hc3⟩ := isApp_spec (ha p hp)
  rw [hop] at hc2; cases hc2
  refine ⟨p, c, x, y, t, u, n, hp, hop, hc3, Array.ext' hargs, Array.ext' htys, hn, e.1.1, fun i hi hna q hq => ?_⟩
  rcases e.2 i hi with h6 | h6
  · refine absurd ?_ hna
    simp only [List.any_eq_true] at h6
    obtain ⟨l, hl, hb⟩ := h6
    have := Nat.eq_of_beq_eq_true hb
    subst this
    exact hl
  · rw [hq] at h6
    simpa using h6
theorem hard_order {n k : Nat} (hc : Chain C w0 ops base h0 tm0 L) (hd : appOk ops k = true) (hlen : L.length = k) (hst2 : ∃ (p : Oper) (c : Call) (x y : Operand) (t u : TypeId), ops[k]? = some p ∧ p.op = .call c ∧ c.callee = .builtin .append ∧ c.args = #[x, y] ∧ c.argTypes = #[t, u] ∧ appRow (aeval (tmAt ops tm0 L k) x) (aeval (tmAt ops tm0 L k) y) = some n) (hnb : ∃ b, (∀ D : Nat → Prop, (∀ i, i < L.length → D i) → There h0 L D n b) ∧ isRow b = true) (hfit : ∀ (i : Nat) (p : Oper) (it : Item), i < k → i ∉ anc (before ops.toList []) k → ops[i]? = some p → L[i]? = some it → ∀ (ρ : Env) (e : Operand → Value), (∀ m, m < base → ρ.σ m = ρ0.σ m) → (∀ x ∈ p.op.operands, e x = (aeval it.tm x).den ρ) → Fit C.P ρ0.σ h0 n p.op e) (hs0 : ∀ n b, hget h0 n = some b → n < base ∧ AV.okL base b.cells = true) (ht0 : AV.okL base tm0 = true)
    {Q : Exit → Act → World → Prop} (hQn : ∀ x a w, Q x a w → x = .normal) (hQ : ∀ D ρ a w, (∀ i, i < ops.size → (D i ↔ i < L.length)) → Inv w0 ops base h0 tm0 L ρ0 ws ds D ρ a w → wpOpsIn (fenceR rd) 0 C.P ops Q (List.range' L.length (ops.size - L.length)) a w) :
    ∀ (fuel : Nat) (listed : Array Bool) (ρ : Env) (a : Act) (w : World), listed.size = ops.size → (leftOver ops listed).length ≤ fuel → (∀ i, L.length ≤ i → listed[i]? ≠ some true) → Inv w0 ops base h0 tm0 L ρ0 ws ds (fun i => listed[i]? = some true) ρ a w →
      wpAnyIn (fenceR rd) 0 C.P .any ops Q fuel listed a w := by
  obtain ⟨hb, hk, hkf, hspec, htl⟩ := appOk_spec hd
  have hns : ∀ i p, i < k → ops[i]? = some p → isStore p.op = false := fun i p hi hp => firstStore_not ops.toList i p (by omega) (by simpa using hp)
  rw [hlen] at hQ hnb ⊢
  have hlen' : L.length ≤ ops.size := by omega
  have hleft : ∀ listed : Array Bool, listed.size = ops.size → listed[k]? ≠ some true → listed.getD k true = false := fun listed hs hno => by
    have hlt : k < listed.size := by omega
    rw [Array.getElem?_eq_getElem hlt] at hno
    rw [Array.getD_eq_getD_getElem?, Array.getElem?_eq_getElem hlt]
    simpa using hno
  intro fuel
  induction fuel with
  | zero =>
    intro listed ρ a w hs hle hno hI
    exfalso
    have : k ∈ leftOver ops listed := List.mem_filter.2 ⟨List.mem_range.2 hk, by rw [hleft listed hs (hno k (Nat.le_refl _))]; rfl⟩
    have := List.length_pos_of_mem this
    omega
  | succ fuel ih =>
    intro listed ρ a w hs hle hno hI
    refine ⟨fun hr => absurd (ready_nil hb hs hr k hk) (hno k (Nat.le_refl _)), fun i hi => ?_⟩
    obtain ⟨p, hp, hil, hl, hdep⟩ := ready_spec hi
    have hset : ∀ j, (listed.setIfInBounds i true)[j]? = some true ↔ (listed[j]? = some true ∨ j = i) := by
      intro j
      rw [Array.getElem?_setIfInBounds]
      by_cases hji : i = j
      · subst hji; simp [hs, hil]
      · rw [if_neg hji]; simp [Ne.symm hji]
    have hDi : ¬ (listed[i]? = some true) := by
      intro e; rw [Array.getD_eq_getD_getElem?, e] at hl; cases hl
    have hlt := leftOver_lt hil hl hs
    rcases Nat.lt_trichotomy i k with hik | hik | hik
    rotate_left
    · subst hik
      obtain ⟨g1, g2⟩ := (hspec i p hp).2 rfl
      let M := (List.range i).filter fun j => !listed.getD j true
      have hM : ∀ j, j ∈ M ↔ (j < i ∧ ¬ (listed[j]? = some true)) := by
        intro j
        show j ∈ (List.range i).filter _ ↔ _
        rw [List.mem_filter, List.mem_range]
        constructor
        · rintro ⟨h1, h2⟩
          exact ⟨h1, fun e => by rw [Array.getD_eq_getD_getElem?, e] at h2; simp at h2⟩
        · rintro ⟨h1, h2⟩
          refine ⟨h1, ?_⟩
          have hlt : j < listed.size := by omega
          rw [Array.getElem?_eq_getElem hlt] at h2
          rw [Array.getD_eq_getD_getElem?, Array.getElem?_eq_getElem hlt]
          simpa using h2
      have hpw : M.Pairwise (· < ·) := List.Pairwise.filter _ List.pairwise_lt_range
      have hanc : ∀ j, j ∈ anc (before ops.toList []) i → listed[j]? = some true := fun j hj => anc_listed (D := fun j => listed[j]? = some true) hI.closed i p hp hdep j hj
      have hq : ∀ j ∈ M, ∀ q, ops[j]? = some q → coolOp q.op = true ∧ q.guard = none ∧ isStore q.op = false ∧ (∀ d ∈ depsOf q, listed[d]? = some true ∨ d ∈ M) ∧ ∀ it, L[j]? = some it → ∀ (ρ : Env) (e : Operand → Value), (∀ m, m < base → ρ.σ m = ρ0.σ m) → (∀ x ∈ q.op.operands, e x = (aeval it.tm x).den ρ) → Fit C.P ρ0.σ h0 n q.op e := by
        intro j hj q hqj
        obtain ⟨m1, m2⟩ := (hM j).1 hj
        have s4 : coolOp q.op = true ∧ q.guard = none := by
          rcases (hspec j q hqj).1 m1 with h | h
          · exact absurd (hanc j h) m2
          · exact h
        refine ⟨s4.1, s4.2, hns j q m1 hqj, fun d hdm => ?_, fun it hit => hfit j q it m1 (fun hk => m2 (hanc j hk)) hqj hit⟩
        by_cases hld : listed[d]? = some true
        · exact .inl hld
        · refine .inr ((hM d).2 ⟨?_, hld⟩)
          have := (baseOk_spec hb hqj).1 d hdm
          omega
      have hcells : ∀ m, cellsAt h0 m = true → ∃ arr e mk, w.heap[ρ0.σ m]? = some (.cells arr e mk) := fun m hm => by
        obtain ⟨b, hb0, hbk⟩ := cellsAt_spec hm
        have := hI.block m b (.inl hb0)
        rw [(hI.agree m (.inl (hs0 m b hb0).1)).1] at this
        exact cells_obj this hbk
      obtain ⟨f, ρ', hrun, hI'⟩ := serialV (n := n) hc hlen' hb hs0 ht0 hcells _ _ ρ a hI (fun j hj => ⟨by rw [hlen]; exact ((hM j).1 hj).1, ((hM j).1 hj).2⟩) hpw hq
      have hops := hQ _ ρ' f w (fun j hj => ⟨fun h => by
        rcases h with h | h
        · rcases Nat.lt_or_ge j i with h1 | h1
          · exact h1
          · exact absurd h (hno j h1)
        · exact ((hM j).1 h).1, fun h => by
        by_cases hlj : listed[j]? = some true
        · exact .inl hlj
        · exact .inr ((hM j).2 ⟨h, hlj⟩)⟩) hI'
      rw [show ops.size - i = (ops.size - (i + 1)) + 1 by omega] at hops
      obtain ⟨p2, cc, ax, ay, tt, tu, s1, s2, s3, s4, s5, s6⟩ := hst2
      rw [hp] at s1; cases s1
      obtain ⟨v, w', hx, hrest⟩ := wpOps_app hQn hp s2 s3 g1 hops
      have hD2 : ∀ (j : Nat) (q : Oper), ops[j]? = some q → ((fun j => listed[j]? = some true) j ∨ j ∈ M) → j < i := fun j q _ h => by
        rcases h with h | h
        · rcases Nat.lt_or_ge j i with h1 | h1
          · exact h1
          · exact absurd h (hno j h1)
        · exact ((hM j).1 h).1
      have hD3 : ∀ j, j < i → ((fun j => listed[j]? = some true) j ∨ j ∈ M) := fun j hj => by
        by_cases hlj : listed[j]? = some true
        · exact .inl hlj
        · exact .inr ((hM j).2 ⟨hj, hlj⟩)
      have hev := eval_full hc hb hlen hI' hD2 hD3 ax
      obtain ⟨bn, hbn1, hbn2⟩ := hnb
      have hbn := hbn1 _ hD3
      have hobj := row_obj (hI'.block n bn hbn) hbn2
      have hnear : NearW (ρ'.σ n) w w' := by
        unfold appRow at s6
        cases hnl : isNilS (aeval (tmAt ops tm0 L i) ax) with
        | false =>
          rw [hnl] at s6
          obtain ⟨off, len, cap, hxs⟩ := rowName_den s6 ρ'
          exact app_near s2 s3 s4 s5 (hev.trans hxs) ⟨Nat.le_refl _, fun _ _ _ => rfl, hobj⟩ hx
        | true =>
          obtain ⟨len, cap, hxs⟩ := isNilS_den hnl ρ'
          exact app_near_nil s2 s3 s4 s5 (hev.trans hxs) ⟨Nat.le_refl _, fun _ _ _ => rfl, hobj⟩ hx
      have hsame : ∀ b, b < w.heap.size → b ≠ ρ'.σ n → w'.heap[b]? = w.heap[b]? := hnear.same
      have hto : ∀ (q : Oper) (e : Operand → Value) (v : Value), VW C.P ρ0.σ h0 n w q e = some v → VW C.P ρ0.σ h0 n w' q e = some v := fun q e v hv => by
        obtain ⟨v1, v2, v3⟩ := VW_iff.1 hv
        refine VW_iff.2 ⟨v1, v2, ((cool_steady (w := w) (w' := w') v1 v2 fun m hmn hm => ⟨hcells m hm, hsame _ (by obtain ⟨a1, a2, a3, a4⟩ := hcells m hm; rcases Nat.lt_or_ge (ρ0.σ m) w.heap.size with h1 | h1; exact h1; rw [Array.getElem?_eq_none h1] at a4; cases a4) fun he => hmn ?_⟩).1 _ _ v3).2⟩
        obtain ⟨bm, hbm0, hbmk⟩ := cellsAt_spec hm
        rw [← (hI'.agree m (.inl (hs0 m bm hbm0).1)).1] at he
        exact hI'.inj m n bm bn (.inl hbm0) hbn (mem_cells hbmk) (row_mem hbn2) he
      have hrun2 := runV_put (u := v) (VW_congr C.P ρ0.σ h0 n w') (d := p.dst) (fun j hj q t hqj hdt => by
        obtain ⟨m1, m2⟩ := (hM j).1 hj
        obtain ⟨z1, z2⟩ := (baseOk_spec hb hqj).2.2.1 i p t hp hdt
        refine ⟨fun hl => ?_, z2 (by omega)⟩
        rcases z1 hl with h | h
        · have := (anc_spec hqj h).1; omega
        · exact m2 (hanc j h)) (runV_to hto hrun)
      unfold wpOpIn
      have hw : Region.wanted p (yielded ops a.tmps) = true := by unfold Region.wanted; rw [g1]
      simp only [hp, hw, if_true]
      refine app_mk s2 s3 (fun x hxm => ?_) hx ?_
      · refine (runV_keep (fun j hj q t hqj hxt hdt => ?_) hrun).symm
        subst hxt
        obtain ⟨m1, m2⟩ := (hM j).1 hj
        rcases ((baseOk_spec hb hp).2.2.1 j q t hqj hdt).1 (looks_mem hxm) with h | h
        · exact m2 (hanc j h)
        · have := (anc_spec hqj h).1; omega
      · have hsplit : (leftOver ops listed).length = M.length + (ops.size - i) := by
          show ((List.range ops.size).filter fun j => !listed.getD j true).length = _
          have e : List.range ops.size = List.range i ++ List.range' i (ops.size - i) := by
            rw [List.range_eq_range', List.range_eq_range', show ops.size = i + (ops.size - i) by omega, ← List.range'_append]
            simp
          rw [e, List.filter_append, List.length_append]
          have h2 : (List.range' i (ops.size - i)).filter (fun j => !listed.getD j true) = List.range' i (ops.size - i) := by
            refine List.filter_eq_self.2 fun j hj => ?_
            rw [List.mem_range'_1] at hj
            have hlt : j < listed.size := by omega
            have := hno j (by omega)
            rw [Array.getElem?_eq_getElem hlt] at this
            rw [Array.getD_eq_getD_getElem?, Array.getElem?_eq_getElem hlt]
            simpa using this
          rw [h2, List.length_range']
        have hA := htl
        · refine anyV (VW_congr C.P ρ0.σ h0 n w') (f := f.put p.dst v) (m := i + 1) hb (by omega) (fun j q hqj hij => hA j q hqj (by omega)) (fun fl ls e1 e2 e3 => tail_serial hb (fun j q hqj hij => hA j q hqj (by omega)) (ops.size - (i + 1)) (i + 1) fl ls (f.put p.dst v) w' (by omega) (Nat.le_refl _) e1 e2 e3 hrest) fuel M _ (a.put p.dst v) (by simp [hs]) (fun j hj => ?_) (fun j hj => by have := ((hM j).1 hj).1; omega) hpw ?_ (fun j hj q hqj => ⟨fun a v K hv hk => cool_mk hv hk, (hq j hj q hqj).2.1⟩) (fun j q hqj hj d hdm => ?_) hrun2
          · rw [hset, hM]
            constructor
            · rintro (h | h)
              · have hji : j < i := by
                  rcases Nat.lt_or_ge j i with h1 | h1
                  · exact h1
                  · exact absurd h (hno j h1)
                exact ⟨by omega, fun h' => h'.2 h⟩
              · exact ⟨by omega, fun h' => by omega⟩
            · rintro ⟨h1, h2⟩
              by_cases hji : j = i
              · exact .inr hji
              · exact .inl (Classical.byContradiction fun h3 => h2 ⟨by omega, h3⟩)
          · omega
          · rw [hset]
            left
            rcases (hset j).1 hj with h | rfl
            · exact hI.closed j q hqj h d hdm
            · rw [hp] at hqj; cases hqj; exact hdep d hdm
    · exfalso
      exact hno k (Nat.le_refl _) (anc_listed (D := fun j => listed[j]? = some true) hI.closed i p hp hdep k (htl i p hp hik k hik))
    · have s1 := hns i p hik hp
      have hit : L[i]? = some (L[i]'(by omega)) := List.getElem?_eq_getElem (by omega)
      have hnext : ∀ ρ' a' w', Inv w0 ops base h0 tm0 L ρ0 ws ds (fun j => listed[j]? = some true ∨ j = i) ρ' a' w' → wpAnyIn (fenceR rd) 0 C.P .any ops Q fuel (listed.setIfInBounds i true) a' w' := by
        intro ρ' a' w' hI'
        refine ih _ ρ' a' w' (by simp [hs]) (by omega) (fun j hj e => ?_) ?_
        · rcases (hset j).1 e with h | h
          · exact hno j hj h
          · omega
        · have : (fun j => (listed.setIfInBounds i true)[j]? = some true) = (fun j => listed[j]? = some true ∨ j = i) := funext fun j => propext (hset j)
          rw [this]; exact hI'
      obtain ⟨-, -, -, -, hf⟩ := hc.item i _ p hit hp
      have hg := guard_stands hc hlen' hb hI hp hit hdep hDi
      unfold wpOpIn
      simp only [hp]
      rcases hf with ⟨f1, f2, f3, f4, f5⟩ | ⟨f1, f2, f3, f4, s, o, g1, g2, g3, g4, g5, g6, g7, g8⟩ | ⟨f1, -⟩
      rotate_left 2
      · rw [s1] at f1; cases f1
      · rw [f1 ρ a.tmps hg]
        simp only [Bool.false_eq_true, if_false]
        exact ⟨fun _ _ => trivial, hnext ρ _ w (inv_off hb hI hp hit hdep hDi f2 f3)⟩
      · rw [f1 ρ a.tmps hg]
        simp only [if_true]
        obtain ⟨v, k1, k2, k3, k4, k5⟩ := g8
        rw [g4] at k1
        cases k1
        obtain ⟨ρi, hdi, hRep, hstep⟩ := inv_on hc hlen' hb hs0 ht0 hI hp hit hdep hDi g2 g3 g5 g6 g7
        refine k5 rd ρi a w _ Q (fun x hx => by rw [g1, hdi]; exact operand_stands hc hlen' hb hI hp hit hdep hDi x hx) hRep hI.below fun ρ' w' hr' hp' => ?_
        obtain ⟨ρ2, h2⟩ := hstep ρ' w' hr' hp'
        exact hnext ρ2 _ w' h2
end
section
variable {C : Ctx} {G : World → Prop} {w0 : World} {R : Rec}
theorem region_hard (hg : Good C G) {id : Nat} {f : FuncId} {ops ops0 : Array Oper} (hmv : ops = ops0 ∨ ∃ π, Moves π ops0 ops) {s : St} {o2 : Out} {k : Nat} (hd : appOk ops k = true) (hk : StOK s)
    (h2' : goHard C R f ops k s.heap (R (.draw f ops (ops.toList.take (k)) s.nxt [] []) s) = some o2) (hl : Holds C G o2.log)
    (hdraw : ∀ o, R (.draw f ops (ops.toList.take (k)) s.nxt [] []) s = some o → Holds C G o.log → DrawOK C w0 ops (ops.toList.take (k)) s.nxt [] [] s o)
    (htail : ∀ s o, R (.ops f ops (ops.toList.drop (k))) s = some o → Holds C G o.log → StOK s → OpsOK C w0 ops (ops.toList.drop (k)) s o) : CodeOK C w0 (.region id ops0 true) s o2 := by
  have hfs : k ≤ ops.size := Nat.le_of_lt (appOk_spec hd).2.1
  unfold goHard at h2'
  split at h2'
  rotate_left
  · cases h2'
  rename_i s1 l1 c1 k1 hrun
  split at h2'
  rotate_left
  · cases h2'
  rename_i hcf
  obtain ⟨pS, cS, xS, yS, tS, uS, nS, g1, g2, g2a, g2b, g2c, g3, g4, g5⟩ := appFit_spec (appOk_app hd) hcf
  obtain ⟨o3, hr3, rfl⟩ := behind_eq h2'
  have h := hdraw _ hrun hl.left
  generalize ho : (⟨.normal, s1, l1, ⟨c1, k1⟩⟩ : Out) = o at h
  obtain ⟨L, h1, h2, h3, h4, h5, h6, h7, h8⟩ := h k [] s.tmps hfs rfl rfl rfl rfl rfl (Nat.le_refl _) ⟨fun i it p hi => by simp at hi, fun i it p hi => by simp at hi⟩ (Nat.zero_le _)
  have hs1 : s1 = o.st := by rw [← ho]
  have hl1 : l1 = o.low := by rw [← ho]
  subst hs1
  subst hl1
  obtain ⟨b1, b2, b3, b4⟩ := htail _ _ hr3 hl.right h7
  have hfr := h8.2
  replace h8 := h8.1
  refine ⟨by rw [b1]; rfl, b2, ⟨Nat.le_trans h8 b3.1, by rw [b3.2, hfr]⟩, fun ρ w Q hr hb he => ?_⟩
  unfold fenceOf
  have hs0 : ∀ n b, hget s.heap n = some b → n < s.nxt ∧ AV.okL s.nxt b.cells = true := hr.scope
  refine wpIn_mono (Q := fun x a w => x = .normal ∧ Q x a w) ?_ (fun _ _ _ h => h.2)
  refine wpIn_region_perm hmv hg.mixed ?_
  have hI0 : Inv w0 ops s.nxt s.heap s.tmps L ρ w (act ρ s.res.fr s.tmps).defers (fun i => (Array.replicate ops.size false)[i]? = some true) ρ (act ρ s.res.fr s.tmps) { w with drawn := w.drawn + 1 } := by
    have hno : ∀ i, ¬ ((Array.replicate ops.size false)[i]? = some true) := fun i e => by
      rw [Array.getElem?_replicate] at e; split at e <;> simp at e
    have hth : ∀ n b, There s.heap L (fun i => (Array.replicate ops.size false)[i]? = some true) n b → hget s.heap n = some b := fun n b h => by
      rcases h with h | ⟨j, it, hj, -⟩
      · exact h
      · exact absurd hj (hno j)
    exact ⟨fun i p _ hi => absurd hi (hno i), rfl, by simp [act, denL_length], fun j it p t hj => absurd hj (hno j), fun t _ => by simp [act], fun n b hn => (hr.block n b (hth n b hn)).keep (fun k hk hf => ⟨rfl, hf.1, fun n b hn hm => hf.2 n b (hth n b hn) hm⟩) rfl rfl fun _ => rfl, fun n k b c hn hm => hr.inj n k b c (hth n b hn) (hth k c hm),
      fun n b hn => hr.above n b (hth n b hn), fun j it n b hj => absurd hj (hno j), ⟨rfl, rfl⟩, hr.base, fun n b hn => hr.reach n b (hth n b hn), fun n _ => ⟨rfl, rfl⟩, rfl, rfl, rfl, Nat.le_refl _, fun k _ => rfl, hb.drew⟩
  have gth : ∀ D : Nat → Prop, (∀ i, i < L.length → D i) → ∀ n b, hget o.st.heap n = some b → There s.heap L D n b := by
    intro D hD n b hn
    rw [h5, hget_append] at hn
    cases hm : hget (L.map Item.made).flatten n with
    | some c =>
      rw [hm] at hn; cases hn
      obtain ⟨j, hh, hj, hb⟩ := flatten_get' hm
      rw [List.getElem?_map] at hj
      cases hjt : L[j]? with
      | none => rw [hjt] at hj; cases hj
      | some jt =>
        rw [hjt] at hj
        simp only [Option.map_some, Option.some.injEq] at hj
        subst hj
        exact .inr ⟨j, jt, hD j (List.getElem?_eq_some_iff.1 hjt).1, hjt, hb⟩
    | none => rw [hm] at hn; exact .inl hn
  obtain ⟨bS, hbS, hbSk⟩ := rowAt_spec g4
  refine hard_order (n := nS) (ρ0 := ρ) (ws := w) h2 hd (by omega) ⟨pS, cS, xS, yS, tS, uS, g1, g2, g2a, g2b, g2c, by rw [← h4]; exact g3⟩ ⟨bS, fun D hD => gth D hD nS bS hbS, hbSk⟩ ?_ hs0 hk.1 (fun _ _ _ h => h.1) ?_ ops.size _ ρ _ _ (by simp) (by unfold leftOver; exact Nat.le_trans (List.length_filter_le _ _) (by simp)) (fun i _ e => by
    rw [Array.getElem?_replicate] at e; split at e <;> simp at e) hI0
  · intro i p it hi hna hp hit ρ1 e hσ1 he1
    obtain ⟨f1, f2⟩ := g5 i hi hna p hp
    have hitm := (h2.item i it p hit hp).1
    refine fitB_spec f1 (fun n b hn => (hs0 n b hn).1) hσ1 fun x hx => ?_
    rw [he1 x hx, hitm, standsFrom_spec f2 (by omega) x hx, h4]
  intro D ρ' a w' hD hI
  -- all is done that may come in any order
  have hD' : ∀ i, i < k → D i := fun i hi => (hD i (by omega)).2 (by omega)
  have hDm : ∀ i p, ops[i]? = some p → D i → i < k := fun i p hp hDi => by
    have hi : i < ops.size := by
      rcases Nat.lt_or_ge i ops.size with h | h
      · exact h
      · simp [Array.getElem?_eq_none h] at hp
    have := (hD i hi).1 hDi
    omega
  rw [h1]
  have hle : s.nxt ≤ nxAt s.nxt L k := by rw [← h6]; exact h8
  have hth : ∀ n b, hget o.st.heap n = some b → There s.heap L D n b := by
    intro n b hn
    rw [h5, hget_append] at hn
    cases hm : hget (L.map Item.made).flatten n with
    | some c =>
      rw [hm] at hn; cases hn
      obtain ⟨j, hh, hj, hb⟩ := flatten_get' hm
      rw [List.getElem?_map] at hj
      cases hjt : L[j]? with
      | none => rw [hjt] at hj; cases hj
      | some jt =>
        rw [hjt] at hj
        simp only [Option.map_some, Option.some.injEq] at hj
        subst hj
        exact .inr ⟨j, jt, hD' j (by have := (List.getElem?_eq_some_iff.1 hjt).1; omega), hjt, hb⟩
    | none => rw [hm] at hn; exact .inl hn
  have hσ : ∀ n, n < s.nxt → ρ'.σ n = ρ.σ n := fun n hn => (hI.agree n (.inl hn)).1
  have ha : a = act ρ' o.st.res.fr o.st.tmps := by
    obtain ⟨tmps, defers⟩ := a
    have hdf := hI.defers
    simp only [act] at hdf
    subst hdf
    rw [hfr]
    unfold act
    rw [marks_eq hσ hk.2]
    congr 1
    rw [h4]
    apply Array.ext'
    apply List.ext_getElem?
    intro t
    rw [Array.getElem?_toList]
    by_cases hex : ∃ (j : Nat) (q : Oper), j < k ∧ ops[j]? = some q ∧ q.dst = some t
    · obtain ⟨j, q, hj, hq, hdq⟩ := hex
      have hjt : L[j]? = some L[j] := List.getElem?_eq_getElem (by omega)
      rcases Nat.lt_or_ge t s.tmps.length with hlt | hge
      · have e1 := hI.put j _ q t (hD' j hj) hjt hq hdq hlt
        simp only at e1
        rw [e1, denL_map, List.getElem?_map, tmAt_put hjt hq hdq hlt (fun k r hk hr hdr => ((baseOk_spec (appOk_spec hd).1 hr).2.2.1 j q t hq hdq).2 hk hdr) hj]
        rfl
      · have hsz := hI.size
        simp only at hsz
        rw [Array.getElem?_eq_none (by omega), denL_map, List.getElem?_map, List.getElem?_eq_none (by rw [tmAt_length]; exact hge)]; rfl
    · have hno : ∀ (j : Nat) (q : Oper), j < k → ops[j]? = some q → q.dst ≠ some t := fun j q hj hq hdq => hex ⟨j, q, hj, hq, hdq⟩
      have e1 := hI.left t (fun j q hDj hq => hno j q (hDm j q hq hDj) hq)
      simp only at e1
      rw [e1, denL_map, denL_map, List.getElem?_map, List.getElem?_map, tmAt_keep (fun j q hj hq => hno j q hj hq)]
  have hmade : ∀ n b, hget o.st.heap n = some b → ¬ hget s.heap n = some b → s.nxt ≤ n ∧ n < o.st.nxt ∧ AV.okL o.st.nxt b.cells = true ∧ (b.mem = true → w.heap.size ≤ ρ'.σ n) := by
    intro n b hn hne
    rcases hth n b hn with h | ⟨j, jt, hDj, hjt, hb⟩
    · exact absurd h hne
    · obtain ⟨m1, m2, m3, m4⟩ := hI.made j jt n b hDj hjt hb
      have := base_le h2 (by omega) hjt
      rw [h1] at this
      rw [h6]
      exact ⟨by omega, by omega, okL_mono (by omega) _ m3, m4⟩
  rw [ha]
  have hRep : Rep w0.heap.size ρ' o.st.heap o.st.nxt w' := by
    refine ⟨fun n b hn => (hI.block n b (hth n b hn)).keep (Keep.wide fun k hk hf => ⟨hf.1, fun n b hn hm => hf.2 n b (hth n b hn) hm⟩) rfl rfl fun _ => rfl, fun n k b c hn hm => hI.inj n k b c (hth n b hn) (hth k c hm), fun n b hn => ?_, fun n b hn => hI.above n b (hth n b hn), by rw [hI.area.2]; exact Nat.le_trans hI.ground hI.wsize, fun n b hn => hI.reach n b (hth n b hn)⟩
    by_cases hne : hget s.heap n = some b
    · obtain ⟨q1, q2⟩ := hs0 n b hne
      exact ⟨by rw [h6]; omega, okL_mono (by rw [h6]; exact hle) _ q2⟩
    · obtain ⟨-, q1, q2, -⟩ := hmade n b hn hne
      exact ⟨q1, q2⟩
  have hPost : Post ρ ρ' s.heap o.st.heap s.nxt o.st.nxt o.low w w' := by
    refine ⟨fun n hn => hI.agree n (by rw [h1, ← h6]; exact hn), hI.area, h8, hI.os, hI.tape, hI.output, hI.wsize, fun k hk _ => hI.frame k hk, fun n b hn hbm => ?_, fun n hl hx => ?_⟩
    · by_cases hne : hget s.heap n = some b
      · exact .inl ⟨n, b, hne, hbm, (hI.agree n (.inl (hs0 n b hne).1)).1, .inl rfl⟩
      · exact .inr ((hmade n b hn hne).2.2.2 hbm)
    · rw [h5, hget_append]
      cases hm : hget (L.map Item.made).flatten n with
      | none => rfl
      | some c =>
        obtain ⟨j, hh, hj, hb⟩ := flatten_get' hm
        rw [List.getElem?_map] at hj
        cases hjt : L[j]? with
        | none => rw [hjt] at hj; cases hj
        | some jt =>
          rw [hjt] at hj
          simp only [Option.map_some, Option.some.injEq] at hj
          subst hj
          have hjl := (List.getElem?_eq_some_iff.1 hjt).1
          obtain ⟨m1, -⟩ := hI.made j jt n c (hD' j (by omega)) hjt hb
          have := base_le h2 (by omega) hjt
          omega
  simp only [b1] at he
  have b4' := fun Q => b4 k rfl ρ' w' Q
  have he2 := he.trans (x := .normal) (l := ⟨c1 ++ o3.log.conds, k1 ++ o3.log.calls⟩) hr hRep hPost
  have hfe := fence_eq (ρ := ρ) (ρ1 := ρ') hσ hk.2 (show o.st.res.fr.rnd = s.res.fr.rnd by rw [hfr])
  rw [hfe] at b4'
  exact b4' _ hRep (below_of_post hr hPost hb) (fun ρ2 w2 r2 p2 => ⟨rfl, he2 ρ2 w2 r2 p2⟩)
end
end Go.Ev
/- Running the program's functions on values that are known in part: several appends in one region that draws its order, each eating its block. -/
namespace Go.Ev
open Go.RowKit
theorem hidOf_mem {e : Option Nat} {ns : List Nat} {n : Nat} : n ∈ hidOf e ns ↔ n ∈ ns ∧ e ≠ some n := by
  cases e with
  | none => simp [hidOf]
  | some c =>
    simp only [hidOf, List.mem_filter, Bool.not_eq_true', ne_eq, Option.some.injEq]
    refine and_congr Iff.rfl ⟨fun h k => ?_, fun h => ?_⟩
    · rw [k, Nat.beq_refl] at h; cases h
    · cases hb : Nat.beq n c with
      | false => rfl
      | true => exact absurd (Nat.eq_of_beq_eq_true hb).symm h
theorem hid_get {h : AHeap} {e : Option Nat} {ns : List Nat} {n : Nat} {b : ABlock} (hn : hget (hdelL h (hidOf e ns)) n = some b) : hget h n = some b ∧ (n ∈ ns → e = some n) := by
  obtain ⟨h1, h2⟩ := hdelL_sub hn
  exact ⟨h2, fun hm => Classical.byContradiction fun he => h1 (hidOf_mem.2 ⟨hm, he⟩)⟩
theorem any_beq {l : List Nat} {b : Nat} : l.any (Nat.beq b) = true ↔ b ∈ l := by
  rw [List.any_eq_true]
  exact ⟨fun ⟨x, hx, hb⟩ => Nat.eq_of_beq_eq_true hb ▸ hx, fun h => ⟨b, h, Nat.beq_refl b⟩⟩
theorem isBigAt_spec {h : AHeap} {n : Nat} (e : isBigAt h n = true) : ∃ b, hget h n = some b ∧ b.mem = true := by
  unfold isBigAt at e
  split at e
  · rename_i b hb
    refine ⟨b, hb, ?_⟩
    unfold ABlock.mem
    split at e <;> simp_all
  · cases e
theorem eatOf_spec {C : Ctx} {f : FuncId} {o : Oper} {tm : List AV} {c : Call} {b : Nat} (h : eatOf C f o tm = some (c, b)) : o.op = .call c ∧ c.callee = .builtin .append ∧ ∃ x rest off len sub, c.args.toList = x :: rest ∧ (aeval tm x = .bslx b off len sub ∨ aeval tm x = .bsl b off len sub) := by
  unfold eatOf at h
  split at h
  rotate_left
  · cases h
  rename_i hs
  split at h
  rotate_left
  · cases h
  rename_i c' hc'
  split at h
  rotate_left
  · cases h
  rename_i x rest hx
  have hap : c'.callee = .builtin .append := by
    unfold eatSite at hs
    split at hs
    · rename_i ha _
      obtain ⟨c2, h2, h3⟩ := isApp_spec ha
      rw [hc'] at h2; cases h2
      exact h3
    · cases hs
  split at h
  · rename_i n off len sub hv
    cases h
    exact ⟨hc', hap, x, rest, _, _, _, hx, .inl hv⟩
  · rename_i n off len sub hv
    cases h
    exact ⟨hc', hap, x, rest, _, _, _, hx, .inr hv⟩
  · cases h
theorem eatApp_spec {C : Ctx} {c : Call} {s : St} {o : Out} {b off len sub : Nat} {x : Operand} {rest : List Operand} (hx : c.args.toList = x :: rest) (hv : aeval s.tmps x = .bslx b off len sub ∨ aeval s.tmps x = .bsl b off len sub) (h : eatApp C c s = some o) :
    bigAppend C c s = some o ∧ ∃ blk, o.st.heap = (s.nxt, blk) :: hdel s.heap b ∧ o.st.nxt = s.nxt + 1 ∧ o.low = Nat.min b s.nxt := by
  unfold eatApp at h
  split at h
  rotate_left
  · cases h
  rename_i x' y t u hargs htys
  rw [hx] at hargs
  cases hargs
  split at h
  rotate_left
  · cases h
  rename_i e du he hdu
  split at h
  rotate_left
  · cases h
  rename_i i hi
  split at h
  rotate_left
  · cases h
  rename_i z hz
  split at h
  rotate_left
  · cases h
  rename_i vs n p hbn
  refine ⟨h, ?_⟩
  obtain ⟨tm, hh, nx, ora, rs⟩ := s
  unfold bigAppend at h
  rw [hx, htys] at h
  simp only [he, hdu, hi, hz] at h hv hbn
  rw [hbn] at h
  split at h
  rotate_left
  · cases h
  rename_i vs' n' p' drops' _ hq
  cases hq
  rcases hv with hv | hv
  · rw [hv] at h
    unfold bigAppTo at h
    simp only at h
    split at h
    rotate_left
    · cases h
    split at h
    rotate_left
    · cases h
    rw [withNat_eq] at h
    unfold outA at h
    simp only [Option.some.injEq] at h
    subst h
    exact ⟨_, rfl, rfl, rfl⟩
  · rw [hv] at h
    unfold bigAppTo at h
    simp only at h
    split at h
    rotate_left
    · cases h
    rw [withNat_eq] at h
    unfold outA at h
    simp only [Option.some.injEq] at h
    subst h
    exact ⟨_, rfl, rfl, rfl⟩
/-! ### What was reckoned -/
/-- What an operation turns of what is old: nothing, or the block that it eats. -/
def EatLow (e : Option Nat) (nx : Nat) (s : St) (o : Out) : Prop := match e with
  | none => nx ≤ o.low
  | some c => c ≤ o.low ∧ nx < o.st.nxt ∧ ∀ n, n < nx → hget o.st.heap n = if n = c then none else hget s.heap n
/-- The new name of a block that the region has made. -/
def RenF (p : Oper) (e : Option Nat) (base nx : Nat) (ρ : Env) : Prop := p.dst = none → ∀ c, e = some c → ρ.σ nx = ρ.σ c
/-- As OpOK, with something told of the names besides. -/
def OpOKF (C : Ctx) (w0 : World) (p : Oper) (s : St) (o : Out) (F : Env → Prop) : Prop :=
  ∃ v, o.x = .val v ∧ v.ok o.st.nxt = true ∧ o.st.tmps = s.tmps ∧ (s.nxt ≤ o.st.nxt ∧ o.st.res.fr = s.res.fr) ∧
  ∀ (rd : Option Nat) ρ a w K Q, (∀ x ∈ p.op.operands, a.eval x = (aeval s.tmps x).den ρ) → Rep w0.heap.size ρ s.heap s.nxt w → Below w0.heap.size w0 w →
    (∀ ρ' w', Rep w0.heap.size ρ' o.st.heap o.st.nxt w' → Post ρ ρ' s.heap o.st.heap s.nxt o.st.nxt o.low w w' → F ρ' → K (a.put p.dst (v.den ρ')) w') → p.wpIn (fenceR rd) 0 C.P a w K Q
theorem OpOK.f {C : Ctx} {w0 : World} {p : Oper} {s : St} {o : Out} {F : Env → Prop} (h : OpOK C w0 p s o) (hF : ∀ ρ, F ρ) : OpOKF C w0 p s o F := by
  obtain ⟨v, a1, a2, a3, a4, a5⟩ := h
  exact ⟨v, a1, a2, a3, a4, fun rd ρ a w K Q he hr hb hk => a5 rd ρ a w K Q he hr hb fun ρ' w' r q => hk ρ' w' r q (hF ρ')⟩
def ItemE (C : Ctx) (w0 : World) (base : Nat) (h0 : AHeap) (hid : List Nat) (p : Oper) (it : Item) (mine : AHeap) (e : Option Nat) : Prop :=
  p.guard = none ∧ it.v.within (mayName base it.nx mine) = true ∧ heapWithin (mayName base it.nx mine) it.made = true ∧ (∀ n b, hget it.seen n = some b → hget (it.made ++ mine) n = some b) ∧
    ∃ (s : St) (o : Out), s.tmps = it.tm ∧ s.heap = mine ++ hdelL h0 (hidOf e hid) ∧ s.nxt = it.nx ∧ o.x = .val it.v ∧ o.st.nxt = it.nx' ∧ it.made = hfrom o.st.heap it.nx ∧ OpOKF C w0 p s o (RenF p e base it.nx) ∧ EatLow e it.nx s o
structure Eats (ops : Array Oper) (base : Nat) (h0 : AHeap) (hid : List Nat) (L : List Item) (E : List (Option Nat)) : Prop where
  old : ∀ (i c : Nat), E[i]? = some (some c) → (c < base ∧ c ∈ hid ∧ ∃ b, hget h0 c = some b ∧ b.mem = true) ∨ (base ≤ c ∧ ∃ (j : Nat) (jt : Item) (b : ABlock), j ∈ anc (before ops.toList []) i ∧ L[j]? = some jt ∧ hget jt.made c = some b ∧ b.mem = true)
  lone : ∀ (i c : Nat), E[i]? = some (some c) → ∀ (i' : Nat) (p' : Oper), i' < L.length → ops[i']? = some p' → i' ≠ i → hget (seenBy ((L.take i').map Item.seen) (depsOf p')) c = none
  one : ∀ (i j c : Nat), E[i]? = some (some c) → E[j]? = some (some c) → i = j
structure ChainE (C : Ctx) (w0 : World) (ops : Array Oper) (base : Nat) (h0 : AHeap) (hid : List Nat) (tm0 : List AV) (L : List Item) (E : List (Option Nat)) : Prop where
  item : ∀ i it p, L[i]? = some it → ops[i]? = some p → ∃ e, E[i]? = some e ∧ it.tm = tmAt ops tm0 L i ∧ it.nx = nxAt base L i ∧ it.nx ≤ it.nx' ∧ it.v.ok it.nx' = true ∧
    ItemE C w0 base h0 hid p it (seenBy ((L.take i).map Item.seen) (depsOf p)) e
  len : E.length = L.length
  eats : Eats ops base h0 hid L E
section
variable {C : Ctx} {w0 : World} {ops : Array Oper} {base : Nat} {h0 : AHeap} {hid : List Nat} {tm0 : List AV} {L : List Item} {E : List (Option Nat)}
theorem chain_snocE (hc : ChainE C w0 ops base h0 hid tm0 L E) {it : Item} {p : Oper} {e : Option Nat} (hp : ops[L.length]? = some p)
    (h1 : it.tm = tmAt ops tm0 L L.length) (h2 : it.nx = nxAt base L L.length) (h3 : it.nx ≤ it.nx') (h3' : it.v.ok it.nx' = true) (h4 : ItemE C w0 base h0 hid p it (seenBy (L.map Item.seen) (depsOf p)) e)
    (h5 : ∀ c, e = some c → ((c < base ∧ c ∈ hid ∧ ∃ b, hget h0 c = some b ∧ b.mem = true) ∨ (base ≤ c ∧ ∃ (j : Nat) (jt : Item) (b : ABlock), j ∈ anc (before ops.toList []) L.length ∧ L[j]? = some jt ∧ hget jt.made c = some b ∧ b.mem = true)) ∧ (∀ i : Nat, E[i]? ≠ some (some c)) ∧
      ∀ (i' : Nat) (p' : Oper), i' < L.length → ops[i']? = some p' → hget (seenBy ((L.take i').map Item.seen) (depsOf p')) c = none)
    (h6 : ∀ i c : Nat, E[i]? = some (some c) → hget (seenBy (L.map Item.seen) (depsOf p)) c = none) :
    ChainE C w0 ops base h0 hid tm0 (L ++ [it]) (E ++ [e]) ∧ tmAt ops tm0 (L ++ [it]) (L.length + 1) = setT it.tm p.dst it.v ∧ nxAt base (L ++ [it]) (L.length + 1) = it.nx' := by
  have hE : ∀ (i : Nat) (c : Nat), (E ++ [e])[i]? = some (some c) → E[i]? = some (some c) ∨ (i = L.length ∧ e = some c) := fun i c hi => by
    rcases Nat.lt_or_ge i E.length with hl | hl
    · rw [List.getElem?_append_left hl] at hi
      exact .inl hi
    · have hil : i = E.length := by
        have := (List.getElem?_eq_some_iff.1 hi).1
        simp at this; omega
      subst hil
      simp only [List.getElem?_append_right (Nat.le_refl _), Nat.sub_self, List.getElem?_cons_zero, Option.some.injEq] at hi
      exact .inr ⟨hc.len, hi⟩
  have hLj : ∀ {j : Nat} {jt : Item}, L[j]? = some jt → (L ++ [it])[j]? = some jt := fun hj => by
    rw [List.getElem?_append_left (List.getElem?_eq_some_iff.1 hj).1]; exact hj
  refine ⟨⟨fun i jt q hi hq => ?_, by simp [hc.len], ⟨fun i c hi => ?_, fun i c hi i' p' hi' hp' hne => ?_, fun i j c hi hj => ?_⟩⟩, ?_, ?_⟩
  · rcases Nat.lt_or_ge i L.length with hl | hl
    · rw [List.getElem?_append_left hl] at hi
      rw [tmAt_take (by omega), nxAt_take (by omega), List.take_append_of_le_length (by omega)]
      obtain ⟨e', he', r⟩ := hc.item i jt q hi hq
      exact ⟨e', by rw [List.getElem?_append_left (by rw [hc.len]; exact hl)]; exact he', r⟩
    · have hil : i = L.length := by
        have := (List.getElem?_eq_some_iff.1 hi).1
        simp at this; omega
      subst hil
      simp only [List.getElem?_append_right (Nat.le_refl _), Nat.sub_self, List.getElem?_cons_zero, Option.some.injEq] at hi
      subst hi
      rw [hp] at hq
      cases hq
      rw [tmAt_take (Nat.le_refl _), nxAt_take (Nat.le_refl _), List.take_left']
      · exact ⟨e, by rw [← hc.len, List.getElem?_append_right (Nat.le_refl _)]; simp, h1, h2, h3, h3', h4⟩
      · rfl
  · rcases hE i c hi with h | ⟨hil, h⟩
    · rcases hc.eats.old i c h with h | ⟨h0, j, jt, b, q1, q2, q3⟩
      · exact .inl h
      · exact .inr ⟨h0, j, jt, b, q1, hLj q2, q3⟩
    · rcases (h5 c h).1 with h | ⟨h0, j, jt, b, q1, q2, q3⟩
      · exact .inl h
      · exact .inr ⟨h0, j, jt, b, by rw [hil]; exact q1, hLj q2, q3⟩
  · have hi'' : i' ≤ L.length := by simp at hi'; omega
    rw [List.take_append_of_le_length hi'']
    rcases hE i c hi with h | ⟨hil, h⟩
    · rcases Nat.lt_or_ge i' L.length with hl | hl
      · exact hc.eats.lone i c h i' p' hl hp' hne
      · have : i' = L.length := by omega
        subst this
        rw [hp] at hp'; cases hp'
        rw [List.take_length]
        exact h6 i c h
    · rcases Nat.lt_or_ge i' L.length with hl | hl
      · exact (h5 c h).2.2 i' p' hl hp'
      · omega
  · rcases hE i c hi with h | ⟨h, h'⟩ <;> rcases hE j c hj with k | ⟨k, k'⟩
    · exact hc.eats.one i j c h k
    · exact absurd h ((h5 c k').2.1 i)
    · exact absurd k ((h5 c h').2.1 j)
    · omega
  · simp only [tmAt, tmAt_take (Nat.le_refl _), List.getElem?_append_right (Nat.le_refl _), Nat.sub_self, List.getElem?_cons_zero, hp, h1]
  · simp only [nxAt, List.getElem?_append_right (Nat.le_refl _), Nat.sub_self, List.getElem?_cons_zero]
theorem nxAt_monoE (hc : ChainE C w0 ops base h0 hid tm0 L E) (hlen : L.length ≤ ops.size) :
    ∀ {i j : Nat}, i ≤ j → j ≤ L.length → nxAt base L i ≤ nxAt base L j := by
  intro i j hij hj
  induction j with
  | zero => have : i = 0 := by omega
            subst this; exact Nat.le_refl _
  | succ j ih =>
    rcases Nat.lt_or_ge i (j + 1) with h | h
    · have h1 := ih (by omega) (by omega)
      have hl : j < L.length := by omega
      have hit : L[j]? = some L[j] := List.getElem?_eq_getElem hl
      have hp : ops[j]? = some ops[j] := by simp
      obtain ⟨-, -, -, h2, h3, -⟩ := hc.item j _ _ hit hp
      simp only [nxAt, hit]
      omega
    · have : i = j + 1 := by omega
      subst this; exact Nat.le_refl _
theorem rangesE (hc : ChainE C w0 ops base h0 hid tm0 L E) (hlen : L.length ≤ ops.size) {i j : Nat} {it jt : Item} (hi : L[i]? = some it) (hj : L[j]? = some jt) (hlt : j < i) : jt.nx' ≤ it.nx := by
  have hil := (List.getElem?_eq_some_iff.1 hi).1
  have hjl := (List.getElem?_eq_some_iff.1 hj).1
  have hp : ops[i]? = some ops[i] := by simp
  obtain ⟨-, -, -, h2, -⟩ := hc.item i it _ hi hp
  have hm := nxAt_monoE hc hlen (i := j + 1) (j := i) (by omega) (by omega)
  simp only [nxAt, hj] at hm
  omega
theorem base_leE (hc : ChainE C w0 ops base h0 hid tm0 L E) (hlen : L.length ≤ ops.size) {i : Nat} {it : Item} (hi : L[i]? = some it) : base ≤ it.nx ∧ it.nx ≤ it.nx' ∧ it.nx' ≤ nxAt base L L.length := by
  have hil := (List.getElem?_eq_some_iff.1 hi).1
  have hp : ops[i]? = some ops[i] := by simp
  obtain ⟨-, -, -, h2, h3, -⟩ := hc.item i it _ hi hp
  have hm := nxAt_monoE hc hlen (i := 0) (j := i) (by omega) (by omega)
  have hm2 := nxAt_monoE hc hlen (i := i + 1) (j := L.length) (by omega) (by omega)
  simp only [nxAt, hi] at hm2
  simp only [nxAt] at hm
  omega
theorem seen_thereE (hc : ChainE C w0 ops base h0 hid tm0 L E) (hlen : L.length ≤ ops.size) (hd : baseOk ops = true) {D : Nat → Prop} (hcl : ∀ i p, ops[i]? = some p → D i → ∀ d ∈ depsOf p, D d) :
    ∀ (i : Nat) (it : Item), D i → L[i]? = some it → ∀ n b, hget it.seen n = some b → ∃ j jt, j ≤ i ∧ D j ∧ L[j]? = some jt ∧ hget jt.made n = some b := by
  intro i
  induction i using Nat.strongRecOn with
  | _ i ih =>
    intro it hDi hit n b hn
    have hil := (List.getElem?_eq_some_iff.1 hit).1
    have hp : ops[i]? = some ops[i] := by simp
    obtain ⟨-, -, -, -, -, -, -, -, -, hs, -⟩ := hc.item i it _ hit hp
    replace hn := hs n b hn
    rw [hget_append] at hn
    cases hm : hget it.made n with
    | some c => rw [hm] at hn; cases hn; exact ⟨i, it, Nat.le_refl _, hDi, hit, hm⟩
    | none =>
      rw [hm] at hn
      obtain ⟨d, hdm, hb⟩ := seenBy_get hn
      have hdi := (baseOk_spec hd hp).1 d hdm
      have hdl : d < L.length := by omega
      have hdt : L[d]? = some L[d] := List.getElem?_eq_getElem hdl
      rw [List.getD_eq_getElem?_getD, List.getElem?_map, List.getElem?_take, if_pos hdi, hdt] at hb
      obtain ⟨j, jt, h1, h2⟩ := ih d hdi _ (hcl i _ hp hDi d hdm) hdt n b (by simpa using hb)
      exact ⟨j, jt, by omega, h2⟩
theorem mine_thereE (hc : ChainE C w0 ops base h0 hid tm0 L E) (hlen : L.length ≤ ops.size) (hd : baseOk ops = true) {D : Nat → Prop} (hcl : ∀ i p, ops[i]? = some p → D i → ∀ d ∈ depsOf p, D d)
    {i : Nat} {p : Oper} (hp : ops[i]? = some p) (hil : i < L.length) (hdep : ∀ d ∈ depsOf p, D d) {n : Nat} {b : ABlock} (hn : hget (seenBy ((L.take i).map Item.seen) (depsOf p)) n = some b) :
    ∃ j jt, j < i ∧ D j ∧ L[j]? = some jt ∧ hget jt.made n = some b := by
  obtain ⟨d, hdm, hb⟩ := seenBy_get hn
  have hdi := (baseOk_spec hd hp).1 d hdm
  have hdl : d < L.length := by omega
  have hdt : L[d]? = some L[d] := List.getElem?_eq_getElem hdl
  rw [List.getD_eq_getElem?_getD, List.getElem?_map, List.getElem?_take, if_pos hdi, hdt] at hb
  obtain ⟨j, jt, h1, h2⟩ := seen_thereE hc hlen hd hcl d _ (hdep d hdm) hdt n b (by simpa using hb)
  exact ⟨j, jt, by omega, h2⟩
/-- Which blocks are there when the operations of D have been carried out. -/
def ThereE (h0 : AHeap) (L : List Item) (E : List (Option Nat)) (D : Nat → Prop) (n : Nat) (b : ABlock) : Prop := (hget h0 n = some b ∧ ∀ j, D j → E[j]? ≠ some (some n)) ∨ ∃ j it, D j ∧ L[j]? = some it ∧ hget it.made n = some b ∧ ∀ k, D k → E[k]? ≠ some (some n)
structure InvE (w0 : World) (ops : Array Oper) (base : Nat) (h0 : AHeap) (tm0 : List AV) (L : List Item) (E : List (Option Nat)) (lowA : Nat) (ρ0 : Env) (ws : World) (ds : List Deferred) (D : Nat → Prop) (ρ : Env) (a : Act) (w : World) : Prop where
  closed : ∀ i p, ops[i]? = some p → D i → ∀ d ∈ depsOf p, D d
  defers : a.defers = ds
  size : a.tmps.size = tm0.length
  put : ∀ j it p t, D j → L[j]? = some it → ops[j]? = some p → p.dst = some t → t < tm0.length → a.tmps[t]? = some (it.v.den ρ)
  left : ∀ t, (∀ j p, D j → ops[j]? = some p → p.dst ≠ some t) → a.tmps[t]? = (AV.denL ρ tm0)[t]?
  block : ∀ n b, ThereE h0 L E D n b → BlockOK (Free ρ (ThereE h0 L E D)) w ρ b (ρ.kk n) w.heap[ρ.σ n]?
  inj : ∀ n m b c, ThereE h0 L E D n b → ThereE h0 L E D m c → b.mem = true → c.mem = true → ρ.σ n = ρ.σ m → n = m
  above : ∀ n b, ThereE h0 L E D n b → b.mem = true → w0.heap.size ≤ ρ.σ n
  made : ∀ j it n b, D j → L[j]? = some it → hget it.made n = some b → it.nx ≤ n ∧ n < it.nx' ∧ AV.okL it.nx' b.cells = true ∧ (b.mem = true → ws.heap.size ≤ ρ.σ n ∨ ∃ (k c : Nat), c < base ∧ E[k]? = some (some c) ∧ ρ.σ n = ρ0.σ c)
  ren : ∀ (j : Nat) (it : Item) (p : Oper) (c : Nat), D j → L[j]? = some it → ops[j]? = some p → p.dst = none → E[j]? = some (some c) → ρ.σ it.nx = ρ.σ c
  area : ρ.A = ρ0.A ∧ ρ.L = ρ0.L
  ground : ρ0.L ≤ ws.heap.size
  reach : ∀ n b, ThereE h0 L E D n b → b.mem = true → ρ.A (ρ.σ n) ∨ ρ.L ≤ ρ.σ n
  agree : ∀ n, n < base ∨ nxAt base L L.length ≤ n → ρ.σ n = ρ0.σ n ∧ ρ.kk n = ρ0.kk n
  os : w.os = ws.os
  tape : w.tape = ws.tape
  output : w.output = ws.output
  wsize : ws.heap.size ≤ w.heap.size
  frame : ∀ k, k < ws.heap.size → (∀ n b, hget h0 n = some b → b.mem = true → lowA ≤ n → ρ0.σ n ≠ k) → w.heap[k]? = ws.heap[k]?
  below : Below w0.heap.size w0 w
end
section
variable {C : Ctx} {w0 : World} {ops : Array Oper} {base : Nat} {h0 : AHeap} {hid : List Nat} {tm0 : List AV} {L : List Item} {E : List (Option Nat)} {lowA : Nat} {ρ0 : Env} {ws : World} {ds : List Deferred}
variable (hc : ChainE C w0 ops base h0 hid tm0 L E) (hlen : L.length ≤ ops.size) (hd : baseOk ops = true)
variable (hs0 : ∀ n b, hget h0 n = some b → n < base ∧ AV.okL base b.cells = true) (ht0 : AV.okL base tm0 = true)
include hc hlen hd
theorem slot_standsE {D : Nat → Prop} {ρ : Env} {a : Act} {w : World} (hI : InvE w0 ops base h0 tm0 L E lowA ρ0 ws ds D ρ a w) {i : Nat} {p : Oper} {it : Item} (hp : ops[i]? = some p) (hit : L[i]? = some it)
    (hdep : ∀ d ∈ depsOf p, D d) (hDi : ¬ D i) {t : Tmp} (ht : t ∈ p.looksAt ops) : a.tmps[t]? = (AV.denL ρ it.tm)[t]? := by
  obtain ⟨-, -, h1, -⟩ := hc.item i it p hit hp
  rw [h1, denL_map, List.getElem?_map]
  by_cases hex : ∃ (j : Nat) (q : Oper), ops[j]? = some q ∧ q.dst = some t
  · obtain ⟨j, q, hq, hdq⟩ := hex
    rcases ((baseOk_spec hd hp).2.2.1 j q t hq hdq).1 ht with hja | hia
    rotate_left
    · have hij := (anc_spec hq hia).1
      have hone : ∀ (k : Nat) (r : Oper), ops[k]? = some r → r.dst = some t → k = j := fun k r hr hdr => Classical.byContradiction fun hk => ((baseOk_spec hd hr).2.2.1 j q t hq hdq).2 hk hdr
      have hDj : ¬ D j := fun hDj => hDi (anc_listed hI.closed j q hq (hI.closed j q hq hDj) i hia)
      rw [hI.left t (fun k r hDk hr hdr => hDj (hone k r hr hdr ▸ hDk)), tmAt_keep (fun k r hk hr hdr => by have := hone k r hr hdr; omega), denL_map, List.getElem?_map]
    have hDj := anc_listed hI.closed i p hp hdep j hja
    have hji := (anc_spec hp hja).1
    have hjl : j < L.length := by
      have hil := (List.getElem?_eq_some_iff.1 hit).1
      omega
    have hjt : L[j]? = some L[j] := List.getElem?_eq_getElem hjl
    rcases Nat.lt_or_ge t tm0.length with hlt | hge
    · rw [hI.put j _ q t hDj hjt hq hdq hlt, tmAt_put hjt hq hdq hlt (fun k r hk hr hdr => ?_) hji]
      · rfl
      · exact ((baseOk_spec hd hr).2.2.1 j q t hq hdq).2 hk hdr
    · rw [Array.getElem?_eq_none (by rw [hI.size]; exact hge), List.getElem?_eq_none (by rw [tmAt_length]; exact hge)]; rfl
  · have hno : ∀ (j : Nat) (q : Oper), ops[j]? = some q → q.dst ≠ some t := fun j q hq hdq => hex ⟨j, q, hq, hdq⟩
    rw [hI.left t (fun j q _ hq => hno j q hq), tmAt_keep (fun j q _ hq => hno j q hq), denL_map, List.getElem?_map]
theorem operand_standsE {D : Nat → Prop} {ρ : Env} {a : Act} {w : World} (hI : InvE w0 ops base h0 tm0 L E lowA ρ0 ws ds D ρ a w) {i : Nat} {p : Oper} {it : Item} (hp : ops[i]? = some p) (hit : L[i]? = some it)
    (hdep : ∀ d ∈ depsOf p, D d) (hDi : ¬ D i) : ∀ x ∈ p.op.operands, a.eval x = (aeval it.tm x).den ρ := by
  intro x hx
  cases x with
  | tmp t =>
    have ht : t ∈ p.looksAt ops := by
      unfold Oper.looksAt
      exact List.mem_append_left _ (List.mem_filterMap.2 ⟨.tmp t, by simpa using hx, rfl⟩)
    have := slot_standsE hc hlen hd hI hp hit hdep hDi ht
    simp only [Act.eval, aeval, getD_den]
    rw [Array.getD_eq_getD_getElem?, this, List.getD_eq_getElem?_getD]
  | const v => simp [Act.eval, aeval, AV.den]
  | global g => simp [Act.eval, aeval, AV.den]
  | func f => simp [Act.eval, aeval, AV.den]
include hs0 ht0
set_option maxHeartbeats 1000000 in
/-- An operation that is carried out. -/
theorem inv_onE {D : Nat → Prop} {ρ : Env} {a : Act} {w : World} (hI : InvE w0 ops base h0 tm0 L E lowA ρ0 ws ds D ρ a w) (hlo : ∀ i c : Nat, E[i]? = some (some c) → lowA ≤ c) {i : Nat} {p : Oper} {it : Item} {e : Option Nat} (hp : ops[i]? = some p) (hit : L[i]? = some it) (hE : E[i]? = some e)
    (hdep : ∀ d ∈ depsOf p, D d) (hDi : ¬ D i) {s : St} {o : Out} (hsh : s.heap = seenBy ((L.take i).map Item.seen) (depsOf p) ++ hdelL h0 (hidOf e hid)) (hsn : s.nxt = it.nx) (hon : o.st.nxt = it.nx') (hmade : it.made = hfrom o.st.heap it.nx)
    (hlow : EatLow e it.nx s o) :
    ∃ ρi : Env, (∀ x : AV, x.den ρi = x.den ρ) ∧ Rep w0.heap.size ρi s.heap s.nxt w ∧
    ∀ ρ' w', Rep w0.heap.size ρ' o.st.heap o.st.nxt w' → Post ρi ρ' s.heap o.st.heap s.nxt o.st.nxt o.low w w' → RenF p e base it.nx ρ' →
      ∃ ρ2 : Env, InvE w0 ops base h0 tm0 L E lowA ρ0 ws ds (fun j => D j ∨ j = i) ρ2 (a.put p.dst (it.v.den ρ')) w' := by
  obtain ⟨b1, b2, b3⟩ := base_leE hc hlen hit
  have hsee : ∀ n b, hget s.heap n = some b → ThereE h0 L E D n b ∧ n < it.nx ∧ AV.okL it.nx b.cells = true := by
    intro n b hn
    rw [hsh, hget_append] at hn
    cases hm : hget (seenBy ((L.take i).map Item.seen) (depsOf p)) n with
    | some c =>
      rw [hm] at hn; cases hn
      obtain ⟨j, jt, hji, hDj, hjt, hb⟩ := mine_thereE hc hlen hd hI.closed hp (List.getElem?_eq_some_iff.1 hit).1 hdep hm
      obtain ⟨m1, m2, m3, m4⟩ := hI.made j jt n b hDj hjt hb
      have hr := rangesE hc hlen hit hjt hji
      refine ⟨.inr ⟨j, jt, hDj, hjt, hb, fun k hDk hEk => ?_⟩, by omega, okL_mono hr _ m3⟩
      have hl := hc.eats.lone k n hEk i p (List.getElem?_eq_some_iff.1 hit).1 hp (fun e => hDi (e ▸ hDk))
      rw [hm] at hl; cases hl
    | none =>
      rw [hm] at hn
      obtain ⟨hn, hh⟩ := hid_get hn
      obtain ⟨q1, q2⟩ := hs0 n b hn
      refine ⟨.inl ⟨hn, fun j hDj hEj => ?_⟩, by omega, okL_mono b1 _ q2⟩
      rcases hc.eats.old j n hEj with h1 | ⟨h1, -⟩
      · have h1 := hh h1.2.1
        rw [h1] at hE
        exact hDi (hc.eats.one i j n hE hEj ▸ hDj)
      · omega
  have hfun' : ∀ n b c, ThereE h0 L E D n b → ThereE h0 L E D n c → b = c := by
    intro n b c hn hm
    rcases hn with ⟨hn, -⟩ | ⟨j, jt, hDj, hjt, hb, -⟩ <;> rcases hm with ⟨hm, -⟩ | ⟨k, kt, hDk, hkt, hcc, -⟩
    · rw [hn] at hm; cases hm; rfl
    · have := (hs0 n b hn).1
      have := hI.made k kt n c hDk hkt hcc
      have := base_leE hc hlen hkt
      omega
    · have := (hs0 n c hm).1
      have := hI.made j jt n b hDj hjt hb
      have := base_leE hc hlen hjt
      omega
    · have m1 := hI.made j jt n b hDj hjt hb
      have m2 := hI.made k kt n c hDk hkt hcc
      rcases Nat.lt_trichotomy j k with h | h | h
      · have := rangesE hc hlen hkt hjt h; omega
      · subst h; rw [hjt] at hkt; cases hkt; rw [hb] at hcc; cases hcc; rfl
      · have := rangesE hc hlen hjt hkt h; omega
  have hlt : ∀ n b, ThereE h0 L E D n b → b.mem = true → ρ.σ n < w.heap.size := by
    intro n b hn hm
    obtain ⟨x, h1⟩ := (hI.block n b hn).some hm
    rcases Nat.lt_or_ge (ρ.σ n) w.heap.size with k | k
    · exact k
    · simp [Array.getElem?_eq_none k] at h1
  let ρi : Env := ⟨ρ.σ, ρ.kk, fun k => k < w.heap.size ∧ (ρ.A k ∨ ρ.L ≤ k) ∧ ∀ n b, ThereE h0 L E D n b → b.mem = true → ρ.σ n = k → hget s.heap n = some b, w.heap.size⟩
  have hLw : ρ.L ≤ w.heap.size := by rw [hI.area.2]; exact Nat.le_trans hI.ground hI.wsize
  have hfree : Keep (Free ρ (ThereE h0 L E D)) w (FreeH ρi s.heap) w := Keep.wide fun k hk hf => ⟨.inl ⟨hk, hf.1, fun n b hn hm e => absurd e (hf.2 n b hn hm)⟩, fun n b hn hm => hf.2 n b (hsee n b hn).1 hm⟩
  have hRep : Rep w0.heap.size ρi s.heap s.nxt w := by
    refine ⟨fun n b hn => (hI.block n b (hsee n b hn).1).keep hfree (denL_env (ρ := ρ) (ρ' := ρi) rfl rfl _) rfl fun _ => rfl, fun n m b c hn hm hb hc => hI.inj n m b c (hsee n b hn).1 (hsee m c hm).1 hb hc, fun n b hn => ?_, fun n b hn hm => hI.above n b (hsee n b hn).1 hm, Nat.le_refl _, fun n b hn hm => ?_⟩
    · rw [hsn]; exact (hsee n b hn).2
    · refine .inl ⟨hlt n b (hsee n b hn).1 hm, hI.reach n b (hsee n b hn).1 hm, fun m c hmt hc e => ?_⟩
      have := hI.inj m n c b hmt (hsee n b hn).1 hc hm e
      subst this
      have hbc := hfun' m c b hmt (hsee m b hn).1
      rw [hbc]; exact hn
  refine ⟨ρi, fun x => den_env (ρ := ρ) (ρ' := ρi) rfl rfl x, hRep, fun ρ' w' hr' hp' hF => ?_⟩
  have hle := hp'.le
  let ρ2 : Env := ⟨ρ'.σ, ρ'.kk, ρ.A, ρ.L⟩
  -- what is seen and not eaten is there behind it
  have hsame : ∀ n, n < it.nx → hget o.st.heap n = if e = some n then none else hget s.heap n := by
    intro n hn
    cases e with
    | none =>
      have hlow : it.nx ≤ o.low := hlow
      rw [if_neg (by simp)]
      exact hp'.keep n (by omega) (by rw [hsn]; exact hn)
    | some c =>
      have hlow := hlow.2.2 n hn
      rw [hlow]
      by_cases hnc : n = c
      · rw [if_pos hnc, if_pos (by rw [hnc])]
      · rw [if_neg hnc, if_neg (fun h => hnc (by cases h; rfl))]
  have hlowA : lowA ≤ o.low ∨ it.nx ≤ o.low := by
    cases e with
    | none => exact .inr hlow
    | some c => exact .inl (Nat.le_trans (hlo i c hE) hlow.1)
  have hun : ∀ k, k < w.heap.size → (∀ n b, hget s.heap n = some b → b.mem = true → ρ.σ n ≠ k) → w'.heap[k]? = w.heap[k]? := fun k hk hno => hp'.frame k hk fun n b hn hb _ => hno n b hn hb
  have hag : ∀ n, ¬ (it.nx ≤ n ∧ n < it.nx') → ρ'.σ n = ρ.σ n ∧ ρ'.kk n = ρ.kk n := fun n hn => hp'.agree n (by rw [hsn, hon]; omega)
  have hawayM : ∀ (j : Nat) (jt : Item) (n : Nat), D j → L[j]? = some jt → jt.nx ≤ n → n < jt.nx' → ¬ (it.nx ≤ n ∧ n < it.nx') := by
    intro j jt n hDj hjt m1 m2
    rcases Nat.lt_trichotomy j i with h | h | h
    · have := rangesE hc hlen hit hjt h; omega
    · subst h; exact absurd hDj hDi
    · have := rangesE hc hlen hjt hit h; omega
  have haway : ∀ n b, ThereE h0 L E D n b → ¬ (it.nx ≤ n ∧ n < it.nx') := by
    intro n b hn
    rcases hn with ⟨hn, -⟩ | ⟨j, jt, hDj, hjt, hb, -⟩
    · have := (hs0 n b hn).1; omega
    · obtain ⟨m1, m2, -, -⟩ := hI.made j jt n b hDj hjt hb
      exact hawayM j jt n hDj hjt m1 m2
  -- what is eaten
  have heat : ∀ c, e = some c → c < it.nx ∧ ∃ b, ThereE h0 L E D c b ∧ b.mem = true ∧ (ws.heap.size ≤ ρ.σ c ∨ ∃ (k c' : Nat), c' < base ∧ E[k]? = some (some c') ∧ ρ.σ c = ρ0.σ c') := by
    intro c hec
    rw [hec] at hE
    have hone : ∀ j, D j → E[j]? ≠ some (some c) := fun j hDj hEj => hDi (hc.eats.one i j c hE hEj ▸ hDj)
    rcases hc.eats.old i c hE with ⟨q1, q2, b, q3, q4⟩ | ⟨q1, j, jt, b, q2, q3, q4, q5⟩
    · exact ⟨by omega, b, .inl ⟨q3, hone⟩, q4, .inr ⟨i, c, q1, hE, (hI.agree c (.inl q1)).1⟩⟩
    · have hDj := anc_listed hI.closed i p hp hdep j q2
      have hji := (anc_spec hp q2).1
      obtain ⟨m1, m2, -, m4⟩ := hI.made j jt c b hDj q3 q4
      have hr := rangesE hc hlen hit q3 hji
      exact ⟨by omega, b, .inr ⟨j, jt, hDj, q3, q4, hone⟩, q5, m4 q5⟩
  have hnames : ∀ j jt, D j → L[j]? = some jt → ∀ q, ops[j]? = some q → ∀ n, mayName base jt.nx (seenBy ((L.take j).map Item.seen) (depsOf q)) n = true → n < jt.nx' → ¬ (it.nx ≤ n ∧ n < it.nx') := by
    intro j jt hDj hjt q hq n hn hnlt
    have hji : j ≠ i := fun e => hDi (e ▸ hDj)
    unfold mayName at hn
    split at hn
    · rename_i e; have := blt_lt e; omega
    · split at hn
      · rename_i e
        have e := ble_le e
        rcases Nat.lt_or_gt_of_ne hji with h | h
        · have := rangesE hc hlen hit hjt h; omega
        · have := rangesE hc hlen hjt hit h; omega
      · split at hn
        · rename_i b hb
          obtain ⟨k, kt, -, hDk, hkt, hkb⟩ := mine_thereE hc hlen hd hI.closed hq (List.getElem?_eq_some_iff.1 hjt).1 (hI.closed j q hq hDj) hb
          obtain ⟨m1, m2, -, -⟩ := hI.made k kt n b hDk hkt hkb
          exact hawayM k kt n hDk hkt m1 m2
        · cases hn
  have hval : ∀ j jt, D j → L[j]? = some jt → jt.v.den ρ' = jt.v.den ρ := by
    intro j jt hDj hjt
    have hjl := (List.getElem?_eq_some_iff.1 hjt).1
    have hq : ops[j]? = some ops[j] := by simp
    obtain ⟨-, -, -, -, -, h4, -, h5, -⟩ := hc.item j jt _ hjt hq
    refine den_within (p := fun n => mayName base jt.nx (seenBy ((L.take j).map Item.seen) (depsOf ops[j])) n && Nat.blt n jt.nx') (fun n hn => ?_) _ ?_
    · simp only [Bool.and_eq_true] at hn
      exact hag n (hnames j jt hDj hjt _ hq n hn.1 (blt_lt hn.2))
    · exact within_and _ h5 h4
  have hcells : ∀ n b, ThereE h0 L E D n b → AV.denL ρ' b.cells = AV.denL ρ b.cells := by
    intro n b hn
    rcases hn with ⟨hn, -⟩ | ⟨j, jt, hDj, hjt, hb, -⟩
    · exact denL_agree (m := base) (fun k hk => hag k (by omega)) _ (hs0 n b hn).2
    · have hjl := (List.getElem?_eq_some_iff.1 hjt).1
      have hq : ops[j]? = some ops[j] := by simp
      obtain ⟨-, -, -, -, -, -, -, -, h5, -⟩ := hc.item j jt _ hjt hq
      obtain ⟨-, -, m3, -⟩ := hI.made j jt n b hDj hjt hb
      refine denL_within (p := fun n => mayName base jt.nx (seenBy ((L.take j).map Item.seen) (depsOf ops[j])) n && Nat.blt n jt.nx') (fun n hn => ?_) _ ?_
      · simp only [Bool.and_eq_true] at hn
        exact hag n (hnames j jt hDj hjt _ hq n hn.1 (blt_lt hn.2))
      · exact withinL_and _ (heapWithin_get h5 hb) m3
  have hnew : ∀ n b, hget it.made n = some b → it.nx ≤ n ∧ n < it.nx' ∧ AV.okL it.nx' b.cells = true ∧ hget o.st.heap n = some b ∧ (b.mem = true → w.heap.size ≤ ρ'.σ n ∨ ∃ c, e = some c ∧ ρ'.σ n = ρ.σ c) := by
    intro n b hn
    rw [hmade, hget_from] at hn
    split at hn
    · cases hn
    · rename_i hge
      obtain ⟨s1, s2⟩ := hr'.scope n b hn
      rw [hon] at s1 s2
      refine ⟨by omega, s1, s2, hn, fun hbm => ?_⟩
      rcases hp'.fresh n b hn hbm with ⟨m, c, hm, hcm, em, -⟩ | hf
      · have hmlt := (hsee m c hm).2.1
        by_cases hem : e = some m
        · exact .inr ⟨m, hem, em⟩
        · have hk := hsame m hmlt
          rw [if_neg hem, hm] at hk
          have hσ := (hp'.agree m (.inl (by rw [hsn]; exact hmlt))).1
          have := hr'.inj n m b c hn hk hbm hcm (by rw [em, hσ])
          omega
      · exact .inl hf
  have hth : ∀ n b, ThereE h0 L E (fun j => D j ∨ j = i) n b → (ThereE h0 L E D n b ∧ e ≠ some n) ∨ hget it.made n = some b := fun n b h => by
    rcases h with ⟨h, hno⟩ | ⟨j, jt, hj | hj, h1, h2, hno⟩
    · exact .inl ⟨.inl ⟨h, fun j hj => hno j (.inl hj)⟩, fun he => hno i (.inr rfl) (by rw [hE, he])⟩
    · exact .inl ⟨.inr ⟨j, jt, hj, h1, h2, fun k hk => hno k (.inl hk)⟩, fun he => hno i (.inr rfl) (by rw [hE, he])⟩
    · subst hj; rw [hit] at h1; cases h1; exact .inr h2
  have hbel : Below w0.heap.size w w' := hp'.below hRep hI.below.size
  have hkeep : Keep (Free ρ (ThereE h0 L E D)) w (Free ρ2 (ThereE h0 L E fun j => D j ∨ j = i)) w' := fun k hk hf => by
    refine ⟨hun k hk fun n b hn hm => hf.2 n b (hsee n b hn).1 hm, hf.1, fun n b hn hm => ?_⟩
    rcases hth n b hn with ⟨hn, -⟩ | hn
    · show ρ'.σ n ≠ k
      rw [(hag n (haway n b hn)).1]; exact hf.2 n b hn hm
    · show ρ'.σ n ≠ k
      rcases (hnew n b hn).2.2.2.2 hm with h | ⟨c, hec, h⟩
      · omega
      · obtain ⟨-, bc, q1, q2, -⟩ := heat c hec
        rw [h]; exact hf.2 c bc q1 q2
  have hwide : Keep (FreeH ρ' o.st.heap) w' (Free ρ2 (ThereE h0 L E fun j => D j ∨ j = i)) w' := Keep.wide fun k hk hf => by
    obtain ⟨hf1, hf2⟩ := hf
    rw [hp'.area.1, hp'.area.2] at hf1
    rcases hf1 with ⟨g1, g2, g3⟩ | hf1
    · refine ⟨g2, fun n b hn hm => ?_⟩
      show ρ'.σ n ≠ k
      rcases hth n b hn with ⟨hn, hen⟩ | hn
      · intro he
        have e1 := (hag n (haway n b hn)).1
        have e2 : ρ.σ n = k := by rw [← he, e1]
        have e3 := g3 n b hn hm e2
        have e4 := hsame n (hsee n b e3).2.1
        rw [if_neg hen, e3] at e4
        exact hf2 n b e4 hm he
      · exact hf2 n b (hnew n b hn).2.2.2.1 hm
    · have hf1 : w.heap.size ≤ k := hf1
      refine ⟨.inr (Nat.le_trans hLw hf1), fun n b hn hm => ?_⟩
      show ρ'.σ n ≠ k
      rcases hth n b hn with ⟨hn, -⟩ | hn
      · rw [(hag n (haway n b hn)).1]
        have := hlt n b hn hm
        omega
      · exact hf2 n b (hnew n b hn).2.2.2.1 hm
  have hden2 : ∀ x : AV, x.den ρ2 = x.den ρ' := fun x => den_env (ρ := ρ') (ρ' := ρ2) rfl rfl x
  have hdenL2 : ∀ xs : List AV, AV.denL ρ2 xs = AV.denL ρ' xs := fun xs => denL_env (ρ := ρ') (ρ' := ρ2) rfl rfl xs
  refine ⟨ρ2, ?_, ?_, ?_, ?_, ?_, ?_, ?_, ?_, ?_, ?_, hI.area, hI.ground, ?_, ?_, hp'.os.trans hI.os, hp'.tape.trans hI.tape, hp'.output.trans hI.output, Nat.le_trans hI.wsize hp'.size, ?_, hI.below.trans hbel⟩
  · intro k q hq hk d hdm
    rcases hk with hk | rfl
    · exact .inl (hI.closed k q hq hk d hdm)
    · rw [hp] at hq; cases hq; exact .inl (hdep d hdm)
  · cases hdst : p.dst <;> simp [Act.put, hI.defers]
  · cases hdst : p.dst <;> simp [Act.put, hI.size]
  · intro j jt q t hj h1 h2 h3 h4
    by_cases hji : j = i
    · subst hji
      rw [hit] at h1; cases h1
      rw [hp] at h2; cases h2
      simp only [Act.put, h3]
      rw [Array.getElem?_setIfInBounds, if_pos rfl, if_pos (by rw [hI.size]; exact h4), hden2]
    · have hj' : D j := hj.resolve_right hji
      have hne : p.dst ≠ some t := ((baseOk_spec hd hp).2.2.1 j q t h2 h3).2 (fun e => hji e.symm)
      have := hI.put j jt q t hj' h1 h2 h3 h4
      rw [hden2, hval j jt hj' h1]
      cases hdst : p.dst with
      | none => simpa [Act.put] using this
      | some d =>
        simp only [Act.put]
        rw [Array.getElem?_setIfInBounds, if_neg (fun e => hne (by rw [hdst, e]))]; exact this
  · intro t ht
    have hne : p.dst ≠ some t := ht i p (.inr rfl) hp
    have := hI.left t (fun j q hj hq => ht j q (.inl hj) hq)
    rw [hdenL2, denL_agree (m := base) (ρ := ρ) (fun k hk => hag k (by omega)) tm0 ht0]
    cases hdst : p.dst with
    | none => simpa [Act.put] using this
    | some d =>
      simp only [Act.put]
      rw [Array.getElem?_setIfInBounds, if_neg (fun e => hne (by rw [hdst, e]))]; exact this
  · intro n b hn
    rcases hth n b hn with ⟨hn, hen⟩ | hn
    · obtain ⟨g1, g2⟩ := hag n (haway n b hn)
      by_cases hin : hget s.heap n = some b
      · have e4 := hsame n (hsee n b hin).2.1
        rw [if_neg hen, hin] at e4
        exact (hr'.block n b e4).keep hwide (hdenL2 _) rfl fun _ => rfl
      · refine (hI.block n b hn).keep hkeep ((hdenL2 _).trans (hcells n b hn)) g2 fun hm => ?_
        show w'.heap[ρ'.σ n]? = _
        rw [g1]
        refine hun _ (hlt n b hn hm) fun m c hmc hcm he => ?_
        have := hI.inj m n c b (hsee m c hmc).1 hn hcm hm he
        subst this
        rw [hfun' m b c hn (hsee m c hmc).1] at hin
        exact hin hmc
    · exact (hr'.block n b (hnew n b hn).2.2.2.1).keep hwide (hdenL2 _) rfl fun _ => rfl
  · intro n m b c hn hm hb hc' he
    have he : ρ'.σ n = ρ'.σ m := he
    have hcross : ∀ n m b c, ThereE h0 L E D n b → e ≠ some n → hget it.made m = some c → b.mem = true → c.mem = true → ρ'.σ n ≠ ρ'.σ m := by
      intro n m b c hn hen hm hb hc' he
      have h1 := hlt n b hn hb
      rw [(hag n (haway n b hn)).1] at he
      rcases (hnew m c hm).2.2.2.2 hc' with h2 | ⟨c2, hec, h2⟩
      · omega
      · obtain ⟨-, bc, q1, q2, -⟩ := heat c2 hec
        have := hI.inj n c2 b bc hn q1 hb q2 (he.trans h2)
        subst this
        exact hen hec
    rcases hth n b hn with ⟨hn, hen⟩ | hn <;> rcases hth m c hm with ⟨hm, hem⟩ | hm
    · rw [(hag n (haway n b hn)).1, (hag m (haway m c hm)).1] at he
      exact hI.inj n m b c hn hm hb hc' he
    · exact absurd he (hcross n m b c hn hen hm hb hc')
    · exact absurd he.symm (hcross m n c b hm hem hn hc' hb)
    · exact hr'.inj n m b c (hnew n b hn).2.2.2.1 (hnew m c hm).2.2.2.1 hb hc' he
  · intro n b hn hm
    show w0.heap.size ≤ ρ'.σ n
    rcases hth n b hn with ⟨hn, -⟩ | hn
    · rw [(hag n (haway n b hn)).1]; exact hI.above n b hn hm
    · exact hr'.above n b (hnew n b hn).2.2.2.1 hm
  · intro j jt n b hj h1 h2
    show _ ∧ _ ∧ _ ∧ (b.mem = true → ws.heap.size ≤ ρ'.σ n ∨ ∃ (k c : Nat), c < base ∧ E[k]? = some (some c) ∧ ρ'.σ n = ρ0.σ c)
    rcases hj with hj | rfl
    · obtain ⟨m1, m2, m3, m4⟩ := hI.made j jt n b hj h1 h2
      rw [(hag n (hawayM j jt n hj h1 m1 m2)).1]
      exact ⟨m1, m2, m3, m4⟩
    · rw [hit] at h1; cases h1
      obtain ⟨m1, m2, m3, -, m5⟩ := hnew n b h2
      refine ⟨m1, m2, m3, fun hm => ?_⟩
      rcases m5 hm with h | ⟨c, hec, h⟩
      · exact .inl (Nat.le_trans hI.wsize h)
      · rw [h]; exact (heat c hec).2.elim fun _ q => q.2.2
  · intro j jt pj c hj h1 hpj hdj h2
    show ρ'.σ jt.nx = ρ'.σ c
    rcases hj with hj | rfl
    · have hjl := (List.getElem?_eq_some_iff.1 h1).1
      have hq : ops[j]? = some ops[j] := by simp
      obtain ⟨e', he', -, -, -, -, -, -, -, -, s', o', -, -, -, -, q5, -, -, q8⟩ := hc.item j jt _ h1 hq
      rw [h2] at he'; cases he'
      have hlt' : jt.nx < jt.nx' := by rw [← q5]; exact q8.2.1
      rw [(hag jt.nx (hawayM j jt jt.nx hj h1 (Nat.le_refl _) hlt')).1]
      rcases hc.eats.old j c h2 with ⟨z1, -⟩ | ⟨-, k, kt, b, z2, z3, z4, z5⟩
      · rw [(hag c (by omega)).1]
        exact hI.ren j jt pj c hj h1 hpj hdj h2
      · have hDk := anc_listed hI.closed j _ hq (hI.closed j _ hq hj) k z2
        obtain ⟨m1, m2, -, -⟩ := hI.made k kt c b hDk z3 z4
        rw [(hag c (hawayM k kt c hDk z3 m1 m2)).1]
        exact hI.ren j jt pj c hj h1 hpj hdj h2
    · rw [hit] at h1; cases h1
      rw [hE] at h2
      rw [hp] at hpj; cases hpj
      exact hF hdj c (Option.some.inj h2)
  · intro n b hn hm
    show ρ.A (ρ'.σ n) ∨ ρ.L ≤ ρ'.σ n
    rcases hth n b hn with ⟨hn, -⟩ | hn
    · rw [(hag n (haway n b hn)).1]; exact hI.reach n b hn hm
    · rcases (hnew n b hn).2.2.2.2 hm with h | ⟨c, hec, h⟩
      · exact .inr (Nat.le_trans hLw h)
      · obtain ⟨-, bc, q1, q2, -⟩ := heat c hec
        rw [h]; exact hI.reach c bc q1 q2
  · intro n hn
    obtain ⟨g1, g2⟩ := hag n (by omega)
    obtain ⟨k1, k2⟩ := hI.agree n hn
    exact ⟨g1.trans k1, g2.trans k2⟩
  · intro k hk hno
    rw [hp'.frame k (Nat.lt_of_lt_of_le hk hI.wsize) (fun n b hn hb hl => ?_)]
    · exact hI.frame k hk hno
    · show ρ.σ n ≠ k
      obtain ⟨q1, q2, -⟩ := hsee n b hn
      rcases q1 with ⟨q1, -⟩ | ⟨j, jt, hDj, hjt, hbj, -⟩
      · rw [(hI.agree n (.inl (hs0 n b q1).1)).1]
        exact hno n b q1 hb (by omega)
      · rcases (hI.made j jt n b hDj hjt hbj).2.2.2 hb with h | ⟨k, c, hcb, hEc, h⟩
        · omega
        · rcases hc.eats.old k c hEc with ⟨k1, k2, bc, k3, k4⟩ | ⟨k1, -⟩
          · rw [h]
            exact hno c bc k3 k4 (hlo k c hEc)
          · omega
end
section
variable {C : Ctx} {w0 : World} {ops : Array Oper} {base : Nat} {h0 : AHeap} {hid : List Nat} {tm0 : List AV} {L : List Item} {E : List (Option Nat)} {lowA : Nat} {ρ0 : Env} {ws : World} {ds : List Deferred} {rd : Option Nat}
theorem any_orderE (hc : ChainE C w0 ops base h0 hid tm0 L E) (hlen : L.length ≤ ops.size) (hd : baseOk ops = true) (hser : ∀ (i : Nat) (p : Oper), ops[i]? = some p → L.length ≤ i → ∀ j, j < i → j ∈ anc (before ops.toList []) i) (hlo : ∀ i c : Nat, E[i]? = some (some c) → lowA ≤ c) (hs0 : ∀ n b, hget h0 n = some b → n < base ∧ AV.okL base b.cells = true) (ht0 : AV.okL base tm0 = true)
    {Q : Exit → Act → World → Prop} (hQ : ∀ D ρ a w, (∀ i, i < ops.size → (D i ↔ i < L.length)) → InvE w0 ops base h0 tm0 L E lowA ρ0 ws ds D ρ a w → wpOpsIn (fenceR rd) 0 C.P ops Q (List.range' L.length (ops.size - L.length)) a w) :
    ∀ (fuel : Nat) (listed : Array Bool) (ρ : Env) (a : Act) (w : World), listed.size = ops.size → (leftOver ops listed).length ≤ fuel → (∀ i, L.length ≤ i → listed[i]? ≠ some true) → InvE w0 ops base h0 tm0 L E lowA ρ0 ws ds (fun i => listed[i]? = some true) ρ a w →
      wpAnyIn (fenceR rd) 0 C.P .any ops Q fuel listed a w := by
  have hfin : ∀ (fuel : Nat) (listed : Array Bool) (ρ : Env) (a : Act) (w : World), listed.size = ops.size → (leftOver ops listed).length ≤ fuel → (∀ i, L.length ≤ i → listed[i]? ≠ some true) → InvE w0 ops base h0 tm0 L E lowA ρ0 ws ds (fun i => listed[i]? = some true) ρ a w →
      (∀ i, i < L.length → listed[i]? = some true) → wpAnyIn (fenceR rd) 0 C.P .any ops Q fuel listed a w := by
    intro fuel listed ρ a w hs hle hno hI hall
    have hl : ∀ i, i < ops.size → (listed[i]? = some true ↔ i < L.length) := fun i _ => ⟨fun h => by
      rcases Nat.lt_or_ge i L.length with h1 | h1
      · exact h1
      · exact absurd h (hno i h1), fun h => hall i h⟩
    refine tail_serial hd (m := L.length) (fun i p hp hi => hser i p hp hi) (ops.size - L.length) L.length fuel listed a w (by omega) (Nat.le_refl _) hs hl (Nat.le_trans (leftOver_ge hs hlen hl) hle) ?_
    exact hQ _ ρ a w hl hI
  intro fuel
  induction fuel with
  | zero =>
    intro listed ρ a w hs hle hno hI
    refine hfin 0 listed ρ a w hs hle hno hI fun i hi => ?_
    have hr : Region.ready .any ops listed = [] := by
      cases hrr : Region.ready .any ops listed with
      | nil => rfl
      | cons i rest =>
        exfalso
        obtain ⟨p, hp, hi, hl, -⟩ := ready_spec (show i ∈ Region.ready .any ops listed by rw [hrr]; exact List.mem_cons_self)
        have : i ∈ leftOver ops listed := List.mem_filter.2 ⟨List.mem_range.2 hi, by rw [hl]; rfl⟩
        have := List.length_pos_of_mem this
        omega
    exact ready_nil hd hs hr i (by omega)
  | succ fuel ih =>
    intro listed ρ a w hs hle hno hI
    by_cases hall : ∀ i, i < L.length → listed[i]? = some true
    · exact hfin _ listed ρ a w hs hle hno hI hall
    refine ⟨fun hr => absurd (fun i hi => ready_nil hd hs hr i (by omega)) hall, fun i hi => ?_⟩
    obtain ⟨p, hp, hil, hl, hdep⟩ := ready_spec hi
    have hiL : i < L.length := by
      rcases Nat.lt_or_ge i L.length with h | h
      · exact h
      · exfalso
        refine hall fun j hj => ?_
        have hka := hser i p hp (by omega) j (by omega)
        exact anc_listed (D := fun j => listed[j]? = some true) hI.closed i p hp hdep j hka
    have hit : L[i]? = some L[i] := List.getElem?_eq_getElem hiL
    have hset : ∀ j, (listed.setIfInBounds i true)[j]? = some true ↔ (listed[j]? = some true ∨ j = i) := by
      intro j
      rw [Array.getElem?_setIfInBounds]
      by_cases hji : i = j
      · subst hji; simp [hs, hil]
      · rw [if_neg hji]; simp [Ne.symm hji]
    have hDi : ¬ (listed[i]? = some true) := by
      intro e; rw [Array.getD_eq_getD_getElem?, e] at hl; cases hl
    have hnext : ∀ ρ' a' w', InvE w0 ops base h0 tm0 L E lowA ρ0 ws ds (fun j => listed[j]? = some true ∨ j = i) ρ' a' w' → wpAnyIn (fenceR rd) 0 C.P .any ops Q fuel (listed.setIfInBounds i true) a' w' := by
      intro ρ' a' w' hI'
      refine ih _ ρ' a' w' (by simp [hs]) (by have := leftOver_lt hil hl hs; omega) (fun j hj e => ?_) ?_
      · rcases (hset j).1 e with h | h
        · exact hno j hj h
        · omega
      · have : (fun j => (listed.setIfInBounds i true)[j]? = some true) = (fun j => listed[j]? = some true ∨ j = i) := funext fun j => propext (hset j)
        rw [this]; exact hI'
    obtain ⟨e, hE, -, -, -, -, q1, -, -, -, s, o, g1, g2, g3, g4, g5, g6, g8, g7⟩ := hc.item i _ p hit hp
    unfold wpOpIn
    have hw : Region.wanted p (yielded ops a.tmps) = true := by unfold Region.wanted; rw [q1]
    simp only [hp, hw, if_true]
    obtain ⟨v, k1, k2, k3, k4, k5⟩ := g8
    rw [g4] at k1
    cases k1
    obtain ⟨ρi, hdi, hRep, hstep⟩ := inv_onE hc hlen hd hs0 ht0 hI hlo hp hit hE hdep hDi g2 g3 g5 g6 g7
    refine k5 rd ρi a w _ Q (fun x hx => by rw [g1, hdi]; exact operand_standsE hc hlen hd hI hp hit hdep hDi x hx) hRep hI.below fun ρ' w' hr' hp' hF => ?_
    obtain ⟨ρ2, h2⟩ := hstep ρ' w' hr' hp' hF
    exact hnext ρ2 _ w' h2
end
/-! ### A store into what the region has made -/
theorem astore_spec {C : Ctx} {h h1 : AHeap} {nx low c off : Nat} {t : TypeId} {v : AV} (e : astore C h nx t (.ptr c off) v = some (h1, low)) : low = c ∧ (∃ b0, hget h c = some b0 ∧ b0.mem = true) ∧ ∀ n, n ≠ c → hget h1 n = hget h n := by
  unfold astore at e
  simp only at e
  split at e
  rotate_left
  · cases e
  rename_i b o size hx _ _
  cases hx
  split at e
  rotate_left
  · cases e
  rename_i blk hcl _
  split at e
  rotate_left
  · cases e
  rename_i cs hcs
  rw [spine_eq, hputK_eq] at e
  simp only [Option.some.injEq, Prod.mk.injEq] at e
  obtain ⟨rfl, rfl⟩ := e
  obtain ⟨q1, q2⟩ := hcells_get hcl
  exact ⟨rfl, ⟨blk, q1, mem_cells q2⟩, fun n hn => by rw [hget_put, if_neg (fun h => hn h.symm)]⟩
theorem eatStore_ok {C : Ctx} {G : World → Prop} {w0 : World} (hg : Good C G) (hw0 : G w0) {p : Oper} {s : St} {c : Nat} {b : ABlock} {base : Nat} {h1 : AHeap} (h : eatStore C p s = some (c, b, h1)) (hc : c < s.nxt) :
    p.dst = none ∧ b.mem = true ∧ hget h1 c = some b ∧ (∀ n, n ≠ c → hget h1 n = hget s.heap n) ∧
      OpOKF C w0 p s ⟨.val (.pure undef), ⟨s.tmps, (s.nxt, b) :: hdel h1 c, s.nxt + 1, s.ora, s.res⟩, c, ⟨[], []⟩⟩ (RenF p (some c) base s.nxt) := by
  obtain ⟨tm, hh, nx, ora, rs⟩ := s
  unfold eatStore at h
  simp only at h hc
  split at h
  rotate_left
  · cases h
  rename_i t a x hop hdst
  split at h
  rotate_left
  · cases h
  rename_i c' off ha
  split at h
  rotate_left
  · cases h
  rename_i h1' low hst
  split at h
  rotate_left
  · cases h
  rename_i cs hb
  simp only [Option.some.injEq, Prod.mk.injEq] at h
  obtain ⟨rfl, rfl, rfl⟩ := h
  obtain ⟨rfl, ⟨b0, hb0, hb0m⟩, hsame⟩ := astore_spec hst
  have hpl : goPlain C p ⟨tm, hh, nx, ora, rs⟩ = some ⟨.val (.pure undef), ⟨tm, h1', nx, ora, rs⟩, Nat.min low nx, ⟨[], []⟩⟩ := by
    unfold goPlain
    have hdf : isDefer p.op = false := by rw [hop]; rfl
    have hao : aop C ⟨tm, hh, nx, ora, rs⟩ p = some (.pure undef, h1', nx, Nat.min low nx) := by
      unfold aop
      rw [hop]
      simp only [ha]
      unfold opStore
      simp only [hst]
    simp only [hdf, hao, withNat_eq, forceV_eq]
    have : ((AV.pure undef).ok nx && Nat.ble nx nx) = true := by simp [AV.ok, AV.within]
    rw [this]
  obtain ⟨v', a1, a2, a3, a4, a5⟩ := plain_ok (w0 := w0) hg hw0 hpl
  simp only at a1 a3 a4
  cases a1
  refine ⟨hdst, rfl, hb, hsame, _, rfl, by simp [AV.ok, AV.within], rfl, ⟨Nat.le_succ nx, rfl⟩, fun rd ρ aa w K Q he hrp hbl hE => a5 rd ρ aa w K Q he hrp hbl fun ρ1 w1 r1 p1 => ?_⟩
  have hbm : (⟨cs, none, .cells⟩ : ABlock).mem = true := rfl
  obtain ⟨arr, eb, rest, z1, z2, z3⟩ := Rep.cells r1 hb rfl
  simp only at z2 z3
  subst z3
  have hok : AV.okL nx cs = true := (r1.scope _ _ hb).2
  obtain ⟨r3, p3⟩ := rep_overX r1 hb hbm ⟨cs, none, .cells⟩ rfl hok 0 w1 rfl rfl rfl rfl (fun _ _ => rfl)
    (fun A' hA => ⟨arr, eb, [], z1, by rw [z2]; simp only [List.append_nil]; exact (denL_agree (m := nx) (fun n hn => Env.with_agree ρ1 nx _ _ n (by omega)) cs hok).symm, rfl⟩)
  refine hE (ρ1.with nx (ρ1.σ low) 0) w1 r3 (Post.low_of hrp (p1.trans hrp r1 p3) fun m h1 h2 => ?_) (fun _ c2 hc2 => ?_)
  · have h3 : m < low := h1
    simp only [Nat.lt_min]
    omega
  · cases hc2
    show (ρ1.with nx (ρ1.σ low) 0).σ nx = (ρ1.with nx (ρ1.σ low) 0).σ low
    rw [Env.with_σ, (Env.with_agree ρ1 nx _ _ low (by omega)).1]
/-! ### New names in the slots -/
def RenOK (rs : List (Nat × Nat)) (ρ : Env) : Prop := ∀ q ∈ rs, ρ.σ q.2 = ρ.σ q.1
theorem renName_ok {rs : List (Nat × Nat)} {ρ : Env} (h : RenOK rs ρ) (n : Nat) : ρ.σ (renName rs n) = ρ.σ n := by
  induction rs with
  | nil => rfl
  | cons q rs ih =>
    obtain ⟨c, d⟩ := q
    unfold renName
    split
    · rename_i hb
      rw [← Nat.eq_of_beq_eq_true hb]
      exact h (c, d) List.mem_cons_self
    · exact ih fun q hq => h q (List.mem_cons_of_mem _ hq)
theorem renA_ok {rs : List (Nat × Nat)} {ρ : Env} (h : RenOK rs ρ) (v : AV) : (renA rs v).den ρ = v.den ρ := by
  unfold renA
  split
  · simp only [AV.den, renName_ok h]
  · rfl
theorem renT_ok {rs : List (Nat × Nat)} {ρ : Env} (h : RenOK rs ρ) (tm : List AV) : AV.denL ρ (renT rs tm) = AV.denL ρ tm := by
  unfold renT
  split
  · rfl
  · rw [denL_map, denL_map, List.map_map]
    apply List.map_congr_left
    intro x _
    exact renA_ok h x
theorem cellsAt_mem {h : AHeap} {n : Nat} (e : cellsAt h n = true) : ∃ b, hget h n = some b ∧ b.mem = true := by
  unfold cellsAt at e
  split at e
  · rename_i b hb
    refine ⟨b, hb, ?_⟩
    unfold ABlock.mem
    split at e <;> simp_all
  · cases e
theorem noneHas_spec {hs : List AHeap} {c : Nat} (h : noneHas hs c = true) : ∀ x ∈ hs, hget x c = none := by
  unfold noneHas at h
  intro x hx
  have := List.all_eq_true.1 h x hx
  split at this
  · cases this
  · assumption
theorem someCells_spec {hs : List AHeap} {c : Nat} : ∀ {js : List Nat}, someCells hs c js = true → ∃ j ∈ js, ∃ b, hget (hs.getD j []) c = some b ∧ b.mem = true
  | [], h => by cases h
  | j :: js, h => by
    unfold someCells at h
    split at h
    · rename_i b hb
      simp only [Bool.or_eq_true] at h
      rcases h with h | h
      · refine ⟨j, List.mem_cons_self, b, hb, ?_⟩
        unfold ABlock.mem
        split at h <;> simp_all
      · obtain ⟨k, hk, r⟩ := someCells_spec h
        exact ⟨k, List.mem_cons_of_mem _ hk, r⟩
    · obtain ⟨k, hk, r⟩ := someCells_spec h
      exact ⟨k, List.mem_cons_of_mem _ hk, r⟩
section
variable {C : Ctx} {G : World → Prop} {w0 : World} {R : Rec}
theorem eaten_snoc {E0 : List (Option Nat)} {eaten : List Nat} (heat : ∀ c, c ∈ eaten ↔ ∃ i : Nat, E0[i]? = some (some c)) (e : Option Nat) (c : Nat) : (∃ i : Nat, (E0 ++ [e])[i]? = some (some c)) ↔ (c ∈ eaten ∨ e = some c) := by
  constructor
  · rintro ⟨i, hi⟩
    rcases Nat.lt_or_ge i E0.length with hil | hil
    · rw [List.getElem?_append_left hil] at hi
      exact .inl ((heat c).2 ⟨i, hi⟩)
    · have hil : i = E0.length := by
        have := (List.getElem?_eq_some_iff.1 hi).1
        simp at this; omega
      subst hil
      simp at hi
      exact .inr hi
  · rintro (hcm | rfl)
    · obtain ⟨i, hi⟩ := (heat c).1 hcm
      exact ⟨i, by rw [List.getElem?_append_left (List.getElem?_eq_some_iff.1 hi).1]; exact hi⟩
    · exact ⟨E0.length, by simp⟩
theorem low_snoc {E0 E : List (Option Nat)} {e : Option Nat} {l l2 : Nat} (he : ∀ c, e = some c → l ≤ c) (h : ∀ i c : Nat, E[i]? = some (some c) → (E0 ++ [e])[i]? = some (some c) ∨ l2 ≤ c) (i c : Nat) (hE : E[i]? = some (some c)) : E0[i]? = some (some c) ∨ Nat.min l l2 ≤ c := by
  rcases h i c hE with h9 | h9
  · rcases Nat.lt_or_ge i E0.length with hil | hil
    · rw [List.getElem?_append_left hil] at h9
      exact .inl h9
    · have hil : i = E0.length := by
        have := (List.getElem?_eq_some_iff.1 h9).1
        simp at this; omega
      subst hil
      simp at h9
      exact .inr (Nat.le_trans (Nat.min_le_left _ _) (he c h9))
  · exact .inr (Nat.le_trans (Nat.min_le_right _ _) h9)
set_option maxHeartbeats 1000000 in
theorem drawE_ok (hg : Good C G) (hw0 : G w0) {f : FuncId} {ops : Array Oper} {base : Nat} {hid : List Nat} {tm0 : List AV} {m : Nat} (hm : m ≤ ops.size)
    (hop : ∀ p s o, R (.op f p) s = some o → Holds C G o.log → StOK s → OpOK C w0 p s o) :
    ∀ (todo : List Oper) (seen acc mines : List AHeap) (eaten : List Nat) (rens : List (Nat × Nat)) (s : St) (o : Out), drawE C R f ops base hid todo seen acc mines eaten rens s = some o → Holds C G o.log → StOK s →
    ∀ (L0 : List Item) (E0 : List (Option Nat)), seen = L0.map Item.seen → acc = L0.map Item.made → (∀ (i : Nat) (p : Oper), i < L0.length → ops[i]? = some p → seenBy ((L0.take i).map Item.seen) (depsOf p) ∈ mines) → (∀ c, c ∈ eaten ↔ ∃ i : Nat, E0[i]? = some (some c)) →
      (∀ q ∈ rens, ∃ (j : Nat) (it : Item) (p : Oper), L0[j]? = some it ∧ ops[j]? = some p ∧ p.dst = none ∧ E0[j]? = some (some q.1) ∧ it.nx = q.2) → (ops.toList.take m).drop L0.length = todo → s.tmps = tmAt ops tm0 L0 L0.length → s.nxt = nxAt base L0 L0.length → base ≤ s.nxt →
      ChainE C w0 ops base s.heap hid tm0 L0 E0 → L0.length ≤ m →
    ∃ L E eaten' rens', L.length = m ∧ ChainE C w0 ops base s.heap hid tm0 L E ∧ o.x = .normal ∧ o.st.tmps = renT rens' (tmAt ops tm0 L m) ∧ o.st.heap = hdelL ((L.map Item.made).flatten ++ s.heap) eaten' ∧ (∀ c, c ∈ eaten' ↔ ∃ i : Nat, E[i]? = some (some c)) ∧
      (∀ q ∈ rens', ∃ (j : Nat) (it : Item) (p : Oper), L[j]? = some it ∧ ops[j]? = some p ∧ p.dst = none ∧ E[j]? = some (some q.1) ∧ it.nx = q.2) ∧ o.st.nxt = nxAt base L m ∧
      StOK o.st ∧ (s.nxt ≤ o.st.nxt ∧ o.st.res.fr = s.res.fr) ∧ (∀ i c : Nat, E[i]? = some (some c) → E0[i]? = some (some c) ∨ o.low ≤ c) := by
  intro todo
  induction todo with
  | nil =>
    intro seen acc mines eaten rens s o h hl hk L0 E0 hseen hacc hmine heat hren htodo htm hnx hbase hch hlen
    obtain ⟨tm, hh, nx, ora, rs⟩ := s
    unfold drawE at h
    split at h
    rotate_left
    · cases h
    rename_i hok
    have := stay_eq h
    subst this
    have hle : m ≤ L0.length := by
      have := List.drop_eq_nil_iff.1 htodo
      simp at this; omega
    have hlen' : L0.length = m := by omega
    exact ⟨L0, E0, eaten, rens, hlen', hch, rfl, by rw [← hlen']; exact congrArg (renT rens) (show tm = _ from htm), by rw [hacc], heat, hren, by rw [← hlen']; exact hnx, ⟨hok, hk.2⟩, ⟨Nat.le_refl _, rfl⟩, fun i c hE => .inl hE⟩
  | cons p rest ih =>
    intro seen acc mines eaten rens s o h hl hk L0 E0 hseen hacc hmine heat hren htodo htm hnx hbase hch hlen
    obtain ⟨tm, hh, nx, ora, rs⟩ := s
    simp only at htm hnx hbase hch
    obtain ⟨e1, e2, e3⟩ := drop_cons htodo
    have hlt : L0.length < m := by simp at e3; omega
    have hpo : ops[L0.length]? = some p := by
      rw [List.getElem?_take, if_pos hlt] at e1
      simpa using e1
    unfold drawE at h
    simp only at h
    split at h
    rotate_left
    · cases h
    rename_i hbare
    simp only [Bool.and_eq_true, List.all_eq_true] at hbare
    obtain ⟨hb1, hb2⟩ := hbare
    have hgd : p.guard = none := by
      unfold bare at hb1; split at hb1
      · assumption
      · cases hb1
    have h6 : ∀ i c : Nat, E0[i]? = some (some c) → hget (seenBy (L0.map Item.seen) (depsOf p)) c = none := fun i c hE => by
      rw [← hseen]
      exact noneHas_spec (hb2 c ((heat c).2 ⟨i, hE⟩)) _ List.mem_cons_self
    -- what is seen by each operation, with this one
    have hmine2 : ∀ (it : Item), ∀ (i : Nat) (q : Oper), i < (L0 ++ [it]).length → ops[i]? = some q → seenBy (((L0 ++ [it]).take i).map Item.seen) (depsOf q) ∈ mines ++ [seenBy seen (depsOf p)] := by
      intro it i q hi hq
      have hi : i ≤ L0.length := by simp at hi; omega
      rw [List.take_append_of_le_length hi]
      rcases Nat.lt_or_ge i L0.length with hil | hil
      · exact List.mem_append_left _ (hmine i q hil hq)
      · have : i = L0.length := by omega
        subst this
        rw [hpo] at hq; cases hq
        rw [List.take_length, hseen]
        exact List.mem_append_right _ List.mem_cons_self
    have hren2 : ∀ (it : Item) (e : Option Nat), ∀ q ∈ rens, ∃ (j : Nat) (jt : Item) (p : Oper), (L0 ++ [it])[j]? = some jt ∧ ops[j]? = some p ∧ p.dst = none ∧ (E0 ++ [e])[j]? = some (some q.1) ∧ jt.nx = q.2 := by
      intro it e q hq
      obtain ⟨j, jt, pj, q1, qp, qd, q2, q4⟩ := hren q hq
      exact ⟨j, jt, pj, by rw [List.getElem?_append_left (List.getElem?_eq_some_iff.1 q1).1]; exact q1, qp, qd, by rw [List.getElem?_append_left (List.getElem?_eq_some_iff.1 q2).1]; exact q2, q4⟩
    have hmines : ∀ c, noneHas mines c = true → ∀ (i' : Nat) (p' : Oper), i' < L0.length → ops[i']? = some p' → hget (seenBy ((L0.take i').map Item.seen) (depsOf p')) c = none := fun c hc i' p' hi' hp' => noneHas_spec hc _ (hmine i' p' hi' hp')
    split at h
    · -- a store into what the region has made, or into what nobody else sees
      split at h
      rotate_left
      · cases h
      rename_i c0 hst0
      split at h
      rotate_left
      · cases h
      rename_i c b h1 hes
      split at h
      rotate_left
      · cases h
      rename_i hchk
      simp only [Bool.and_eq_true, Bool.not_eq_true'] at hchk
      obtain ⟨⟨⟨⟨z0, zc⟩, z3⟩, z4⟩, z6⟩ := hchk
      have zc := Nat.eq_of_beq_eq_true zc
      subst zc
      have z4 : c ∉ eaten := fun hb => by rw [any_beq.2 hb] at z4; cases z4
      have hsl : seen.length = L0.length := by rw [hseen]; simp
      have z0' : c < nx ∧ ((c < base ∧ c ∈ hid ∧ ∃ bb, hget hh c = some bb ∧ bb.mem = true) ∨ (base ≤ c ∧ ∃ (j : Nat) (jt : Item) (bb : ABlock), j ∈ anc (before ops.toList []) L0.length ∧ L0[j]? = some jt ∧ hget jt.made c = some bb ∧ bb.mem = true)) := by
        simp only [Bool.or_eq_true, Bool.and_eq_true] at z0
        rcases z0 with ⟨⟨y1, y2⟩, y3⟩ | ⟨⟨y1, y2⟩, y3⟩
        · have y1 := blt_lt y1
          obtain ⟨bb, hbb1, hbb2⟩ := cellsAt_mem y3
          exact ⟨by omega, .inl ⟨y1, any_beq.1 y2, bb, hbb1, hbb2⟩⟩
        · have y1 := ble_le y1
          have y2 := blt_lt y2
          obtain ⟨j, hj, bj, hbj, hbjm⟩ := someCells_spec y3
          rw [hsl] at hj
          have hjl : j < L0.length := (anc_spec hpo hj).1
          rw [hacc, List.getD_eq_getElem?_getD, List.getElem?_map, List.getElem?_eq_getElem hjl] at hbj
          simp only [Option.map_some, Option.getD_some] at hbj
          exact ⟨y2, .inr ⟨y1, j, L0[j], bj, hj, List.getElem?_eq_getElem hjl, hbj, hbjm⟩⟩
      obtain ⟨z2, zold⟩ := z0'
      obtain ⟨o2, h2, rfl⟩ := behind_eq h
      obtain ⟨hdst, hbm, hs1, hs2, hopk⟩ := eatStore_ok (w0 := w0) (base := base) hg hw0 hes z2
      simp only at hs2 hopk
      let it : Item := ⟨tm, nx, nx + 1, .pure undef, hfrom ((nx, b) :: hdel h1 c) nx, hfrom ((nx, b) :: hdel h1 c) nx ++ hdel (seenBy seen (depsOf p)) c⟩
      have hshape : ∀ n, n < nx → hget ((nx, b) :: hdel h1 c) n = if n = c then none else hget (seenBy seen (depsOf p) ++ hdelL hh (hidOf (some c) hid)) n := by
        intro n hn
        rw [hget_cons, if_neg (by omega), hget_del]
        by_cases hnc : n = c
        · rw [if_pos hnc, if_pos hnc.symm]
        · rw [if_neg hnc, if_neg (fun h => hnc h.symm), hs2 n hnc]
      have hsub : ∀ n d, hget (hfrom ((nx, b) :: hdel h1 c) nx ++ hdel (seenBy seen (depsOf p)) c) n = some d → hget (hfrom ((nx, b) :: hdel h1 c) nx ++ seenBy seen (depsOf p)) n = some d := by
        intro n d hn
        rw [hget_append] at hn ⊢
        cases hm : hget (hfrom ((nx, b) :: hdel h1 c) nx) n with
        | some d => rw [hm] at hn; exact hn
        | none => rw [hm] at hn; exact (hdel_sub n d hn).2
      obtain ⟨c1', c2', c3'⟩ := chain_snocE hch (it := it) (e := some c) hpo htm hnx (by show nx ≤ nx + 1; omega) (by simp [it, AV.ok, AV.within]) ⟨hgd, by simp [it, AV.within], by rw [← hseen]; exact z6, by rw [← hseen]; exact hsub, _, _, rfl, by rw [← hseen], rfl, rfl, rfl, rfl, hopk, Nat.le_refl _, Nat.lt_succ_self nx, hshape⟩
        (fun c' hc' => by
          cases hc'
          exact ⟨zold, fun i hi => z4 ((heat c).2 ⟨i, hi⟩), hmines c z3⟩) h6
      have heat2 : ∀ d, d ∈ c :: eaten ↔ ∃ i : Nat, (E0 ++ [some c])[i]? = some (some d) := fun d => by
        rw [eaten_snoc heat, List.mem_cons, Option.some.injEq]
        exact ⟨fun h => h.elim (fun h => .inr h.symm) .inl, fun h => h.elim .inr fun h => .inl h.symm⟩
      have hren3 : ∀ q ∈ (c, nx) :: rens, ∃ (j : Nat) (jt : Item) (p : Oper), (L0 ++ [it])[j]? = some jt ∧ ops[j]? = some p ∧ p.dst = none ∧ (E0 ++ [some c])[j]? = some (some q.1) ∧ jt.nx = q.2 := by
        intro q hq
        rcases List.mem_cons.1 hq with rfl | hq
        · exact ⟨L0.length, it, p, by simp, hpo, hdst, by rw [← hch.len]; simp, rfl⟩
        · exact hren2 it _ q hq
      have hput : setT tm p.dst (.pure undef) = tm := by rw [hdst]; rfl
      rw [show setT it.tm p.dst it.v = tm from hput] at c2'
      obtain ⟨L, E, eaten', rens', d1, d2, d3, d4, d5, d5', d5'', d6, d7, d8, d9⟩ := ih _ _ _ _ _ _ _ h2 hl.right ⟨okL_mono (Nat.le_succ nx) _ hk.1, frOK_mono (Nat.le_succ nx) hk.2⟩ (L0 ++ [it]) (E0 ++ [some c]) (by simp [hseen, it]) (by simp [hacc, it]) (hmine2 it) heat2 hren3 (by simpa using e2)
        (by simp only [List.length_append, List.length_singleton]; exact c2'.symm) (by simp only [List.length_append, List.length_singleton]; exact c3'.symm) (Nat.le_trans hbase (Nat.le_succ nx)) c1' (by simp; omega)
      exact ⟨L, E, eaten', rens', d1, d2, d3, d4, d5, d5', d5'', d6, d7, ⟨Nat.le_trans (Nat.le_succ nx) d8.1, d8.2⟩, fun i c' hE => low_snoc (fun d hd => by cases hd; exact Nat.le_refl _) d9 i c' hE⟩
    · split at h
      · rename_i c b heo
        obtain ⟨hop1, hcal, x, xs, off, len, sub, hargs, hax⟩ := eatOf_spec heo
        split at h
        rotate_left
        · cases h
        rename_i hchk0
        simp only [Bool.and_eq_true, Bool.not_eq_true'] at hchk0
        obtain ⟨⟨z0, z3⟩, z5⟩ := hchk0
        have hsl : seen.length = L0.length := by rw [hseen]; simp
        have z0' : b < nx ∧ ((b < base ∧ b ∈ hid ∧ ∃ bb, hget hh b = some bb ∧ bb.mem = true) ∨ (base ≤ b ∧ ∃ (j : Nat) (jt : Item) (bb : ABlock), j ∈ anc (before ops.toList []) L0.length ∧ L0[j]? = some jt ∧ hget jt.made b = some bb ∧ bb.mem = true)) := by
          simp only [Bool.or_eq_true, Bool.and_eq_true] at z0
          rcases z0 with ⟨⟨y1, y2⟩, y3⟩ | ⟨⟨y1, y2⟩, y3⟩
          · have y1 := blt_lt y1
            obtain ⟨bb, hbb1, hbb2⟩ := isBigAt_spec y3
            exact ⟨by omega, .inl ⟨y1, any_beq.1 y2, bb, hbb1, hbb2⟩⟩
          · have y1 := ble_le y1
            have y2 := blt_lt y2
            obtain ⟨j, hj, bj, hbj, hbjm⟩ := someCells_spec y3
            rw [hsl] at hj
            have hjl : j < L0.length := (anc_spec hpo hj).1
            rw [hacc, List.getD_eq_getElem?_getD, List.getElem?_map, List.getElem?_eq_getElem hjl] at hbj
            simp only [Option.map_some, Option.getD_some] at hbj
            exact ⟨y2, .inr ⟨y1, j, L0[j], bj, hj, List.getElem?_eq_getElem hjl, hbj, hbjm⟩⟩
        obtain ⟨zlt, zold⟩ := z0'
        have hdst : p.dst ≠ none := by
          unfold eatOf at heo
          split at heo
          · rename_i hs
            intro hd
            unfold eatSite at hs
            rw [hd] at hs
            split at hs
            · rename_i h1' h2'
              cases h2'
            · cases hs
          · cases heo
        have z3 : b ∉ eaten := fun hb => by rw [any_beq.2 hb] at z3; cases z3
        split at h
        rotate_left
        · cases h
        rename_i v tm' h1 nx1 ora2 rs1 l1 c1 q1 hr
        split at h
        rotate_left
        · cases h
        rename_i hchk
        simp only [Bool.and_eq_true] at hchk
        obtain ⟨k2', k3'⟩ := hchk
        rw [setTK_eq] at h
        obtain ⟨o2, h2, rfl⟩ := behind_eq h
        have hl1 : Holds C G ⟨c1, q1⟩ := ⟨fun q hq => hl.1 q (by simp; exact .inl hq), fun q hq => hl.2 q (by simp; exact .inl hq)⟩
        obtain ⟨hba, blk, hs1, hs2, hs3⟩ := eatApp_spec (s := ⟨tm, seenBy seen (depsOf p) ++ hdelL hh (hidOf (some b) hid), nx, ora, rs⟩) hargs hax hr
        simp only at hs1 hs2 hs3
        subst hs2
        have hopk : OpOK C w0 p _ _ := bigAppend_ok (w0 := w0) hop1 hcal hba hl1
        obtain ⟨v', a1, a2, a3, a4, a5⟩ := id hopk
        cases a1
        simp only at a2 a3 a4
        have hfr : rs1.fr = rs.fr := a4.2
        have hl1' : l1 = b := by
          rw [hs3]
          exact Nat.min_eq_left (by omega)
        let it : Item := ⟨tm, nx, nx + 1, v, hfrom h1 nx, hfrom h1 nx ++ hdel (seenBy seen (depsOf p)) b⟩
        have hshape : ∀ n, n < nx → hget h1 n = if n = b then none else hget (seenBy seen (depsOf p) ++ hdelL hh (hidOf (some b) hid)) n := by
          intro n hn
          rw [hs1, hget_cons, if_neg (by omega), hget_del]
          by_cases hnb : n = b
          · rw [if_pos hnb, if_pos hnb.symm]
          · rw [if_neg hnb, if_neg (fun h => hnb h.symm)]
        have hsub : ∀ n c, hget (hfrom h1 nx ++ hdel (seenBy seen (depsOf p)) b) n = some c → hget (hfrom h1 nx ++ seenBy seen (depsOf p)) n = some c := by
          intro n c hn
          rw [hget_append] at hn ⊢
          cases hm : hget (hfrom h1 nx) n with
          | some d => rw [hm] at hn; exact hn
          | none => rw [hm] at hn; exact (hdel_sub n c hn).2
        obtain ⟨c1', c2', c3'⟩ := chain_snocE hch (it := it) (e := some b) hpo htm hnx (by show nx ≤ nx + 1; omega) a2 ⟨hgd, by rw [← hseen]; exact k2', by rw [← hseen]; exact k3', by rw [← hseen]; exact hsub, _, _, rfl, by rw [← hseen], rfl, rfl, rfl, rfl, hopk.f (fun ρ hd => absurd hd hdst), by show b ≤ l1; omega, by show nx < nx + 1; omega, hshape⟩
          (fun c' hc' => by
            cases hc'
            exact ⟨zold, fun i hi => z3 ((heat b).2 ⟨i, hi⟩), hmines b z5⟩) h6
        have heat2 : ∀ c, c ∈ b :: eaten ↔ ∃ i : Nat, (E0 ++ [some b])[i]? = some (some c) := fun c => by
          rw [eaten_snoc heat, List.mem_cons, Option.some.injEq]
          exact ⟨fun h => h.elim (fun h => .inr h.symm) .inl, fun h => h.elim .inr fun h => .inl h.symm⟩
        obtain ⟨L, E, eaten', rens', d1, d2, d3, d4, d5, d5', d5'', d6, d7, d8, d9⟩ := ih _ _ _ _ _ _ _ h2 hl.right ⟨setT_ok (okL_mono a4.1 _ hk.1) a2, by show frOK (nx + 1) rs1.fr = true; rw [hfr]; exact frOK_mono a4.1 hk.2⟩ (L0 ++ [it]) (E0 ++ [some b]) (by simp [hseen, it]) (by simp [hacc, it]) (hmine2 it) heat2 (hren2 it _) (by simpa using e2)
          (by simp only [List.length_append, List.length_singleton]; exact c2'.symm) (by simp only [List.length_append, List.length_singleton]; exact c3'.symm) (Nat.le_trans hbase a4.1) c1' (by simp; omega)
        exact ⟨L, E, eaten', rens', d1, d2, d3, d4, d5, d5', d5'', d6, d7, ⟨Nat.le_trans a4.1 d8.1, d8.2.trans hfr⟩, fun i c' hE => low_snoc (fun c hc => by cases hc; exact Nat.le_refl _) d9 i c' hE⟩
      · rename_i heo
        split at h
        rotate_left
        · cases h
        rename_i v tm' h1 nx1 ora2 rs1 l1 c1 q1 hr
        split at h
        rotate_left
        · cases h
        rename_i hchk
        simp only [Bool.and_eq_true] at hchk
        obtain ⟨⟨k1', k2'⟩, k3'⟩ := hchk
        rw [setTK_eq] at h
        obtain ⟨o2, h2, rfl⟩ := behind_eq h
        have hl1 : Holds C G ⟨c1, q1⟩ := ⟨fun q hq => hl.1 q (by simp; exact .inl hq), fun q hq => hl.2 q (by simp; exact .inl hq)⟩
        have hopk := hop _ _ _ hr hl1 hk
        obtain ⟨v', a1, a2, a3, a4, a5⟩ := id hopk
        cases a1
        simp only at a2 a3 a4
        have hfr : rs1.fr = rs.fr := a4.2
        let it : Item := ⟨tm, nx, nx1, v, hfrom h1 nx, hfrom h1 nx ++ seenBy seen (depsOf p)⟩
        obtain ⟨c1', c2', c3'⟩ := chain_snocE hch (it := it) (e := none) hpo htm hnx a4.1 a2 ⟨hgd, by rw [← hseen]; exact k2', by rw [← hseen]; exact k3', by rw [← hseen]; exact fun n b h => h, _, _, rfl, by rw [← hseen]; rfl, rfl, rfl, rfl, rfl, hopk.f (fun ρ _ c hc => by cases hc), ble_le k1'⟩
          (fun c' hc' => by cases hc') h6
        have heat2 : ∀ c, c ∈ eaten ↔ ∃ i : Nat, (E0 ++ [none])[i]? = some (some c) := fun c => by
          rw [eaten_snoc heat]
          exact ⟨.inl, fun h => h.elim id fun h => by cases h⟩
        obtain ⟨L, E, eaten', rens', d1, d2, d3, d4, d5, d5', d5'', d6, d7, d8, d9⟩ := ih _ _ _ _ _ _ _ h2 hl.right ⟨setT_ok (okL_mono a4.1 _ hk.1) a2, by show frOK nx1 rs1.fr = true; rw [hfr]; exact frOK_mono a4.1 hk.2⟩ (L0 ++ [it]) (E0 ++ [none]) (by simp [hseen, it]) (by simp [hacc, it]) (hmine2 it) heat2 (hren2 it _) (by simpa using e2)
          (by simp only [List.length_append, List.length_singleton]; exact c2'.symm) (by simp only [List.length_append, List.length_singleton]; exact c3'.symm) (Nat.le_trans hbase a4.1) c1' (by simp; omega)
        exact ⟨L, E, eaten', rens', d1, d2, d3, d4, d5, d5', d5'', d6, d7, ⟨Nat.le_trans a4.1 d8.1, d8.2.trans hfr⟩, fun i c' hE => low_snoc (fun c hc => by cases hc) d9 i c' hE⟩
theorem eatCode_spec {C : Ctx} {f : FuncId} {c : Code} {ops : Array Oper} (h : eatCode C f c = some ops) : ∃ id, c = .region id ops true ∧ eatsB C f ops = true := by
  unfold eatCode at h
  split at h
  · split at h
    · rename_i h2
      cases h
      exact ⟨_, rfl, h2⟩
    · cases h
  · cases h
theorem eatTail_spec {ops : Array Oper} : eatTail ops ≤ ops.size ∧ ∀ (i : Nat) (p : Oper), ops[i]? = some p → eatTail ops ≤ i → ∀ j, j < i → j ∈ anc (before ops.toList []) i := by
  obtain ⟨a, b⟩ := tailFrom_spec (before ops.toList []) ops.size
  refine ⟨a, fun i p hp hi => ?_⟩
  have hil : i < ops.size := by
    rcases Nat.lt_or_ge i ops.size with h | h
    · exact h
    · simp [Array.getElem?_eq_none h] at hp
  exact anc_full hp (b i hi hil)
set_option maxHeartbeats 1000000 in
theorem region_eats (hg : Good C G) {id : Nat} {f : FuncId} {ops : Array Oper} {s : St} {o2 : Out} {hid : List Nat} (hw0 : G w0) (hd : baseOk ops = true) (hk : StOK s)
    (h2' : goTail R f ops (eatTail ops) (drawE C R f ops s.nxt hid (ops.toList.take (eatTail ops)) [] [] [] [] [] s) = some o2) (hl : Holds C G o2.log)
    (hop : ∀ p s o, R (.op f p) s = some o → Holds C G o.log → StOK s → OpOK C w0 p s o)
    (htail : ∀ s o, R (.ops f ops (ops.toList.drop (eatTail ops))) s = some o → Holds C G o.log → StOK s → OpsOK C w0 ops (ops.toList.drop (eatTail ops)) s o) : CodeOK C w0 (.region id ops true) s o2 := by
  obtain ⟨hfs, hser⟩ := eatTail_spec (ops := ops)
  generalize hm : eatTail ops = m at *
  unfold goTail at h2'
  split at h2'
  rotate_left
  · cases h2'
  rename_i s1 l1 c1 k1 hrun
  obtain ⟨o3, hr3, rfl⟩ := behind_eq h2'
  have h := drawE_ok (C := C) (G := G) (w0 := w0) (tm0 := s.tmps) hg hw0 hfs hop _ _ _ _ _ _ _ _ hrun hl.left hk [] [] rfl rfl (fun i p hi => by simp at hi) (fun c => by simp) (fun q hq => by cases hq) rfl rfl rfl (Nat.le_refl _) ⟨fun i it p hi => by simp at hi, rfl, ⟨fun i c hi => by simp at hi, fun i c hi => by simp at hi, fun i j c hi => by simp at hi⟩⟩ (Nat.zero_le _)
  generalize ho : (⟨.normal, s1, l1, ⟨c1, k1⟩⟩ : Out) = o at h
  obtain ⟨L, E, eaten, rens, h1, h2, h3, h4, h5, h5', h5r, h6, h7, h8, h9⟩ := h
  have hs1 : s1 = o.st := by rw [← ho]
  have hl1 : l1 = o.low := by rw [← ho]
  subst hs1
  subst hl1
  have hlo : ∀ i c : Nat, E[i]? = some (some c) → o.low ≤ c := fun i c hE => by
    rcases h9 i c hE with h | h
    · simp at h
    · exact h
  obtain ⟨b1, b2, b3, b4⟩ := htail _ _ hr3 hl.right h7
  have hfr := h8.2
  replace h8 := h8.1
  refine ⟨by rw [b1]; rfl, b2, ⟨Nat.le_trans h8 b3.1, by rw [b3.2, hfr]⟩, fun ρ w Q hr hb he => ?_⟩
  unfold fenceOf
  have hs0 : ∀ n b, hget s.heap n = some b → n < s.nxt ∧ AV.okL s.nxt b.cells = true := hr.scope
  refine wpIn_region_any hg.mixed ?_
  have hI0 : InvE w0 ops s.nxt s.heap s.tmps L E o.low ρ w (act ρ s.res.fr s.tmps).defers (fun i => (Array.replicate ops.size false)[i]? = some true) ρ (act ρ s.res.fr s.tmps) { w with drawn := w.drawn + 1 } := by
    have hno : ∀ i, ¬ ((Array.replicate ops.size false)[i]? = some true) := fun i e => by
      rw [Array.getElem?_replicate] at e; split at e <;> simp at e
    have hth : ∀ n b, ThereE s.heap L E (fun i => (Array.replicate ops.size false)[i]? = some true) n b → hget s.heap n = some b := fun n b h => by
      rcases h with ⟨h, -⟩ | ⟨j, it, hj, -⟩
      · exact h
      · exact absurd hj (hno j)
    exact ⟨fun i p _ hi => absurd hi (hno i), rfl, by simp [act, denL_length], fun j it p t hj => absurd hj (hno j), fun t _ => by simp [act], fun n b hn => (hr.block n b (hth n b hn)).keep (fun k hk hf => ⟨rfl, hf.1, fun n b hn hm => hf.2 n b (hth n b hn) hm⟩) rfl rfl fun _ => rfl, fun n m b c hn hm => hr.inj n m b c (hth n b hn) (hth m c hm),
      fun n b hn => hr.above n b (hth n b hn), fun j it n b hj => absurd hj (hno j), fun j it p c hj => absurd hj (hno j), ⟨rfl, rfl⟩, hr.base, fun n b hn => hr.reach n b (hth n b hn), fun n _ => ⟨rfl, rfl⟩, rfl, rfl, rfl, Nat.le_refl _, fun k _ _ => rfl, hb.drew⟩
  refine any_orderE (ρ0 := ρ) (ws := w) h2 (by omega) hd (fun i p hp hi => hser i p hp (by omega)) hlo hs0 hk.1 ?_ ops.size _ ρ _ _ (by simp) (by unfold leftOver; exact Nat.le_trans (List.length_filter_le _ _) (by simp)) (fun i _ e => by
    rw [Array.getElem?_replicate] at e; split at e <;> simp at e) hI0
  intro D ρ' a w' hD hI
  have hD' : ∀ i, i < m → D i := fun i hi => (hD i (by omega)).2 (by omega)
  have hDm : ∀ i p, ops[i]? = some p → D i → i < m := fun i p hp hDi => by
    have hi : i < ops.size := by
      rcases Nat.lt_or_ge i ops.size with h | h
      · exact h
      · simp [Array.getElem?_eq_none h] at hp
    have := (hD i hi).1 hDi
    omega
  rw [h1]
  have hle : s.nxt ≤ nxAt s.nxt L m := by rw [← h6]; exact h8
  have hth : ∀ n b, hget o.st.heap n = some b → ThereE s.heap L E D n b := by
    intro n b hn
    rw [h5] at hn
    obtain ⟨u1, hn⟩ := hdelL_sub hn
    rw [hget_append] at hn
    cases hm : hget (L.map Item.made).flatten n with
    | some c =>
      rw [hm] at hn; cases hn
      obtain ⟨j, hh, hj, hb⟩ := flatten_get' hm
      rw [List.getElem?_map] at hj
      cases hjt : L[j]? with
      | none => rw [hjt] at hj; cases hj
      | some jt =>
        rw [hjt] at hj
        simp only [Option.map_some, Option.some.injEq] at hj
        subst hj
        exact .inr ⟨j, jt, hD' j (by have := (List.getElem?_eq_some_iff.1 hjt).1; omega), hjt, hb, fun k _ hE => u1 ((h5' n).2 ⟨k, hE⟩)⟩
    | none =>
      rw [hm] at hn
      exact .inl ⟨hn, fun j _ hE => u1 ((h5' n).2 ⟨j, hE⟩)⟩
  have hσ : ∀ n, n < s.nxt → ρ'.σ n = ρ.σ n := fun n hn => (hI.agree n (.inl hn)).1
  have ha : a = act ρ' o.st.res.fr o.st.tmps := by
    obtain ⟨tmps, defers⟩ := a
    have hdf := hI.defers
    simp only [act] at hdf
    subst hdf
    rw [hfr]
    unfold act
    rw [marks_eq hσ hk.2]
    congr 1
    rw [h4, renT_ok (rs := rens) (fun q hq => by
      obtain ⟨j, jt, pj, q1, qp, qd, q2, q4⟩ := h5r q hq
      rw [← q4]
      exact hI.ren j jt pj q.1 (hD' j (by have := (List.getElem?_eq_some_iff.1 q1).1; omega)) q1 qp qd q2)]
    apply Array.ext'
    apply List.ext_getElem?
    intro t
    rw [Array.getElem?_toList]
    by_cases hex : ∃ (j : Nat) (q : Oper), j < m ∧ ops[j]? = some q ∧ q.dst = some t
    · obtain ⟨j, q, hj, hq, hdq⟩ := hex
      have hjt : L[j]? = some L[j] := List.getElem?_eq_getElem (by omega)
      rcases Nat.lt_or_ge t s.tmps.length with hlt | hge
      · have e1 := hI.put j _ q t (hD' j hj) hjt hq hdq hlt
        simp only at e1
        rw [e1, denL_map, List.getElem?_map, tmAt_put hjt hq hdq hlt (fun k r hk hr hdr => ((baseOk_spec hd hr).2.2.1 j q t hq hdq).2 hk hdr) hj]
        rfl
      · have hsz := hI.size
        simp only at hsz
        rw [Array.getElem?_eq_none (by omega), denL_map, List.getElem?_map, List.getElem?_eq_none (by rw [tmAt_length]; exact hge)]; rfl
    · have hno : ∀ (j : Nat) (q : Oper), j < m → ops[j]? = some q → q.dst ≠ some t := fun j q hj hq hdq => hex ⟨j, q, hj, hq, hdq⟩
      have e1 := hI.left t (fun j q hDj hq => hno j q (hDm j q hq hDj) hq)
      simp only at e1
      rw [e1, denL_map, denL_map, List.getElem?_map, List.getElem?_map, tmAt_keep (fun j q hj hq => hno j q hj hq)]
  have hmade : ∀ n b, hget o.st.heap n = some b → ¬ hget s.heap n = some b → s.nxt ≤ n ∧ n < o.st.nxt ∧ AV.okL o.st.nxt b.cells = true ∧ (b.mem = true → w.heap.size ≤ ρ'.σ n ∨ ∃ (j c : Nat), c < s.nxt ∧ E[j]? = some (some c) ∧ ρ'.σ n = ρ.σ c) := by
    intro n b hn hne
    rcases hth n b hn with ⟨h, -⟩ | ⟨j, jt, hDj, hjt, hb, -⟩
    · exact absurd h hne
    · obtain ⟨m1, m2, m3, m4⟩ := hI.made j jt n b hDj hjt hb
      have := base_leE h2 (by omega) hjt
      rw [h1] at this
      rw [h6]
      exact ⟨by omega, by omega, okL_mono (by omega) _ m3, m4⟩
  rw [ha]
  have hRep : Rep w0.heap.size ρ' o.st.heap o.st.nxt w' := by
    refine ⟨fun n b hn => (hI.block n b (hth n b hn)).keep (Keep.wide fun k hk hf => ⟨hf.1, fun n b hn hm => hf.2 n b (hth n b hn) hm⟩) rfl rfl fun _ => rfl, fun n m b c hn hm => hI.inj n m b c (hth n b hn) (hth m c hm), fun n b hn => ?_, fun n b hn => hI.above n b (hth n b hn), by rw [hI.area.2]; exact Nat.le_trans hI.ground hI.wsize, fun n b hn => hI.reach n b (hth n b hn)⟩
    by_cases hne : hget s.heap n = some b
    · obtain ⟨q1, q2⟩ := hs0 n b hne
      exact ⟨by rw [h6]; omega, okL_mono (by rw [h6]; exact hle) _ q2⟩
    · obtain ⟨-, q1, q2, -⟩ := hmade n b hn hne
      exact ⟨q1, q2⟩
  have hPost : Post ρ ρ' s.heap o.st.heap s.nxt o.st.nxt o.low w w' := by
    refine ⟨fun n hn => hI.agree n (by rw [h1, ← h6]; exact hn), hI.area, h8, hI.os, hI.tape, hI.output, hI.wsize, fun k hk hno => hI.frame k hk hno, fun n b hn hbm => ?_, fun n hl hx => ?_⟩
    · by_cases hne : hget s.heap n = some b
      · exact .inl ⟨n, b, hne, hbm, (hI.agree n (.inl (hs0 n b hne).1)).1, .inl rfl⟩
      · rcases (hmade n b hn hne).2.2.2 hbm with h | ⟨j, c, q0, q1, q2⟩
        · exact .inr h
        · rcases h2.eats.old j c q1 with ⟨-, -, bc, r1, r2⟩ | ⟨r1, -⟩
          · exact .inl ⟨c, bc, r1, r2, q2, .inr (hlo j c q1)⟩
          · omega
    · rw [h5, hdelL_get (fun hmem => by
        obtain ⟨j, hj⟩ := (h5' n).1 hmem
        have := hlo j n hj
        omega), hget_append]
      cases hm : hget (L.map Item.made).flatten n with
      | none => rfl
      | some c =>
        obtain ⟨j, hh, hj, hb⟩ := flatten_get' hm
        rw [List.getElem?_map] at hj
        cases hjt : L[j]? with
        | none => rw [hjt] at hj; cases hj
        | some jt =>
          rw [hjt] at hj
          simp only [Option.map_some, Option.some.injEq] at hj
          subst hj
          have hjl := (List.getElem?_eq_some_iff.1 hjt).1
          obtain ⟨m1, -⟩ := hI.made j jt n c (hD' j (by omega)) hjt hb
          have := base_leE h2 (by omega) hjt
          omega
  simp only [b1] at he
  have b4' := fun Q => b4 m rfl ρ' w' Q
  have hfe := fence_eq (ρ := ρ) (ρ1 := ρ') hσ hk.2 (show o.st.res.fr.rnd = s.res.fr.rnd by rw [hfr])
  rw [hfe] at b4'
  exact b4' Q hRep (below_of_post hr hPost hb) (he.trans (x := .normal) (l := ⟨c1 ++ o3.log.conds, k1 ++ o3.log.calls⟩) hr hRep hPost)
end
end Go.Ev
/- Running the program's functions on values that are known in part: the theorem. -/
namespace Go.Ev
open Go.RowKit
set_option maxRecDepth 100000
section
variable {C : Ctx} {G : World → Prop} {w0 : World} {R : Rec}
/-- What each job's run says. -/
def JobOK (C : Ctx) (w0 : World) (n : Nat) (s : St) (o : Out) : Job → Prop
  | .code _ c => okCode c = true → StOK s → CodeOK C w0 c s o
  | .loop _ c => okCode c = true → StOK s → LoopOK C w0 n c s o
  | .ops _ ops todo => StOK s → OpsOK C w0 ops todo s o
  | .draw _ ops todo base seen acc => StOK s → DrawOK C w0 ops todo base seen acc s o
  | .op _ p => StOK s → OpOK C w0 p s o
  | .enter g vs => EnterOK C w0 g vs s o
/-- What the contracted functions are: functions with a body. -/
structure Good' (C : Ctx) (G : World → Prop) : Prop extends Good C G where
  con : ∀ g, C.con g = true → ∃ fn, C.P.funcs[g]? = some fn ∧ fn.body.isSome = true
theorem okBase {ops : Array Oper} (h : (drawOk ops || lateOk ops || coolOk ops || (baseOk ops && !(lastOk ops || lateSel ops))) = true) : baseOk ops = true := by
  simp only [Bool.or_eq_true] at h
  rcases h with ((h | h) | h) | h
  · exact drawOk_base h
  · exact (lateOk_spec h).1
  · exact (coolOk_spec h).1
  · simp only [Bool.and_eq_true] at h
    exact h.1
theorem okLate {ops : Array Oper} (h : (drawOk ops || lateOk ops || coolOk ops || (baseOk ops && !(lastOk ops || lateSel ops))) = true) (hl : lastOk ops = false) (hs : lateSel ops = true) : lateOk ops = true := by
  simp only [Bool.or_eq_true] at h
  rcases h with ((h | h) | h) | h
  · unfold drawOk at h; rw [hl] at h; simp at h
  · exact h
  · unfold coolOk coolRest at h
    unfold lateSel at hs
    unfold lateOk
    simp only [Bool.and_eq_true, List.all_eq_true, List.mem_range] at h hs ⊢
    obtain ⟨h1, ⟨h2, h3⟩, h4⟩ := h
    refine ⟨⟨⟨h1, h2⟩, fun i hi => ?_⟩, h4⟩
    have h3 := h3 i hi
    cases ho : ops[i]? with
    | none => rw [ho] at h3; cases h3
    | some o =>
      rw [ho] at h3
      simp only at h3 ⊢
      cases hb : Nat.blt i (firstStore ops.toList) with
      | false => rw [hb] at h3; exact h3
      | true =>
        have := hs i (blt_lt hb)
        rw [ho] at this
        exact this
  · rw [hs] at h; simp at h
theorem okCool {ops : Array Oper} (h : (drawOk ops || lateOk ops || coolOk ops || (baseOk ops && !(lastOk ops || lateSel ops))) = true) (hc : coolRest ops = true) : coolOk ops = true := by
  unfold coolOk
  rw [okBase h, hc]; rfl
theorem sound (hg : Good' C G) (hw0 : G w0) : ∀ (n : Nat) (j : Job) (s : St) (o : Out), run C n j s = some o → Holds C G o.log → JobOK C w0 n s o j := by
  intro n
  induction n with
  | zero => intro j s o h; simp [run] at h
  | succ n ih =>
    intro j s o h hl
    simp only [run] at h
    have hbody : ∀ g vs s o, run C n (.enter g vs) s = some o → ∃ fn, C.P.funcs[g]? = some fn ∧ fn.body.isSome = true := by
      intro g vs s o h
      cases n with
      | zero => simp [run] at h
      | succ n =>
        simp only [run, step] at h
        split at h
        · rename_i hcon; exact hg.con g hcon
        · unfold goEnter at h
          obtain ⟨tm, hh, nx, ora, rs⟩ := s
          simp only at h
          split at h
          · rename_i fn _ hfn
            rw [listGet_eq, Array.getElem?_toList] at hfn
            split at h
            · rename_i c hb _; exact ⟨fn, hfn, by rw [hb]; rfl⟩
            · cases h
          · cases h
    cases j with
    | code f c =>
      intro hok hk
      simp only [step] at h
      unfold goCodeE at h
      split at h
      · rename_i ops he
        obtain ⟨id, rfl, he2⟩ := eatCode_spec he
        simp only [okCode] at hok
        exact region_eats hg.toGood hw0 (okBase hok) hk h hl (fun p s o h1 h2 h3 => ih (.op f p) s o h1 h2 h3) (fun s o h1 h2 h3 => ih (.ops f ops _) s o h1 h2 h3)
      cases c with
      | skip => exact skip_ok h rfl hk (fun F Q a w hq => wpIn_skip hq)
      | seq a b =>
        simp only [okCode, Bool.and_eq_true] at hok
        exact seq_ok h hl (fun s o h1 h2 h3 => ih (.code f a) s o h1 h2 hok.1 h3) (fun s o h1 h2 h3 => ih (.code f b) s o h1 h2 hok.2 h3) hk
      | cond c x y =>
        simp only [okCode, Bool.and_eq_true] at hok
        exact cond_ok h hl (fun s o h1 h2 h3 => ih (.code f x) s o h1 h2 hok.1 h3) (fun s o h1 h2 h3 => ih (.code f y) s o h1 h2 hok.2 h3) hk
      | block id c =>
        simp only [okCode] at hok
        exact block_ok h hl (fun s o h1 h2 h3 => ih (.code f c) s o h1 h2 hok h3) hk
      | loop c =>
        simp only [okCode] at hok
        obtain ⟨tm, hh, nx, ora, rs⟩ := s
        simp only [goCode] at h
        split at h
        · split at h
          · split at h
            · simp only [Option.some.injEq] at h
              subst h
              exact hl.2 _ List.mem_cons_self w0 hw0 hk
            · simp only [Option.some.injEq] at h
              subst h
              exact hl.2 _ List.mem_cons_self w0 hw0 hk
          · cases h
        · obtain ⟨a1, a2, a3, a4⟩ := ih (.loop f c) _ o h hl hok hk
          exact ⟨a1, a2, a3, fun ρ w Q hr hb he => wpIn_loop_rounds n (a4 ρ w Q hr hb he)⟩
      | exit id => exact skip_ok h rfl hk (fun F Q a w hq => wpIn_exit hq)
      | ret => exact skip_ok h rfl hk (fun F Q a w hq => wpIn_ret hq)
      | region id ops draw =>
        cases draw with
        | false =>
          obtain ⟨a1, a2, a3, a4⟩ := ih (.ops f ops ops.toList) s o h hl hk
          refine ⟨by rw [a1]; rfl, a2, ⟨a3.1, by rw [a3.2]⟩, fun ρ w Q hr hb he => wpIn_region ?_⟩
          have := a4 0 rfl ρ w Q hr hb (by rw [a1] at he; exact he)
          rw [Nat.sub_zero, ← List.range_eq_range'] at this
          exact this
        | true =>
          simp only [okCode] at hok
          simp only [goCode] at h
          cases hha : hardAt C f ops with
          | some k =>
            rw [hha] at h
            simp only at h
            cases hap1 : appOk1 ops k with
            | true =>
              rw [hap1] at h
              simp only at h
              have hap : appOk ops k = true := by
                unfold appOk
                rw [okBase hok, hap1]; rfl
              exact region_hard hg.toGood (.inl rfl) hap hk h hl (fun o h1 h2 => ih (.draw f ops _ s.nxt [] []) s o h1 h2 hk) (fun s o h1 h2 h3 => ih (.ops f ops _) s o h1 h2 h3)
            | false =>
              rw [hap1] at h
              simp only [goMoved] at h
              split at h
              · rename_i hpm
                simp only [Bool.and_eq_true] at hpm
                exact region_hard hg.toGood (.inr ⟨_, permB_moves hpm.1⟩) hpm.2 hk h hl (fun o h1 h2 => ih (.draw f _ _ s.nxt [] []) s o h1 h2 hk) (fun s o h1 h2 h3 => ih (.ops f _ _) s o h1 h2 h3)
              · cases h
          | none =>
            rw [hha] at h
            simp only at h
            cases hdl : lastOk ops || lateSel ops with
            | true =>
              rw [hdl] at h
              simp only at h
              cases hlast : lastOk ops with
              | true =>
                have hdr : drawOk ops = true := by
                  unfold drawOk
                  rw [okBase hok, hlast]; rfl
                exact region_ok hg.toGood hdr hk h hl (fun o h1 h2 => ih (.draw f ops _ s.nxt [] []) s o h1 h2 hk) (fun s o h1 h2 h3 => ih (.ops f ops _) s o h1 h2 h3)
              | false =>
                have hla : lateOk ops = true := okLate hok hlast (by rw [hlast] at hdl; simpa using hdl)
                have hsp : splitOf ops = firstStore ops.toList := by unfold splitOf; rw [hlast]
                rw [hsp] at h
                exact region_late hg.toGood hla hk h hl (fun o h1 h2 => ih (.draw f ops _ s.nxt [] []) s o h1 h2 hk) (fun s o h1 h2 h3 => ih (.ops f ops _) s o h1 h2 h3)
            | false =>
              rw [hdl] at h
              simp only at h
              split at h
              rotate_left
              · cases h
              rename_i hcr
              exact region_cool hg.toGood (okCool hok hcr) hk h hl (fun o h1 h2 => ih (.draw f ops _ s.nxt [] []) s o h1 h2 hk) (fun s o h1 h2 h3 => ih (.ops f ops _) s o h1 h2 h3)
      | rangeFunc g ps a b =>
        simp only [okCode, Bool.and_eq_true] at hok
        simp only [goCode] at h
        exact range_ok hg.toGood h hl (fun g vs s o h1 h2 => ih (.enter g vs) s o h1 h2) hok.1 hok.2 hk
      | scope b => simp [goCode] at h
      | label l => simp [goCode] at h
      | goto l => simp [goCode] at h
      | refuse w => simp [goCode] at h
    | loop f c =>
      intro hok hk
      simp only [step] at h
      exact loop_ok h hl (fun s o h1 h2 h3 => ih (.code f c) s o h1 h2 hok h3) (fun s o h1 h2 h3 => ih (.loop f c) s o h1 h2 hok h3) hk
    | ops f ops todo =>
      intro hk
      simp only [step] at h
      exact ops_ok h hl (fun p s o h1 h2 h3 => ih (.op f p) s o h1 h2 h3) (fun todo s o h1 h2 h3 => ih (.ops f ops todo) s o h1 h2 h3) hk
    | draw f ops todo base seen acc =>
      intro hk
      simp only [step] at h
      exact draw_ok h hl (fun p s o h1 h2 h3 => ih (.op f p) s o h1 h2 h3) (fun todo seen acc s o h1 h2 h3 => ih (.draw f ops todo base seen acc) s o h1 h2 h3) hk
    | op f p =>
      intro hk
      simp only [step, goOp] at h
      split at h
      · rename_i r hbig
        exact goBig_ok hg.toGood hw0 hbig h hl
      simp only [goSmall] at h
      split at h
      · rename_i c x y hc
        exact pick_ok hg.toGood hc hw0 h hl
      · rename_i c hc
        split at h
        · split at h
          · rename_i l args hy
            exact yield_ok hc hy h hl (fun f c s o h1 h2 h3 h4 => ih (.code f c) s o h1 h2 h3 h4) hk
          · exact call_ok hg.toGood hc h hl (fun g vs s o h1 h2 => ih (.enter g vs) s o h1 h2) hbody
        · exact plain_ok hg.toGood hw0 h
      · split at h
        · exact div_ok hg.toGood hw0 h hl
        · exact div_ok hg.toGood hw0 h hl
        · exact plain_ok hg.toGood hw0 h
      · exact plain_ok hg.toGood hw0 h
    | enter g vs =>
      simp only [step] at h
      split at h
      · exact contract_ok hg.toGood hw0 h hl
      · exact enter_ok hg.toGood hw0 h hl (fun c s o h1 h2 h3 h4 => ih (.code g c) s o h1 h2 h3 h4)
/-- THE THEOREM: a run from values in depth that ends with one is a contract of the function. -/
theorem calls {C : Ctx} {G : World → Prop} (hg : Good' C G) {n : Nat} {g : FuncId} {ds : List D} {ora : List Bool} {res : List D} {o : Out} {v : AV} {r : D} {drops : List Nat} {c : List (Bool × Bool)}
    (h : run C n (.enter g (avOfL 0 ds).1) ⟨[], (avOfL 0 ds).2.1, (avOfL 0 ds).2.2, ora, ⟨res, noFrame⟩⟩ = some o) (hx : o.x = .val v) (hr : dOf o.st.heap v = some ⟨r, drops, c⟩) (hc : ∀ p ∈ c, p.1 = p.2) (hl : Holds C G o.log) : CallOK C G g ds r := by
  intro w A vs hw hds
  obtain ⟨v', a1, a2, a3, a4⟩ := sound (w0 := w) hg hw n _ _ _ h hl
  rw [hx] at a1
  cases a1
  have hr0 : Rep w.heap.size ⟨fun _ => 0, fun _ => ⟨0, noVal, noDV⟩, A, w.heap.size⟩ [] 0 w := ⟨fun n b hn => by simp [hget] at hn, fun n m b c hn => by simp [hget] at hn, fun n b hn => by simp [hget] at hn, fun n b hn => by simp [hget] at hn, Nat.le_refl _, fun n b hn => by simp [hget] at hn⟩
  obtain ⟨ρ1, e1, r1, p1⟩ := avOfL_ok ds hr0 (RpL.keep (Keep.wide fun k _ hk => ⟨.inl hk, fun n b hn => by simp [hget] at hn⟩) ds hds)
  rw [List.append_nil] at r1 p1
  have := a4 _ w r1 (Below.refl _ _)
  rw [e1] at this
  refine this.mono fun e w' ⟨ρ', he, hr', hp⟩ => ⟨_, he, ?_, hp.below r1 (Nat.le_refl _)⟩
  refine Rp.keep (Keep.wide fun k _ hf => ?_) _ (dOf_ok hr' hr hc)
  have := hf.1
  rw [hp.area.1, hp.area.2, p1.area.1, p1.area.2] at this
  exact this
end
end Go.Ev
/- Running the program's functions on values that are known in part: contracts out of runs. -/
namespace Go.Ev
open Go.RowKit
noncomputable section
/-- What a run ends with, in depth; what it has asked for. -/
def okOut : Option Out → Option (D × List (Bool × Bool) × List Ask)
  | some o => match o.x with
    | .val v => match dOf o.st.heap v with
      | some ⟨r, _, c⟩ => some (r, o.log.conds ++ c, o.log.calls)
      | none => none
    | _ => none
  | none => none
def hasN (xs : List Nat) (n : Nat) : Bool := match xs with
  | [] => false
  | x :: xs => match Nat.beq x n with
    | true => true
    | false => hasN xs n
def hasP (xs : List (Nat × Nat)) (f t : Nat) : Bool := match xs with
  | [] => false
  | x :: xs => match Nat.beq x.1 f && Nat.beq x.2 t with
    | true => true
    | false => hasP xs f t
def tabOf (T : List (List Value)) (g o : Nat) : Option Value := match listGet T g with
  | some l => listGet l o
  | none => none
def allC : List (Bool × Bool) → Prop
  | [] => True
  | p :: ps => p.1 = p.2 ∧ allC ps
theorem allC_mem : ∀ {l : List (Bool × Bool)}, allC l → ∀ p ∈ l, p.1 = p.2
  | [], _, p, h => by cases h
  | q :: l, hq, p, h => by
    rcases List.mem_cons.1 h with rfl | h
    · exact hq.1
    · exact allC_mem hq.2 p h
theorem calls3 {C : Ctx} {G : World → Prop} (hg : Good' C G) {n : Nat} {g : FuncId} {ds : List D} {ora : List Bool} {res : List D} {r : D} {conds : List (Bool × Bool)} {cls : List Ask}
    (h : okOut (run C n (.enter g (avOfL 0 ds).1) ⟨[], (avOfL 0 ds).2.1, (avOfL 0 ds).2.2, ora, ⟨res, noFrame⟩⟩) = some (r, conds, cls)) (hc : allC conds) (hk : ∀ q ∈ cls, AskOK C G q) : CallOK C G g ds r := by
  cases ho : run C n (.enter g (avOfL 0 ds).1) ⟨[], (avOfL 0 ds).2.1, (avOfL 0 ds).2.2, ora, ⟨res, noFrame⟩⟩ with
  | none => rw [ho] at h; cases h
  | some o =>
    rw [ho] at h
    unfold okOut at h
    simp only at h
    split at h
    · rename_i v hv
      split at h
      · rename_i r' drops c hd
        simp only [Option.some.injEq, Prod.mk.injEq] at h
        obtain ⟨rfl, h2, h3⟩ := h
        have hcm := allC_mem hc
        rw [← h2] at hcm
        exact calls hg ho hv hd (fun p hp => hcm p (List.mem_append_right _ hp)) ⟨fun p hp => hcm p (List.mem_append_left _ hp), fun q hq => hk q (by rw [← h3]; exact hq)⟩
      · cases h
    · cases h
/-- The tables stand as they were laid. -/
structure TabsOf (T : List (List Value)) (w : World) : Prop where
  size : T.length ≤ w.heap.size
  cells : ∀ g L, T[g]? = some L → ∀ j v, L[j]? = some v → w.cell? ⟨g, j, none⟩ = some v
theorem TabsOf.tab {T : List (List Value)} {w : World} (h : TabsOf T w) : Tab (tabOf T) w := by
  intro g o v hv
  unfold tabOf at hv
  split at hv
  · rename_i l hl
    rw [listGet_eq] at hl hv
    exact h.cells g l hl o v hv
  · cases hv
theorem keepE {w w1 : World} {b o : Nat} {v : Value} (hb : Below w.heap.size w w1) (h : w.cell? ⟨b, o, none⟩ = some v) : w1.cell? ⟨b, o, none⟩ = some v :=
  (hb.cell (p := ⟨b, o, none⟩) (by
    rcases Nat.lt_or_ge b w.heap.size with h1 | h1
    · exact h1
    · simp [World.cell?, Array.getElem?_eq_none h1] at h)).trans h
theorem TabsOf.below {T : List (List Value)} {w w' : World} (h : TabsOf T w) (hb : Below w.heap.size w w') : TabsOf T w' :=
  ⟨Nat.le_trans h.size hb.size, fun g L hL j v hj => keepE hb (h.cells g L hL j v hj)⟩
end
end Go.Ev
/- Running the program's functions on values that are known in part: loops by induction. -/
namespace Go.Ev
open Go.RowKit
mutual
/-- Other names; what is open laid in. -/
def AV.ren (q : Nat → Nat) (a : Nat → AV) : AV → AV
  | .pure v => .pure v
  | .ptr n o => .ptr (q n) o
  | .sl n o l c => .sl (q n) o l c
  | .slx n o l s => .slx (q n) o l s
  | .yld n => .yld (q n)
  | .mp n => .mp (q n)
  | .bsl n o l c => .bsl (q n) o l c
  | .bslx n o l s => .bslx (q n) o l s
  | .bptr n o => .bptr (q n) o
  | .dsl n => .dsl (q n)
  | .dptr n o => .dptr (q n) o
  | .any n => a n
  | .agg xs => .agg (AV.renL q a xs)
  | .tuple xs => .tuple (AV.renL q a xs)
  | .func f xs ys => .func f (AV.renL q a xs) (AV.renL q a ys)
def AV.renL (q : Nat → Nat) (a : Nat → AV) : List AV → List AV
  | [] => []
  | x :: xs => x.ren q a :: AV.renL q a xs
end
mutual
theorem ren_den {ρ ρ' : Env} {q : Nat → Nat} {p : Nat → Bool} {a : Nat → AV} (h : ∀ n, p n = true → ρ'.σ n = ρ.σ (q n) ∧ (ρ'.kk n).cap = (ρ.kk (q n)).cap ∧ (ρ'.kk n).any = (a n).den ρ ∧ (ρ'.kk n).dv = (ρ.kk (q n)).dv) : ∀ x : AV, x.within p = true → (x.ren q a).den ρ = x.den ρ'
  | .pure v, _ => by simp [AV.den, AV.ren]
  | .ptr n o, k => by simp [AV.den, AV.ren, h n (by simpa [AV.within] using k)]
  | .sl n o l c, k => by simp [AV.den, AV.ren, h n (by simpa [AV.within] using k)]
  | .slx n o l c, k => by simp [AV.den, AV.ren, h n (by simpa [AV.within] using k)]
  | .yld n, k => by simp [AV.den, AV.ren, h n (by simpa [AV.within] using k)]
  | .mp n, k => by simp [AV.den, AV.ren, h n (by simpa [AV.within] using k)]
  | .bsl n o l c, k => by simp [AV.den, AV.ren, h n (by simpa [AV.within] using k)]
  | .bslx n o l c, k => by simp [AV.den, AV.ren, h n (by simpa [AV.within] using k)]
  | .bptr n o, k => by simp [AV.den, AV.ren, h n (by simpa [AV.within] using k)]
  | .dsl n, k => by simp [AV.den, AV.ren, h n (by simpa [AV.within] using k)]
  | .dptr n o, k => by simp [AV.den, AV.ren, h n (by simpa [AV.within] using k)]
  | .any n, k => by simp [AV.den, AV.ren, h n (by simpa [AV.within] using k)]
  | .agg xs, k => by
    have k' : AV.withinL p xs = true := by simpa [AV.within] using k
    simp [AV.den, AV.ren, renL_den h xs k']
  | .tuple xs, k => by
    have k' : AV.withinL p xs = true := by simpa [AV.within] using k
    simp [AV.den, AV.ren, renL_den h xs k']
  | .func f xs ys, k => by
    have k' : AV.withinL p xs = true ∧ AV.withinL p ys = true := by simpa [AV.within] using k
    simp [AV.den, AV.ren, renL_den h xs k'.1, renL_den h ys k'.2]
theorem renL_den {ρ ρ' : Env} {q : Nat → Nat} {p : Nat → Bool} {a : Nat → AV} (h : ∀ n, p n = true → ρ'.σ n = ρ.σ (q n) ∧ (ρ'.kk n).cap = (ρ.kk (q n)).cap ∧ (ρ'.kk n).any = (a n).den ρ ∧ (ρ'.kk n).dv = (ρ.kk (q n)).dv) : ∀ xs : List AV, AV.withinL p xs = true → AV.denL ρ (AV.renL q a xs) = AV.denL ρ' xs
  | [], _ => by simp [AV.denL, AV.renL]
  | x :: xs, k => by
    have k' : x.within p = true ∧ AV.withinL p xs = true := by simpa [AV.withinL] using k
    simp [AV.denL, AV.renL, ren_den h x k'.1, renL_den h xs k'.2]
end
/-- What is left of a heap behind a round: blocks with the names from base on renamed. -/
def Sub (low base nx : Nat) (q : Nat → Nat) (a : Nat → AV) (h1 h2 : AHeap) : Prop :=
  (∀ n b, hget h2 n = some b → hget h1 (q n) = some ⟨AV.renL q a b.cells, b.opn, b.kind⟩ ∧ n < nx ∧ AV.okL nx b.cells = true) ∧
  (∀ n m b c, hget h2 n = some b → hget h2 m = some c → b.mem = true → c.mem = true → q n = q m → n = m) ∧ (∀ n, n < base → q n = n ∧ a n = .any n) ∧ (∀ n b, hget h2 n = some b → b.mem = true → base ≤ n → low ≤ q n)
def Keeps (low base : Nat) (h h2 : AHeap) : Prop := ∀ n, n < low → n < base → hget h2 n = hget h n
/-- The names behind a round. -/
noncomputable def Env.behind (base nx : Nat) (q : Nat → Nat) (a : Nat → AV) (ρ ρ1 : Env) : Env := ⟨fun n => if n < base ∨ nx ≤ n then ρ.σ n else ρ1.σ (q n), fun n => if n < base ∨ nx ≤ n then ρ.kk n else ⟨(ρ1.kk (q n)).cap, (a n).den ρ1, (ρ1.kk (q n)).dv⟩, ρ.A, ρ.L⟩
theorem behind_ok {base nx nx1 l : Nat} {q : Nat → Nat} {a : Nat → AV} {ρ ρ1 : Env} {h h1 : AHeap} {w w1 : World} (hle : base ≤ nx) (hq : ∀ n, n < base → q n = n ∧ a n = .any n) (p : Post ρ ρ1 h h1 nx nx1 l w w1) :
    ∀ n, n < nx → (Env.behind base nx q a ρ ρ1).σ n = ρ1.σ (q n) ∧ ((Env.behind base nx q a ρ ρ1).kk n).cap = (ρ1.kk (q n)).cap ∧ ((Env.behind base nx q a ρ ρ1).kk n).any = (a n).den ρ1 ∧ ((Env.behind base nx q a ρ ρ1).kk n).dv = (ρ1.kk (q n)).dv := by
  intro n hn
  unfold Env.behind
  by_cases hb : n < base
  · have hp := p.agree n (.inl hn)
    simp only [hb, true_or, if_true, (hq n hb).1, (hq n hb).2, AV.den]
    exact ⟨hp.1.symm, by rw [hp.2], by rw [hp.2], by rw [hp.2]⟩
  · have : ¬ (n < base ∨ nx ≤ n) := by omega
    simp only [this, if_false]
    exact ⟨trivial, trivial, trivial, trivial⟩
theorem back {lo base : Nat} {q : Nat → Nat} {a : Nat → AV} {ρ ρ1 : Env} {h h1 h2 : AHeap} {nx nx1 l low : Nat} {w w1 : World} (hle : base ≤ nx) (hlow : low ≤ base) (hl : low ≤ l) (r1 : Rep lo ρ1 h1 nx1 w1) (p : Post ρ ρ1 h h1 nx nx1 l w w1) (hs : Sub low base nx q a h1 h2) (hk : Keeps low base h h2) :
    Rep lo (Env.behind base nx q a ρ ρ1) h2 nx w1 ∧ Post ρ (Env.behind base nx q a ρ ρ1) h h2 base nx low w w1 := by
  obtain ⟨hs1, hs2, hq, hqb⟩ := hs
  have ag := behind_ok hle hq p
  have agp := fun n (hn : Nat.blt n nx = true) => ag n (blt_lt hn)
  have hA : (Env.behind base nx q a ρ ρ1).A = ρ1.A ∧ (Env.behind base nx q a ρ ρ1).L = ρ1.L := ⟨p.area.1.symm, p.area.2.symm⟩
  refine ⟨⟨fun n b hn => ?_, fun n m b c hn hm hb hc e => ?_, fun n b hn => (hs1 n b hn).2, fun n b hn hb => ?_, ?_, fun n b hn hb => ?_⟩, ⟨fun n hn => ?_, ⟨rfl, rfl⟩, hle, p.os, p.tape, p.output, p.size, fun k hk hne => p.frame k hk fun n b hn hb hln => hne n b hn hb (by omega), fun n b hn hb => ?_, hk⟩⟩
  · obtain ⟨a1, a2, a3⟩ := hs1 n b hn
    have := r1.block (q n) _ a1
    have hc : AV.denL (Env.behind base nx q a ρ ρ1) b.cells = AV.denL ρ1 (AV.renL q a b.cells) := (renL_den agp b.cells a3).symm
    refine this.keep2 (Keep.wide fun k _ hf => ⟨?_, fun m c hm hcm => ?_⟩) ⟨rfl, rfl⟩ hc ⟨(ag n a2).2.1, (ag n a2).2.2.2⟩ fun _ => by rw [(ag n a2).1]
    · rw [hA.1, hA.2]; exact hf.1
    · obtain ⟨b1, b2, -⟩ := hs1 m c hm
      rw [(ag m b2).1]
      exact hf.2 (q m) _ b1 hcm
  · obtain ⟨a1, a2, -⟩ := hs1 n b hn
    obtain ⟨b1, b2, -⟩ := hs1 m c hm
    rw [(ag n a2).1, (ag m b2).1] at e
    exact hs2 n m b c hn hm hb hc (r1.inj _ _ _ _ a1 b1 hb hc e)
  · obtain ⟨a1, a2, -⟩ := hs1 n b hn
    rw [(ag n a2).1]; exact r1.above _ _ a1 hb
  · rw [hA.2]; exact r1.base
  · obtain ⟨a1, a2, -⟩ := hs1 n b hn
    rw [(ag n a2).1, hA.1, hA.2]; exact r1.reach _ _ a1 hb
  · unfold Env.behind
    simp only [hn, if_true]
    exact ⟨trivial, trivial⟩
  · obtain ⟨a1, a2, -⟩ := hs1 n b hn
    rw [(ag n a2).1]
    rcases p.fresh _ _ a1 hb with ⟨m, c, hm, hc, e, h5⟩ | h3
    · refine .inl ⟨m, c, hm, hc, e, ?_⟩
      rcases h5 with h5 | h5
      · rcases Nat.lt_or_ge n base with h6 | h6
        · left; rw [h5, (hq n h6).1]
        · right
          have := hqb n b hn hb h6
          omega
      · right; omega
    · exact .inr h3
/-- Two stretches, one behind the other, from the same names on. -/
theorem Post.transB {ρ ρ' ρ'' : Env} {h h' h'' : AHeap} {base nx l l' : Nat} {w w' w'' : World} (p : Post ρ ρ' h h' base nx l w w') (q : Post ρ' ρ'' h' h'' base nx l' w' w'') : Post ρ ρ'' h h'' base nx (Nat.min l l') w w'' := by
  have s1 := p.size
  have s2 := q.size
  have m1 : Nat.min l l' ≤ l := Nat.min_le_left _ _
  have m2 : Nat.min l l' ≤ l' := Nat.min_le_right _ _
  refine ⟨fun n hn => ?_, ⟨q.area.1.trans p.area.1, q.area.2.trans p.area.2⟩, p.le, q.os.trans p.os, q.tape.trans p.tape, q.output.trans p.output, Nat.le_trans p.size q.size, fun k hk hne => ?_, fun n b hn hb => ?_, fun n hl hx => ?_⟩
  · have a := p.agree n hn
    have b := q.agree n hn
    exact ⟨b.1.trans a.1, b.2.trans a.2⟩
  · rw [q.frame k (by omega) (fun n b hn hb hl e => ?_), p.frame k hk (fun n b hn hb hl => hne n b hn hb (by omega))]
    rcases p.fresh n b hn hb with ⟨m, c, hm, hc, em, h3⟩ | hf
    · exact hne m c hm hc (by omega) (em.symm.trans e)
    · omega
  · rcases q.fresh n b hn hb with ⟨m, c, hm, hc, em, h3⟩ | hf
    · rcases p.fresh m c hm hc with ⟨k, d, hk, hd, ek, h4⟩ | hf
      · exact .inl ⟨k, d, hk, hd, em.trans ek, by omega⟩
      · right; omega
    · right; omega
  · rw [q.keep n (by omega) hx, p.keep n (by omega) hx]
section
variable {C : Ctx} {G : World → Prop}
theorem act_behind {base nx nx1 l : Nat} {q : Nat → Nat} {a : Nat → AV} {ρ ρ1 : Env} {h h1 : AHeap} {w w1 : World} {fr : AFrame} {tm : List AV} (hle : base ≤ nx) (hq : ∀ n, n < base → q n = n ∧ a n = .any n) (p : Post ρ ρ1 h h1 nx nx1 l w w1) (hfr : frOK base fr = true) (hok : AV.okL nx tm = true) :
    act ρ1 fr (AV.renL q a tm) = act (Env.behind base nx q a ρ ρ1) fr tm := by
  have ag := behind_ok hle hq p
  unfold act
  rw [renL_den (fun n hn => ag n (blt_lt hn)) tm hok]
  congr 1
  apply List.map_congr_left
  intro d hd
  have hdl : d < base := by
    simp only [frOK, Bool.and_eq_true, List.all_eq_true] at hfr
    exact blt_lt (hfr.2 d hd)
  rw [(ag d (by omega)).1, (hq d hdl).1]
/-- A loop's code, its names, its frame. -/
structure LoopAt where
  f : FuncId
  c : Code
  base : Nat
  nx : Nat
  low : Nat
  fr : AFrame
structure LoopAt.OK (l : LoopAt) : Prop where
  le : l.base ≤ l.nx
  low : l.low ≤ l.base
  code : okCode l.c = true
  fr : frOK l.base l.fr = true
/-- One round of a loop: from a state to another one. -/
structure Step (C : Ctx) (G : World → Prop) (l : LoopAt) (S1 S2 : List AV × AHeap) (x : AX) : Prop where
  ran : ∃ (n : Nat) (ora : List Bool) (vals : List D) (o : Out) (q : Nat → Nat) (a : Nat → AV), run C n (.code l.f l.c) ⟨S1.1, S1.2, l.nx, ora, ⟨vals, l.fr⟩⟩ = some o ∧ Holds C G o.log ∧ o.st.res.fr = l.fr ∧ o.x = x ∧
    o.st.tmps = AV.renL q a S2.1 ∧ Sub l.low l.base l.nx q a o.st.heap S2.2 ∧ l.low ≤ o.low
  ok : AV.okL l.nx S1.1 = true
  keeps : Keeps l.low l.base S1.2 S2.2
/-- From a state the loop ends in another one. -/
def Runs (C : Ctx) (G : World → Prop) (l : LoopAt) (S T : List AV × AHeap) (x : AX) : Prop :=
  AV.okL l.nx S.1 = true ∧ AV.okL l.nx T.1 = true ∧ isVal x = false ∧ x ≠ .normal ∧ ∃ m, ∀ w0, G w0 → ∀ ρ w Q, Rep w0.heap.size ρ S.2 l.nx w → Below w0.heap.size w0 w →
    (∀ ρ' w', Rep w0.heap.size ρ' T.2 l.nx w' → Post ρ ρ' S.2 T.2 l.base l.nx l.low w w' → Q (exitOf x) (act ρ' l.fr T.1) w') → Code.roundsIn (fenceOf ρ l.fr) 0 C.P l.c Q m (act ρ l.fr S.1) w
theorem Step.runs (hg : Good' C G) {l : LoopAt} (hl : l.OK) {S T : List AV × AHeap} {x : AX} (h : Step C G l S T x) (hx : isVal x = false ∧ x ≠ .normal) (hT : AV.okL l.nx T.1 = true) : Runs C G l S T x := by
  refine ⟨h.ok, hT, hx.1, hx.2, ?_⟩
  obtain ⟨⟨n, ora, vals, o, q, a, hrun, hlog, hfr, e1, e2, e3, e4⟩, h2, h3⟩ := h
  have hfr' := frOK_mono hl.le hl.fr
  refine ⟨1, fun w0 hw0 ρ w Q hrep hb hQ => ?_⟩
  obtain ⟨a1, a2, a3, a4⟩ := sound hg hw0 n _ _ _ hrun hlog hl.code ⟨h2, hfr'⟩
  rw [roundsIn_succ]
  refine a4 ρ w _ hrep hb fun ρ1 w1 r1 p1 => ?_
  rw [e1, e2]
  obtain ⟨r2, p2⟩ := back hl.le hl.low e4 r1 p1 e3 h3
  have hq := hQ _ w1 r2 p2
  have hact : act ρ1 o.st.res.fr (AV.renL q a T.1) = act (Env.behind l.base l.nx q a ρ ρ1) l.fr T.1 := by
    rw [hfr]
    exact act_behind hl.le e3.2.2.1 p1 hl.fr hT
  rw [hact]
  cases x with
  | normal => exact absurd rfl hx.2
  | exit id => exact hq
  | ret => exact hq
  | val v => exact absurd hx.1 (by simp [isVal])
theorem Step.more (hg : Good' C G) {l : LoopAt} (hl : l.OK) {S S2 T : List AV × AHeap} {x : AX} (h : Step C G l S S2 .normal) (hr : Runs C G l S2 T x) : Runs C G l S T x := by
  obtain ⟨hoky, hT, hx1, hx2, m, k2⟩ := hr
  refine ⟨h.ok, hT, hx1, hx2, ?_⟩
  obtain ⟨⟨n, ora, vals, o, q, a, hrun, hlog, hfr, e1, e2, e3, e4⟩, h2, h3⟩ := h
  have hfr' := frOK_mono hl.le hl.fr
  refine ⟨m + 1, fun w0 hw0 ρ w Q hrep hb hQ => ?_⟩
  obtain ⟨a1, a2, a3, a4⟩ := sound hg hw0 n _ _ _ hrun hlog hl.code ⟨h2, hfr'⟩
  rw [roundsIn_succ]
  refine a4 ρ w _ hrep hb fun ρ1 w1 r1 p1 => ?_
  rw [e1]
  obtain ⟨r2, p2⟩ := back hl.le hl.low e4 r1 p1 e3 h3
  have hact : act ρ1 o.st.res.fr o.st.tmps = act (Env.behind l.base l.nx q a ρ ρ1) l.fr S2.1 := by
    rw [hfr, e2]
    exact act_behind hl.le e3.2.2.1 p1 hl.fr hoky
  have hfe : fenceOf (Env.behind l.base l.nx q a ρ ρ1) l.fr = fenceOf ρ l.fr := fence_eq (fun n hn => (p2.agree n (.inl hn)).1) hl.fr rfl
  simp only [exitOf, Exit.then]
  rw [hact, ← hfe]
  exact k2 w0 hw0 _ w1 Q r2 (below_of_post hrep p1 hb) fun ρ' w' r3 p3 => hQ ρ' w' r3 ((p2.transB p3).low_le (by simp [Nat.min_def]))
/-- A loop's claim: from a state that is another one but for what is left open. -/
theorem Runs.ends {l : LoopAt} (hl : l.OK) {S T : List AV × AHeap} {x : AX} (h : Runs C G l S T x) {tm0 : List AV} {h0 : AHeap} {q : Nat → Nat} {a : Nat → AV} (htm : tm0 = AV.renL q a S.1) (hsub : Sub l.low l.base l.nx q a h0 S.2) (hkeep : Keeps l.low l.base h0 S.2) :
    ∀ ora ora' vals vals', LoopEnds C G l.c ⟨tm0, h0, l.base, ora, ⟨vals, l.fr⟩⟩ x ⟨T.1, T.2, l.nx, ora', ⟨vals', l.fr⟩⟩ l.low := by
  obtain ⟨hokx, hT, hx1, hx2, m, hm⟩ := h
  have hle := hl.le
  intro ora ora' vals vals' w0 hw0 hst
  refine ⟨hx1, ⟨hT, frOK_mono hl.le hl.fr⟩, ⟨hl.le, rfl⟩, fun ρ w Q hr hb hE => wpIn_loop_rounds m ?_⟩
  have hr' : Rep w0.heap.size ρ h0 l.nx w := ⟨hr.block, hr.inj, fun n b hn => ⟨Nat.lt_of_lt_of_le (hr.scope n b hn).1 hle, okL_mono hle _ (hr.scope n b hn).2⟩, hr.above, hr.base, hr.reach⟩
  have p0 : Post ρ ρ h0 h0 l.nx l.nx l.low w w := Post.refl hr' _
  obtain ⟨r2, p2⟩ := back hl.le hl.low (Nat.le_refl _) hr' p0 hsub hkeep
  have hact : act ρ l.fr tm0 = act (Env.behind l.base l.nx q a ρ ρ) l.fr S.1 := by
    rw [htm]
    exact act_behind hl.le hsub.2.2.1 p0 hl.fr hokx
  have hfe : fenceOf (Env.behind l.base l.nx q a ρ ρ) l.fr = fenceOf ρ l.fr := fence_eq (fun n hn => (p2.agree n (.inl hn)).1) hl.fr rfl
  simp only
  rw [hact, ← hfe]
  exact hm w0 hw0 _ w Q r2 hb fun ρ' w' r p => hE ρ' w' r ((p2.transB p).low_le (by simp [Nat.min_def]))
end
end Go.Ev
/- Running the program's functions on values that are known in part: loops whose states are told by the values that live. -/
namespace Go.Ev
open Go.RowKit
noncomputable section
/-- How a slot lives through a loop: as a value that is given; as a slice that is appended to; as one that is written into. -/
inductive LK where
  | val (t : Tmp)
  | grow (t : Tmp) (size : Nat)
  | made (t : Tmp)
  /-- still as it was -/
  | still (t : Tmp)
  /-- a slice that was appended to and lives no more -/
  | drop (t : Tmp)
  /-- the cell of a box: a value; a slice that is appended to -/
  | cval (t : Tmp) (j : Nat)
  | cgrow (t : Tmp) (j size : Nat)
  | cmade (t : Tmp) (j : Nat)
  /-- a slice to which nothing has been appended yet -/
  | nil (t : Tmp)
  | cnil (t : Tmp) (j : Nat)
  /-- how far the range over a function has come to which the slot's yield belongs -/
  | rcd (t : Tmp) (st : RState)
/-- Where a name stands: in a slot; in a cell of the box that a slot points to. -/
inductive Loc where
  | slot (t : Tmp)
  | cell (t : Tmp) (j : Nat)
/-- How a loop ends: by which exit (none: a return), what lives there, what does not. -/
structure LExit where
  ex : Option Nat
  live : List LK
  junk : List Tmp
/-- A loop: its function, its first region, how it may end. -/
structure LSpec where
  f : FuncId
  rid : Nat
  exs : List LExit
structure GS where
  tm : List AV
  h : AHeap
  nx : Nat
  low : Nat
  /-- for each new name the place that bears it -/
  ns : List Loc
/-- A slot; from 1000 on a slot of what ranges over a function, by the slot of its yield. -/
def slotR (tm : List AV) (h : AHeap) (t : Tmp) : AV := match Nat.blt t 1000 with
  | true => slot tm t
  | false => match slot tm (t / 1000 - 1) with
    | .yld l => match hget h l with
      | some ⟨cs, _, .loop _⟩ => slot cs (t % 1000)
      | _ => .pure undef
    | _ => .pure undef
def boxCell (tm : List AV) (h : AHeap) (t : Tmp) (j : Nat) : Option (Nat × ABlock × Nat × AV) := match slotR tm h t with
  | .ptr b o => match hget h b with
    | some blk => match blk.kind, listGet blk.cells (o + j) with
      | .cells, some v => some (b, blk, o + j, v)
      | _, _ => none
    | none => none
  | _ => none
def locVal (tm : List AV) (h : AHeap) : Loc → AV
  | .slot t => slot tm t
  | .cell t j => match boxCell tm h t j with
    | some (_, _, _, v) => v
    | none => .pure undef
def ghost1 : LK → D → GS → Option GS
  | .still _, _, g => some g
  | .rcd t st, _, ⟨tm, h, nx, low, ns⟩ => match slot tm t with
    | .yld l => match hget h l with
      | some ⟨cs, on, .loop r⟩ => some ⟨tm, hput h l ⟨cs, on, .loop ⟨r.f, r.ps, r.asg, r.body, st⟩⟩, nx, Nat.min l low, ns⟩
      | _ => none
    | _ => none
  | .nil t, _, ⟨tm, h, nx, low, ns⟩ => some ⟨setT tm (some t) (.pure (.slice none 0 0)), h, nx, low, ns⟩
  | .cnil t j, _, ⟨tm, h, nx, low, ns⟩ => match boxCell tm h t j with
    | some (b, blk, o, _) => some ⟨tm, hput h b ⟨blk.cells.set o (.pure (.slice none 0 0)), blk.opn, .cells⟩, nx, Nat.min b low, ns⟩
    | none => none
  | .val t, d, ⟨tm, h, nx, low, ns⟩ => match d with
    | .list k cs => some ⟨setT tm (some t) (.dsl nx), (nx, ⟨[], none, .deep k cs⟩) :: h, nx + 1, low, ns ++ [.slot t]⟩
    | .one v => some ⟨setT tm (some t) (.pure v), h, nx, low, ns⟩
    | _ => none
  | .grow t size, d, ⟨tm, h, nx, low, ns⟩ => match d with
    | .list k cs => match slot tm t with
      | .bslx b _ _ _ => some ⟨setT tm (some t) (.bslx nx 0 k 0), (nx, ⟨[], some size, .big cs⟩) :: hdel h b, nx + 1, Nat.min b low, ns ++ [.slot t]⟩
      | .sl b _ _ _ => some ⟨setT tm (some t) (.bslx nx 0 k 0), (nx, ⟨[], some size, .big cs⟩) :: hdel h b, nx + 1, Nat.min b low, ns ++ [.slot t]⟩
      | _ => some ⟨setT tm (some t) (.bslx nx 0 k 0), (nx, ⟨[], some size, .big cs⟩) :: h, nx + 1, low, ns ++ [.slot t]⟩
    | _ => none
  | .drop t, _, ⟨tm, h, nx, low, ns⟩ => match slot tm t with
    | .bslx b _ _ _ => some ⟨setT tm (some t) (.any nx), hdel h b, nx + 1, Nat.min b low, ns ++ [.slot t]⟩
    | .sl b _ _ _ => some ⟨setT tm (some t) (.any nx), hdel h b, nx + 1, Nat.min b low, ns ++ [.slot t]⟩
    | _ => some ⟨setT tm (some t) (.any nx), h, nx + 1, low, ns ++ [.slot t]⟩
  | .cval t j, d, ⟨tm, h, nx, low, ns⟩ => match boxCell tm h t j with
    | some (b, blk, o, _) => match d with
      | .list k cs => some ⟨tm, (nx, ⟨[], none, .deep k cs⟩) :: hput h b ⟨blk.cells.set o (.dsl nx), blk.opn, .cells⟩, nx + 1, Nat.min b low, ns ++ [.cell t j]⟩
      | .one v => some ⟨tm, hput h b ⟨blk.cells.set o (.pure v), blk.opn, .cells⟩, nx, Nat.min b low, ns⟩
      | _ => none
    | none => none
  | .cgrow t j size, d, ⟨tm, h, nx, low, ns⟩ => match boxCell tm h t j with
    | some (b, blk, o, v) => match d with
      | .list k cs =>
        let h1 := hput h b ⟨blk.cells.set o (.bslx nx 0 k 0), blk.opn, .cells⟩
        let h2 := match v with
          | .bslx c _ _ _ => hdel h1 c
          | .sl c _ _ _ => hdel h1 c
          | _ => h1
        some ⟨tm, (nx, ⟨[], some size, .big cs⟩) :: h2, nx + 1, Nat.min b low, ns ++ [.cell t j]⟩
      | _ => none
    | none => none
  | .made t, d, ⟨tm, h, nx, low, ns⟩ => match d, slot tm t with
    | .list _ cs, .bsl b _ _ _ => match hget h b with
      | some ⟨_, on, _⟩ => some ⟨tm, hput h b ⟨[], on, .big cs⟩, nx, Nat.min b low, ns⟩
      | none => none
    | .list _ cs, .bslx b _ _ _ => match hget h b with
      | some ⟨_, on, _⟩ => some ⟨tm, hput h b ⟨[], on, .big cs⟩, nx, Nat.min b low, ns⟩
      | none => none
    | _, _ => none
  | .cmade t j, d, ⟨tm, h, nx, low, ns⟩ => match boxCell tm h t j with
    | some (_, _, _, v) => match d, v with
      | .list _ cs, .bsl b _ _ _ => match hget h b with
        | some ⟨_, on, _⟩ => some ⟨tm, hput h b ⟨[], on, .big cs⟩, nx, Nat.min b low, ns⟩
        | none => none
      | .list _ cs, .bslx b _ _ _ => match hget h b with
        | some ⟨_, on, _⟩ => some ⟨tm, hput h b ⟨[], on, .big cs⟩, nx, Nat.min b low, ns⟩
        | none => none
      | _, _ => none
    | none => none
def ghostL : List LK → List D → GS → Option GS
  | [], [], g => some g
  | k :: ks, d :: ds, g => match ghost1 k d g with
    | some g => ghostL ks ds g
    | none => none
  | _, _, _ => none
def ghostJ : List Tmp → GS → GS
  | [], g => g
  | t :: ts, ⟨tm, h, nx, low, ns⟩ => ghostJ ts ⟨setT tm (some t) (.any nx), h, nx + 1, low, ns ++ [.slot t]⟩
/-- A loop's state, told by what lives, out of the state that it is entered in. -/
def ghost (live : List LK) (junk : List Tmp) (tm : List AV) (h : AHeap) (nx : Nat) (ds : List D) : Option GS := match ghostL live ds ⟨tm, h, nx, nx, []⟩ with
  | some g => match ghostJ junk g with
    | ⟨tm, h, _, low, ns⟩ => some ⟨tm, h, nx + (live.length + junk.length), low, ns⟩
  | none => none
def nxtOf : Option GS → Nat
  | some g => g.nx
  | none => 0
def lowGS : Option GS → Nat
  | some g => g.low
  | none => 0
def stateOf : Option GS → List AV × AHeap
  | some g => (g.tm, g.h)
  | none => ([], [])
def nsOf : Option GS → List Loc
  | some g => g.ns
  | none => []
/-- The id of a code's first region. -/
def ridOf : Code → Option Nat
  | .seq a b => match ridOf a with
    | some n => some n
    | none => ridOf b
  | .cond _ a b => match ridOf a with
    | some n => some n
    | none => ridOf b
  | .block _ b => ridOf b
  | .loop b => ridOf b
  | .rangeFunc _ _ a b => match ridOf a with
    | some n => some n
    | none => ridOf b
  | .region id _ _ => some id
  | _ => none
def specAt (f rid : Nat) : List LSpec → Option LSpec
  | [] => none
  | s :: ss => match Nat.beq s.f f && Nat.beq s.rid rid with
    | true => some s
    | false => specAt f rid ss
/-- Which of the exits is taken. -/
def exitAt (exs : List LExit) : D → Option LExit
  | .one (.int _ (.ofNat n)) => listGet exs n
  | _ => none
/-- How the loops of a run end: as the values tell. -/
def lpOf (specs : List LSpec) (f : FuncId) (c : Code) (tm : List AV) (h : AHeap) (nx : Nat) (vals : List D) : Option (LoopEnd × List D) := match ridOf c with
  | some rid => match specAt f rid specs with
    | some s => match vals with
      | .tup (e :: ds) :: vals => match exitAt s.exs e with
        | some x => match ghost x.live x.junk tm h nx ds with
          | some g => some (⟨x.ex, g.tm, g.h, g.nx, g.low⟩, vals)
          | none => none
        | none => none
      | _ => none
    | none => none
  | none => none
/-- The loops of a code, in their order. -/
def loopsOf : Code → List Code
  | .seq a b => loopsOf a ++ loopsOf b
  | .cond _ a b => loopsOf a ++ loopsOf b
  | .block _ b => loopsOf b
  | .loop b => b :: loopsOf b
  | .rangeFunc _ _ a b => loopsOf a ++ loopsOf b
  | _ => []
def loopAt (P : Program) (g k : Nat) : Code := match listGet P.funcs.toList g with
  | some f => match f.body with
    | some c => match listGet (loopsOf c) k with
      | some c => c
      | none => .skip
    | none => .skip
  | none => .skip
def outOf (r : Option Out) : Out := match r with
  | some o => o
  | none => ⟨.normal, ⟨[], [], 0, [], ⟨[], noFrame⟩⟩, 0, ⟨[], []⟩⟩
def nameOf : AV → Option Nat
  | .dsl n => some n
  | .bsl n _ _ _ => some n
  | .bslx n _ _ _ => some n
  | _ => none
/-- The names behind a round, out of the places that bear them. -/
def qOf (base : Nat) (ns : List Loc) (S : List AV × AHeap) (n : Nat) : Nat := match Nat.blt n base with
  | true => n
  | false => match listGet ns (n - base) with
    | some t => match nameOf (locVal S.1 S.2 t) with
      | some m => m
      | none => n
    | none => n
def aOf (base : Nat) (ns : List Loc) (S : List AV × AHeap) (n : Nat) : AV := match Nat.blt n base with
  | true => .any n
  | false => match listGet ns (n - base) with
    | some t => locVal S.1 S.2 t
    | none => .any n
def distinctBy (q : Nat → Nat) (h : AHeap) : Bool := h.all fun e => !e.2.mem || h.all fun e' => !e'.2.mem || !(Nat.beq (q e.1) (q e'.1)) || Nat.beq e.1 e'.1
def namesIn (nx : Nat) (h : AHeap) : Bool := h.all fun e => Nat.blt e.1 nx && AV.okL nx e.2.cells
def aboveBy (low base : Nat) (q : Nat → Nat) (h : AHeap) : Bool := h.all fun e => !e.2.mem || Nat.blt e.1 base || Nat.ble low (q e.1)
theorem hget_mem : ∀ {h : AHeap} {n : Nat} {b : ABlock}, hget h n = some b → (n, b) ∈ h
  | [], _, _, e => by cases e
  | (m, c) :: h, n, b, e => by
    unfold hget at e
    split at e
    · rename_i hm
      cases e
      rw [Nat.eq_of_beq_eq_true hm]
      exact List.mem_cons_self
    · exact List.mem_cons_of_mem _ (hget_mem e)
theorem qOf_lt {base n : Nat} {ns : List Loc} {S : List AV × AHeap} (h : n < base) : qOf base ns S n = n ∧ aOf base ns S n = .any n := by
  have : Nat.blt n base = true := by simpa [Nat.blt_eq] using h
  unfold qOf aOf
  rw [this]
  exact ⟨rfl, rfl⟩
theorem sub_of {low base nx : Nat} {ns : List Loc} {tm : List AV × AHeap} {h1 h2 : AHeap}
    (hh : h2.map (fun e => hget h1 (qOf base ns tm e.1)) = h2.map (fun e => some (⟨AV.renL (qOf base ns tm) (aOf base ns tm) e.2.cells, e.2.opn, e.2.kind⟩ : ABlock)))
    (hb : (namesIn nx h2 && distinctBy (qOf base ns tm) h2 && aboveBy low base (qOf base ns tm) h2) = true)   : Sub low base nx (qOf base ns tm) (aOf base ns tm) h1 h2 := by
  simp only [Bool.and_eq_true] at hb
  obtain ⟨⟨hn, hd⟩, ha⟩ := hb
  refine ⟨fun n b hb => ?_, fun n m b c hb hc hbm hcm e => ?_, fun n h => qOf_lt h, fun n b hb hbm h1 => ?_⟩
  · have hm := hget_mem hb
    have e := (List.map_inj_left.1 hh) _ hm
    have e2 := List.all_eq_true.1 hn _ hm
    simp only [Bool.and_eq_true] at e2
    exact ⟨e, blt_lt e2.1, e2.2⟩
  · have e1 := List.all_eq_true.1 hd _ (hget_mem hb)
    simp only [hbm, Bool.not_true, Bool.false_or] at e1
    have e1 := List.all_eq_true.1 e1 _ (hget_mem hc)
    simp only [hcm, Bool.not_true, Bool.false_or, e, Bool.or_eq_true, Bool.not_eq_true'] at e1
    rcases e1 with e1 | e1
    · rw [Nat.beq_refl] at e1; cases e1
    · exact Nat.eq_of_beq_eq_true e1
  · have := List.all_eq_true.1 ha _ (hget_mem hb)
    simp only [hbm, Bool.not_true, Bool.false_or, Bool.or_eq_true] at this
    rcases this with h | h
    · have := blt_lt h; omega
    · exact ble_le h
theorem keeps_of {low base : Nat} {h h2 : AHeap} (e : (List.range low).map (hget h2) = (List.range low).map (hget h)) : Keeps low base h h2 := fun n hn _ =>
  (List.map_inj_left.1 e) n (List.mem_range.2 hn)
/-- One round, by a run. -/
theorem mk_step {C : Ctx} {G : World → Prop} {l : LoopAt} {fuel : Nat} {ora : List Bool} {vals : List D} {ns : List Loc} {S1 S2 S2' : List AV × AHeap} {x : AX} {conds : List (Bool × Bool)} {calls : List Ask}
    (r : Option Out) (hr : r = run C fuel (.code l.f l.c) ⟨S1.1, S1.2, l.nx, ora, ⟨vals, l.fr⟩⟩) (h1 : r = some (outOf r))
    (h2 : ((outOf r).x, (outOf r).st.res.fr, (outOf r).log, (outOf r).st.tmps) = (x, l.fr, ⟨conds, calls⟩, AV.renL (qOf l.base ns ((outOf r).st.tmps, (outOf r).st.heap)) (aOf l.base ns ((outOf r).st.tmps, (outOf r).st.heap)) S2'.1))
    (h3 : S2'.2.map (fun e => hget (outOf r).st.heap (qOf l.base ns ((outOf r).st.tmps, (outOf r).st.heap) e.1)) = S2'.2.map (fun e => some (⟨AV.renL (qOf l.base ns ((outOf r).st.tmps, (outOf r).st.heap)) (aOf l.base ns ((outOf r).st.tmps, (outOf r).st.heap)) e.2.cells, e.2.opn, e.2.kind⟩ : ABlock)))
    (h4 : (namesIn l.nx S2'.2 && distinctBy (qOf l.base ns ((outOf r).st.tmps, (outOf r).st.heap)) S2'.2 && aboveBy l.low l.base (qOf l.base ns ((outOf r).st.tmps, (outOf r).st.heap)) S2'.2) = true)
    (h5 : (AV.okL l.nx S1.1 && Nat.ble l.low (outOf r).low) = true) (h6 : (List.range l.low).map (hget S2'.2) = (List.range l.low).map (hget S1.2)) (hS : S2' = S2) (hc : allC conds) (hk : ∀ q ∈ calls, AskOK C G q) :
    Step C G l S1 S2 x := by
  subst hS
  simp only [Prod.mk.injEq] at h2
  simp only [Bool.and_eq_true] at h5
  refine ⟨⟨fuel, ora, vals, outOf r, _, _, hr ▸ h1, ?_, h2.2.1, h2.1, h2.2.2.2, sub_of h3 h4, ble_le h5.2⟩, h5.1, keeps_of h6⟩
  rw [h2.2.2.1]
  exact ⟨allC_mem hc, hk⟩
def axOf : Option Nat → AX
  | none => .ret
  | some i => .exit i
/-- A loop that is entered in a state ends as it is told: by that exit, with what lives there. -/
def LoopIn (C : Ctx) (G : World → Prop) (c : Code) (E : List AV × AHeap) (base : Nat) (fr : AFrame) (x : LExit) (ds : List D) : Prop :=
  ∀ ora ora' vals vals', LoopEnds C G c ⟨E.1, E.2, base, ora, ⟨vals, fr⟩⟩ (axOf x.ex) ⟨(stateOf (ghost x.live x.junk E.1 E.2 base ds)).1, (stateOf (ghost x.live x.junk E.1 E.2 base ds)).2, nxtOf (ghost x.live x.junk E.1 E.2 base ds), ora', ⟨vals', fr⟩⟩ (lowGS (ghost x.live x.junk E.1 E.2 base ds))
/-- What a run asks for such a loop. -/
def loopAsk (c : Code) (E : List AV × AHeap) (base : Nat) (fr : AFrame) (x : LExit) (ds : List D) (ora : List Bool) (vals vals' : List D) : Ask :=
  .loop c ⟨E.1, E.2, base, ora, ⟨vals, fr⟩⟩ (axOf x.ex) ⟨(stateOf (ghost x.live x.junk E.1 E.2 base ds)).1, (stateOf (ghost x.live x.junk E.1 E.2 base ds)).2, nxtOf (ghost x.live x.junk E.1 E.2 base ds), ora, ⟨vals', fr⟩⟩ (lowGS (ghost x.live x.junk E.1 E.2 base ds))
theorem fact_mk {P : Prop} (h : P) : fact P = true := @decide_eq_true P (Classical.propDecidable P) h
theorem loop_in {C : Ctx} {G : World → Prop} {l : LoopAt} (hl : l.OK) {E S : List AV × AHeap} {ns : List Loc} {x : LExit} {ds : List D}
    (hr : Runs C G l S (stateOf (ghost x.live x.junk E.1 E.2 l.base ds)) (axOf x.ex)) (hn : (nxtOf (ghost x.live x.junk E.1 E.2 l.base ds), lowGS (ghost x.live x.junk E.1 E.2 l.base ds)) = (l.nx, l.low))
    (htm : E.1 = AV.renL (qOf l.base ns E) (aOf l.base ns E) S.1)
    (h3 : S.2.map (fun e => hget E.2 (qOf l.base ns E e.1)) = S.2.map (fun e => some (⟨AV.renL (qOf l.base ns E) (aOf l.base ns E) e.2.cells, e.2.opn, e.2.kind⟩ : ABlock)))
    (h4 : (namesIn l.nx S.2 && distinctBy (qOf l.base ns E) S.2 && aboveBy l.low l.base (qOf l.base ns E) S.2) = true)
    (h6 : (List.range l.low).map (hget S.2) = (List.range l.low).map (hget E.2)) : LoopIn C G l.c E l.base l.fr x ds := by
  intro ora ora' vals vals'
  simp only [Prod.mk.injEq] at hn
  rw [hn.1, hn.2]
  exact hr.ends hl htm (sub_of h3 h4) (keeps_of h6) ora ora' vals vals'
end
end Go.Ev
/- The program of the seat, as runs on values known in part see it. -/
namespace Go.Proofs.Ytmohaohdbklkeaa
open Go.Ev Go.RowKit
set_option maxRecDepth 100000
noncomputable section
def gtab : List (List Value) := []
/-- Appends whose outcome is shut at once. -/
def SHUT : List (Nat × Nat) := [(59, 2000023), (59, 2000048), (29, 2000048), (29, 2000075), (86, 3000009), (86, 3000036), (13, 2000010), (48, 3000023), (58, 3000037)]
def BAD : List Nat := []
def bodyAt (g : Nat) : Bool := match listGet Try.prog.funcs.toList g with
  | some fn => fn.body.isSome
  | none => false
/-- Calls are contracts but those of I; all sites are open or none; loops as told. -/
def ctxS (op : Bool) (I : List Nat) (sp : List LSpec) : Ctx := ⟨Try.prog, tabOf gtab, fun f t => match Nat.blt t 2000000 with | true => op | false => hasP SHUT f t, fun g => !hasN I g && bodyAt g, fun g => !hasN BAD g, lpOf sp⟩
def ctx (I : List Nat) (sp : List LSpec) : Ctx := ctxS true I sp
/-- Calls are entered but those of K. -/
def ctxK (S : List (Nat × Nat)) (K : List Nat) (sp : List LSpec) : Ctx := ⟨Try.prog, tabOf gtab, hasP S, fun g => hasN K g && bodyAt g, fun g => !hasN BAD g, lpOf sp⟩
abbrev Tabs (w : World) : Prop := TabsOf gtab w
def Con (g : FuncId) (ds : List D) (r : D) : Prop := CallOK (ctx [] []) Tabs g ds r
def allK : List Go.Ev.Ask → Prop
  | [] => True
  | q :: qs => AskOK (ctx [] []) Tabs q ∧ allK qs
theorem allK_mem : ∀ {l : List Go.Ev.Ask}, allK l → ∀ q ∈ l, AskOK (ctx [] []) Tabs q
  | [], _, p, h => by cases h
  | q :: l, hq, p, h => by
    rcases List.mem_cons.1 h with rfl | h
    · exact hq.1
    · exact allK_mem hq.2 p h
def fineAt (g : Nat) : Bool := match listGet Try.prog.funcs.toList g with
  | some fn => match fn.body with
    | some c => okCode c
    | none => true
  | none => true
def nameAt (g : Nat) : Bool := match listGet Try.prog.funcs.toList g with
  | some fn => !(fn.name == "runtime.NumGoroutine")
  | none => true
theorem count : Try.prog.funcs.toList.length = 120 := by kernel_rfl
theorem mixed : Try.prog.follows .mixedOrders = true := by kernel_rfl
theorem namesOk : (List.range 120).all nameAt = true := by kernel_rfl
theorem fineOk : (List.range 120).all (fun g => hasN BAD g || fineAt g) = true := by kernel_rfl
theorem in_range {g : FuncId} {fn : Func} (hg : Try.prog.funcs[g]? = some fn) : g < 120 := by
  rw [← count]
  rcases Nat.lt_or_ge g Try.prog.funcs.toList.length with h | h
  · exact h
  · rw [← Array.getElem?_toList, List.getElem?_eq_none h] at hg; cases hg
theorem good_of {C : Ctx} (h1 : C.P = Try.prog) (h2 : C.tab = tabOf gtab) (h3 : ∀ g, C.con g = true → bodyAt g = true) (h4 : C.fine = fun g => !hasN BAD g) : Good' C Tabs := by
  obtain ⟨P, tab, sym, con, fine, lp⟩ := C
  simp only at h1 h2 h3 h4
  subst h1; subst h2; subst h4
  exact {
    mixed := mixed
    names := fun g fn hg => by
      have := List.all_eq_true.1 namesOk g (List.mem_range.2 (in_range hg))
      unfold nameAt at this
      have hg' : Try.prog.funcs[g]? = some fn := hg
      rw [listGet_eq, Array.getElem?_toList, hg'] at this
      simpa using this
    code := fun g fn c hf hg hc => by
      have := List.all_eq_true.1 fineOk g (List.mem_range.2 (in_range hg))
      have hf' : (!hasN BAD g) = true := hf
      have hb : hasN BAD g = false := by simpa using hf'
      rw [hb, Bool.false_or] at this
      unfold fineAt at this
      have hg' : Try.prog.funcs[g]? = some fn := hg
      rw [listGet_eq, Array.getElem?_toList, hg'] at this
      simp only [hc] at this
      exact this
    tab := fun w h => h.tab
    stable := fun w w' h hb => h.below hb
    con := fun g hg => by
      have := h3 g hg
      unfold bodyAt at this
      split at this
      · rename_i fn hfn
        rw [listGet_eq, Array.getElem?_toList] at hfn
        exact ⟨fn, hfn, this⟩
      · cases this }
theorem good (op : Bool) (I : List Nat) (sp : List LSpec) : Good' (ctxS op I sp) Tabs := good_of rfl rfl (fun g h => by
  have h : (!hasN I g && bodyAt g) = true := h
  simp only [Bool.and_eq_true] at h
  exact h.2) rfl
theorem goodK (S : List (Nat × Nat)) (K : List Nat) (sp : List LSpec) : Good' (ctxK S K sp) Tabs := good_of rfl rfl (fun g h => by
  have h : (hasN K g && bodyAt g) = true := h
  simp only [Bool.and_eq_true] at h
  exact h.2) rfl
theorem asked_as {C C' : Ctx} (h : C.P = C'.P) : ∀ {q : Go.Ev.Ask}, AskOK C Tabs q → AskOK C' Tabs q := by
  intro q hq
  cases q with
  | call g ds r =>
    intro w A vs hw hv
    have := hq w A vs hw hv
    rwa [h] at this
  | loop c s x t low =>
    intro w0 hw hs
    have := hq w0 hw hs
    unfold CodeOK at this ⊢
    rw [← h]
    exact this
theorem loopin_as {C C' : Ctx} (h : C.P = C'.P) {c : Code} {E : List AV × AHeap} {base : Nat} {fr : AFrame} {x : LExit} {ds : List D} (k : LoopIn C Tabs c E base fr x ds) : LoopIn C' Tabs c E base fr x ds := fun ora ora' vals vals' =>
  asked_as (q := .loop _ _ _ _ _) h (k ora ora' vals vals')
abbrev LoopC (c : Code) (E : List AV × AHeap) (base : Nat) (fr : AFrame) (x : LExit) (ds : List D) : Prop := LoopIn (ctx [] []) Tabs c E base fr x ds
/-- A contract, by a run. -/
theorem con_of {op : Bool} {I : List Nat} {sp : List LSpec} {n : Nat} {g : FuncId} {ds : List D} {ora : List Bool} {res : List D} {r : D} {conds : List (Bool × Bool)} {cls : List Go.Ev.Ask}
    (h : okOut (run (ctxS op I sp) n (.enter g (avOfL 0 ds).1) ⟨[], (avOfL 0 ds).2.1, (avOfL 0 ds).2.2, ora, ⟨res, noFrame⟩⟩) = some (r, conds, cls)) (hc : allC conds) (hk : allK cls) : Con g ds r := fun w A vs hw hv =>
  calls3 (good op I sp) h hc (fun q hq => asked_as rfl (allK_mem hk q hq)) w A vs hw hv
theorem con_ofK {S : List (Nat × Nat)} {K : List Nat} {sp : List LSpec} {n : Nat} {g : FuncId} {ds : List D} {ora : List Bool} {res : List D} {r : D} {conds : List (Bool × Bool)} {cls : List Go.Ev.Ask}
    (h : okOut (run (ctxK S K sp) n (.enter g (avOfL 0 ds).1) ⟨[], (avOfL 0 ds).2.1, (avOfL 0 ds).2.2, ora, ⟨res, noFrame⟩⟩) = some (r, conds, cls)) (hc : allC conds) (hk : allK cls) : Con g ds r := fun w A vs hw hv =>
  calls3 (goodK S K sp) h hc (fun q hq => asked_as rfl (allK_mem hk q hq)) w A vs hw hv
theorem con_val {g : FuncId} {ds : List D} {r r' : D} (h : Con g ds r) (e : r = r') : Con g ds r' := e ▸ h
theorem con_arg {g : FuncId} {ds ds' : List D} {r : D} (h : Con g ds r) (e : ds = ds') : Con g ds' r := e ▸ h
/-- One round of a loop, by a run. -/
theorem step_of {I : List Nat} {sp : List LSpec} {l : LoopAt} {fuel : Nat} {ora : List Bool} {vals : List D} {ns : List Go.Ev.Loc} {S1 S2 S2' : List AV × AHeap} {x : AX} {conds : List (Bool × Bool)} {calls : List Go.Ev.Ask}
    (r : Option Out) (hr : r = run (ctx I sp) fuel (.code l.f l.c) ⟨S1.1, S1.2, l.nx, ora, ⟨vals, l.fr⟩⟩) (h1 : r = some (outOf r))
    (h2 : ((outOf r).x, (outOf r).st.res.fr, (outOf r).log, (outOf r).st.tmps) = (x, l.fr, ⟨conds, calls⟩, AV.renL (qOf l.base ns ((outOf r).st.tmps, (outOf r).st.heap)) (aOf l.base ns ((outOf r).st.tmps, (outOf r).st.heap)) S2'.1))
    (h3 : S2'.2.map (fun e => hget (outOf r).st.heap (qOf l.base ns ((outOf r).st.tmps, (outOf r).st.heap) e.1)) = S2'.2.map (fun e => some (⟨AV.renL (qOf l.base ns ((outOf r).st.tmps, (outOf r).st.heap)) (aOf l.base ns ((outOf r).st.tmps, (outOf r).st.heap)) e.2.cells, e.2.opn, e.2.kind⟩ : ABlock)))
    (h4 : (namesIn l.nx S2'.2 && distinctBy (qOf l.base ns ((outOf r).st.tmps, (outOf r).st.heap)) S2'.2 && aboveBy l.low l.base (qOf l.base ns ((outOf r).st.tmps, (outOf r).st.heap)) S2'.2) = true)
    (h5 : (AV.okL l.nx S1.1 && Nat.ble l.low (outOf r).low) = true) (h6 : (List.range l.low).map (hget S2'.2) = (List.range l.low).map (hget S1.2)) (hS : S2' = S2) (hc : allC conds) (hk : allK calls) :
    Step (ctx I sp) Tabs l S1 S2 x := mk_step r hr h1 h2 h3 h4 h5 h6 hS hc fun q hq => asked_as rfl (allK_mem hk q hq)
end
end Go.Proofs.Ytmohaohdbklkeaa
/- What plain statements need. -/
namespace Go.Proofs.Ytmohaohdbklkeaa
open Go.ChangeShapes Go.WideShapes Go.ChangeAt Go.RowKit Go.Joins Go.Ev
theorem own : ownKnob Try.prog.godebug = none := by kernel_rfl
theorem tabs0 {W : World} : Tabs W := ⟨Nat.zero_le _, fun g L hL => by cases hL⟩
end Go.Proofs.Ytmohaohdbklkeaa
/- Running the program's functions on values that are known in part: models of functions, their loops by steps. -/
namespace Go.Ev
open Go.RowKit
noncomputable section
abbrev iD (x : Int) : D := .one (.int .i64 x)
/-- How a round ends: at its end, by which head; or at an exit. -/
inductive Rd where
  | next (q : Nat) (ds : List D)
  | out (j : Nat) (ds : List D)
/-! ### Parts of values -/
def Value.pi : Value → Int
  | .int _ x => x
  | _ => 0
def Value.pb : Value → Bool
  | .bool x => x
  | _ => false
def Value.ps : Value → ByteArray
  | .string x => x
  | _ => ⟨#[]⟩
def D.vv : D → Value
  | .one v => v
  | _ => undef
def D.vi (d : D) : Int := Value.pi d.vv
def D.vb (d : D) : Bool := Value.pb d.vv
def D.vs (d : D) : ByteArray := Value.ps d.vv
def D.ln : D → Nat
  | .list k _ => k
  | _ => 0
def D.lc : D → List D
  | .list _ cs => cs
  | _ => []
def nthD : List D → Nat → D
  | [], _ => .tup []
  | d :: _, 0 => d
  | _ :: ds, n + 1 => nthD ds n
def D.at : D → Nat → D
  | .agg cs, n => nthD cs n
  | .tup cs, n => nthD cs n
  | _, _ => .tup []
/-! ### Events -/
open Classical in
def guardP {α : Type} (P : Prop) (o : Option α) : Option α := if P then o else none
theorem guardP_elim {α : Type} {P : Prop} {o : Option α} {r : α} (h : guardP P o = some r) : P ∧ o = some r := by
  unfold guardP at h
  split at h
  · exact ⟨by assumption, h⟩
  · cases h
theorem guardP_pos {α : Type} {P : Prop} {o : Option α} (h : P) : guardP P o = o := if_pos h
open Classical in
def pullD {α β : Type} (o : Option D) (proj : D → α) (pat : α → D) (k : α → Option β) : Option β := match o with
  | some d => if pat (proj d) = d then k (proj d) else none
  | none => none
theorem pullD_elim {α β : Type} {o : Option D} {proj : D → α} {pat : α → D} {k : α → Option β} {r : β} (h : pullD o proj pat k = some r) : ∃ a, o = some (pat a) ∧ k a = some r := by
  unfold pullD at h
  split at h
  · split at h
    · rename_i d hd
      exact ⟨proj d, by rw [hd], h⟩
    · cases h
  · cases h
theorem pullD_some {α β : Type} {o : Option D} {proj : D → α} {pat : α → D} {k : α → Option β} (a : α) (h : o = some (pat a)) (e : proj (pat a) = a) : pullD o proj pat k = k a := by
  subst h
  unfold pullD
  simp only [e, if_true]
def readD (L : List D) (off size : Nat) (g : Bool) : Option D := match g with
  | false => L[off]?
  | true => if ((L.drop off).take size).length = size ∧ 0 < size then some (.agg ((L.drop off).take size)) else none
theorem readD_elim {L : List D} {off size : Nat} {g : Bool} {d : D} (h : readD L off size g = some d) : readsAs L off size g d := by
  unfold readD at h
  cases g with
  | false => exact h
  | true =>
    simp only at h
    split at h
    · rename_i hl
      cases h
      exact ⟨_, rfl, hl.1, hl.2, rfl⟩
    · cases h
def bindL {β : Type} (o : Option Rd) (k : Nat → List D → Option β) : Option β := match o with
  | some (.out j ds) => k j ds
  | _ => none
theorem bindL_elim {β : Type} {o : Option Rd} {k : Nat → List D → Option β} {r : β} (h : bindL o k = some r) : ∃ j ds, o = some (.out j ds) ∧ k j ds = some r := by
  unfold bindL at h
  split at h
  · exact ⟨_, _, rfl, h⟩
  · cases h
theorem bindL_some {β : Type} {o : Option Rd} {k : Nat → List D → Option β} {j : Nat} {ds : List D} (h : o = some (.out j ds)) : bindL o k = k j ds := by
  subst h; rfl
theorem tup_inj {a b : List D} (h : some (D.tup a) = some (D.tup b)) : a = b := by
  injection h with h; injection h
/-! ### Loops -/
def iterR (S : Rd → Option Rd) : Nat → Rd → Option Rd
  | _, .out j ds => some (.out j ds)
  | 0, .next _ _ => none
  | n + 1, .next q ds => match S (.next q ds) with
    | some s => iterR S n s
    | none => none
theorem iterR_mono {S : Rd → Option Rd} : ∀ {n m : Nat} {s o : Rd}, iterR S n s = some o → n ≤ m → iterR S m s = some o
  | n, m, .out j ds, o, h, _ => by
    cases n <;> cases m <;> exact h
  | 0, _, .next q ds, o, h, _ => by cases h
  | n + 1, 0, .next q ds, o, h, hm => by omega
  | n + 1, m + 1, .next q ds, o, h, hm => by
    unfold iterR at h ⊢
    split at h
    · rename_i s hs
      exact iterR_mono h (by omega)
    · cases h
open Classical in
/-- Where a loop ends, if it does. -/
def runR (S : Rd → Option Rd) (s : Rd) : Option Rd := if h : ∃ o, ∃ n, iterR S n s = some o then some h.choose else none
theorem runR_iff {S : Rd → Option Rd} {s o : Rd} : runR S s = some o ↔ ∃ n, iterR S n s = some o := by
  unfold runR
  constructor
  · intro h
    split at h
    · rename_i hx
      cases h
      exact hx.choose_spec
    · cases h
  · rintro ⟨n, h⟩
    have hx : ∃ o, ∃ n, iterR S n s = some o := ⟨o, n, h⟩
    rw [dif_pos hx]
    obtain ⟨m, hm⟩ := hx.choose_spec
    have h1 := iterR_mono h (Nat.le_max_left n m)
    have h2 := iterR_mono hm (Nat.le_max_right n m)
    rw [h1] at h2
    exact h2.symm
theorem runR_out {S : Rd → Option Rd} {j : Nat} {ds : List D} : runR S (.out j ds) = some (.out j ds) := runR_iff.2 ⟨0, rfl⟩
theorem runR_next {S : Rd → Option Rd} {q : Nat} {ds : List D} {s : Rd} (h : S (.next q ds) = some s) : runR S (.next q ds) = runR S s := by
  cases hr : runR S s with
  | some o =>
    obtain ⟨n, hn⟩ := runR_iff.1 hr
    refine runR_iff.2 ⟨n + 1, ?_⟩
    unfold iterR; rw [h]; exact hn
  | none =>
    cases hq : runR S (.next q ds) with
    | none => rfl
    | some o =>
      obtain ⟨n, hn⟩ := runR_iff.1 hq
      cases n with
      | zero => cases hn
      | succ n =>
        unfold iterR at hn; rw [h] at hn
        rw [runR_iff.2 ⟨n, hn⟩] at hr; cases hr
def EndOK (nx low : Nat) (gs : Rd → Option GS) : Rd → Prop
  | .out j ds => AV.okL nx (stateOf (gs (.out j ds))).1 = true ∧ (nxtOf (gs (.out j ds)), lowGS (gs (.out j ds))) = (nx, low)
  | _ => True
theorem runs_of {C : Ctx} {G : World → Prop} (hg : Good' C G) {l : LoopAt} (hl : l.OK) {gs : Rd → Option GS} {ax : Rd → AX} {S : Rd → Option Rd} (hn : ∀ q ds, ax (.next q ds) = .normal) (hx : ∀ j ds, isVal (ax (.out j ds)) = false ∧ ax (.out j ds) ≠ .normal)
    (hs : ∀ s s', S s = some s' → Step C G l (stateOf (gs s)) (stateOf (gs s')) (ax s') ∧ EndOK l.nx l.low gs s') : ∀ (n : Nat) (q : Nat) (ds : List D) (j : Nat) (es : List D), iterR S n (.next q ds) = some (.out j es) →
      Runs C G l (stateOf (gs (.next q ds))) (stateOf (gs (.out j es))) (ax (.out j es)) ∧ EndOK l.nx l.low gs (.out j es)
  | 0, q, ds, j, es, h => by cases h
  | n + 1, q, ds, j, es, h => by
    unfold iterR at h
    split at h
    · rename_i s hs1
      obtain ⟨h1, h2⟩ := hs _ _ hs1
      cases s with
      | next q' ds' =>
        rw [hn] at h1
        obtain ⟨h3, h4⟩ := runs_of hg hl hn hx hs n q' ds' j es h
        exact ⟨Step.more hg hl h1 h3, h4⟩
      | out j' es' =>
        have e : some (Rd.out j' es') = some (.out j es) := by cases n <;> exact h
        cases e
        exact ⟨Step.runs hg hl h1 (hx _ _) h2.1, h2⟩
    · cases h
theorem runs_of' {C : Ctx} {G : World → Prop} (hg : Good' C G) {l : LoopAt} (hl : l.OK) {gs : Rd → Option GS} {ax : Rd → AX} {S : Rd → Option Rd} (hn : ∀ q ds, ax (.next q ds) = .normal) (hx : ∀ j ds, isVal (ax (.out j ds)) = false ∧ ax (.out j ds) ≠ .normal)
    (hs : ∀ s s', S s = some s' → Step C G l (stateOf (gs s)) (stateOf (gs s')) (ax s') ∧ EndOK l.nx l.low gs s') {q : Nat} {ds : List D} {j : Nat} {es : List D} (h : runR S (.next q ds) = some (.out j es)) :
      Runs C G l (stateOf (gs (.next q ds))) (stateOf (gs (.out j es))) (ax (.out j es)) ∧ (nxtOf (gs (.out j es)), lowGS (gs (.out j es))) = (l.nx, l.low) := by
  obtain ⟨n, hn'⟩ := runR_iff.1 h
  obtain ⟨h1, h2⟩ := runs_of hg hl hn hx hs n q ds j es hn'
  exact ⟨h1, h2.2⟩
theorem axOf_end (o : Option Nat) : isVal (axOf o) = false ∧ axOf o ≠ .normal := by
  cases o <;> exact ⟨rfl, by simp [axOf]⟩
end
end Go.Ev
