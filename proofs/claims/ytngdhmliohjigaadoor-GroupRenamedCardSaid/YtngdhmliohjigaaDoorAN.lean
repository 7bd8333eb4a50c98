/- A region that draws its order, by an invariant over what has come up: any number of allocs, calls and stores. -/
import Derived.Test.YtngdhmliohjigaaDoorA
import Derived.Deep.RegionHeld3
namespace Go.Proofs.YtngdhmliohjigaaDoor
open Go.RowKit
/-- What has come up, as a function. -/
def upTo (f : Nat → Bool) (i : Nat) : Nat → Bool := fun j => f j || decide (j = i)
theorem listed_set {listed : Array Bool} {i : Nat} (hi : i < listed.size) : (fun j => (listed.setIfInBounds i true).getD j false) = upTo (fun j => listed.getD j false) i := by
  funext j
  unfold upTo
  by_cases h : i = j
  · subst h
    simp [hi]
  · rw [getD_set_ne false h]
    simp [show ¬ j = i from fun e => h e.symm]
def noGuards (ops : Array Oper) : Bool := ops.toList.all fun o => o.guard.isNone
def backEdges : Nat → List Oper → Bool
  | _, [] => true
  | n, o :: os => o.after.toList.all (fun e => decide (e.on < n)) && backEdges (n + 1) os
theorem backEdges_at : ∀ (os : List Oper) (n i : Nat) (o : Oper), backEdges n os = true → os[i]? = some o → ∀ e ∈ o.after, e.on < n + i
  | [], _, _, _, _, h => by cases h
  | o :: os, n, 0, o', hb, h => fun e he => by
    simp only [List.getElem?_cons_zero, Option.some.injEq] at h
    subst h
    simp only [backEdges, Bool.and_eq_true, List.all_eq_true, decide_eq_true_eq] at hb
    have := hb.1 e (by simpa using he)
    omega
  | o :: os, n, i + 1, o', hb, h => fun e he => by
    simp only [List.getElem?_cons_succ] at h
    simp only [backEdges, Bool.and_eq_true] at hb
    have := backEdges_at os (n + 1) i o' hb.2 h e he
    omega
variable {P : Program} {ops : Array Oper} {Q : Exit → Act → World → Prop} {md : Region.Mode} {S : World → Prop}
theorem all_listed {listed : Array Bool} (hz : listed.size = ops.size) (hb : backEdges 0 ops.toList = true) (hr : Region.ready md ops listed = []) : ∀ i, i < ops.size → listed.getD i false = true := by
  intro i
  induction i using Nat.strongRecOn with
  | ind i ih =>
    intro hi
    cases hg : listed.getD i false with
    | true => rfl
    | false =>
      have : i ∈ Region.ready md ops listed := by
        rw [mem_ready]
        refine ⟨?_, ops[i], by simp [hi], fun e he _ => ?_⟩
        · have h' : i < listed.size := by omega
          simp [h'] at hg ⊢
          exact hg
        · have h1 := backEdges_at ops.toList 0 i ops[i] hb (by simp [hi]) e he
          exact ih e.on (by omega) (by omega)
      rw [hr] at this
      cases this
theorem count_set {listed : Array Bool} {i : Nat} (hi : i < listed.size) (hf : listed.getD i true = false) : (listed.setIfInBounds i true).toList.count false + 1 = listed.toList.count false := by
  have hg : listed.toList[i]? = some false := by
    simp [hi] at hf
    simp [hi, hf]
  have hi' : i < listed.toList.length := by simpa using hi
  have e : listed.toList[i] = false := by
    rw [List.getElem?_eq_getElem hi'] at hg
    exact Option.some.inj hg
  rw [Array.toList_setIfInBounds, List.count_set hi']
  have hp : 0 < listed.toList.count false := List.count_pos_iff.2 (e ▸ List.getElem_mem hi')
  have e1 : (listed.toList[i] == false) = true := by rw [e]; rfl
  rw [e1]
  rw [if_pos rfl, if_neg (by decide)]
  omega
/-- **A REGION BY AN INVARIANT**: I speaks of what has come up so far. -/
theorem anyH_inv (I : (Nat → Bool) → Act → World → Prop) (hb : backEdges 0 ops.toList = true) (hn : noGuards ops = true)
    (hstep : ∀ (i : Nat) (o : Oper), ops[i]? = some o → ∀ (f : Nat → Bool) (a : Act) (w : World), f i = false → (∀ j, (o.after.any fun e => Region.binds md e && e.on == j) = true → f j = true) → I f a w → S w →
      ∀ K : Act → World → Prop, Shut (∀ a' w', S w' → I (upTo f i) a' w' → K a' w') → Oper.wp P o a w K Q)
    (hend : ∀ (f : Nat → Bool) (a : Act) (w : World), (∀ i, i < ops.size → f i = true) → I f a w → S w → Q .normal a w) :
    ∀ (fuel : Nat) (listed : Array Bool) (a : Act) (w : World), listed.size = ops.size → listed.toList.count false ≤ fuel → I (fun j => listed.getD j false) a w → S w → wpAnyH P md ops Q S fuel listed a w
  | 0, listed, a, w, hz, hc, hI, hS => by
    have hall : ∀ i, i < ops.size → listed.getD i false = true := fun i hi => by
      have h0 : listed.toList.count false = 0 := by omega
      have hi' : i < listed.size := by omega
      cases hg : listed[i] with
      | true => simp [hi', hg]
      | false =>
        have := List.count_eq_zero.1 h0
        exact absurd (by rw [← hg]; simp) this
    refine ⟨?_, hend _ a w hall hI hS⟩
    refine List.eq_nil_iff_forall_not_mem.2 fun j hj => ?_
    obtain ⟨h0, o, ho, _⟩ := mem_ready.1 hj
    have hj' : j < ops.size := (Array.getElem?_eq_some_iff.1 ho).1
    have h1 := hall j hj'
    have hj2 : j < listed.size := by omega
    simp [hj2] at h0 h1
    rw [h0] at h1
    cases h1
  | fuel + 1, listed, a, w, hz, hc, hI, hS => by
    refine ⟨fun hr => hend _ a w (all_listed hz hb hr) hI hS, fun i hi => ?_⟩
    obtain ⟨h0, o, ho, hall⟩ := mem_ready.1 hi
    have hi' : i < ops.size := (Array.getElem?_eq_some_iff.1 ho).1
    have hil : i < listed.size := by omega
    have hfi : listed.getD i false = false := by
      simp [hil] at h0 ⊢
      exact h0
    have hg : o.guard = none := by
      have hm : o ∈ ops.toList := by
        rw [Array.mem_toList_iff]
        exact Array.mem_of_getElem? ho
      have := List.all_eq_true.1 hn o hm
      simpa using this
    have hw : Region.wanted o (yielded ops a.tmps) = true := by
      unfold Region.wanted
      rw [hg]
    unfold wpOp
    simp only [ho, hw, if_true]
    refine Or.inl (hstep i o ho _ a w hfi (fun j hj => ?_) hI hS _ ?_)
    · obtain ⟨e, he, hb'⟩ := Array.any_eq_true'.1 hj
      simp only [Bool.and_eq_true, beq_iff_eq] at hb'
      rw [← hb'.2]
      exact hall e he hb'.1
    intro a' w' hS' hI'
    have hcs := count_set hil h0
    refine ⟨hS', anyH_inv I hb hn hstep hend fuel _ a' w' (by simpa using hz) (by omega) ?_ hS'⟩
    rw [listed_set hil]
    exact hI'
end Go.Proofs.YtngdhmliohjigaaDoor
