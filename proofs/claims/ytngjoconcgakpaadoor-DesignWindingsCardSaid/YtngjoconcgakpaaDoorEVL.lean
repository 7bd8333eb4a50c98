/- Running the program's functions on values that are known in part: a region that draws its order, as it was reckoned. -/
import Derived.Test.YtngjoconcgakpaaDoorEVK
set_option linter.unusedVariables false
set_option linter.unusedSimpArgs false
set_option linter.unusedSectionVars false
set_option linter.unnecessarySimpa false
namespace Go.Ev
open Go.RowKit

structure Item where
  tm : List AV
  nx : Nat
  nx' : Nat
  v : AV
  made : AHeap
  seen : AHeap

/-- The temporaries ahead of operation i, where the operations are carried out in their order. -/
def tmAt (ops : Array Oper) (tm0 : List AV) (L : List Item) : Nat → List AV
  | 0 => tm0
  | i + 1 => match L[i]?, ops[i]? with
    | some it, some p => setT (tmAt ops tm0 L i) p.dst it.v
    | _, _ => tmAt ops tm0 L i

def nxAt (base : Nat) (L : List Item) : Nat → Nat
  | 0 => base
  | i + 1 => match L[i]? with
    | some it => it.nx'
    | none => nxAt base L i

def GuardSees (ops : Array Oper) (p : Oper) (tmps : Array Value) (ρ : Env) (tm : List AV) : Prop :=
  ∀ j want t, p.guard = some (j, want) → (ops[j]?).bind (·.dst) = some t → tmps[t]? = (AV.denL ρ tm)[t]?

def ItemFact (C : Ctx) (w0 : World) (ops : Array Oper) (base : Nat) (h0 : AHeap) (p : Oper) (it : Item) (mine : AHeap) : Prop :=
  ((∀ ρ tmps, GuardSees ops p tmps ρ it.tm → Region.wanted p (yielded ops tmps) = false) ∧ it.v = .pure undef ∧ it.made = [] ∧ it.nx' = it.nx ∧ it.seen = []) ∨
  ((∀ ρ tmps, GuardSees ops p tmps ρ it.tm → Region.wanted p (yielded ops tmps) = true) ∧ it.v.within (mayName base it.nx mine) = true ∧ heapWithin (mayName base it.nx mine) it.made = true ∧ it.seen = it.made ++ mine ∧
    ∃ (s : St) (o : Out), s.tmps = it.tm ∧ s.heap = mine ++ h0 ∧ s.nxt = it.nx ∧ o.x = .val it.v ∧ o.st.nxt = it.nx' ∧ it.made = hfrom o.st.heap it.nx ∧ it.nx ≤ o.low ∧ OpOK C w0 p s o) ∨
  (isStore p.op = true ∧ p.dst = none ∧ it.v = .pure undef ∧ it.made = [] ∧ it.nx' = it.nx ∧ it.seen = [])

structure Chain (C : Ctx) (w0 : World) (ops : Array Oper) (base : Nat) (h0 : AHeap) (tm0 : List AV) (L : List Item) : Prop where
  item : ∀ i it p, L[i]? = some it → ops[i]? = some p → it.tm = tmAt ops tm0 L i ∧ it.nx = nxAt base L i ∧ it.nx ≤ it.nx' ∧ it.v.ok it.nx' = true ∧
    ItemFact C w0 ops base h0 p it (seenBy ((L.take i).map Item.seen) (depsOf p))
  store : ∀ (i : Nat) (it : Item) (p : Oper), L[i]? = some it → ops[i]? = some p → isStore p.op = true → it.made = []

theorem tmAt_take {ops : Array Oper} {tm0 : List AV} {L L' : List Item} : ∀ {i : Nat}, i ≤ L.length → tmAt ops tm0 (L ++ L') i = tmAt ops tm0 L i
  | 0, _ => rfl
  | i + 1, h => by
    simp only [tmAt, tmAt_take (L := L) (L' := L') (i := i) (by omega), List.getElem?_append_left (show i < L.length by omega)]

theorem nxAt_take {base : Nat} {L L' : List Item} : ∀ {i : Nat}, i ≤ L.length → nxAt base (L ++ L') i = nxAt base L i
  | 0, _ => rfl
  | i + 1, h => by
    simp only [nxAt, nxAt_take (L := L) (L' := L') (i := i) (by omega), List.getElem?_append_left (show i < L.length by omega)]

theorem chain_snoc {C : Ctx} {w0 : World} {ops : Array Oper} {base : Nat} {h0 : AHeap} {tm0 : List AV} {L : List Item} (hc : Chain C w0 ops base h0 tm0 L) {it : Item} {p : Oper} (hp : ops[L.length]? = some p)
    (h1 : it.tm = tmAt ops tm0 L L.length) (h2 : it.nx = nxAt base L L.length) (h3 : it.nx ≤ it.nx') (h3' : it.v.ok it.nx' = true) (h4 : ItemFact C w0 ops base h0 p it (seenBy (L.map Item.seen) (depsOf p))) (h5 : isStore p.op = true → it.made = []) :
    Chain C w0 ops base h0 tm0 (L ++ [it]) ∧ tmAt ops tm0 (L ++ [it]) (L.length + 1) = setT it.tm p.dst it.v ∧ nxAt base (L ++ [it]) (L.length + 1) = it.nx' := by
  refine ⟨⟨fun i jt q hi hq => ?_, fun i jt q hi hq hs => ?_⟩, ?_, ?_⟩
  rotate_left
  · rcases Nat.lt_or_ge i L.length with hl | hl
    · rw [List.getElem?_append_left hl] at hi
      exact hc.store i jt q hi hq hs
    · have hil : i = L.length := by
        have := (List.getElem?_eq_some_iff.1 hi).1
        simp at this; omega
      subst hil
      simp only [List.getElem?_append_right (Nat.le_refl _), Nat.sub_self, List.getElem?_cons_zero, Option.some.injEq] at hi
      subst hi
      rw [hp] at hq
      cases hq
      exact h5 hs
  rotate_left
  rotate_left
  · rcases Nat.lt_or_ge i L.length with hl | hl
    · rw [List.getElem?_append_left hl] at hi
      rw [tmAt_take (by omega), nxAt_take (by omega), List.take_append_of_le_length (by omega)]
      exact hc.item i jt q hi hq
    · have hil : i = L.length := by
        have := (List.getElem?_eq_some_iff.1 hi).1
        simp at this; omega
      subst hil
      simp only [List.getElem?_append_right (Nat.le_refl _), Nat.sub_self, List.getElem?_cons_zero, Option.some.injEq] at hi
      subst hi
      rw [hp] at hq
      cases hq
      rw [tmAt_take (Nat.le_refl _), nxAt_take (Nat.le_refl _), List.take_left']
      · exact ⟨h1, h2, h3, h3', h4⟩
      · rfl
  · simp only [tmAt, tmAt_take (Nat.le_refl _), List.getElem?_append_right (Nat.le_refl _), Nat.sub_self, List.getElem?_cons_zero, hp, h1]
  · simp only [nxAt, List.getElem?_append_right (Nat.le_refl _), Nat.sub_self, List.getElem?_cons_zero]

def DrawOK (C : Ctx) (w0 : World) (ops : Array Oper) (todo : List Oper) (base : Nat) (seen acc : List AHeap) (s : St) (o : Out) : Prop :=
  ∀ (m : Nat) (L0 : List Item) (tm0 : List AV), m ≤ ops.size → seen = L0.map Item.seen → acc = L0.map Item.made → (ops.toList.take m).drop L0.length = todo → s.tmps = tmAt ops tm0 L0 L0.length → s.nxt = nxAt base L0 L0.length → base ≤ s.nxt →
    Chain C w0 ops base s.heap tm0 L0 → L0.length ≤ m →
    ∃ L, L.length = m ∧ Chain C w0 ops base s.heap tm0 L ∧ o.x = .normal ∧ o.st.tmps = tmAt ops tm0 L m ∧ o.st.heap = (L.map Item.made).flatten ++ s.heap ∧ o.st.nxt = nxAt base L m ∧
      StOK o.st ∧ (s.nxt ≤ o.st.nxt ∧ o.st.res.fr = s.res.fr)

section
variable {C : Ctx} {G : World → Prop} {w0 : World} {R : Rec}

theorem draw_ok {f : FuncId} {ops : Array Oper} {todo : List Oper} {base : Nat} {seen acc : List AHeap} {s : St} {o : Out} (h : goDraw C R f ops todo base seen acc s = some o) (hl : Holds C G o.log)
    (hop : ∀ p s o, R (.op f p) s = some o → Holds C G o.log → StOK s → OpOK C w0 p s o)
    (hrest : ∀ todo seen acc s o, R (.draw f ops todo base seen acc) s = some o → Holds C G o.log → StOK s → DrawOK C w0 ops todo base seen acc s o) (hk : StOK s) :
    DrawOK C w0 ops todo base seen acc s o := by
  obtain ⟨tm, hh, nx, ora, rs⟩ := s
  intro m L0 tm0 hm hseen hacc htodo htm hnx hbase hch hlen
  unfold goDraw at h
  simp only at h htm hnx hbase hch
  cases todo with
  | nil =>
    have := stay_eq h
    subst this
    have hle : m ≤ L0.length := by
      have := List.drop_eq_nil_iff.1 htodo
      simp at this; omega
    have hlen' : L0.length = m := by omega
    exact ⟨L0, hlen', hch, rfl, by rw [← hlen']; exact htm, by rw [hacc], by rw [← hlen']; exact hnx, hk, ⟨Nat.le_refl _, rfl⟩⟩
  | cons p rest =>
    simp only at h
    obtain ⟨e1, e2, e3⟩ := drop_cons htodo
    have hlt : L0.length < m := by simp at e3; omega
    have hpo : ops[L0.length]? = some p := by
      rw [List.getElem?_take, if_pos hlt] at e1
      simpa using e1
    have hguard : ∀ (b : Bool) ora1 l, guardOf C f ops tm ora p = some (b, ora1, l) → (∀ q ∈ l, q.1 = q.2) → ∀ ρ tmps, GuardSees ops p tmps ρ tm → Region.wanted p (yielded ops tmps) = b := fun b ora1 l hg hq ρ tmps hs =>
      guard_sound hg hq ρ tmps hs
    split at h
    · rename_i hst
      split at h
      · rename_i hdn
        obtain ⟨o2, h2, rfl⟩ := behind_eq h
        let it : Item := ⟨tm, nx, nx, .pure undef, [], []⟩
        obtain ⟨c1, c2, c3⟩ := chain_snoc hch (it := it) hpo htm hnx (Nat.le_refl _) (by simp [it, AV.ok, AV.within]) (.inr (.inr ⟨hst, hdn, rfl, rfl, rfl, rfl⟩)) (fun _ => rfl)
        rw [hdn] at c2
        exact hrest _ _ _ _ _ h2 hl.right hk m (L0 ++ [it]) tm0 hm (by simp [hseen, it]) (by simp [hacc, it]) (by simpa using e2) (by simp only [List.length_append, List.length_singleton]; exact c2.symm) (by simp only [List.length_append, List.length_singleton]; exact c3.symm) hbase c1 (by simp; omega)
      · cases h
    rename_i hst
    split at h
    · cases h
    · rename_i ora1 l hg
      rw [setTK_eq] at h
      obtain ⟨o2, h2, rfl⟩ := behind_eq h
      have hgl : ∀ q ∈ l, q.1 = q.2 := fun q hq => hl.1 q (by simp; exact .inl hq)
      let it : Item := ⟨tm, nx, nx, .pure undef, [], []⟩
      obtain ⟨c1, c2, c3⟩ := chain_snoc hch (it := it) hpo htm hnx (Nat.le_refl _) (by simp [it, AV.ok, AV.within]) (.inl ⟨hguard _ _ _ hg hgl, rfl, rfl, rfl, rfl⟩) (fun _ => rfl)
      have := hrest _ _ _ _ _ h2 hl.right ⟨setT_ok hk.1 (by simp [AV.ok, AV.within]), hk.2⟩ m (L0 ++ [it]) tm0 hm (by simp [hseen, it]) (by simp [hacc, it]) (by simpa using e2) (by simp only [List.length_append, List.length_singleton]; exact c2.symm) (by simp only [List.length_append, List.length_singleton]; exact c3.symm) hbase c1 (by simp; omega)
      exact this
    · rename_i ora1 l hg
      unfold goDraw1 at h
      split at h
      · rename_i v tm' h1 nx1 ora2 rs1 l1 k1 q1 hr
        split at h
        · rename_i hchk
          simp only [Bool.and_eq_true] at hchk
          obtain ⟨⟨k1', k2'⟩, k3'⟩ := hchk
          rw [setTK_eq] at h
          obtain ⟨o2, h2, rfl⟩ := behind_eq h
          have hgl : ∀ q ∈ l, q.1 = q.2 := fun q hq => hl.1 q (by simp; exact .inl hq)
          have hl1 : Holds C G ⟨k1, q1⟩ := ⟨fun q hq => hl.1 q (by simp; exact .inr (.inl hq)), fun q hq => hl.2 q (by simp; exact .inl hq)⟩
          have hopk := hop _ _ _ hr hl1 hk
          obtain ⟨v', a1, a2, a3, a4, a5⟩ := id hopk
          cases a1
          simp only at a2 a3 a4
          have hfr : rs1.fr = rs.fr := a4.2
          have a40 := a4.1
          let it : Item := ⟨tm, nx, nx1, v, hfrom h1 nx, hfrom h1 nx ++ seenBy seen (depsOf p)⟩
          obtain ⟨c1, c2, c3⟩ := chain_snoc hch (it := it) hpo htm hnx a40 a2 (.inr (.inl ⟨hguard _ _ _ hg hgl, by rw [← hseen]; exact k2', by rw [← hseen]; exact k3', by rw [← hseen], _, _, rfl, by rw [← hseen], rfl, rfl, rfl, rfl, ble_le k1', hopk⟩)) (fun h => by rw [hst] at h; cases h)
          obtain ⟨L, d1, d2, d3, d4, d5, d6, d7, d8⟩ := hrest _ _ _ _ _ h2 hl.right ⟨setT_ok (okL_mono a40 _ hk.1) a2, by show frOK nx1 rs1.fr = true; rw [hfr]; exact frOK_mono a40 hk.2⟩ m (L0 ++ [it]) tm0 hm (by simp [hseen, it]) (by simp [hacc, it]) (by simpa using e2)
            (by simp only [List.length_append, List.length_singleton]; exact c2.symm) (by simp only [List.length_append, List.length_singleton]; exact c3.symm) (Nat.le_trans hbase a40) c1 (by simp; omega)
          exact ⟨L, d1, d2, d3, d4, d5, d6, d7, ⟨Nat.le_trans a40 d8.1, d8.2.trans hfr⟩⟩
        · cases h
      · cases h

end

/-! ### What comes before -/
def anc (T : List (List Nat)) (i : Nat) : List Nat := T.getD i []

theorem before_spec : ∀ (ops : List Oper) (acc : List (List Nat)), (before ops acc).length = acc.length + ops.length ∧ (before ops acc).take acc.length = acc ∧
    ∀ i p, ops[i]? = some p → (before ops acc)[acc.length + i]? = some ((List.range (acc.length + i)).filter fun j => (depsOf p).any fun d => Nat.beq d j || (((before ops acc).take (acc.length + i)).getD d []).any (Nat.beq j))
  | [], acc => by simp [before]
  | o :: ops, acc => by
    have ih := before_spec ops (acc ++ [(List.range acc.length).filter fun j => (depsOf o).any fun d => Nat.beq d j || (acc.getD d []).any (Nat.beq j)])
    simp only [before]
    obtain ⟨i1, i2, i3⟩ := ih
    generalize hB : before ops (acc ++ [(List.range acc.length).filter fun j => (depsOf o).any fun d => Nat.beq d j || (acc.getD d []).any (Nat.beq j)]) = B at *
    simp only [List.length_append, List.length_singleton] at i1 i2 i3
    have htake : B.take acc.length = acc := by
      have := congrArg (List.take acc.length) i2
      rw [List.take_take, Nat.min_eq_left (by omega), List.take_append_of_le_length (Nat.le_refl _), List.take_length] at this
      exact this
    refine ⟨by simp only [List.length_cons]; omega, htake, fun i p hi => ?_⟩
    cases i with
    | zero =>
      simp only [List.getElem?_cons_zero, Option.some.injEq] at hi
      subst hi
      rw [Nat.add_zero, htake]
      have : B[acc.length]? = (B.take (acc.length + 1))[acc.length]? := by rw [List.getElem?_take, if_pos (by omega)]
      rw [this, i2, List.getElem?_append_right (Nat.le_refl _), Nat.sub_self, List.getElem?_cons_zero]
    | succ i =>
      have := i3 i p (by simpa using hi)
      rw [show acc.length + 1 + i = acc.length + (i + 1) by omega] at this
      exact this

theorem anc_spec {ops : Array Oper} {i : Nat} {p : Oper} (hp : ops[i]? = some p) {j : Nat} (hj : j ∈ anc (before ops.toList []) i) :
    j < i ∧ ∃ d ∈ depsOf p, d = j ∨ (d < i ∧ j ∈ anc (before ops.toList []) d) := by
  obtain ⟨-, -, h3⟩ := before_spec ops.toList []
  have := h3 i p (by simpa using hp)
  simp only [List.length_nil, Nat.zero_add] at this
  unfold anc at hj
  rw [List.getD_eq_getElem?_getD, this, Option.getD_some, List.mem_filter, List.mem_range, List.any_eq_true] at hj
  obtain ⟨h1, d, hd, h2⟩ := hj
  refine ⟨h1, d, hd, ?_⟩
  simp only [Bool.or_eq_true, List.any_eq_true] at h2
  rcases h2 with h2 | ⟨k, hk, h2⟩
  · exact .inl (Nat.eq_of_beq_eq_true h2)
  · right
    have hkj : j = k := Nat.eq_of_beq_eq_true h2
    subst hkj
    rw [List.getD_eq_getElem?_getD, List.getElem?_take] at hk
    split at hk
    · rename_i hdi
      refine ⟨hdi, ?_⟩
      unfold anc
      rw [List.getD_eq_getElem?_getD]; exact hk
    · simp at hk

/-- What comes before an operation has been carried out, if what it hangs on directly has been. -/
theorem anc_listed {ops : Array Oper} {D : Nat → Prop} (hcl : ∀ i p, ops[i]? = some p → D i → ∀ d ∈ depsOf p, D d) : ∀ (i : Nat) (p : Oper), ops[i]? = some p → (∀ d ∈ depsOf p, D d) → ∀ j ∈ anc (before ops.toList []) i, D j := by
  intro i
  induction i using Nat.strongRecOn with
  | _ i ih =>
    intro p hp hd j hj
    obtain ⟨-, d, hdm, hh⟩ := anc_spec hp hj
    rcases hh with rfl | ⟨hlt, hjd⟩
    · exact hd d hdm
    · have hi : i < ops.size := by
        rcases Nat.lt_or_ge i ops.size with h | h
        · exact h
        · simp [Array.getElem?_eq_none h] at hp
      have hq : ops[d]? = some ops[d] := by simp
      exact ih d hlt _ hq (hcl d _ hq (hd d hdm)) j hjd

theorem baseOk_spec {ops : Array Oper} (h : baseOk ops = true) {i : Nat} {p : Oper} (hp : ops[i]? = some p) :
    (∀ d ∈ depsOf p, d < i) ∧ (∀ cs b, p.op ≠ .select cs b) ∧ (∀ j q d, ops[j]? = some q → q.dst = some d → (d ∈ p.looksAt ops → j ∈ anc (before ops.toList []) i ∨ i ∈ anc (before ops.toList []) j) ∧ (i ≠ j → p.dst ≠ some d)) ∧ True := by
  have hi : i < ops.size := by
    rcases Nat.lt_or_ge i ops.size with h | h
    · exact h
    · simp [Array.getElem?_eq_none h] at hp
  unfold baseOk at h
  simp only [List.all_eq_true, List.mem_range] at h
  have h := h i hi
  have hT : ∃ a, (before ops.toList [])[i]? = some a := by
    have := (before_spec ops.toList []).1
    simp only [List.length_nil, Nat.zero_add, Array.length_toList] at this
    exact ⟨_, List.getElem?_eq_getElem (by omega)⟩
  obtain ⟨a, ha⟩ := hT
  rw [hp, ha] at h
  simp only [Bool.and_eq_true, List.all_eq_true, List.mem_range] at h
  obtain ⟨⟨h1, h2⟩, h3⟩ := h
  refine ⟨fun d hd => blt_lt (h1 d hd), fun cs b e => by rw [e] at h2; simp at h2, fun j q d hq hd => ?_, trivial⟩
  have hj : j < ops.size := by
    rcases Nat.lt_or_ge j ops.size with h | h
    · exact h
    · simp [Array.getElem?_eq_none h] at hq
  have h3 := h3 j hj
  rw [hq] at h3
  simp only [hd, Bool.and_eq_true, Bool.or_eq_true, Bool.not_eq_true'] at h3
  obtain ⟨h4, h5⟩ := h3
  refine ⟨fun hu => ?_, fun hne e => ?_⟩
  · rcases h4 with (h4 | h4) | h4
    · have : (p.looksAt ops).any (Nat.beq d) = true := List.any_eq_true.2 ⟨d, hu, by simp⟩
      rw [this] at h4; cases h4
    · obtain ⟨k, hk, hb⟩ := List.any_eq_true.1 h4
      have := Nat.eq_of_beq_eq_true hb
      subst this
      unfold anc
      left
      rw [List.getD_eq_getElem?_getD, ha]; exact hk
    · obtain ⟨k, hk, hb⟩ := List.any_eq_true.1 h4
      have := Nat.eq_of_beq_eq_true hb
      subst this
      exact .inr hk
  · rcases h5 with h5 | h5
    · exact hne (Nat.eq_of_beq_eq_true h5)
    · rw [e] at h5; simp at h5

theorem drawOk_base {ops : Array Oper} (h : drawOk ops = true) : baseOk ops = true := by
  unfold drawOk at h
  simp only [Bool.and_eq_true] at h
  exact h.1

theorem anc_full {ops : Array Oper} {i : Nat} {p : Oper} (hp : ops[i]? = some p) (h : ((before ops.toList []).getD i []).length = i) : ∀ j, j < i → j ∈ anc (before ops.toList []) i := by
  intro j hj
  have hi : i < ops.size := by
    rcases Nat.lt_or_ge i ops.size with h | h
    · exact h
    · simp [Array.getElem?_eq_none h] at hp
  have hT : ∃ a, (before ops.toList [])[i]? = some a := by
    have := (before_spec ops.toList []).1
    simp only [List.length_nil, Nat.zero_add, Array.length_toList] at this
    exact ⟨_, List.getElem?_eq_getElem (by omega)⟩
  obtain ⟨a, ha⟩ := hT
  have hlen : a.length = i := by
    rw [List.getD_eq_getElem?_getD, ha] at h
    exact h
  have hspec := (before_spec ops.toList []).2.2 i p (by simpa using hp)
  simp only [List.length_nil, Nat.zero_add] at hspec
  rw [ha] at hspec
  simp only [Option.some.injEq] at hspec
  unfold anc
  rw [List.getD_eq_getElem?_getD, ha]
  simp only [Option.getD_some]
  rw [hspec] at hlen ⊢
  have hall := List.length_filter_eq_length_iff.1 (hlen.trans (List.length_range (n := i)).symm)
  exact List.mem_filter.2 ⟨List.mem_range.2 hj, hall j (List.mem_range.2 hj)⟩

theorem drawOk_last {ops : Array Oper} (h : drawOk ops = true) {i : Nat} {p : Oper} (hp : ops[i]? = some p) (hge : firstStore ops.toList ≤ i) : ∀ j, j < i → j ∈ anc (before ops.toList []) i := by
  intro j hj
  have hi : i < ops.size := by
    rcases Nat.lt_or_ge i ops.size with h | h
    · exact h
    · simp [Array.getElem?_eq_none h] at hp
  unfold drawOk lastOk at h
  simp only [Bool.and_eq_true, List.all_eq_true, List.mem_range, Bool.or_eq_true] at h
  have hT : ∃ a, (before ops.toList [])[i]? = some a := by
    have := (before_spec ops.toList []).1
    simp only [List.length_nil, Nat.zero_add, Array.length_toList] at this
    exact ⟨_, List.getElem?_eq_getElem (by omega)⟩
  obtain ⟨a, ha⟩ := hT
  have hlen : a.length = i := by
    rcases h.2 i hi with h | h
    · have := blt_lt h; omega
    · rw [List.getD_eq_getElem?_getD, ha] at h
      exact Nat.eq_of_beq_eq_true h
  have hspec := (before_spec ops.toList []).2.2 i p (by simpa using hp)
  simp only [List.length_nil, Nat.zero_add] at hspec
  rw [ha] at hspec
  simp only [Option.some.injEq] at hspec
  unfold anc
  rw [List.getD_eq_getElem?_getD, ha]
  simp only [Option.getD_some]
  rw [hspec] at hlen ⊢
  have hall := List.length_filter_eq_length_iff.1 (hlen.trans (List.length_range (n := i)).symm)
  exact List.mem_filter.2 ⟨List.mem_range.2 hj, hall j (List.mem_range.2 hj)⟩

end Go.Ev
