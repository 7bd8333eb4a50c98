/- Arguments that are numbers, truths, strings, structs and arrays of them: their values; and that arguments read as they did. -/
import Derived.Carry
import Derived.OpenShut
import Derived.ChangeArms
import Derived.Lib.SmallJoins
set_option linter.unusedVariables false
set_option linter.unusedSimpArgs false
set_option linter.unusedSectionVars false
set_option linter.unnecessarySimpa false
namespace Go.Ev
open Go.ChangeShapes Go.WideShapes Go.ChangeAt Go.RowKit Go.Joins

inductive Leaf where
  | int (k : IntKind)
  | bool
  | str

def Leaf.holds : Leaf → Value → Prop
  | .int k, v => ∃ n, v = .int k n ∧ (Lit.int k n).wf = true
  | .bool, v => ∃ b, v = .bool b
  | .str, v => ∃ s : ByteArray, v = .string s ∧ s.size ≤ maxLen

def allH : List Leaf → List Value → Prop
  | [], vs => vs = []
  | l :: ls, vs => ∃ v ws, vs = v :: ws ∧ l.holds v ∧ allH ls ws

theorem allH_append : ∀ {a b : List Leaf} {xs ys : List Value}, allH a xs → allH b ys → allH (a ++ b) (xs ++ ys)
  | [], b, xs, ys, h, k => by
    have h : xs = [] := h
    subst h; exact k
  | l :: a, b, xs, ys, h, k => by
    obtain ⟨v, ws, rfl, h1, h2⟩ := h
    exact ⟨v, ws ++ ys, rfl, h1, allH_append h2 k⟩

def leafFields (lf : TypeId → Option (List Leaf)) (P : Program) : Nat → List Field → Option (List Leaf)
  | _, [] => some []
  | off, f :: fs => match lf f.type with
    | some l => match Nat.beq f.offset off && Nat.beq l.length (P.cellsOf f.type) with
      | true => match leafFields lf P (off + l.length) fs with
        | some r => some (l ++ r)
        | none => none
      | false => none
    | none => none

def leaves (P : Program) : Nat → TypeId → Option (List Leaf)
  | 0, _ => none
  | n + 1, t => match P.underlying t with
    | some .bool => some [.bool]
    | some (.int k) => some [.int k]
    | some .string => some [.str]
    | some (.struct fs) => leafFields (leaves P n) P 0 fs.toList
    | some (.array k e) => match leaves P n e with
      | some l => match Nat.beq l.length (P.cellsOf e) with
        | true => some (List.replicate k l).flatten
        | false => none
      | none => none
    | _ => none

section
variable {H : Type} {enc : TypeId × Value → H} {P : Program} {w : World} {base : Nat} {sp : Nat → Bool} {held : Bool}

theorem fields_spec {lf : TypeId → Option (List Leaf)} {m : Nat} (hlf : ∀ t l, lf t = some l → l.length = P.cellsOf t → ∀ cs x, DataW.trod enc P w base sp held m t cs = some x → allH l cs ∧ x.2 = []) (cs : List Value) :
    ∀ (fs : List Field) (off : Nat) (ls : List Leaf) (xs : List (DataW H × List MemPlace)), leafFields lf P off fs = some ls → xs.length = fs.length →
      (∀ (i : Nat) (f : Field), fs[i]? = some f → DataW.trod enc P w base sp held m f.type ((cs.drop f.offset).take (P.cellsOf f.type)) = xs[i]?) → off + ls.length = cs.length →
      allH ls (cs.drop off) ∧ xs.flatMap (·.2) = []
  | [], off, ls, xs, h, hx, _, hl => by
    simp only [leafFields, Option.some.injEq] at h
    subst h
    have : xs = [] := List.length_eq_zero_iff.1 hx
    subst this
    exact ⟨List.drop_eq_nil_of_le (by simp at hl; omega), rfl⟩
  | f :: fs, off, ls, xs, h, hx, ht, hl => by
    unfold leafFields at h
    split at h
    · rename_i l hlt
      split at h
      · rename_i hb
        simp only [Bool.and_eq_true] at hb
        have h1 := Nat.eq_of_beq_eq_true hb.1
        have h2 := Nat.eq_of_beq_eq_true hb.2
        split at h
        · rename_i r hr
          cases h
          match xs, hx with
          | x :: xs, hx =>
            have t0 := ht 0 f rfl
            simp only [List.getElem?_cons_zero] at t0
            obtain ⟨a1, a2⟩ := hlf _ _ hlt h2 _ _ t0
            obtain ⟨b1, b2⟩ := fields_spec hlf cs fs (off + l.length) r xs hr (by simpa using hx) (fun i g hg => by simpa using ht (i + 1) g (by simpa using hg)) (by rw [List.length_append] at hl; omega)
            rw [h1, ← h2] at a1
            refine ⟨?_, by simp [a2, b2]⟩
            have := (List.take_append_drop l.length (cs.drop off)).symm
            rw [List.drop_drop] at this
            rw [this]
            exact allH_append a1 b1
        · cases h
      · cases h
    · cases h

theorem row_spec {l : List Leaf} {c : Nat} (hc : l.length = c) (cs : List Value) : ∀ (k off : Nat), (∀ i, i < k → allH l ((cs.drop (off + i * c)).take c)) → off + k * c = cs.length → allH (List.replicate k l).flatten (cs.drop off)
  | 0, off, _, hl => List.drop_eq_nil_of_le (by omega)
  | k + 1, off, h, hl => by
    rw [List.replicate_succ, List.flatten_cons]
    have h0 := h 0 (by omega)
    rw [Nat.zero_mul, Nat.add_zero] at h0
    have := row_spec hc cs k (off + c) (fun i hi => by
      have := h (i + 1) (by omega)
      rwa [show off + (i + 1) * c = off + c + i * c by rw [Nat.add_mul]; omega] at this) (by rw [Nat.add_mul] at hl; omega)
    have e := (List.take_append_drop c (cs.drop off)).symm
    rw [List.drop_drop] at e
    rw [e]
    exact allH_append h0 this

theorem leaves_spec : ∀ (n : Nat) (t : TypeId) (ls : List Leaf), leaves P n t = some ls → ls.length = P.cellsOf t → ∀ (m : Nat) (cs : List Value) (x : DataW H × List MemPlace),
    DataW.trod enc P w base sp held m t cs = some x → allH ls cs ∧ x.2 = []
  | 0, _, _, h, _, _, _, _, _ => by cases h
  | n + 1, t, ls, h, hc, m, cs, x, hx => by
    unfold leaves at h
    split at h
    · rename_i hu
      cases h
      obtain ⟨b, rfl, rfl⟩ := DataW.trod_bool hu hx
      exact ⟨⟨_, _, rfl, ⟨b, rfl⟩, rfl⟩, rfl⟩
    · rename_i k hu
      cases h
      obtain ⟨b, rfl, rfl, hw⟩ := DataW.trod_int hu hx
      exact ⟨⟨_, _, rfl, ⟨b, rfl, hw⟩, rfl⟩, rfl⟩
    · rename_i hu
      cases h
      obtain ⟨b, rfl, rfl, hw⟩ := DataW.trod_string hu hx
      exact ⟨⟨_, _, rfl, ⟨b, rfl, hw⟩, rfl⟩, rfl⟩
    · rename_i fs hu
      obtain ⟨xs, m', rfl, rfl, hl, hn, hf⟩ := DataW.trod_struct hu hx
      have := fields_spec (enc := enc) (w := w) (base := base) (sp := sp) (held := held) (m := m') (fun t l a b cs x c => leaves_spec n t l a b m' cs x c) cs fs.toList 0 ls xs h (by simpa using hn) (fun i f hi => hf i f (by simpa using hi)) (by omega)
      simpa using this
    · rename_i k e hu
      obtain ⟨xs, m', rfl, rfl, hl, hn, hf⟩ := DataW.trod_array hu hx
      split at h
      · rename_i l hle
        split at h
        · rename_i hb
          have hb := Nat.eq_of_beq_eq_true hb
          cases h
          have each : ∀ i, i < k → ∃ y, xs[i]? = some y ∧ allH l ((cs.drop (i * P.cellsOf e)).take (P.cellsOf e)) ∧ y.2 = [] := fun i hi => by
            have := hf i hi
            rw [List.getElem?_eq_getElem (by omega)] at this
            exact ⟨_, List.getElem?_eq_getElem (by omega), leaves_spec n e l hle hb m' _ _ this⟩
          refine ⟨?_, ?_⟩
          · have := row_spec hb cs k 0 (fun i hi => by
              obtain ⟨y, _, ha, _⟩ := each i hi
              rwa [Nat.zero_add]) (by rw [← hb] at *; simp at hc; omega)
            simpa using this
          · apply List.flatMap_eq_nil_iff.2
            intro y hy
            obtain ⟨i, hi, rfl⟩ := List.mem_iff_getElem.1 hy
            obtain ⟨z, hz, _, hz2⟩ := each i (by omega)
            rw [List.getElem?_eq_getElem hi] at hz
            cases hz
            exact hz2
        · cases h
      · cases h
    · cases h

/-- An argument by value of structs and arrays of numbers, truths and strings. -/
theorem open_flat {r : Reach} {b0 : Nat} {t : TypeId} {v : Value} {d : DataW H} {p : List MemPlace} {ls : List Leaf} (n : Nat) (hl : leaves P n t = some ls) (hc : ls.length = P.cellsOf t) (hag : (match P.underlying t with | some (.struct _) => true | some (.array _ _) => true | _ => false) = true)
    (hv : Value.okWide P w r b0 t v) (h : DataW.Trod enc P w base sp held t v d p) : ∃ cs : List Value, v = .agg cs.toArray ∧ allH ls cs ∧ p = [] := by
  have hcs : ∃ cs, v = .agg cs := by
    unfold Value.okWide at hv
    split at hv
    · obtain ⟨cs, h1, _⟩ := hv; exact ⟨cs, h1⟩
    · obtain ⟨cs, h1, _⟩ := hv; exact ⟨cs, h1⟩
    · rename_i h1 h2
      split at hag
      · rename_i fs e; exact absurd e (h1 fs)
      · rename_i k e e'; exact absurd e' (h2 k e)
      · cases hag
  obtain ⟨cs, rfl⟩ := hcs
  obtain ⟨m, hm⟩ := h
  obtain ⟨a, b⟩ := leaves_spec n t ls hl hc m _ _ hm
  exact ⟨cs.toList, by simp, a, b⟩

/-- Nothing below has turned: an argument reads as it did. -/
theorem stays {t : TypeId} (hl : laidOutB P = true) (hr : P.readableRec t = true) (hrow : t < P.types.size) {W W' : World} {sp' : Nat → Bool} {v : Value} {d : DataW H} {ps : List MemPlace}
    (h : DataW.Trod enc P W 0 (fun _ => true) true t v d ps) (hb : Below W.heap.size W W') (hlt : ∀ x ∈ ps, x.block < W.heap.size) (hs : ∀ p ∈ ps, sp' p.block = true) : DataW.Trod enc P W' 0 sp' true t v d ps :=
  WideElems.Trod_stays hl hr hrow h (fun x hx => hb.same (hlt x hx)) hs
end
set_option maxRecDepth 100000 in
theorem post_below {H : Type} {enc : TypeId × Value → H} {P : Program} {f : Func} {s : ChangeSpec} {apart fresh handsOn again : Bool} {W W' : World} {args : Array Value} {v : Value} {ds gs : List (DataW H)} {before pa pv : List MemPlace}
    (hW : DataW.Whole enc P f.params.toList s.vars apart W args.toList ds gs before)
    (hres : ∀ (b : Nat) (sp : Nat → Bool) (hd : Bool), DataW.TrodAll enc P W' b sp hd f.resultTypes.toList (v.resultList f.resultTypes.size) (s.fn H (ds ++ gs)).results [])
    (hargs : ∀ sp : Nat → Bool, (∀ p ∈ before, sp p.block = true) → DataW.TrodAll enc P W' 0 sp true f.params.toList args.toList (s.fn H (ds ++ gs)).args pa)
    (hvars : ∀ sp : Nat → Bool, (∀ p ∈ before, sp p.block = true) → DataW.TrodVars enc P W' sp s.vars (s.fn H (ds ++ gs)).vars pv)
    (hps : before = pa ++ pv) (hB : Below W.heap.size W W')
    (hok : ∀ (j : Nat) (t : TypeId) (r : Value), f.resultTypes[j]? = some t → (v.resultList f.resultTypes.size)[j]? = some r → Value.okWide P W' .any 0 t r) :
    s.post enc P f apart fresh handsOn again W args v W' := by
  have hold : ∀ p ∈ before, (fun b => decide (b < W.heap.size)) p.block = true := fun p hp => by simpa using hW.lt p hp
  have hlt := hW.lt
  refine ⟨ds, gs, before, [], pa, pv, hW, hres _ _ _, hargs _ hold, hvars _ hold, World.keptBut_mono (fun p hp => ⟨hp, ?_⟩) (hB.frame (· ∈ before)), fun _ => ?_⟩
  · rw [hps, List.mem_append] at hp
    exact Or.inr hp
  · obtain ⟨_, _, _, _, _, hz, hn⟩ := hW
    refine ⟨hok, _, _, ([] ++ pa) ++ pv, ⟨[] ++ pa, pv, trodAll_append (hargs _ (fun _ _ => rfl)) (hres _ _ _), hvars _ (fun _ _ => rfl), rfl, ?_, ?_⟩, ?_⟩
    · intro b off hp
      have hp' : MemPlace.cell b off ∈ before := by rw [hps]; simpa using hp
      rw [hB.frozen (p := ⟨b, off, none⟩) (hlt _ hp')]
      exact hz b off hp'
    · intro ha
      have := hn ha
      rw [hps] at this
      simpa using this
    · intro p hp _
      rw [hps]
      simpa using hp
end Go.Ev
