/- Running the program's functions on values that are known in part: every operation. -/
import Derived.Test.YtngjoconcgakpaaDoorEVE
import Derived.Laws.MakeOwn
set_option linter.unusedVariables false
set_option linter.unusedSimpArgs false
set_option linter.unusedSectionVars false
set_option linter.unnecessarySimpa false
namespace Go.Ev
open Go.RowKit

/-- The operation does what was reckoned. -/
def Does (P : Program) (e : Operand → Value) (o : Oper) (lo : Nat) (ρ : Env) (s : St) (r : Res) (w : World) : Prop :=
  ∃ ρ' w', ((execOp e o).run P w = .ok (.value (r.1.den ρ')) w' ∨ ((execOp e o).run P w = .ok .skip w' ∧ r.1.den ρ' = undef)) ∧
    Rep lo ρ' r.2.1 r.2.2.1 w' ∧ Post ρ ρ' s.heap r.2.1 s.nxt r.2.2.1 r.2.2.2 w w'

section
variable {C : Ctx} {e : Operand → Value} {o : Oper} {lo : Nat} {ρ : Env} {s : St} {r : Res} {w : World}

theorem does_quiet (hr : Rep lo ρ s.heap s.nxt w) {v : AV} (h : quiet s v = some r) (hx : (execOp e o).run C.P w = .ok (.value (v.den ρ)) w) : Does C.P e o lo ρ s r w := by
  simp only [quiet, Option.some.injEq] at h
  subst h
  exact ⟨ρ, w, .inl hx, hr, Post.refl hr _⟩

theorem does_fresh (hr : Rep lo ρ s.heap s.nxt w) (hlo : lo ≤ w.heap.size) {v : AV} {cells : List AV} (h : fresh s cells none v = some r) (et : TypeId) (arr : Array Value) (harr : arr.toList = AV.denL ρ cells)
    (hx : (execOp e o).run C.P w = .ok (.value (v.den (ρ.with s.nxt w.heap.size 0))) { w with heap := w.heap.push (.cells arr et) }) : Does C.P e o lo ρ s r w := by
  unfold fresh at h
  split at h
  · rename_i hok
    simp only [Option.some.injEq] at h
    subst h
    obtain ⟨h1, h2⟩ := rep_new hr hlo cells hok arr et [] none 0 (by simpa using harr) rfl
    exact ⟨_, _, .inl hx, h1, h2⟩
  · cases h

theorem with_ptr : (AV.ptr s.nxt 0).den (ρ.with s.nxt w.heap.size 0) = .pointer (some ⟨w.heap.size, 0, none⟩) := by simp [AV.den, Env.with_σ]
theorem with_sl (l c : Nat) : (AV.sl s.nxt 0 l c).den (ρ.with s.nxt w.heap.size 0) = .slice (some ⟨w.heap.size, 0, none⟩) l c := by simp [AV.den, Env.with_σ]

theorem run_newRow (P : Program) (w : World) (t : TypeId) (cells : Array Value) : (newRow t cells).run P w = .ok ⟨w.heap.size, 0, none⟩ { w with heap := w.heap.push (.cells cells t) } := by
  simp [newRow]

theorem natOf_spec {v : Value} {n : Nat} (h : natOf v = some n) : ∃ k, v = .int k (n : Int) := by
  cases v <;> simp [natOf] at h
  rename_i k m
  cases m <;> simp at h
  subst h
  exact ⟨k, rfl⟩

/-! ### Filling -/
theorem place_fold (off : Nat) (cs : Array Value) : ∀ (vs : List Value) (i : Nat), off + i + vs.length ≤ cs.size → 
    (vs.zipIdx i).foldl (fun (cs : Array Value) (p : Value × Nat) => cs.setIfInBounds (off + p.2) p.1) cs = (cs.toList.take (off + i) ++ vs ++ cs.toList.drop (off + i + vs.length)).toArray := by
  intro vs
  induction vs generalizing cs with
  | nil => intro i _; simp
  | cons v vs ih =>
    intro i hl
    simp only [List.length_cons] at hl
    simp only [List.zipIdx_cons, List.foldl_cons]
    rw [ih (cs.setIfInBounds (off + i) v) (i + 1) (by simp; omega)]
    have hlt : off + i < cs.toList.length := by simp; omega
    have h1 : (cs.toList.set (off + i) v).take (off + (i + 1)) = cs.toList.take (off + i) ++ [v] := by
      rw [show off + (i + 1) = off + i + 1 by omega, List.take_succ_eq_append_getElem (by simpa using hlt), List.take_set_of_le (Nat.le_refl _)]
      simp
    have h2 : (cs.toList.set (off + i) v).drop (off + (i + 1) + vs.length) = cs.toList.drop (off + i + (vs.length + 1)) := by
      rw [List.drop_set_of_lt (by omega), show off + (i + 1) + vs.length = off + i + (vs.length + 1) by omega]
    simp only [Array.toList_setIfInBounds, h1, h2, List.length_cons]
    simp

theorem afill_spec (ρ : Env) {place : Nat → Option (Nat × Nat)} : ∀ {parts : List (Nat × AV)} {cells cs : List AV}, afill place cells parts = some cs →
    Instr.fill place (AV.denL ρ cells).toArray (parts.map fun p => (p.1, p.2.den ρ)) = some (AV.denL ρ cs).toArray
  | [], cells, cs, h => by simp [afill] at h; subst h; simp [Instr.fill]
  | (i, v) :: rest, cells, cs, h => by
    unfold afill at h
    simp only [List.map_cons, Instr.fill]
    cases hp : place i with
    | none => simp [hp] at h
    | some p =>
      obtain ⟨off, size⟩ := p
      simp only [hp] at h ⊢
      split at h
      · rename_i cs1 hb hpa
        obtain ⟨hfit, hcs⟩ := patch_spec hpa
        have hbl : (cellsOf v).length = size := Nat.eq_of_beq_eq_true hb
        have hsz := cellsOf_size ρ v
        have hno : ¬ ((v.den ρ).cells.size ≠ size ∨ off + (v.den ρ).cells.size > (AV.denL ρ cells).toArray.size) := by
          simp only [List.size_toArray, denL_length]; omega
        rw [if_neg (by simpa using hno)]
        have hf := place_fold off (AV.denL ρ cells).toArray (v.den ρ).cells.toList 0 (by simp [denL_length]; omega)
        rw [← Array.foldl_toList, Array.toList_zipIdx]
        simp only [Nat.add_zero] at hf
        rw [hf]
        have : ((AV.denL ρ cells).toArray.toList.take off ++ (v.den ρ).cells.toList ++ (AV.denL ρ cells).toArray.toList.drop (off + (v.den ρ).cells.toList.length)) = AV.denL ρ cs1 := by
          rw [hcs, ← cellsOf_den]
          simp [denL_map]
        rw [this]
        exact afill_spec ρ h
      · cases h

theorem fieldPlaces_spec (P : Program) : ∀ {fs : List Field} {ps : List (Nat × Nat)}, fieldPlaces P fs = some ps → fs.mapM (fun f => (P.info? f.type).map fun i => (f.offset, i.size)) = some ps
  | [], ps, h => by simp [fieldPlaces] at h; subst h; rfl
  | f :: fs, ps, h => by
    unfold fieldPlaces at h
    split at h
    · rename_i sz l hs hl
      cases h
      have := fieldPlaces_spec P hl
      unfold sizeT at hs
      cases hi : infoA P f.type with
      | none => simp [hi] at hs
      | some i => simp [hi] at hs; subst hs; simp [List.mapM_cons, info_of hi, this]
    · cases h

theorem abuild_spec (P : Program) (ρ : Env) {t : TypeId} {parts : List (Nat × AV)} {v : AV} (h : abuild P t parts = some v) :
    ∃ cells, P.built t (parts.map fun p => (p.1, p.2.den ρ)) = some cells ∧ v.den ρ = .agg cells := by
  unfold abuild at h
  split at h
  · rename_i fs z hu hz
    split at h
    · rename_i ps hps
      cases hf : afill (listGet ps) (z.cells.toList.map .pure) parts with
      | none => simp [hf] at h
      | some cs =>
        simp [hf] at h
        have hf' := afill_spec ρ hf
        rw [denL_pure, Array.toArray_toList] at hf'
        unfold zeroT at hz
        cases hi : infoA P t with
        | none => simp [hi] at hz
        | some it =>
          simp [hi] at hz
          refine ⟨(AV.denL ρ cs).toArray, ?_, by rw [← h, mkAgg_den]⟩
          have hl : listGet ps = fun x => ps[x]? := funext fun i => listGet_eq ps i
          simp only [Program.built, info_of hi, und_of hu, hz, fieldPlaces_spec P hps]
          rw [hl] at hf'
          simpa using hf'
    · cases h
  · rename_i n e' z hu hz
    split at h
    · rename_i size hs
      cases hf : afill (fun i => some (i * size, size)) (z.cells.toList.map .pure) parts with
      | none => simp [hf] at h
      | some cs =>
        simp [hf] at h
        have hf' := afill_spec ρ hf
        rw [denL_pure, Array.toArray_toList] at hf'
        unfold zeroT at hz
        unfold sizeT at hs
        cases hi : infoA P t with
        | none => simp [hi] at hz
        | some it =>
          cases hie : infoA P e' with
          | none => simp [hie] at hs
          | some ie =>
            (try simp [hi] at hz)
            simp [hie] at hs
            refine ⟨(AV.denL ρ cs).toArray, ?_, by rw [← h, mkAgg_den]⟩
            simp only [Program.built, info_of hi, und_of hu, hz, info_of hie, hs]
            exact hf'
    · cases h
  · cases h

end
end Go.Ev
