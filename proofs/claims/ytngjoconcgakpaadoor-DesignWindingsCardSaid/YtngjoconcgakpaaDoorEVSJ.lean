/- Running the program's functions on values that are known in part: strings.Join, by its contract. -/
import Derived.Test.YtngjoconcgakpaaDoorEVO
import Derived.Shelf.Strings.OnBuilder
set_option linter.unusedVariables false
set_option linter.unusedSimpArgs false
set_option linter.unusedSectionVars false
set_option linter.unnecessarySimpa false
namespace Go.Ev
open Go.RowKit
noncomputable section

def strList : List AV → Option (List ByteArray)
  | [] => some []
  | x :: xs => match x with
    | .pure (.string s) => match strList xs with
      | some ss => some (s :: ss)
      | none => none
    | _ => none

def joined (bs : List ByteArray) (sep : ByteArray) : Option Value := match Nat.ble bs.length 140737488355328 && Nat.ble (Lib.join (bs.map (·.data.toList)) sep.data.toList).length 140737488355328 with
  | true => some (.string ⟨(Lib.join (bs.map (·.data.toList)) sep.data.toList).toArray⟩)
  | false => none

def joinSum (vs : List AV) (h : AHeap) : Option Value := match vs with
  | [x, .pure (.string sep)] => match x with
    | .sl b off len cap => match hcells h b with
      | some blk => match cut blk.cells off len, Nat.ble len cap with
        | some ys, true => match strList ys with
          | some bs => joined bs sep
          | none => none
        | _, _ => none
      | none => none
    | .slx b off len sub => match off, sub, hcells h b with
      | 0, 0, some ⟨cs, some 1, _⟩ => match cut cs 0 len with
        | some ys => match strList ys with
          | some bs => joined bs sep
          | none => none
        | none => none
      | _, _, _ => none
    | .pure (.slice a 0 c) => some (.string ⟨#[]⟩)
    | _ => none
  | _ => none

theorem strList_spec (ρ : Env) : ∀ {ys : List AV} {bs : List ByteArray}, strList ys = some bs → AV.denL ρ ys = bs.map Value.string
  | [], bs, h => by simp [strList] at h; subst h; rfl
  | x :: xs, bs, h => by
    unfold strList at h
    split at h
    · split at h
      · rename_i s ss hs
        cases h
        simp [AV.denL, AV.den, strList_spec ρ hs]
      · cases h
    · cases h

theorem joinSum_ok {P : Program} {g : FuncId}
    (hj : ∀ (bk o c : Nat) (xs : List ByteArray) (sep : ByteArray) (w : World) (_ : ∀ (j : Nat) x, xs[j]? = some x → w.cell? ⟨bk, o + j, none⟩ = some (.string x)) (_ : bk < w.heap.size) (_ : xs.length ≤ 140737488355328) (_ : xs.length ≤ c) (_ : (Lib.join (xs.map (·.data.toList)) sep.data.toList).length ≤ 140737488355328),
      Calls P g #[.slice (some ⟨bk, o, none⟩) xs.length c, .string sep] w fun e w' => e = .returned (.string ⟨(Lib.join (xs.map (·.data.toList)) sep.data.toList).toArray⟩) ∧ Below w.heap.size w w')
    (hn : ∀ (a : Option Addr) (c : Nat) (sep : ByteArray) (w : World), Calls P g #[.slice a 0 c, .string sep] w fun e w' => e = .returned (.string ⟨#[]⟩) ∧ w' = w)
    {vs : List AV} {h : AHeap} {v : Value} (e : joinSum vs h = some v) (lo : Nat) (ρ : Env) (nx : Nat) (w : World) (hr : Rep lo ρ h nx w) :
    Calls P g (AV.denL ρ vs).toArray w fun e w' => e = .returned v ∧ Below w.heap.size w w' := by
  have key : ∀ {b off len cap : Nat} {blk : ABlock} {ys : List AV} {bs : List ByteArray} {sep : ByteArray}, hcells h b = some blk → cut blk.cells off len = some ys → strList ys = some bs → len ≤ cap → joined bs sep = some v →
      Calls P g #[.slice (some ⟨ρ.σ b, off, none⟩) len cap, .string sep] w fun e w' => e = .returned v ∧ Below w.heap.size w w' := by
    intro b off len cap blk ys bs sep hb hc hs hle hjn
    unfold joined at hjn
    split at hjn
    · rename_i hb2
      simp only [Bool.and_eq_true] at hb2
      simp only [Option.some.injEq] at hjn
      subst hjn
      obtain ⟨hl, hy⟩ := cut_spec hc
      have hd := strList_spec ρ hs
      have hlen : bs.length = len := by
        have := congrArg List.length hd
        rw [denL_length, List.length_map] at this
        omega
      subst hlen
      refine hj (ρ.σ b) off cap bs sep w (fun j x hx => ?_) (hr.lt (hcells_get hb).1) (ble_le hb2.1) hle (ble_le hb2.2)
      have hjl : j < bs.length := (List.getElem?_eq_some_iff.1 hx).1
      have h1 := hy j hjl
      have h2 : (AV.denL ρ ys)[j]? = some (.string x) := by rw [hd, List.getElem?_map, hx]; rfl
      rw [denL_map, List.getElem?_map, h1] at h2
      cases hq : blk.cells[off + j]? with
      | none => rw [hq] at h2; cases h2
      | some q =>
        rw [hq] at h2
        simp only [Option.map_some, Option.some.injEq] at h2
        rw [← h2]
        exact cell_of_block hr hb hq
    · cases hjn
  unfold joinSum at e
  split at e
  · rename_i x sep
    split at e
    · rename_i b off len cap
      split at e
      · rename_i blk hb
        split at e
        · rename_i ys hc hle
          split at e
          · rename_i bs hs
            simpa [AV.denL, AV.den] using key hb hc hs (ble_le hle) e
          · cases e
        · cases e
      · cases e
    · rename_i b off len sub
      split at e
      · rename_i cs k hb
        split at e
        · rename_i ys hc
          split at e
          · rename_i bs hs
            have hcap : len ≤ (ρ.kk b).cap - 0 := by
              obtain ⟨hb1, hbk⟩ := hcells_get hb
              obtain ⟨arr, e1, rest, h1, h2, h3⟩ := hr.cells hb1 hbk
              simp only at h2 h3
              have := congrArg List.length h2
              rw [List.length_append, denL_length, Array.length_toList] at this
              obtain ⟨hl, hy⟩ := cut_spec hc
              rcases Nat.lt_or_ge cs.length len with hlt | hge
              · have h9 := hy cs.length hlt
                rw [List.getElem?_eq_getElem (by omega), Nat.zero_add, List.getElem?_eq_none (Nat.le_refl _)] at h9
                cases h9
              · omega
            simpa [AV.denL, AV.den] using key hb hc hs hcap e
          · cases e
        · cases e
      · cases e
    · cases e
      simp only [AV.denL, AV.den]
      exact (hn _ _ _ w).mono fun e w' ⟨h1, h2⟩ => ⟨h1, by rw [h2]; exact Below.refl _ _⟩
    · cases e
  · cases e
end
end Go.Ev
