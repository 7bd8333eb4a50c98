/- Running the program's functions on values that are known in part: every operation. -/
import Derived.Test.YtngjoconcgakpaaDoorEVF
set_option linter.unusedVariables false
set_option linter.unusedSimpArgs false
set_option linter.unusedSectionVars false
set_option linter.unnecessarySimpa false
namespace Go.Ev
open Go.RowKit

section
variable {C : Ctx} {e : Operand → Value} {o : Oper} {lo : Nat} {ρ : Env} {s : St} {r : Res} {w : World}

theorem zeros_den (ρ : Env) (z : List Value) : ∀ n : Nat, AV.denL ρ (zeros (z.map .pure) n) = (List.replicate n z).flatten
  | 0 => by simp [zeros, AV.denL]
  | n + 1 => by rw [zeros, denL_append, denL_pure, zeros_den ρ z n, List.replicate_succ, List.flatten_cons]

theorem flatten_get (z : List Value) (n i : Nat) (h : i < n * z.length) : (List.replicate n z).flatten[i]? = z[i % z.length]? := by
  induction n generalizing i with
  | zero => simp at h
  | succ n ih =>
    rw [List.replicate_succ, List.flatten_cons]
    by_cases hi : i < z.length
    · rw [List.getElem?_append_left hi, Nat.mod_eq_of_lt hi]
    · rw [List.getElem?_append_right (by omega), ih (i - z.length) (by rw [Nat.add_mul] at h; omega)]
      congr 1
      rw [← Nat.mod_eq_sub_mod (by omega)]

theorem made_cells (z : Array Value) (n size : Nat) (hz : z.size = size) : (Array.range (n * size)).map (fun i => z[i % z.size]!) = ((List.replicate n z.toList).flatten).toArray := by
  apply Array.ext'
  apply List.ext_getElem?
  intro i
  simp only [Array.toList_map, Array.toList_range, List.getElem?_map]
  by_cases hi : i < n * size
  · have hp : 0 < size := by
      rcases Nat.eq_zero_or_pos size with h | h
      · subst h; simp at hi
      · exact h
    have hm : i % z.size < z.size := Nat.mod_lt _ (by omega)
    rw [flatten_get z.toList n i (by simpa [hz] using hi)]
    simp [hi, hm]
  · have hlen : ((List.replicate n z.toList).flatten).length = n * size := by simp [hz]
    rw [List.getElem?_eq_none (l := (List.replicate n z.toList).flatten) (by omega)]
    simp; omega

theorem bound_spec {v : AV} {d n : Nat} (h : bound (some v) d = some n) : ∃ k, v = .pure (.int k (n : Int)) := by
  cases v <;> simp [bound] at h
  obtain ⟨k, rfl⟩ := natOf_spec h
  exact ⟨k, rfl⟩

theorem run_bound {P : Program} (w : World) (k : IntKind) {n y : Nat} (code : BoundsCode) (h : n ≤ y) : (Instr.sliceBound (.int k (n : Int)) y code).run P w = .ok n w := by
  have : (0 : Int) ≤ (n : Int) ∧ (n : Int) ≤ (y : Int) := by omega
  simp [Instr.sliceBound, asIntOf, h]

theorem run_bounds {P : Program} (w : World) (ρ : Env) (b : Bool) {len cap l h m : Nat} {lo hi mx : Option AV} (h1 : bound mx cap = some m) (h2 : bound lo 0 = some l) (h3 : bound hi len = some h)
    (hlh : l ≤ h) (hhm : h ≤ m) (hmc : m ≤ cap) (hm : mx.isSome = true → hi.isSome = true) :
    (Instr.sliceBounds b len cap (lo.map (AV.den ρ)) (hi.map (AV.den ρ)) (mx.map (AV.den ρ))).run P w = .ok (l, h, m) w := by
  cases mx with
  | none =>
    simp only [bound, Option.some.injEq] at h1
    subst h1
    cases hi with
    | none =>
      simp only [bound, Option.some.injEq] at h3
      subst h3
      cases lo with
      | none => simp only [bound, Option.some.injEq] at h2; subst h2; simp [Instr.sliceBounds]
      | some v =>
        obtain ⟨k, rfl⟩ := bound_spec h2
        simp [Instr.sliceBounds, AV.den, run_bound w k _ hlh]
    | some u =>
      obtain ⟨k2, rfl⟩ := bound_spec h3
      cases lo with
      | none => simp only [bound, Option.some.injEq] at h2; subst h2; simp [Instr.sliceBounds, AV.den, run_bound w k2 _ hhm]
      | some v =>
        obtain ⟨k, rfl⟩ := bound_spec h2
        simp [Instr.sliceBounds, AV.den, run_bound w k _ hlh, run_bound w k2 _ hhm]
  | some x =>
    obtain ⟨k1, rfl⟩ := bound_spec h1
    cases hi with
    | none => simp at hm
    | some u =>
      obtain ⟨k2, rfl⟩ := bound_spec h3
      cases lo with
      | none => simp only [bound, Option.some.injEq] at h2; subst h2; simp [Instr.sliceBounds, AV.den, run_bound w k2 _ hhm, run_bound w k1 _ hmc]
      | some v =>
        obtain ⟨k, rfl⟩ := bound_spec h2
        simp [Instr.sliceBounds, AV.den, run_bound w k _ hlh, run_bound w k2 _ hhm, run_bound w k1 _ hmc]

theorem ble_le {a b : Nat} (h : Nat.ble a b = true) : a ≤ b := Nat.le_of_ble_eq_true h
theorem blt_lt {a b : Nat} (h : Nat.blt a b = true) : a < b := by simpa [Nat.blt_eq] using h

theorem cut_addr (b off l m size : Nat) : (if m = l then (⟨b, off, none⟩ : Addr) else (⟨b, off, none⟩ : Addr).add (l * size)) = ⟨b, cutOff m l off size, none⟩ := by
  unfold cutOff
  cases e : Nat.beq m l with
  | true => rw [if_pos (Nat.eq_of_beq_eq_true e)]
  | false =>
    rw [if_neg (by intro k; subst k; simp at e), add_plain]

theorem aslice_sound (hr : Rep lo ρ s.heap s.nxt w) {t : TypeId} {x : AV} {l h m : Option AV} {r : Res} (hs : aslice C s t x l h m = some r) :
    ∃ v, quiet s v = some r ∧ (Instr.sliceAt t (x.den ρ) (l.map (AV.den ρ)) (h.map (AV.den ρ)) (m.map (AV.den ρ))).run C.P w = .ok (v.den ρ) w := by
  unfold aslice at hs
  split at hs
  · rename_i n et b off hu
    split at hs
    · rename_i mv lv size hm hl hsz
      split at hs
      · rename_i hv hh
        split at hs
        · rename_i hc
          simp only [Bool.and_eq_true, Bool.or_eq_true] at hc
          obtain ⟨⟨⟨c1, c2⟩, c3⟩, c4⟩ := hc
          refine ⟨_, hs, ?_⟩
          have hb := run_bounds (P := C.P) w ρ false hm hl hh (ble_le c1) (ble_le c2) (ble_le c3) (by cases m <;> simp_all)
          simp only [Instr.sliceAt, Sem.run_bind, run_underlying (und_of hu), Result.andThen_ok, AV.den, Instr.sureAddr, Sem.run_pure, hb, run_sizeT hsz, cut_addr]
        · cases hs
      · cases hs
    · cases hs
  · rename_i et b off len cap hu
    split at hs
    · rename_i mv lv hv size hm hl hh hsz
      split at hs
      · rename_i hc
        simp only [Bool.and_eq_true, Bool.or_eq_true] at hc
        obtain ⟨⟨⟨c1, c2⟩, c3⟩, c4⟩ := hc
        refine ⟨_, hs, ?_⟩
        have hb := run_bounds (P := C.P) w ρ true hm hl hh (ble_le c1) (ble_le c2) (ble_le c3) (by cases m <;> simp_all)
        have ha := cut_addr (ρ.σ b) off lv mv size
        simp only [Instr.sliceAt, Instr.slice, Sem.run_bind, run_underlying (und_of hu), Result.andThen_ok, AV.den, Sem.run_pure, hb, run_sizeT hsz, Option.map_some]
        split at ha <;> rename_i hml
        · rw [if_pos hml, ← ha]
        · rw [if_neg hml, ← ha]
      · cases hs
    · cases hs
  · rename_i et b off len sub hu
    split at hs
    · rename_i cs k _ hb0
      obtain ⟨hb0, hbk⟩ := hcells_get hb0
      obtain ⟨arr, e', rest, g1, g2, g3⟩ := hr.cells hb0 hbk
      have g4 : arr.size = (ρ.kk b).cap * (k + 1) := g3
      have hal : arr.size = cs.length + rest.length := by rw [← Array.length_toList, g2, List.length_append, denL_length]
      split at hs
      · rename_i lv hv size hfit hl hh hsz
        have hcap : sub + len ≤ (ρ.kk b).cap := by
          have h1 := ble_le hfit
          have h2 : (sub + len) * (k + 1) ≤ (ρ.kk b).cap * (k + 1) := by rw [← g4, hal]; exact Nat.le_trans h1 (Nat.le_add_right _ _)
          exact Nat.le_of_mul_le_mul_right h2 (by omega)
        split at hs
        · split at hs
          · rename_i hc
            simp only [Bool.and_eq_true, Bool.or_eq_true] at hc
            obtain ⟨⟨c1, c2⟩, c3⟩ := hc
            refine ⟨_, hs, ?_⟩
            have hb := run_bounds (P := C.P) (mx := none) (cap := (ρ.kk b).cap - sub) (m := (ρ.kk b).cap - sub) w ρ true rfl hl hh (ble_le c1) (by have := ble_le c2; omega) (Nat.le_refl _) (by simp)
            simp only [Option.map_none] at hb
            simp only [Instr.sliceAt, Instr.slice, Sem.run_bind, run_underlying (und_of hu), Result.andThen_ok, AV.den, Sem.run_pure, hb, run_sizeT hsz, Option.map_some, Option.map_none]
            have hsub : (ρ.kk b).cap - sub - lv = (ρ.kk b).cap - (sub + lv) := by omega
            rw [hsub]
            by_cases hml : (ρ.kk b).cap - sub = lv
            · rw [if_pos hml]
              have hl0 : lv = 0 := by
                rcases c3 with c3 | c3
                · exact Nat.eq_of_beq_eq_true c3
                · have := blt_lt c3; omega
              subst hl0
              simp
            · rw [if_neg hml, add_plain]
          · cases hs
        · rename_i mv
          split at hs
          · rename_i mn hm hhi
            split at hs
            · rename_i hc
              simp only [Bool.and_eq_true] at hc
              obtain ⟨⟨c1, c2⟩, c3⟩ := hc
              refine ⟨_, hs, ?_⟩
              have hm' : bound (some mv) ((ρ.kk b).cap - sub) = some mn := by
                obtain ⟨kk, rfl⟩ := bound_spec hm
                simpa [bound] using hm
              have hb := run_bounds (P := C.P) w ρ true hm' hl hh (ble_le c1) (ble_le c2) (by have := ble_le c3; omega) (by simpa using hhi)
              have ha := cut_addr (ρ.σ b) off lv mn size
              simp only [Option.map_some] at hb
              simp only [Instr.sliceAt, Instr.slice, Sem.run_bind, run_underlying (und_of hu), Result.andThen_ok, AV.den, Sem.run_pure, hb, run_sizeT hsz, Option.map_some]
              split at ha <;> rename_i hml
              · rw [if_pos hml, ← ha]
              · rw [if_neg hml, ← ha]
            · cases hs
          · cases hs
      · cases hs
    · cases hs
  · cases hs

end
end Go.Ev
