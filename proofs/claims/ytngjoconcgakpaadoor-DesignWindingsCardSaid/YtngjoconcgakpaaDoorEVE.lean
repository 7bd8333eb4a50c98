/- Running the program's functions on values that are known in part: one operation is carried out as it was reckoned. -/
import Derived.Test.YtngjoconcgakpaaDoorEVD
set_option linter.unusedVariables false
set_option linter.unusedSimpArgs false
set_option linter.unusedSectionVars false
set_option linter.unnecessarySimpa false
namespace Go.Ev
open Go.RowKit

/-- The tables lie as they are given. -/
def Tab (tab : Nat → Nat → Option Value) (w : World) : Prop := ∀ g o v, tab g o = some v → w.cell? ⟨g, o, none⟩ = some v

theorem add_plain (b off i : Nat) : (⟨b, off, none⟩ : Addr).add i = ⟨b, off + i, none⟩ := by unfold Addr.add; split <;> simp_all

theorem run_isAgg {P : Program} {t : TypeId} {g : Bool} (h : aggType P t = some g) (w : World) : (isAgg t).run P w = .ok g w := by
  unfold aggType at h
  cases hu : undA P t with
  | none => simp [hu] at h
  | some d =>
    simp only [isAgg, Sem.run_bind, run_underlying (und_of hu), Result.andThen_ok]
    rw [hu] at h
    cases d <;> simp at h <;> subst h <;> rfl

theorem run_info {P : Program} {t : TypeId} {i : TypeInfo} (h : P.info? t = some i) (w : World) : (typeInfo t).run P w = .ok i w := by
  simp [typeInfo, h]

theorem run_sizeT {P : Program} {t : TypeId} {n : Nat} (h : sizeT P t = some n) (w : World) : (sizeOf t).run P w = .ok n w := by
  unfold sizeT at h
  cases hi : infoA P t with
  | none => simp [hi] at h
  | some i => simp [hi] at h; subst h; simp [sizeOf, run_info (info_of hi)]

theorem run_zeroT {P : Program} {t : TypeId} {z : Value} (h : zeroT P t = some z) (w : World) : (zeroValue t).run P w = .ok z w := by
  unfold zeroT at h
  cases hi : infoA P t with
  | none => simp [hi] at h
  | some i => simp [hi] at h; simp [zeroValue, run_info (info_of hi), h]

theorem cut_spec {xs ys : List AV} {off n : Nat} (h : cut xs off n = some ys) : ys.length = n ∧ ∀ j, j < n → ys[j]? = xs[off + j]? := by
  unfold cut at h
  simp only at h
  split at h
  · rename_i e
    cases h
    have hl := Nat.eq_of_beq_eq_true e
    refine ⟨hl, fun j hj => ?_⟩
    rw [List.getElem?_take, if_pos hj, List.getElem?_drop]
  · cases h

theorem cell_of_block {lo : Nat} {ρ : Env} {h : AHeap} {nxt : Nat} {w : World} (r : Rep lo ρ h nxt w) {n : Nat} {b : ABlock} (hn : hcells h n = some b) {j : Nat} {x : AV} (hj : b.cells[j]? = some x) :
    w.cell? ⟨ρ.σ n, j, none⟩ = some (x.den ρ) := by
  obtain ⟨hn, hk⟩ := hcells_get hn
  obtain ⟨arr, e, rest, h1, h2, -⟩ := r.cells hn hk
  have hl : j < b.cells.length := (List.getElem?_eq_some_iff.1 hj).1
  have : arr.toList[j]? = some (x.den ρ) := by
    rw [h2, List.getElem?_append_left (by rw [denL_length]; exact hl), denL_map, List.getElem?_map, hj]
    rfl
  simpa [World.cell?, h1] using this

theorem tabCells_spec {tab : Nat → Nat → Option Value} {w : World} (ht : Tab tab w) (ρ : Env) (g : Nat) : ∀ {n o : Nat} {xs : List AV}, tabCells tab g o n = some xs →
    xs.length = n ∧ ∀ j x, xs[j]? = some x → w.cell? ⟨g, o + j, none⟩ = some (x.den ρ)
  | 0, o, xs, h => by simp [tabCells] at h; subst h; simp
  | n + 1, o, xs, h => by
    unfold tabCells at h
    split at h
    · rename_i v vs hv hvs
      cases h
      obtain ⟨hl, hc⟩ := tabCells_spec ht ρ g hvs
      refine ⟨by simp [hl], fun j x hj => ?_⟩
      cases j with
      | zero => simp at hj; subst hj; simpa [AV.den] using ht g o v hv
      | succ j => have := hc j x (by simpa using hj); rwa [show o + 1 + j = o + (j + 1) by omega] at this
    · cases h

theorem run_whole {P : Program} {t : TypeId} {g : Bool} {size : Nat} (hg : aggType P t = some g) (hs : sizeT P t = some size) {xs : List AV} {v : AV} (ρ : Env) (w : World) (b off : Nat)
    (hl : xs.length = (width g size)) (hc : ∀ j x, xs[j]? = some x → w.cell? ⟨b, off + j, none⟩ = some (x.den ρ)) (hv : whole g xs = some v) :
    (loadVar t ⟨b, off, none⟩).run P w = .ok (v.den ρ) w := by
  cases g with
  | true =>
    simp only [whole, Option.some.injEq] at hv
    subst hv
    simp only [width] at hl
    have hL := run_loadCells_list (P := P) w ⟨b, off, none⟩ (AV.denL ρ xs) (fun j u hj => by
      rw [denL_map, List.getElem?_map] at hj
      cases hx : xs[j]? with
      | none => simp [hx] at hj
      | some x => simp [hx] at hj; subst hj; rw [add_plain]; exact hc j x hx)
    rw [denL_length, hl] at hL
    simp [loadVar, run_isAgg hg, run_sizeT hs, hL, mkAgg_den]
  | false =>
    simp only [width] at hl
    match xs, hl, hv with
    | [x], _, hv =>
      simp only [whole, Option.some.injEq] at hv
      subst hv
      have := hc 0 x rfl
      simp only [Nat.add_zero] at this
      simp [loadVar, run_isAgg hg, this]

theorem aload_sound {C : Ctx} {lo : Nat} {ρ : Env} {h : AHeap} {nxt : Nat} {w : World} (r : Rep lo ρ h nxt w) (ht : Tab C.tab w) {t : TypeId} {x v : AV} (hv : aload C h t x = some v) :
    ∃ a, x.den ρ = .pointer (some a) ∧ (loadVar t a).run C.P w = .ok (v.den ρ) w := by
  unfold aload at hv
  split at hv
  · rename_i g size hg hs
    split at hv
    · rename_i b off
      split at hv
      · rename_i blk hb
        cases hc : cut blk.cells off (width g size) with
        | none => simp [hc] at hv
        | some ys =>
          simp [hc] at hv
          obtain ⟨hl, hy⟩ := cut_spec hc
          refine ⟨⟨ρ.σ b, off, none⟩, by simp [AV.den], run_whole hg hs ρ w _ _ hl (fun j x hj => ?_) hv⟩
          have hj' : j < ys.length := (List.getElem?_eq_some_iff.1 hj).1
          rw [hy j (by omega)] at hj
          exact cell_of_block r hb hj
      · cases hv
    · rename_i b off
      cases hc : tabCells C.tab b off (width g size) with
      | none => simp [hc] at hv
      | some ys =>
        simp [hc] at hv
        obtain ⟨hl, hy⟩ := tabCells_spec ht ρ b hc
        exact ⟨⟨b, off, none⟩, by simp [AV.den], run_whole hg hs ρ w _ _ hl hy hv⟩
    · cases hv
  · cases hv

theorem oneCell_den (ρ : Env) {x : AV} (h : oneCell x = true) : (x.den ρ).oneCell' = true := by
  cases x <;> simp [oneCell] at h <;> first | rfl | skip
  rename_i v
  cases v <;> simp at h <;> rfl

theorem patch_spec {xs ys zs : List AV} {off : Nat} (h : patch xs ys off = some zs) : off + ys.length ≤ xs.length ∧ zs = xs.take off ++ ys ++ xs.drop (off + ys.length) := by
  unfold patch at h
  split at h
  · rename_i e; cases h; exact ⟨Nat.le_of_ble_eq_true e, rfl⟩
  · cases h

theorem astore_sound {C : Ctx} {lo : Nat} {ρ : Env} {h h' : AHeap} {nxt low : Nat} {w : World} (r : Rep lo ρ h nxt w) {t : TypeId} {x v : AV} (hs : astore C h nxt t x v = some (h', low)) :
    ∃ a w', x.den ρ = .pointer (some a) ∧ (storeVar t a (v.den ρ)).run C.P w = .ok () w' ∧ Rep lo ρ h' nxt w' ∧ Post ρ ρ h h' nxt nxt low w w' := by
  unfold astore at hs
  simp only at hs
  split at hs
  · rename_i b off size hsz hall
    simp only [Bool.and_eq_true, List.all_eq_true] at hall
    split at hs
    · rename_i blk hb hlen
      split at hs
      · rename_i cs hp
        rw [spine_eq, hputK_eq] at hs
        cases hs
        obtain ⟨hfit, hcs⟩ := patch_spec hp
        obtain ⟨hb, hbk⟩ := hcells_get hb
        obtain ⟨arr, e, rest, h1, h2, h3⟩ := r.cells hb hbk
        have hal : arr.size = blk.cells.length + rest.length := by rw [← Array.length_toList, h2, List.length_append, denL_length]
        have hyl : (cellsOf v).length = size := Nat.eq_of_beq_eq_true hlen
        have hst := run_storeCells_at C.P (ρ.σ low) off e (AV.denL ρ (cellsOf v)) 0 arr w h1 (by rw [denL_length]; omega) (fun u hu => by
          rw [denL_map, List.mem_map] at hu
          obtain ⟨y, hy, rfl⟩ := hu
          exact oneCell_den ρ (hall.1 y hy))
        have hnew : (arr.toList.take off ++ AV.denL ρ (cellsOf v) ++ arr.toList.drop (off + (cellsOf v).length)) = AV.denL ρ cs ++ rest := by
          rw [hcs, h2, denL_append, denL_append, List.take_append_of_le_length (by rw [denL_length]; omega), List.drop_append_of_le_length (by rw [denL_length]; omega)]
          simp [denL_map, List.append_assoc]
        simp only [Nat.add_zero, denL_length] at hst
        rw [hnew] at hst
        refine ⟨⟨ρ.σ low, off, none⟩, w.setRow (ρ.σ low) (AV.denL ρ cs ++ rest).toArray, by simp [AV.den], ?_, ?_⟩
        · have e1 : (v.den ρ).cells.toList = AV.denL ρ (cellsOf v) := (cellsOf_den ρ v).symm
          simp only [storeVar, Sem.run_bind, run_sizeT hsz, Result.andThen_ok, cellsOf_size, hyl, ne_eq, not_true_eq_false, if_false, e1]
          exact hst
        · refine rep_put r hb cs ?_ _ rfl rfl rfl (by simp) (fun k hk => setRow_other w _ k _ hk) (AV.denL ρ cs ++ rest).toArray e rest (setRow_heap w _ arr _ e _ h1) (by simp) ?_
          · rw [hcs]
            have hcb := (r.scope low blk hb).2
            rw [okL_iff] at hcb ⊢
            intro y hy
            simp only [List.mem_append] at hy
            rcases hy with (hy | hy) | hy
            · exact hcb y (List.mem_of_mem_take hy)
            · exact (okL_iff _ _).1 hall.2 y hy
            · exact hcb y (List.mem_of_mem_drop hy)
          · have hcl : cs.length = blk.cells.length := by rw [hcs]; simp; omega
            revert h3
            cases blk.opn with
            | none => exact id
            | some k => intro h3; simp only [List.size_toArray, List.length_append, denL_length, hcl]; omega
      · cases hs
    · cases hs
  · cases hs

end Go.Ev
