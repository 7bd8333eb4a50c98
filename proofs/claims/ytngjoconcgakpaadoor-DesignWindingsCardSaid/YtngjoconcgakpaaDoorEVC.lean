/- Running the program's functions on values that are known in part: plain facts. -/
import Derived.Test.YtngjoconcgakpaaDoorEVB
set_option linter.unusedVariables false
set_option linter.unusedSimpArgs false
set_option linter.unusedSectionVars false
set_option linter.unnecessarySimpa false
namespace Go.Ev
open Go.RowKit

theorem denL_map (ρ : Env) : ∀ xs : List AV, AV.denL ρ xs = xs.map (AV.den ρ)
  | [] => by simp [AV.denL]
  | x :: xs => by simp [AV.denL, denL_map ρ xs]

theorem denL_length (ρ : Env) (xs : List AV) : (AV.denL ρ xs).length = xs.length := by simp [denL_map]
theorem denL_append (ρ : Env) (xs ys : List AV) : AV.denL ρ (xs ++ ys) = AV.denL ρ xs ++ AV.denL ρ ys := by simp [denL_map]

theorem withinL_iff (p : Nat → Bool) : ∀ xs : List AV, AV.withinL p xs = true ↔ ∀ x ∈ xs, x.within p = true
  | [] => by simp [AV.withinL]
  | x :: xs => by simp [AV.withinL, withinL_iff p xs]

theorem okL_iff (m : Nat) (xs : List AV) : AV.okL m xs = true ↔ ∀ x ∈ xs, x.ok m = true := withinL_iff _ xs

mutual
theorem den_within {ρ ρ' : Env} {p : Nat → Bool} (h : ∀ n, p n = true → ρ'.σ n = ρ.σ n ∧ ρ'.kk n = ρ.kk n) : ∀ x : AV, x.within p = true → x.den ρ' = x.den ρ
  | .pure v, _ => by simp [AV.den]
  | .ptr n o, k => by simp [AV.den, h n (by simpa [AV.within] using k)]
  | .sl n o l c, k => by simp [AV.den, h n (by simpa [AV.within] using k)]
  | .slx n o l c, k => by simp [AV.den, h n (by simpa [AV.within] using k)]
  | .yld n, k => by simp [AV.den, h n (by simpa [AV.within] using k)]
  | .bsl n o l c, k => by simp [AV.den, h n (by simpa [AV.within] using k)]
  | .bslx n o l c, k => by simp [AV.den, h n (by simpa [AV.within] using k)]
  | .bptr n o, k => by simp [AV.den, h n (by simpa [AV.within] using k)]
  | .any n, k => by simp [AV.den, h n (by simpa [AV.within] using k)]
  | .agg xs, k => by
    have k' : AV.withinL p xs = true := by simpa [AV.within] using k
    simp [AV.den, denL_within h xs k']
  | .tuple xs, k => by
    have k' : AV.withinL p xs = true := by simpa [AV.within] using k
    simp [AV.den, denL_within h xs k']
  | .func f xs ys, k => by
    have k' : AV.withinL p xs = true ∧ AV.withinL p ys = true := by simpa [AV.within] using k
    simp [AV.den, denL_within h xs k'.1, denL_within h ys k'.2]
theorem denL_within {ρ ρ' : Env} {p : Nat → Bool} (h : ∀ n, p n = true → ρ'.σ n = ρ.σ n ∧ ρ'.kk n = ρ.kk n) : ∀ xs : List AV, AV.withinL p xs = true → AV.denL ρ' xs = AV.denL ρ xs
  | [], _ => by simp [AV.denL]
  | x :: xs, k => by
    have k' : x.within p = true ∧ AV.withinL p xs = true := by simpa [AV.withinL] using k
    simp [AV.denL, den_within h x k'.1, denL_within h xs k'.2]
end

theorem den_agree {ρ ρ' : Env} {m : Nat} (h : ∀ n, n < m → ρ'.σ n = ρ.σ n ∧ ρ'.kk n = ρ.kk n) (x : AV) (k : x.ok m = true) : x.den ρ' = x.den ρ :=
  den_within (fun n hn => h n (by simpa [Nat.blt_eq] using hn)) x k
theorem denL_agree {ρ ρ' : Env} {m : Nat} (h : ∀ n, n < m → ρ'.σ n = ρ.σ n ∧ ρ'.kk n = ρ.kk n) (xs : List AV) (k : AV.okL m xs = true) : AV.denL ρ' xs = AV.denL ρ xs :=
  denL_within (fun n hn => h n (by simpa [Nat.blt_eq] using hn)) xs k

mutual
theorem within_mono {p q : Nat → Bool} (h : ∀ n, p n = true → q n = true) : ∀ x : AV, x.within p = true → x.within q = true
  | .pure v, _ => by simp [AV.within]
  | .ptr n o, k => by simpa [AV.within] using h n (by simpa [AV.within] using k)
  | .sl n o l c, k => by simpa [AV.within] using h n (by simpa [AV.within] using k)
  | .slx n o l c, k => by simpa [AV.within] using h n (by simpa [AV.within] using k)
  | .yld n, k => by simpa [AV.within] using h n (by simpa [AV.within] using k)
  | .bsl n o l c, k => by simpa [AV.within] using h n (by simpa [AV.within] using k)
  | .bslx n o l c, k => by simpa [AV.within] using h n (by simpa [AV.within] using k)
  | .bptr n o, k => by simpa [AV.within] using h n (by simpa [AV.within] using k)
  | .any n, k => by simpa [AV.within] using h n (by simpa [AV.within] using k)
  | .agg xs, k => by
    have k' : AV.withinL p xs = true := by simpa [AV.within] using k
    simpa [AV.within] using withinL_mono h xs k'
  | .tuple xs, k => by
    have k' : AV.withinL p xs = true := by simpa [AV.within] using k
    simpa [AV.within] using withinL_mono h xs k'
  | .func f xs ys, k => by
    have k' : AV.withinL p xs = true ∧ AV.withinL p ys = true := by simpa [AV.within] using k
    simp [AV.within, withinL_mono h xs k'.1, withinL_mono h ys k'.2]
theorem withinL_mono {p q : Nat → Bool} (h : ∀ n, p n = true → q n = true) : ∀ xs : List AV, AV.withinL p xs = true → AV.withinL q xs = true
  | [], _ => by simp [AV.withinL]
  | x :: xs, k => by
    have k' : x.within p = true ∧ AV.withinL p xs = true := by simpa [AV.withinL] using k
    simp [AV.withinL, within_mono h x k'.1, withinL_mono h xs k'.2]
end

mutual
theorem within_and {p q : Nat → Bool} : ∀ x : AV, x.within p = true → x.within q = true → x.within (fun n => p n && q n) = true
  | .pure v, _, _ => by simp [AV.within]
  | .ptr n o, k, l => by simp_all [AV.within]
  | .sl n o l c, k, l' => by simp_all [AV.within]
  | .slx n o l c, k, l' => by simp_all [AV.within]
  | .yld n, k, l' => by simp_all [AV.within]
  | .bsl n o l c, k, l' => by simp_all [AV.within]
  | .bslx n o l c, k, l' => by simp_all [AV.within]
  | .bptr n o, k, l' => by simp_all [AV.within]
  | .any n, k, l' => by simp_all [AV.within]
  | .agg xs, k, l => by
    have k' : AV.withinL p xs = true := by simpa [AV.within] using k
    have l' : AV.withinL q xs = true := by simpa [AV.within] using l
    simpa [AV.within] using withinL_and xs k' l'
  | .tuple xs, k, l => by
    have k' : AV.withinL p xs = true := by simpa [AV.within] using k
    have l' : AV.withinL q xs = true := by simpa [AV.within] using l
    simpa [AV.within] using withinL_and xs k' l'
  | .func f xs ys, k, l => by
    have k' : AV.withinL p xs = true ∧ AV.withinL p ys = true := by simpa [AV.within] using k
    have l' : AV.withinL q xs = true ∧ AV.withinL q ys = true := by simpa [AV.within] using l
    simp [AV.within, withinL_and xs k'.1 l'.1, withinL_and ys k'.2 l'.2]
theorem withinL_and {p q : Nat → Bool} : ∀ xs : List AV, AV.withinL p xs = true → AV.withinL q xs = true → AV.withinL (fun n => p n && q n) xs = true
  | [], _, _ => by simp [AV.withinL]
  | x :: xs, k, l => by
    have k' : x.within p = true ∧ AV.withinL p xs = true := by simpa [AV.withinL] using k
    have l' : x.within q = true ∧ AV.withinL q xs = true := by simpa [AV.withinL] using l
    simp only [AV.withinL, Bool.and_eq_true]
    exact ⟨within_and x k'.1 l'.1, withinL_and xs k'.2 l'.2⟩
end

theorem ok_mono {m m' : Nat} (h : m ≤ m') (x : AV) (k : x.ok m = true) : x.ok m' = true :=
  within_mono (fun n hn => by have : n < m := by simpa [Nat.blt_eq] using hn
                              simp [Nat.blt_eq]; omega) x k
theorem okL_mono {m m' : Nat} (h : m ≤ m') (xs : List AV) (k : AV.okL m xs = true) : AV.okL m' xs = true :=
  withinL_mono (fun n hn => by have : n < m := by simpa [Nat.blt_eq] using hn
                               simp [Nat.blt_eq]; omega) xs k

theorem pures_den (ρ : Env) : ∀ {xs : List AV} {vs : List Value}, pures xs = some vs → AV.denL ρ xs = vs
  | [], vs, h => by simp [pures] at h; subst h; rfl
  | x :: xs, vs, h => by
    cases x <;> simp [pures] at h
    obtain ⟨us, hu, rfl⟩ := h
    simp [AV.denL, AV.den, pures_den ρ hu]

theorem mkAgg_den (ρ : Env) (xs : List AV) : (mkAgg xs).den ρ = .agg (AV.denL ρ xs).toArray := by
  unfold mkAgg
  split
  · rename_i vs h; simp [AV.den, pures_den ρ h]
  · simp [AV.den]
theorem mkTuple_den (ρ : Env) (xs : List AV) : (mkTuple xs).den ρ = .tuple (AV.denL ρ xs).toArray := by
  unfold mkTuple
  split
  · rename_i vs h; simp [AV.den, pures_den ρ h]
  · simp [AV.den]
theorem mkFunc_den (ρ : Env) (f : Fn) (xs ys : List AV) : (mkFunc f xs ys).den ρ = .func f (AV.denL ρ xs).toArray (AV.denL ρ ys).toArray := by
  unfold mkFunc
  split
  · rename_i us vs h k; simp [AV.den, pures_den ρ h, pures_den ρ k]
  · simp [AV.den]

theorem denL_pure (ρ : Env) (vs : List Value) : AV.denL ρ (vs.map .pure) = vs := by
  induction vs with
  | nil => rfl
  | cons v vs ih => simp [AV.denL, AV.den, ih]

theorem cellsOf_den (ρ : Env) (x : AV) : AV.denL ρ (cellsOf x) = (x.den ρ).cells.toList := by
  cases x with
  | any n =>
    simp only [cellsOf, AV.den, AV.denL]
    rw [(ρ.kk n).any.2]
  | _ => simp [cellsOf, AV.den, AV.denL, Value.cells, denL_pure]

theorem cellsOf_size (ρ : Env) (x : AV) : (x.den ρ).cells.size = (cellsOf x).length := by
  rw [← Array.length_toList, ← cellsOf_den, denL_length]

theorem still_run {P : Program} {α : Type} {s : Sem α} {a : α} (h : still P s = some a) (w : World) : s.run P w = .ok a w := by
  induction s with
  | pure b => simp [still] at h; subst h; rfl
  | program k ih => exact ih _ (by simpa [still] using h)
  | mark m k ih => exact ih (by simpa [still] using h)
  | _ => simp [still] at h

theorem isPure_den {ρ : Env} {x : AV} (h : isPure x = true) : ∃ v, x = .pure v ∧ x.den ρ = v := by
  cases x <;> simp [isPure] at h
  exact ⟨_, rfl, by simp [AV.den]⟩

theorem listGet_eq {α : Type} : ∀ (xs : List α) (n : Nat), listGet xs n = xs[n]?
  | [], _ => by simp [listGet]
  | x :: _, 0 => rfl
  | x :: xs, n + 1 => by
    have h : listGet (x :: xs) (n + 1) = listGet xs n := rfl
    rw [h, listGet_eq xs n]; simp

theorem withNat_eq {α : Type} (n : Nat) (k : Nat → α) : withNat n k = k n := by cases n <;> rfl
theorem forceVal_eq {α : Type} (v : Value) (k : Value → α) : forceVal v k = k v := by cases v <;> rfl
theorem forceV_eq {α : Type} (x : AV) (k : AV → α) : forceV x k = k x := by
  cases x <;> simp [forceV, withNat_eq, forceVal_eq]

theorem spine_eq {α : Type} : ∀ (xs : List AV) (k : List AV → Option α), spine xs k = k xs
  | [], k => rfl
  | x :: xs, k => spine_eq xs fun ys => k (x :: ys)

theorem setK_eq {α : Type} : ∀ (xs : List AV) (n : Nat) (v : AV) (k : List AV → Option α), setK xs n v k = k (xs.set n v)
  | [], _, _, k => rfl
  | x :: xs, 0, v, k => rfl
  | x :: xs, n + 1, v, k => setK_eq xs n v fun ys => k (x :: ys)

theorem setTK_eq {α : Type} (tm : List AV) (dst : Option Tmp) (v : AV) (k : List AV → Option α) : setTK tm dst v k = k (setT tm dst v) := by
  cases dst
  · rfl
  · exact setK_eq _ _ _ _

theorem hputK_eq {α : Type} : ∀ (h : AHeap) (n : Nat) (b : ABlock) (k : AHeap → Option α), hputK h n b k = k (hput h n b)
  | [], n, b, k => rfl
  | (m, c) :: h, n, b, k => by
    have := hputK_eq h n b fun h => k ((m, c) :: h)
    show (match Nat.beq m n with | true => k ((n, b) :: h) | false => hputK h n b fun h => k ((m, c) :: h)) = _
    unfold hput
    cases Nat.beq m n
    · exact this
    · rfl

theorem slot_eq (tmps : List AV) (t : Nat) : slot tmps t = tmps.getD t (.pure undef) := by
  unfold slot
  rw [listGet_eq, List.getD_eq_getElem?_getD]
  cases tmps[t]? <;> rfl

theorem getD_den (ρ : Env) (tmps : List AV) (t : Nat) : (slot tmps t).den ρ = (AV.denL ρ tmps).getD t undef := by
  rw [slot_eq]
  simp [denL_map, List.getD_eq_getElem?_getD]
  cases tmps[t]? <;> simp [AV.den]

theorem info_of {P : Program} {t : TypeId} {i : TypeInfo} (h : infoA P t = some i) : P.info? t = some i := by
  unfold infoA at h
  rw [listGet_eq] at h
  have hl : t < P.types.size := by
    have := (List.getElem?_eq_some_iff.1 h).1
    simpa using this
  unfold Tables.info?
  rw [if_pos hl]
  simpa using h

theorem und_of {P : Program} {t : TypeId} {d : TypeDesc} (h : undA P t = some d) : P.underlying t = some d := by
  unfold undA at h
  unfold Program.underlying
  split at h
  · rename_i i hi
    rw [info_of hi]
    obtain ⟨desc, a, b, c, d', e, f, g, k, l⟩ := i
    simp only at h ⊢
    split at h
    · rename_i s u
      split at h
      · rename_i j hj
        simp only [Option.some.injEq] at h
        subst h
        simp [info_of hj]
      · cases h
    · rename_i d'' hne
      cases desc <;> simp_all
  · cases h

theorem aeval_den (ρ : Env) (tmps : List AV) (ds : List Deferred) (x : Operand) : (⟨(AV.denL ρ tmps).toArray, ds⟩ : Act).eval x = (aeval tmps x).den ρ := by
  cases x <;> simp [aeval, Act.eval, AV.den]
  rename_i t
  have := getD_den ρ tmps t
  simp [List.getD_eq_getElem?_getD] at this
  simp [this]

/-! ### What is equal -/
theorem run_part_ext (P : Program) {t : TypeId} {xs : Array Value} {off : Nat} {a : Value} (h : still P (part t xs off) = some a) (w : World) : (part t xs off).run P w = .ok a w := still_run h w

theorem aeqFields_sound {P : Program} {E : TypeId → Value → Value → Option Bool} {d : Nat} (hE : ∀ t x y b, E t x y = some b → ∀ w, (Op.equalIn d t x y).run P w = .ok b w) (xs ys : Array Value) :
    ∀ (fs : List Field) (b : Bool), aeqFields E P xs ys fs = some b → ∀ w, (Op.eqFields d xs ys fs).run P w = .ok b w
  | [], b, h, w => by simp [aeqFields] at h; subst h; simp [Op.eqFields]
  | f :: fs, b, h, w => by
    unfold aeqFields at h
    unfold Op.eqFields
    split at h
    · rename_i hn
      have hn : f.name = "_" := by simpa using hn
      simp only [hn, ne_eq, not_true_eq_false, if_false]
      exact aeqFields_sound hE xs ys fs b h w
    · rename_i hn
      have hn : f.name ≠ "_" := by simpa using hn
      simp only [ne_eq, hn, not_false_eq_true, if_true]
      split at h
      · rename_i u v hu hv
        split at h
        · rename_i r c hr hc
          simp only [Option.some.injEq] at h
          subst h
          simp only [Sem.run_bind, still_run hu, still_run hv, Result.andThen_ok, hE _ _ _ _ hr w]
          cases r
          · simp
          · simpa using aeqFields_sound hE xs ys fs c hc w
        · cases h
      · cases h

theorem aeqItems_sound {P : Program} {E : TypeId → Value → Value → Option Bool} {d : Nat} (hE : ∀ t x y b, E t x y = some b → ∀ w, (Op.equalIn d t x y).run P w = .ok b w) (e : TypeId) (size : Nat) (xs ys : Array Value) :
    ∀ (is : List Nat) (b : Bool), aeqItems E P e size xs ys is = some b → ∀ w, (Op.eqItems d e size xs ys is).run P w = .ok b w
  | [], b, h, w => by simp [aeqItems] at h; subst h; simp [Op.eqItems]
  | i :: is, b, h, w => by
    unfold aeqItems at h
    unfold Op.eqItems
    split at h
    · rename_i u v hu hv
      split at h
      · rename_i r c hr hc
        simp only [Option.some.injEq] at h
        subst h
        simp only [Sem.run_bind, still_run hu, still_run hv, Result.andThen_ok, hE _ _ _ _ hr w]
        cases r
        · simp
        · simpa using aeqItems_sound hE e size xs ys is c hc w
      · cases h
    · cases h

theorem aeq_sound {P : Program} : ∀ (n : Nat) (t : TypeId) (x y : Value) (b : Bool), aeq P n t x y = some b → ∀ m, n ≤ m → ∀ w, (Op.equalIn m t x y).run P w = .ok b w
  | 0, _, _, _, _, h, _, _, _ => by simp [aeq] at h
  | n + 1, t, x, y, b, h, m, hm, w => by
    obtain ⟨m, rfl⟩ : ∃ k, m = k + 1 := ⟨m - 1, by omega⟩
    have hE : ∀ t x y b, aeq P n t x y = some b → ∀ w, (Op.equalIn m t x y).run P w = .ok b w := fun t x y b h w => aeq_sound n t x y b h m (by omega) w
    unfold aeq at h
    split at h
    · rename_i hu
      split at h
      · simp only [Option.some.injEq] at h; subst h
        simp [Op.equalIn, run_underlying (und_of hu)]
      · cases h
    · rename_i hu
      split at h
      · split at h
        · rename_i hk
          have hk := of_decide_eq_true hk
          simp only [Option.some.injEq] at h; subst h; subst hk
          simp [Op.equalIn, run_underlying (und_of hu)]
        · cases h
      · cases h
    · rename_i hu
      split at h
      · simp only [Option.some.injEq] at h; subst h
        simp [Op.equalIn, run_underlying (und_of hu)]
      · cases h
    · rename_i fs hu
      split at h
      · rename_i xs ys
        split at h
        · rename_i hs
          have hf : P.fieldsOf t = fs := by unfold Program.fieldsOf; rw [und_of hu]
          rw [run_equalIn_struct w m t xs ys (by rw [hf]; exact und_of hu) hs, hf]
          exact aeqFields_sound hE xs ys _ b h w
        · cases h
      · cases h
    · rename_i k e hu
      split at h
      · rename_i xs ys
        split at h
        · rename_i size hs
          have hi : ∃ i, P.info? e = some i ∧ P.cellsOf e = size := by
            unfold sizeT at hs
            split at hs
            · rename_i i hi
              simp only [Option.some.injEq] at hs
              exact ⟨i, info_of hi, by unfold Program.cellsOf; rw [info_of hi]; exact hs⟩
            · cases hs
          obtain ⟨i, hi, hc⟩ := hi
          rw [run_equalIn_array w m xs ys (und_of hu) hi, hc]
          exact aeqItems_sound hE e size xs ys _ b h w
        · cases h
      · cases h
    · cases h

theorem aeqTop_sound {P : Program} {t : TypeId} {xs ys : Array Value} {b : Bool} (h : aeqTop P t xs ys = some b) (x y : Operand) (w : World) :
    (do eqGuard .eql t x y (.agg xs) (.agg ys); binOp .eql t (.agg xs) (.agg ys)).run P w = .ok (.bool b) w ∧
    (do eqGuard .neq t x y (.agg xs) (.agg ys); binOp .neq t (.agg xs) (.agg ys)).run P w = .ok (.bool (!b)) w := by
  unfold aeqTop at h
  split at h
  · rename_i hg
    have he := aeq_sound 12 t _ _ b h 10000 (by omega) w
    simp only [Sem.run_bind, run_eqGuard_agg w _ t x y xs ys hg, Result.andThen_ok, run_eql_struct, run_neq_struct, he]
    exact ⟨trivial, trivial⟩
  · cases h

/-! ### Heaps -/
theorem hcells_get {h : AHeap} {n : Nat} {b : ABlock} (e : hcells h n = some b) : hget h n = some b ∧ b.kind = .cells := by
  unfold hcells at e
  split at e
  · rename_i c hc
    split at e
    · rename_i hk
      cases e
      exact ⟨hc, hk⟩
    · cases e
  · cases e

theorem setMany_eq {α : Type} : ∀ (ps : List (Tmp × AV)) (tm : List AV) (k : List AV → Option α), setMany tm ps k = k (ps.foldl (fun tm p => tm.set p.1 p.2) tm)
  | [], tm, k => rfl
  | (t, v) :: ps, tm, k => by simp only [setMany, setK_eq, setMany_eq ps, List.foldl_cons]

theorem hget_cons (n m : Nat) (b : ABlock) (h : AHeap) : hget ((m, b) :: h) n = if m = n then some b else hget h n := by
  show (match Nat.beq m n with | true => some b | false => hget h n) = _
  cases e : Nat.beq m n
  · have : m ≠ n := by intro k; subst k; simp at e
    simp [this]
  · have : m = n := Nat.eq_of_beq_eq_true e
    simp [this]

theorem hget_put (n m : Nat) (b : ABlock) : ∀ h : AHeap, hget (hput h n b) m = if n = m then some b else hget h m
  | [] => by simp [hput, hget_cons, hget]
  | (k, c) :: h => by
    unfold hput
    cases e : Nat.beq k n
    · have hk : k ≠ n := by intro k; subst k; simp at e
      simp only [hget_cons, hget_put n m b h]
      by_cases h1 : k = m <;> by_cases h2 : n = m <;> simp [h1, h2]
      exact absurd (h1.trans h2.symm) hk
    · have hk : k = n := Nat.eq_of_beq_eq_true e
      subst hk
      simp only [hget_cons]
      by_cases h1 : k = m <;> simp [h1]

theorem hget_del (n m : Nat) : ∀ h : AHeap, hget (hdel h n) m = if n = m then none else hget h m
  | [] => by simp [hdel, hget]
  | (k, c) :: h => by
    unfold hdel
    cases e : Nat.beq k n
    · have hk : k ≠ n := by intro k; subst k; simp at e
      simp only [hget_cons, hget_del n m h]
      by_cases h1 : k = m <;> by_cases h2 : n = m <;> simp [h1, h2]
      exact absurd (h1.trans h2.symm) hk
    · have hk : k = n := Nat.eq_of_beq_eq_true e
      subst hk
      simp only [hget_cons, hget_del k m h]
      by_cases h1 : k = m <;> simp [h1]

theorem hget_from (m n : Nat) : ∀ h : AHeap, hget (hfrom h m) n = if n < m then none else hget h n
  | [] => by simp [hfrom, hget]
  | (k, c) :: h => by
    unfold hfrom
    cases e : Nat.blt k m
    · have hk : ¬ k < m := by intro hk; rw [← Nat.blt_eq] at hk; simp [hk] at e
      simp only [hget_cons, hget_from m n h]
      by_cases h1 : k = n <;> by_cases h2 : n < m <;> simp [h1, h2]
      omega
    · have hk : k < m := by simpa [Nat.blt_eq] using e
      simp only [hget_cons, hget_from m n h]
      by_cases h1 : k = n <;> by_cases h2 : n < m <;> simp [h1, h2]
      omega

theorem hget_below (m n : Nat) : ∀ h : AHeap, hget (hbelow h m) n = if n < m then hget h n else none
  | [] => by simp [hbelow, hget]
  | (k, c) :: h => by
    unfold hbelow
    cases e : Nat.blt k m
    · have hk : ¬ k < m := by intro hk; rw [← Nat.blt_eq] at hk; simp [hk] at e
      simp only [hget_cons, hget_below m n h]
      by_cases h1 : k = n <;> by_cases h2 : n < m <;> simp [h1, h2]
      omega
    · have hk : k < m := by simpa [Nat.blt_eq] using e
      simp only [hget_cons, hget_below m n h]
      by_cases h1 : k = n <;> by_cases h2 : n < m <;> simp [h1, h2]
      omega

theorem hget_append (n : Nat) (k : AHeap) : ∀ h : AHeap, hget (h ++ k) n = match hget h n with | some b => some b | none => hget k n
  | [] => by simp [hget]
  | (m, c) :: h => by
    simp only [List.cons_append, hget_cons, hget_append n k h]
    by_cases h1 : m = n <;> simp [h1]

end Go.Ev
