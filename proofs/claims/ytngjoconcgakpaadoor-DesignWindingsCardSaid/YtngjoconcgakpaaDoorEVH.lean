/- Running the program's functions on values that are known in part: what is reckoned of an operation is what it does. -/
import Derived.Test.YtngjoconcgakpaaDoorEVAP
import Derived.Laws.BytesString
set_option linter.unusedVariables false
set_option linter.unusedSimpArgs false
set_option linter.unusedSectionVars false
set_option linter.unnecessarySimpa false
namespace Go.Ev
open Go.RowKit

section
variable {C : Ctx} {e : Operand → Value} {lo : Nat} {ρ : Env} {s : St} {r : Res} {w : World}

theorem mem_get {x : Operand} {xs : Array Operand} {i : Nat} (h : xs[i]? = some x) : x ∈ xs := Array.mem_of_getElem? h

theorem map_den_parts (ρ : Env) (tmps : List AV) (parts : Array (Nat × Operand)) (he : ∀ x ∈ (parts.toList.map (·.2)), e x = (aeval tmps x).den ρ) :
    (parts.map fun p => (p.1, e p.2)).toList = (parts.toList.map fun p => (p.1, aeval tmps p.2)).map fun p => (p.1, p.2.den ρ) := by
  rw [Array.toList_map, List.map_map]
  apply List.map_congr_left
  intro p hp
  simp [he p.2 (List.mem_map_of_mem hp)]

theorem map_den_list (ρ : Env) (tmps : List AV) (xs : Array Operand) (he : ∀ x ∈ xs.toList, e x = (aeval tmps x).den ρ) : xs.map e = (AV.denL ρ (xs.toList.map (aeval tmps))).toArray := by
  apply Array.ext'
  simp only [Array.toList_map, denL_map, List.map_map]
  apply List.map_congr_left
  intro x hx
  simp [he x hx]

theorem operand_map_den (ρ : Env) (tmps : List AV) (x : Option Operand) (he : ∀ y, x = some y → e y = (aeval tmps y).den ρ) : x.map e = (x.map (aeval tmps)).map (AV.den ρ) := by
  cases x with
  | none => rfl
  | some y => simp [he y rfl]

theorem push_all (ns : List Int) : ∀ b : ByteArray, ns.foldl (fun r n => r.push (UInt8.ofNat n.toNat)) b = ⟨b.data ++ (ns.map fun n => UInt8.ofNat n.toNat).toArray⟩ := by
  induction ns with
  | nil => intro b; simp
  | cons n ns ih =>
    intro b
    rw [List.foldl_cons, ih]
    simp [ByteArray.push]

theorem byteList_spec (ρ : Env) : ∀ {ys : List AV} {ns : List Int}, byteList ys = some ns → AV.denL ρ ys = ns.map (Value.int .u8)
  | [], ns, h => by simp [byteList] at h; subst h; rfl
  | x :: xs, ns, h => by
    unfold byteList at h
    split at h
    · split at h
      · rename_i n ms hm
        cases h
        simp [AV.denL, AV.den, byteList_spec ρ hm]
      · cases h
    · cases h

theorem string_sound (hr : Rep lo ρ s.heap s.nxt w) {b off len cap : Nat} (h : opString s b off len = some r) :
    ∃ v, quiet s v = some r ∧ (Conv.bytesToString (.slice (some ⟨ρ.σ b, off, none⟩) len cap)).run C.P w = .ok (v.den ρ) w := by
  unfold opString at h
  split at h
  · rename_i blk hb
    split at h
    · rename_i ys hc
      split at h
      · rename_i ns hn
        refine ⟨_, h, ?_⟩
        obtain ⟨hl, hy⟩ := cut_spec hc
        have hL := run_loadCells_list (P := C.P) w ⟨ρ.σ b, off, none⟩ (AV.denL ρ ys) (fun j u hj => by
          rw [denL_map, List.getElem?_map] at hj
          cases hx : ys[j]? with
          | none => simp [hx] at hj
          | some x =>
            simp [hx] at hj; subst hj; rw [add_plain]
            have hj' : j < ys.length := (List.getElem?_eq_some_iff.1 hx).1
            rw [hy j (by omega)] at hx
            exact cell_of_block hr hb hx)
        rw [denL_length, hl, byteList_spec ρ hn] at hL
        rw [run_bytesToString w _ len cap ns hL, push_all]
        simp [AV.den, bytesOf, ByteArray.empty, ByteArray.emptyWithCapacity, Function.comp_def]
        rfl
      · cases h
    · cases h
  · cases h

theorem newCells_spec (hr : Rep lo ρ s.heap s.nxt w) {P : Program} {size : Nat} {y : AV} {ys : List AV} {n : Nat} (h : newCells s.heap size y = some (ys, n)) : Gives P size (y.den ρ) n (AV.denL ρ ys) w ∧ ys.length = n * size := by
  have blk : ∀ {b off len cap : Nat} {bk : ABlock} {zs : List AV}, hcells s.heap b = some bk → cut bk.cells off (len * size) = some zs → Gives P size (.slice (some ⟨ρ.σ b, off, none⟩) len cap) len (AV.denL ρ zs) w ∧ zs.length = len * size := by
    intro b off len cap bk zs hb hc
    obtain ⟨hl, hy⟩ := cut_spec hc
    have hcell : ∀ j v, (AV.denL ρ zs)[j]? = some v → w.cell? ((⟨ρ.σ b, off, none⟩ : Addr).add j) = some v := fun j v hj => by
      rw [denL_map, List.getElem?_map] at hj
      cases hx : zs[j]? with
      | none => simp [hx] at hj
      | some q =>
        simp [hx] at hj; subst hj; rw [add_plain]
        have hj' : j < zs.length := (List.getElem?_eq_some_iff.1 hx).1
        rw [hy j (by omega)] at hx
        exact cell_of_block hr hb hx
    exact ⟨⟨by simp [Builtin.lenOf], run_firstCells_some w size len _ len cap _ (by rw [denL_length, hl]) hcell, run_firstCells_some w.drew size len _ len cap _ (by rw [denL_length, hl]) (by simpa using hcell)⟩, hl⟩
  unfold newCells at h
  split at h
  · split at h
    · rename_i bk hb
      split at h
      · rename_i zs hc
        cases h
        simp only [AV.den]
        exact blk hb hc
      · cases h
    · cases h
  · split at h
    · rename_i bk hb
      split at h
      · rename_i zs hc
        cases h
        simp only [AV.den]
        exact blk hb hc
      · cases h
    · cases h
  · split at h
    · cases h
      refine ⟨⟨?_, ?_, ?_⟩, by simp⟩ <;> simp [AV.den, Builtin.lenOf, Builtin.firstCells, AV.denL]
    · cases h
  · rename_i st
    split at h
    · rename_i e1
      have e1 := Nat.eq_of_beq_eq_true e1
      cases h
      subst e1
      have hx : ∀ w : World, (Builtin.firstCells 1 st.data.toList.length (.string st)).run P w = .ok (AV.denL ρ (st.data.toList.map (fun b => .pure (.int .u8 b.toNat)))).toArray w := fun w => by
        simp only [Builtin.firstCells, Sem.run_pure, denL_map, List.map_map]
        have : st.extract 0 st.data.toList.length = st := by
          apply ByteArray.ext
          simp [ByteArray.data_extract]
        rw [this]
        congr 1
        apply Array.ext'
        simp [AV.den]
      exact ⟨⟨by simp [AV.den, Builtin.lenOf], hx w, hx w.drew⟩, by simp⟩
    · cases h
  · cases h

theorem opCall_sound {o : Oper} (c : Call) (hop : o.op = .call c) (hr : Rep lo ρ s.heap s.nxt w) (hlo : lo ≤ w.heap.size) (he : ∀ x ∈ o.op.operands, e x = (aeval s.tmps x).den ρ) (h : opCall C s c = some r) :
    Does C.P e o lo ρ s r w := by
  obtain ⟨dst, op, type, pos, after, guard⟩ := o
  simp only at hop
  subst hop
  unfold opCall at h
  split at h
  · rename_i hcal
    unfold opAppend at h
    split at h
    · rename_i x y t u hargs htys
      have ha : c.args = #[x, y] := by rw [← Array.toArray_toList (xs := c.args), hargs]
      have hty : c.argTypes = #[t, u] := by rw [← Array.toArray_toList (xs := c.argTypes), htys]
      have hx := he x (by simp [Op.operands, Call.operands, ha])
      have hyy := he y (by simp [Op.operands, Call.operands, ha])
      split at h
      · rename_i et du hut huu
        split at h
        · rename_i i hdu hi
          split at h
          · rename_i z hz
            split at h
            · rename_i ys n hzs hnc
              obtain ⟨hg, hl⟩ := newCells_spec hr (P := C.P) hnc
              obtain ⟨ρ', w', hrun, r1, p1⟩ := appTo_sound (ty := type) hr hlo (und_of hut) (und_of huu) hdu (info_of hi) hz (Nat.eq_of_beq_eq_true hzs) hg hl h
              refine ⟨ρ', w', .inl ?_, r1, p1⟩
              simp [execOp, resolve, hcal, invoke, builtin, ha, hty, hx, hyy, hrun]
            · cases h
          · cases h
        · cases h
      · cases h
    · cases h
  · unfold opLen at h
    split at h
    · rename_i hcal
      split at h
      · rename_i x t hargs htys
        have ha : c.args = #[x] := by rw [← Array.toArray_toList (xs := c.args), hargs]
        have hy : c.argTypes = #[t] := by rw [← Array.toArray_toList (xs := c.argTypes), htys]
        have hx := he x (by simp [Op.operands, Call.operands, ha])
        split at h
        · rename_i et b off len cap hu hv
          refine does_quiet hr h ?_
          rw [hv] at hx
          simp [execOp, resolve, hcal, invoke, builtin, ha, hy, hx, AV.den, Builtin.len_, run_underlying (und_of hu), goInt]
        · rename_i et b off len cap hu hv
          refine does_quiet hr h ?_
          rw [hv] at hx
          simp [execOp, resolve, hcal, invoke, builtin, ha, hy, hx, AV.den, Builtin.len_, run_underlying (und_of hu), goInt]
        · rename_i et b off len cap hu hv
          refine does_quiet hr h ?_
          rw [hv] at hx
          simp [execOp, resolve, hcal, invoke, builtin, ha, hy, hx, AV.den, Builtin.len_, run_underlying (und_of hu), goInt]
        · rename_i et b off len sub hu hv
          refine does_quiet hr h ?_
          rw [hv] at hx
          simp [execOp, resolve, hcal, invoke, builtin, ha, hy, hx, AV.den, Builtin.len_, run_underlying (und_of hu), goInt]
        · cases h
      · cases h
    · cases h

theorem equal_step {P : Program} {t : TypeId} {X Y : Value} {b : Bool} {w : World} (h : ∀ d, (Op.equalIn (d + 1) t X Y).run P w = .ok b w) : (Op.equal t X Y).run P w = .ok b w := h 9999

theorem run_nilPair {P : Program} {t : TypeId} {d : TypeDesc} (ht : P.underlying t = some d) {x y : AV} (h : nilPair d x y = true) (ρ : Env) (w : World) (a b : Operand) :
    (do eqGuard .eql t a b (x.den ρ) (y.den ρ); binOp .eql t (x.den ρ) (y.den ρ)).run P w = .ok (.bool false) w ∧
    (do eqGuard .neq t a b (x.den ρ) (y.den ρ); binOp .neq t (x.den ρ) (y.den ρ)).run P w = .ok (.bool true) w := by
  have key : ∀ {X Y : Value}, (∀ d, (Op.equalIn (d + 1) t X Y).run P w = .ok false w) → (∀ op, (eqGuard op t a b X Y).run P w = .ok () w) →
      binOp .eql t X Y = (do pure (.bool (← Op.equal t X Y))) → binOp .neq t X Y = (do pure (.bool (!(← Op.equal t X Y)))) →
      (do eqGuard .eql t a b X Y; binOp .eql t X Y).run P w = .ok (.bool false) w ∧ (do eqGuard .neq t a b X Y; binOp .neq t X Y).run P w = .ok (.bool true) w := fun h1 h2 h3 h4 => by
    rw [h3, h4]
    simp only [Sem.run_bind, h2, Result.andThen_ok, equal_step h1, Sem.run_pure, Bool.not_false]
    exact ⟨trivial, trivial⟩
  unfold nilPair at h
  split at h <;> (try (split at h)) <;> first
    | (cases h; done)
    | (simp only [AV.den]
       refine key (fun d => ?_) (fun op => ?_) rfl rfl
       · simp [Op.equalIn, run_underlying ht]
       · cases op <;> simp [eqGuard])

theorem own_sound (o : Oper) (hr : Rep lo ρ s.heap s.nxt w) (hlo : lo ≤ w.heap.size) (ht : Tab C.tab w) (he : ∀ x ∈ o.op.operands, e x = (aeval s.tmps x).den ρ) (h : aopOwn C s o = some r) :
    Does C.P e o lo ρ s r w := by
  obtain ⟨dst, op, type, pos, after, guard⟩ := o
  cases op <;> simp only [aopOwn, opAlloc, opBuild, opBuildSlice, opLoad, opStore, opNil, opExtract, opField, opFieldAddr, opIndexAddr, opMakeSlice, opConvert] at h <;> try (cases h; done)
  case move x =>
    exact does_quiet hr h (by simp [execOp, he x (by simp [Op.operands])])
  case assign x =>
    exact does_quiet hr h (by simp [execOp, he x (by simp [Op.operands])])
  case alloc et =>
    split at h
    · rename_i z hz
      refine does_fresh hr hlo h et z.cells (by rw [denL_pure]) ?_
      simp [execOp, Instr.alloc, run_zeroT hz, newVar, run_newRow, with_ptr]
    · cases h
  case box et x =>
    have hx := he x (by simp [Op.operands])
    refine does_fresh hr hlo h et ((aeval s.tmps x).den ρ).cells (by rw [cellsOf_den]) ?_
    simp [execOp, Instr.box, newVar, run_newRow, with_ptr, hx]
  case build t parts =>
    split at h
    · rename_i v hv
      obtain ⟨cells, hc, hd⟩ := abuild_spec C.P ρ hv
      refine does_quiet hr h ?_
      have hp := map_den_parts (e := e) ρ s.tmps parts (fun x hx => he x (by simpa [Op.operands] using hx))
      rw [← hp] at hc
      simp [execOp, run_build w t _ cells hc, hd]
    · cases h
  case buildSlice t len parts =>
    split at h
    · rename_i et hu
      split at h
      · rename_i size z hsz hz
        split at h
        · rename_i hb
          simp only [Bool.and_eq_true] at hb
          obtain ⟨hb1, hb2⟩ := hb
          have hb1 := ble_le hb1
          have hb2 := Nat.eq_of_beq_eq_true hb2
          split at h
          · rename_i cs hcs
            refine does_fresh hr hlo h et (AV.denL ρ cs).toArray (by simp) ?_
            have hf := afill_spec ρ hcs
            rw [zeros_den, ← made_cells z.cells len size hb2] at hf
            have hp := map_den_parts (e := e) ρ s.tmps parts (fun x hx => he x (by simpa [Op.operands] using hx))
            rw [← hp] at hf
            have hno : ¬ (len * size > 2 ^ 24) := by omega
            by_cases h0 : len * size = 0
            · have hr0 : Array.range (len * size) = #[] := by rw [h0]; rfl
              rw [hr0] at hf
              simp only [execOp, Instr.buildSlice, Sem.run_bind, run_underlying (und_of hu), Result.andThen_ok, run_sizeT hsz, if_neg hno, if_pos h0, Sem.run_pure, hr0, with_sl, Array.map_empty] at hf ⊢
              simp only [hf, run_newRow, Result.andThen_ok, Sem.run_bind, Sem.run_pure]
            · simp only [execOp, Instr.buildSlice, Sem.run_bind, run_underlying (und_of hu), Result.andThen_ok, run_sizeT hsz, if_neg hno, if_neg h0, run_zeroT hz, Sem.run_pure, hf, run_newRow, with_sl]
          · cases h
        · cases h
      · cases h
    · cases h
  case load t a =>
    split at h
    · rename_i v hv
      obtain ⟨ad, hx, hl⟩ := aload_sound hr ht hv
      refine does_quiet hr h ?_
      simp [execOp, Instr.loadAt, Instr.sureAddr, he a (by simp [Op.operands]), hx, hl]
    · cases h
  case store t a x =>
    split at h
    · rename_i h' low hst
      obtain ⟨ad, w', hx, hl, hr', hp⟩ := astore_sound hr hst
      simp only [Option.some.injEq] at h
      subst h
      refine ⟨ρ, w', .inr ⟨?_, by simp [AV.den]⟩, hr', hp.low_le (Nat.min_le_left _ _)⟩
      simp [execOp, Instr.storeAt, Instr.sureAddr, he a (by simp [Op.operands]), he x (by simp [Op.operands]), hx, hl]
    · cases h
  case nilCheck x =>
    have hx := he x (by simp [Op.operands])
    split at h
    · rename_i b off hv
      refine does_quiet hr h ?_
      rw [hv] at hx
      simp [execOp, hx, AV.den]
    · rename_i f xs ys hv
      refine does_quiet hr h ?_
      rw [hv] at hx
      simp [execOp, hx, AV.den]
    · cases h
  case makeFunc fn xs ys =>
    refine does_quiet hr h ?_
    rw [mkFunc_den]
    simp [execOp, Instr.makeFunc, map_den_list (e := e) ρ s.tmps xs (fun x hx => he x (by simp [Op.operands]; exact .inl (by simpa using hx))), map_den_list (e := e) ρ s.tmps ys (fun x hx => he x (by simp [Op.operands]; exact .inr (by simpa using hx)))]
  case extract x i =>
    have hx := he x (by simp [Op.operands])
    split at h
    · rename_i xs hv
      split at h
      · rename_i v hi
        refine does_quiet hr h ?_
        rw [hv] at hx
        rw [listGet_eq] at hi
        simp [execOp, Instr.extract, hx, AV.den, denL_map, hi]
      · cases h
    · cases h
  case field t x i =>
    have hx := he x (by simp [Op.operands])
    split at h
    · rename_i fs xs hu hv
      split at h
      · rename_i f hf
        rw [listGet_eq] at hf
        have hf : fs[i]? = some f := by simpa using hf
        split at h
        · rename_i g size hg hsz
          split at h
          · rename_i ys hc
            split at h
            · rename_i v hwv
              refine does_quiet hr h ?_
              rw [hv] at hx
              obtain ⟨hl, hy⟩ := cut_spec hc
              have hpart : (part f.type (AV.denL ρ xs).toArray f.offset).run C.P w = .ok (v.den ρ) w := by
                cases g with
                | true =>
                  simp only [whole, Option.some.injEq] at hwv
                  subst hwv
                  simp only [width] at hl hy
                  simp only [part, Sem.run_bind, run_isAgg hg, Result.andThen_ok, if_true, run_sizeT hsz, Sem.run_pure, mkAgg_den]
                  congr 2
                  apply Array.ext'
                  apply List.ext_getElem?
                  intro j
                  simp only [Array.toList_extract, List.extract_eq_take_drop]
                  by_cases hj : j < size
                  · rw [List.getElem?_take, if_pos (by omega), List.getElem?_drop, denL_map, denL_map, List.getElem?_map, List.getElem?_map, hy j hj]
                  · rw [List.getElem?_take, if_neg (by omega), List.getElem?_eq_none (by rw [denL_length]; omega)]
                | false =>
                  simp only [width] at hl hy
                  match ys, hl, hwv with
                  | [y], _, hwv =>
                    simp only [whole, Option.some.injEq] at hwv
                    subst hwv
                    have := hy 0 (by omega)
                    simp only [List.getElem?_cons_zero, Nat.add_zero] at this
                    simp [part, run_isAgg hg, denL_map, ← this]
              simp [execOp, Instr.field, run_underlying (und_of hu), hf, hx, AV.den, asAgg, hpart]
            · cases h
          · cases h
        · cases h
      · cases h
    · cases h
  case fieldAddr t x i =>
    have hx := he x (by simp [Op.operands])
    split at h
    · rename_i fs b off hu hv
      split at h
      · rename_i f hf
        rw [listGet_eq] at hf
        have hf : fs[i]? = some f := by simpa using hf
        split at h
        · rename_i k hsz
          refine does_quiet hr h ?_
          rw [hv] at hx
          simp [execOp, Instr.fieldAt, run_underlying (und_of hu), hf, hx, AV.den, Instr.sureAddr, fieldPlace, run_sizeT hsz, add_plain]
        · cases h
      · cases h
    · cases h
  case indexAddr t x ix =>
    have hx := he x (by simp [Op.operands])
    have hix := he ix (by simp [Op.operands])
    split at h
    · rename_i v hv
      rw [hv] at hix
      split at h
      · rename_i i n et b off hi hu hxv
        obtain ⟨k, rfl⟩ := natOf_spec hi
        split at h
        · rename_i size hsz hlt
          have hlt := blt_lt hlt
          refine does_quiet hr h ?_
          rw [hxv] at hx
          have hb : (0 : Int) ≤ (i : Int) ∧ (i : Int) < (n : Int) := by omega
          simp [execOp, Instr.indexAt, hx, hix, AV.den, asIntOf, run_underlying (und_of hu), Instr.sureAddr, hlt, run_sizeT hsz, add_plain]
        · cases h
      · rename_i i et b off len cap hi hu hxv
        obtain ⟨k, rfl⟩ := natOf_spec hi
        split at h
        · rename_i size hsz hlt
          have hlt := blt_lt hlt
          refine does_quiet hr h ?_
          rw [hxv] at hx
          simp [execOp, Instr.indexAt, hx, hix, AV.den, asIntOf, run_underlying (und_of hu), hlt, run_sizeT hsz, add_plain]
        · cases h
      · rename_i i et b off len sub hi hu hxv
        obtain ⟨k, rfl⟩ := natOf_spec hi
        split at h
        · rename_i size hsz hlt
          have hlt := blt_lt hlt
          refine does_quiet hr h ?_
          rw [hxv] at hx
          simp [execOp, Instr.indexAt, hx, hix, AV.den, asIntOf, run_underlying (und_of hu), hlt, run_sizeT hsz, add_plain]
        · cases h
      · cases h
    · cases h
  case slice t x l hh m =>
    have hx := he x (by simp [Op.operands])
    obtain ⟨v, hq, hv⟩ := aslice_sound hr h
    refine does_quiet hr hq ?_
    rw [← hx, ← operand_map_den (e := e) ρ s.tmps l (fun y hy => he y (by subst hy; simp [Op.operands])), ← operand_map_den (e := e) ρ s.tmps hh (fun y hy => he y (by subst hy; simp [Op.operands])),
      ← operand_map_den (e := e) ρ s.tmps m (fun y hy => he y (by subst hy; simp [Op.operands]))] at hv
    simp [execOp, hv]
  case makeSlice t len cap =>
    have h1 := he len (by simp [Op.operands])
    have h2 := he cap (by simp [Op.operands])
    split at h
    · rename_i a b et ha hb hu
      rw [ha] at h1
      rw [hb] at h2
      split at h
      · rename_i l c i hl hc hi
        obtain ⟨k1, rfl⟩ := natOf_spec hl
        obtain ⟨k2, rfl⟩ := natOf_spec hc
        split at h
        · rename_i z hz hb
          simp only [Bool.and_eq_true] at hb
          obtain ⟨⟨hb1, hb2⟩, hb3⟩ := hb
          have hb1 := ble_le hb1
          have hb2 := ble_le hb2
          have hb3 := ble_le hb3
          split at h
          · rename_i hzs
            have hzs := Nat.eq_of_beq_eq_true hzs
            refine does_fresh hr hlo h et ((List.replicate c z.cells.toList).flatten).toArray (by rw [zeros_den]) ?_
            have hbi : (i.bytes : Int) * (c : Int) ≤ 281474976710656 := by
              have h1 : ((i.bytes * c : Nat) : Int) ≤ (140737488355328 : Nat) := Int.ofNat_le.2 hb2
              rw [Int.natCast_mul] at h1
              omega
            have hm := run_make (P := C.P) w t et i z (und_of hu) (info_of hi) hz k1 k2 (l : Int) (c : Int) (by omega) (by omega) hbi (by omega)
            have hmc : madeCells z.cells ((c : Int).toNat * i.size) = ((List.replicate c z.cells.toList).flatten).toArray := by
              rw [← made_cells z.cells c i.size hzs]; rfl
            rw [hmc] at hm
            simp only [AV.den] at h1 h2
            simp only [execOp, h1, h2, Sem.run_bind, hm, Result.andThen_ok, Sem.run_pure, with_sl, Int.toNat_natCast, World.alloc]
          · cases h
        · cases h
      · cases h
    · cases h
  case convert src dst x =>
    have hx := he x (by simp [Op.operands])
    split at h
    · rename_i et hu hd
      split at h
      · rename_i b off len cap hue hv
        obtain ⟨v, hq, hv'⟩ := string_sound (C := C) (cap := cap) hr h
        refine does_quiet hr hq ?_
        rw [hv] at hx
        simp only [execOp, Sem.run_bind, hx, AV.den, run_convert_bytes_string w src dst et _ _ _ (und_of hu) (und_of hue) (und_of hd), hv', Result.andThen_ok, Sem.run_pure]
      · rename_i b off len sub hue hv
        obtain ⟨v, hq, hv'⟩ := string_sound (C := C) (cap := (ρ.kk b).cap - sub) hr h
        refine does_quiet hr hq ?_
        rw [hv] at hx
        simp only [execOp, Sem.run_bind, hx, AV.den, run_convert_bytes_string w src dst et _ _ _ (und_of hu) (und_of hue) (und_of hd), hv', Result.andThen_ok, Sem.run_pure]
      · cases h
    · cases h
  case call c => exact opCall_sound c rfl hr hlo he h
  case binOp op t x y t2 =>
    have hx := he x (by simp [Op.operands])
    have hy := he y (by simp [Op.operands])
    unfold opNilEq at h
    split at h
    · rename_i d hd
      split at h
      · rename_i hn
        obtain ⟨h1, h2⟩ := run_nilPair (und_of hd) hn ρ w x y
        split at h
        · refine does_quiet hr h ?_
          simp only [execOp, hx, hy]
          rw [Sem.run_bind, h1]
          simp [AV.den, Result.andThen]
        · refine does_quiet hr h ?_
          simp only [execOp, hx, hy]
          rw [Sem.run_bind, h2]
          simp [AV.den, Result.andThen]
        · cases h
      · cases h
    · cases h

end
end Go.Ev
