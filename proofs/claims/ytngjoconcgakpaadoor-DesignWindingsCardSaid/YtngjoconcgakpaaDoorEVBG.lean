/- Running the program's functions on values that are known in part: blocks whose contents are not laid open. -/
import Derived.Test.YtngjoconcgakpaaDoorEVK
set_option linter.unusedVariables false
set_option linter.unusedSimpArgs false
set_option linter.unusedSectionVars false
set_option linter.unnecessarySimpa false
namespace Go.Ev
open Go.RowKit

section
variable {C : Ctx} {G : World → Prop} {w0 : World}

theorem fact_of {P : Prop} (h : fact P = true) : P := @of_decide_eq_true P (Classical.propDecidable P) h

theorem bigOf_spec {h : AHeap} {n : Nat} {L : List Value} {on : Option Nat} (e : bigOf h n = some (L, on)) : ∃ b, hget h n = some b ∧ b.kind = .big L ∧ b.opn = on := by
  unfold bigOf at e
  split at e
  · rename_i b hb
    split at e
    · rename_i M hk
      cases e
      exact ⟨b, hb, hk, rfl⟩
    · cases e
  · cases e

theorem Rep.big {lo : Nat} {ρ : Env} {h : AHeap} {nxt : Nat} {w : World} (r : Rep lo ρ h nxt w) {n : Nat} {L : List Value} {on : Option Nat} (e : bigOf h n = some (L, on)) :
    ∃ b arr ty rest, hget h n = some b ∧ b.opn = on ∧ w.heap[ρ.σ n]? = some (.cells arr ty (0, 0)) ∧ arr.toList = L ++ rest ∧ (match b.opn with | none => rest = [] | some k => arr.size = (ρ.kk n).cap * k) := by
  obtain ⟨b, hb, hk, hon⟩ := bigOf_spec e
  have := r.block n b hb
  unfold BlockOK at this
  rw [hk] at this
  obtain ⟨arr, ty, rest, h1, h2, h3⟩ := this
  exact ⟨b, arr, ty, rest, hb, hon, h1, h2, h3⟩

theorem big_cell {w : World} {k : Nat} {arr : Array Value} {ty : TypeId} {L rest : List Value} (h1 : w.heap[k]? = some (.cells arr ty (0, 0))) (h2 : arr.toList = L ++ rest) {j : Nat} {v : Value} (hj : L[j]? = some v) : w.cell? ⟨k, j, none⟩ = some v := by
  have hl : j < L.length := (List.getElem?_eq_some_iff.1 hj).1
  have : arr.toList[j]? = some v := by rw [h2, List.getElem?_append_left hl]; exact hj
  simpa [World.cell?, h1] using this

/-- An operation that leaves a value, and the world as it was. -/
theorem op_quiet {p : Oper} {s : St} {v : AV} {tm : List AV} {h : AHeap} {nx : Nat} {ora : List Bool} {rs rs' : Rs} {l : Log} (hs : s = ⟨tm, h, nx, ora, rs⟩) (hv : v.ok nx = true) (hfr : rs'.fr = rs.fr) (hd : isDefer p.op = false)
    (hrun : ∀ (ρ : Env) (a : Act) (w : World), (∀ x ∈ p.op.operands, a.eval x = (aeval tm x).den ρ) → Rep w0.heap.size ρ h nx w → (execOp a.eval p).run C.P w = .ok (.value (v.den ρ)) w) :
    OpOK C w0 p s ⟨.val v, ⟨tm, h, nx, ora, rs'⟩, nx, l⟩ := by
  subst hs
  refine ⟨v, rfl, hv, rfl, ⟨Nat.le_refl _, hfr⟩, fun rd ρ a w K Q he hr hb hE => wpIn_op hd ?_⟩
  rw [hrun ρ a w he hr, Oper.uponIn_value]
  exact hE ρ w hr (Post.refl hr _)

theorem bigIndex_ok {p : Oper} {t : TypeId} {x ix : Operand} (hp : p.op = .indexAddr t x ix) {s : St} {o : Out} (h : bigIndex C t (aeval s.tmps x) (aeval s.tmps ix) s = some o) (hl : Holds C G o.log) : OpOK C w0 p s o := by
  obtain ⟨tm, hh, nx, ora, rs⟩ := s
  unfold bigIndex at h
  simp only at h
  split at h
  · rename_i k i e hix hu
    split at h
    · rename_i size hsz
      have key : ∀ (n off len : Nat) (cap : Env → Nat), (∀ ρ, (aeval tm x).den ρ = .slice (some ⟨ρ.σ n, off, none⟩) len (cap ρ)) → Nat.blt n nx = true → outB tm hh nx ora rs (.bptr n (off + i.toNat * size)) nx (0 ≤ i ∧ i.toNat < len) = some o → OpOK C w0 p ⟨tm, hh, nx, ora, rs⟩ o := by
        intro n off len cap hx hn ho
        simp only [outB, Option.some.injEq] at ho
        subst ho
        obtain ⟨h0, h1⟩ := fact_of (hl.1 _ List.mem_cons_self)
        refine op_quiet rfl (by simpa [AV.ok, AV.within] using hn) rfl (by rw [hp]; rfl) fun ρ a w he hr => ?_
        have e1 := he x (by rw [hp]; simp [Op.operands])
        have e2 := he ix (by rw [hp]; simp [Op.operands])
        rw [hx] at e1
        rw [hix] at e2
        obtain ⟨dst, op, type, pos, after, guard⟩ := p
        simp only at hp
        subst hp
        obtain ⟨m, rfl⟩ := Int.eq_ofNat_of_zero_le h0
        simp only [AV.den] at e2
        simp only [execOp, e1, e2]
        have hb : (0 : Int) ≤ (m : Int) ∧ (m : Int) < (len : Int) := by simp at h1; omega
        simp at h1
        simp [Instr.indexAt, AV.den, asIntOf, run_underlying (und_of hu), Instr.sureAddr, h1, run_sizeT hsz, add_plain]
      split at h
      · rename_i n off len cap hx
        split at h
        · rename_i hn
          exact key n off len (fun _ => cap) (fun ρ => by rw [hx]; rfl) hn h
        · cases h
      · rename_i n off len sub hx
        split at h
        · rename_i hn
          exact key n off len (fun ρ => (ρ.kk n).cap - sub) (fun ρ => by rw [hx]; rfl) hn h
        · cases h
      · cases h
    · cases h
  · cases h

theorem pures_map (vs : List Value) : pures (vs.map .pure) = some vs := by
  induction vs with
  | nil => rfl
  | cons v vs ih => simp [pures, ih]

theorem pures_eq : ∀ {xs : List AV} {vs : List Value}, pures xs = some vs → xs = vs.map .pure
  | [], vs, h => by simp [pures] at h; subst h; rfl
  | x :: xs, vs, h => by
    cases x <;> simp [pures] at h
    obtain ⟨us, hu, rfl⟩ := h
    simp [pures_eq hu]

theorem bigLoad_ok {p : Oper} {t : TypeId} {x : Operand} (hp : p.op = .load t x) {s : St} {o : Out} (h : bigLoad C t (aeval s.tmps x) s = some o) (hl : Holds C G o.log) : OpOK C w0 p s o := by
  obtain ⟨tm, hh, nx, ora, rs⟩ := s
  obtain ⟨vals, fr⟩ := rs
  unfold bigLoad at h
  simp only at h
  split at h
  · rename_i n off v vals' hx
    have fin : ∀ {L : List Value} {on : Option Nat} {g : Bool} {size : Nat}, bigOf hh n = some (L, on) → aggType C.P t = some g → sizeT C.P t = some size →
        (∃ xs : List Value, xs.length = width g size ∧ (∀ (j : Nat) u, xs[j]? = some u → L[off + j]? = some u) ∧ whole g (xs.map .pure) = some (.pure v)) →
        ∀ P, OpOK C w0 p ⟨tm, hh, nx, ora, ⟨v :: vals', fr⟩⟩ ⟨.val (.pure v), ⟨tm, hh, nx, ora, ⟨vals', fr⟩⟩, nx, ⟨[(fact P, true)], []⟩⟩ := by
      intro L on g size hb hg hs ⟨xs, h1, h2, h3⟩ P
      refine op_quiet rfl (by simp [AV.ok, AV.within]) rfl (by rw [hp]; rfl) fun ρ a w he hr => ?_
      obtain ⟨b, arr, ty, rest, -, -, g1, g2, -⟩ := hr.big hb
      have e1 := he x (by rw [hp]; simp [Op.operands])
      rw [hx] at e1
      have hld := run_whole hg hs ρ w (ρ.σ n) off (xs := xs.map .pure) (by simpa using h1) (fun j y hj => by
        rw [List.getElem?_map] at hj
        cases hu : xs[j]? with
        | none => rw [hu] at hj; cases hj
        | some u =>
          rw [hu] at hj
          simp only [Option.map_some, Option.some.injEq] at hj
          subst hj
          exact big_cell g1 g2 (h2 j u hu)) h3
      obtain ⟨dst, op, type, pos, after, guard⟩ := p
      simp only at hp
      subst hp
      simp only [AV.den] at e1
      simp [execOp, Instr.loadAt, Instr.sureAddr, e1, hld]
    split at h
    · rename_i L on g size hb hg hs
      split at h
      · simp only [outB, Option.some.injEq] at h
        subst h
        have hf : L[off]? = some v := fact_of (hl.1 _ List.mem_cons_self)
        exact fin hb hg hs ⟨[v], rfl, fun j u hj => by
          cases j with
          | zero => simp at hj; subst hj; simpa using hf
          | succ j => simp at hj, rfl⟩ _
      · simp only [outB, Option.some.injEq] at h
        subst h
        obtain ⟨xs, rfl, h1, h2⟩ := fact_of (hl.1 _ List.mem_cons_self)
        exact fin hb hg hs ⟨xs.toList, by simpa [width] using h1, fun j u hj => by
          have hjl : j < size := by
            have := (List.getElem?_eq_some_iff.1 hj).1
            simp at this; omega
          rw [← h2, List.getElem?_take, if_pos hjl, List.getElem?_drop] at hj
          exact hj, by simp only [whole, mkAgg, pures_map]⟩ _
    · cases h
  · cases h

theorem bigStore_ok {p : Oper} {t : TypeId} {x y : Operand} (hp : p.op = .store t x y) {s : St} {o : Out} (h : bigStore C t (aeval s.tmps x) (aeval s.tmps y) s = some o) (hl : Holds C G o.log) : OpOK C w0 p s o := by
  obtain ⟨tm, hh, nx, ora, rs⟩ := s
  unfold bigStore at h
  simp only at h
  split at h
  · rename_i n off vs hx hvs
    split at h
    · rename_i L on size hb hs
      split at h
      · rename_i hc
        simp only [Bool.and_eq_true, List.all_eq_true] at hc
        obtain ⟨hc1, hc2⟩ := hc
        have hc1 := Nat.eq_of_beq_eq_true hc1
        rw [hputK_eq] at h
        simp only [outB, Option.some.injEq] at h
        subst h
        have hf : off + size ≤ L.length := fact_of (hl.1 _ List.mem_cons_self)
        refine ⟨.pure undef, rfl, by simp [AV.ok, AV.within], rfl, ⟨Nat.le_refl _, rfl⟩, fun rd ρ a w K Q he hr hbw hE => wpIn_op (by rw [hp]; rfl) ?_⟩
        obtain ⟨b, arr, ty, rest, hb0, hon, g1, g2, g3⟩ := hr.big hb
        have e1 := he x (by rw [hp]; simp [Op.operands])
        have e2 := he y (by rw [hp]; simp [Op.operands])
        rw [hx] at e1
        have hcv : ((aeval tm y).den ρ).cells.toList = vs := by rw [← cellsOf_den, pures_den ρ hvs]
        have hal : arr.size = L.length + rest.length := by rw [← Array.length_toList, g2, List.length_append]
        have hone' : ∀ u ∈ vs, u.oneCell' = true := fun u hu => by
          have : AV.pure u ∈ cellsOf (aeval tm y) := by
            have hx2 : cellsOf (aeval tm y) = vs.map .pure := by
              exact pures_eq hvs
            rw [hx2]; exact List.mem_map_of_mem hu
          exact oneCell_den ρ (hc2 _ this)
        have hst := run_storeCells_at C.P (ρ.σ n) off ty vs 0 arr w g1 (by omega) hone'
        have hnew : (arr.toList.take off ++ vs ++ arr.toList.drop (off + vs.length)) = splice L off vs ++ rest := by
          rw [splice, g2, List.take_append_of_le_length (by omega), List.drop_append_of_le_length (by omega)]
          simp [List.append_assoc]
        simp only [Nat.add_zero] at hst
        rw [hnew] at hst
        have hrun : (execOp a.eval p).run C.P w = .ok .skip (w.setRow (ρ.σ n) (splice L off vs ++ rest).toArray) := by
          obtain ⟨dst, op, type, pos, after, guard⟩ := p
          simp only at hp
          subst hp
          have hsz : ((aeval tm y).den ρ).cells.size = size := by rw [← Array.length_toList, hcv, hc1]
          have hsv : (storeVar t ⟨ρ.σ n, off, none⟩ ((aeval tm y).den ρ)).run C.P w = .ok () (w.setRow (ρ.σ n) (splice L off vs ++ rest).toArray) := by
            simp only [storeVar, Sem.run_bind, run_sizeT hs, Result.andThen_ok, hsz, ne_eq, not_true_eq_false, if_false, hcv]
            exact hst
          simp only [AV.den] at e1
          simp [execOp, Instr.storeAt, Instr.sureAddr, e1, e2, hsv]
        rw [hrun, Oper.uponIn_skip]
        obtain ⟨r1, p1⟩ := rep_putB hr hb0 ⟨[], on, .big (splice L off vs)⟩ rfl (w.setRow (ρ.σ n) (splice L off vs ++ rest).toArray) rfl rfl rfl (by simp) (fun k hk => setRow_other w _ k _ hk)
          ⟨(splice L off vs ++ rest).toArray, ty, rest, setRow_heap w _ arr _ ty _ g1, by simp, by
            rw [← hon]
            have hsl : (splice L off vs).length = L.length := by simp [splice]; omega
            revert g3
            cases b.opn with
            | none => exact id
            | some k => intro g3; simp only [List.size_toArray, List.length_append, hsl]; omega⟩
        have := hE ρ _ r1 (p1.low_le (Nat.min_le_left _ _))
        simpa [AV.den] using this
      · cases h
    · cases h
  · cases h

theorem manyZeros_eq (z : Array Value) (n size : Nat) (hz : z.size = size) : (manyZeros z.toList n).toArray = madeCells z (n * size) := by
  rw [manyZeros, ← made_cells z n size hz]; rfl

theorem bigMake_ok {p : Oper} {t : TypeId} {x y : Operand} (hp : p.op = .makeSlice t x y) {s : St} {o : Out} (h : bigMake C t (aeval s.tmps x) (aeval s.tmps y) s = some o) (hl : Holds C G o.log) : OpOK C w0 p s o := by
  obtain ⟨tm, hh, nx, ora, rs⟩ := s
  unfold bigMake at h
  simp only at h
  split at h
  · rename_i k l k2 c e hx hy hu
    split at h
    · rename_i i hi
      split at h
      · rename_i z hz
        split at h
        · rename_i hzs
          have hzs := Nat.eq_of_beq_eq_true hzs
          rw [withNat_eq] at h
          simp only [outB, Option.some.injEq] at h
          subst h
          obtain ⟨h0, h1, h2, h3⟩ : 0 ≤ l ∧ l ≤ c ∧ i.bytes * c.toNat ≤ 140737488355328 ∧ c.toNat ≤ 140737488355328 := fact_of (hl.1 _ List.mem_cons_self)
          refine ⟨.bsl nx 0 l.toNat c.toNat, rfl, by simp [AV.ok, AV.within, Nat.blt_eq], rfl, ⟨by simp, rfl⟩, fun rd ρ a w K Q he hr hbw hE => wpIn_op (by rw [hp]; rfl) ?_⟩
          have e1 := he x (by rw [hp]; simp [Op.operands])
          have e2 := he y (by rw [hp]; simp [Op.operands])
          rw [hx] at e1
          rw [hy] at e2
          simp only [AV.den] at e1 e2
          obtain ⟨l', rfl⟩ := Int.eq_ofNat_of_zero_le h0
          obtain ⟨c', rfl⟩ := Int.eq_ofNat_of_zero_le (show 0 ≤ c by omega)
          simp only [Int.toNat_natCast] at h2 h3
          have hbi : (i.bytes : Int) * (c' : Int) ≤ 281474976710656 := by
            have h1 : ((i.bytes * c' : Nat) : Int) ≤ (140737488355328 : Nat) := Int.ofNat_le.2 h2
            rw [Int.natCast_mul] at h1
            omega
          have hm := run_make (P := C.P) w t e i z (und_of hu) (info_of hi) hz k k2 (l' : Int) (c' : Int) (by omega) (by omega) hbi (by omega)
          have hmc : madeCells z.cells ((c' : Int).toNat * i.size) = (manyZeros z.cells.toList c').toArray := by
            rw [Int.toNat_natCast, manyZeros_eq z.cells c' i.size hzs]
          rw [hmc] at hm
          have hrun : (execOp a.eval p).run C.P w = .ok (.value (.slice (some ⟨w.heap.size, 0, none⟩) l' c')) (w.alloc (.cells (manyZeros z.cells.toList c').toArray e)) := by
            obtain ⟨dst, op, type, pos, after, guard⟩ := p
            simp only at hp
            subst hp
            simp only [execOp, e1, e2, Sem.run_bind, hm, Result.andThen_ok, Sem.run_pure, Int.toNat_natCast]
          rw [hrun, Oper.uponIn_value]
          obtain ⟨r1, p1⟩ := rep_newB hr hbw.size ⟨[], none, .big (manyZeros z.cells.toList c')⟩ rfl (.cells (manyZeros z.cells.toList c').toArray e) 0 ⟨_, e, [], rfl, by simp, rfl⟩
          have := hE _ _ r1 p1
          simpa [AV.den, Env.with_σ] using this
        · cases h
      · cases h
    · cases h
  · cases h

theorem bigNew_spec {lo : Nat} {ρ : Env} {h : AHeap} {nx : Nat} {w : World} (hr : Rep lo ρ h nx w) {P : Program} {size : Nat} {y : AV} {vs : List Value} {n : Nat} {p : Prop} (e : bigNew h size y = some (vs, n, p)) (hp : p) :
    Gives P size (y.den ρ) n vs w ∧ vs.length = n * size := by
  have blk : ∀ {b off len cap : Nat} {L : List Value} {on : Option Nat}, bigOf h b = some (L, on) → off + len * size ≤ L.length → Gives P size (.slice (some ⟨ρ.σ b, off, none⟩) len cap) len ((L.drop off).take (len * size)) w ∧ ((L.drop off).take (len * size)).length = len * size := by
    intro b off len cap L on hb hl
    obtain ⟨bk, arr, ty, rest, -, -, g1, g2, -⟩ := hr.big hb
    have hlen : ((L.drop off).take (len * size)).length = len * size := by simp; omega
    have hcell : ∀ j v, ((L.drop off).take (len * size))[j]? = some v → w.cell? ((⟨ρ.σ b, off, none⟩ : Addr).add j) = some v := fun j v hj => by
      rw [add_plain]
      have hj' : j < len * size := by have := (List.getElem?_eq_some_iff.1 hj).1; omega
      rw [List.getElem?_take, if_pos hj', List.getElem?_drop] at hj
      exact big_cell g1 g2 hj
    exact ⟨⟨by simp [Builtin.lenOf], run_firstCells_some w size len _ len cap _ hlen hcell, run_firstCells_some w.drew size len _ len cap _ hlen (by simpa using hcell)⟩, hlen⟩
  unfold bigNew at e
  split at e
  · split at e
    · rename_i L on hb
      cases e
      simp only [AV.den]
      exact blk hb hp
    · cases e
  · split at e
    · rename_i L on hb
      cases e
      simp only [AV.den]
      exact blk hb hp
    · cases e
  · split at e
    · rename_i ys m hnc
      split at e
      · rename_i us hus
        cases e
        obtain ⟨h1, h2⟩ := newCells_spec (s := ⟨[], h, nx, [], ⟨[], noFrame⟩⟩) hr (P := P) hnc
        rw [pures_den ρ hus] at h1
        refine ⟨h1, ?_⟩
        rw [← h2, pures_eq hus]; simp
      · cases e
    · cases e

/-- A new block with contents that are not laid open; some names forgotten. -/
theorem rep_appB {lo : Nat} {ρ : Env} {h h' : AHeap} {nxt : Nat} {w : World} (r : Rep lo ρ h nxt w) (hlo : lo ≤ w.heap.size) (hs : ∀ n b, hget h' n = some b → hget h n = some b) {low : Nat} (hk : ∀ n, n < low → n < nxt → hget h' n = hget h n)
    (L : List Value) (arr : Array Value) (e : TypeId) (rest : List Value) (k cap : Nat) (harr : arr.toList = L ++ rest) (ho : arr.size = cap * k) :
    Rep lo (ρ.with nxt w.heap.size cap) ((nxt, ⟨[], some k, .big L⟩) :: h') (nxt + 1) (w.drew.alloc (.cells arr e)) ∧
    Post ρ (ρ.with nxt w.heap.size cap) h ((nxt, ⟨[], some k, .big L⟩) :: h') nxt (nxt + 1) (Nat.min low nxt) w (w.drew.alloc (.cells arr e)) := by
  have r' := rep_forget r hs
  have r2 : Rep lo ρ h' nxt w.drew := ⟨r'.block, r'.inj, r'.scope, r'.above⟩
  obtain ⟨a, p⟩ := rep_newB r2 hlo ⟨[], some k, .big L⟩ rfl (.cells arr e) cap ⟨arr, e, rest, rfl, harr, ho⟩
  refine ⟨a, p.agree, p.le, p.os, p.tape, p.output, p.size, fun j hj _ => heap_push_old w.drew _ j hj, fun n b hn => ?_, fun n hl hx => ?_⟩
  · rcases p.fresh n b hn with ⟨m, c, hm, e1⟩ | h2
    · exact .inl ⟨m, c, hs m c hm, e1⟩
    · exact .inr h2
  · simp only [Nat.lt_min] at hl
    rw [hget_cons, if_neg (by omega)]
    exact hk n hl.1 hx

/-- A block under a new name, its contents not laid open, its rest written. -/
theorem rep_overB {lo : Nat} {ρ : Env} {h : AHeap} {nxt : Nat} {w : World} (r : Rep lo ρ h nxt w) {n : Nat} {b : ABlock} (hn : hget h n = some b) (L : List Value) (k cap : Nat)
    (w' : World) (hos : w'.os = w.os) (htape : w'.tape = w.tape) (hout : w'.output = w.output) (hsz : w'.heap.size = w.heap.size) (hfr : ∀ j, j ≠ ρ.σ n → w'.heap[j]? = w.heap[j]?)
    (arr' : Array Value) (e : TypeId) (rest : List Value) (hnew : w'.heap[ρ.σ n]? = some (.cells arr' e (0, 0))) (harr : arr'.toList = L ++ rest) (ho : arr'.size = cap * k) :
    Rep lo (ρ.with nxt (ρ.σ n) cap) ((nxt, ⟨[], some k, .big L⟩) :: hdel h n) (nxt + 1) w' ∧
    Post ρ (ρ.with nxt (ρ.σ n) cap) h ((nxt, ⟨[], some k, .big L⟩) :: hdel h n) nxt (nxt + 1) (Nat.min n nxt) w w' := by
  have hd : ∀ m c, hget (hdel h n) m = some c → m ≠ n ∧ hget h m = some c := fun m c hm => by
    rw [hget_del] at hm
    split at hm
    · cases hm
    · rename_i e; exact ⟨fun k => e k.symm, hm⟩
  have hx : ∀ m c, hget h m = some c → m < nxt := fun m c hm => (r.scope m c hm).1
  have ag : ∀ m, m < nxt → (ρ.with nxt (ρ.σ n) cap).σ m = ρ.σ m ∧ (ρ.with nxt (ρ.σ n) cap).kk m = ρ.kk m := fun m hm => Env.with_agree _ _ _ _ _ (by omega)
  refine ⟨⟨fun m c hm => ?_, fun m j c d hm hj e1 => ?_, fun m c hm => ?_, fun m c hm => ?_⟩, ⟨fun m hm => Env.with_agree _ _ _ _ _ (by omega), by omega, hos, htape, hout, by omega, fun j _ hne => hfr j (fun e => hne n b hn e.symm), fun m c hm => ?_, fun m hl hlt => ?_⟩⟩
  · rw [hget_cons] at hm
    split at hm
    · rename_i e'; subst e'
      cases hm
      exact ⟨arr', e, rest, by rw [Env.with_σ]; exact hnew, harr, by simpa [Env.with_κ] using ho⟩
    · obtain ⟨h1, h2⟩ := hd m c hm
      have lt := hx m c h2
      refine (r.block m c h2).agree (denL_agree ag c.cells (r.scope m c h2).2) (congrArg Kap.cap (ag m lt).2) ?_
      rw [(ag m lt).1]
      exact hfr _ (fun e => h1 (r.inj m n c b h2 hn e))
  · rw [hget_cons] at hm hj
    split at hm <;> split at hj
    · omega
    · rename_i e2 _; subst e2
      obtain ⟨h1, h2⟩ := hd j d hj
      rw [Env.with_σ, (ag j (hx j d h2)).1] at e1
      exact absurd (r.inj j n d b h2 hn e1.symm) h1
    · rename_i _ e2; subst e2
      obtain ⟨h1, h2⟩ := hd m c hm
      rw [Env.with_σ, (ag m (hx m c h2)).1] at e1
      exact absurd (r.inj m n c b h2 hn e1) h1
    · obtain ⟨-, h1⟩ := hd m c hm
      obtain ⟨-, h2⟩ := hd j d hj
      rw [(ag m (hx m c h1)).1, (ag j (hx j d h2)).1] at e1
      exact r.inj m j c d h1 h2 e1
  · rw [hget_cons] at hm
    split at hm
    · rename_i e'; subst e'
      cases hm
      exact ⟨by omega, rfl⟩
    · have := r.scope m c (hd m c hm).2
      exact ⟨by omega, okL_mono (by omega) _ this.2⟩
  · rw [hget_cons] at hm
    split at hm
    · rename_i e'; subst e'
      rw [Env.with_σ]; exact r.above n b hn
    · rw [(ag m (hx m c (hd m c hm).2)).1]; exact r.above m c (hd m c hm).2
  · rw [hget_cons] at hm
    split at hm
    · rename_i e'; subst e'
      exact .inl ⟨n, b, hn, by rw [Env.with_σ]⟩
    · exact .inl ⟨m, c, (hd m c hm).2, (ag m (hx m c (hd m c hm).2)).1⟩
  · simp only [Nat.lt_min] at hl
    rw [hget_cons, if_neg (by omega), hget_del, if_neg (by omega)]

/-- An operation that leaves a value under a new name. -/
theorem op_new {p : Oper} {tm : List AV} {h h' : AHeap} {nx low : Nat} {ora : List Bool} {rs : Rs} {v : AV} {l : Log} (hv : v.ok (nx + 1) = true) (hd : isDefer p.op = false)
    (hrun : ∀ (ρ : Env) (a : Act) (w : World), (∀ x ∈ p.op.operands, a.eval x = (aeval tm x).den ρ) → Rep w0.heap.size ρ h nx w → w0.heap.size ≤ w.heap.size →
      ∃ ρ' w', (execOp a.eval p).run C.P w = .ok (.value (v.den ρ')) w' ∧ Rep w0.heap.size ρ' h' (nx + 1) w' ∧ Post ρ ρ' h h' nx (nx + 1) low w w') :
    OpOK C w0 p ⟨tm, h, nx, ora, rs⟩ ⟨.val v, ⟨tm, h', nx + 1, ora, rs⟩, low, l⟩ := by
  refine ⟨v, rfl, hv, rfl, ⟨by simp, rfl⟩, fun rd ρ a w K Q he hr hb hE => wpIn_op hd ?_⟩
  obtain ⟨ρ', w', h1, h2, h3⟩ := hrun ρ a w he hr hb.size
  rw [h1, Oper.uponIn_value]
  exact hE ρ' w' h2 h3

theorem bigAppTo_ok {p : Oper} {c : Call} (hp : p.op = .call c) (hcal : c.callee = .builtin .append) {tm : List AV} {h : AHeap} {nx : Nat} {ora : List Bool} {rs : Rs} {x y : Operand} {t u e : TypeId} (ha : c.args = #[x, y]) (hty : c.argTypes = #[t, u])
    {du : TypeDesc} {i : TypeInfo} {z : Value} (ht : C.P.underlying t = some (.slice e)) (hu : C.P.underlying u = some du) (hdu : listLike du = true) (hi : C.P.info? e = some i) (hz : i.zero = some z) (hzs : z.cells.size = i.size)
    {vs : List Value} {n : Nat} {q : Prop} (hnew : bigNew h i.size (aeval tm y) = some (vs, n, q)) {o : Out} (ho : bigAppTo i.size i.bytes (aeval tm x) vs n q ⟨tm, h, nx, ora, rs⟩ = some o) (hl : Holds C G o.log) :
    OpOK C w0 p ⟨tm, h, nx, ora, rs⟩ o := by
  have hdf : isDefer p.op = false := by rw [hp]; rfl
  have hzl : ∀ k, (Builtin.zeroCells z.cells k).size = k * i.size := fun k => by rw [size_zeroCells, hzs]
  have hexec : ∀ (a : Act) (w : World) (ty : TypeId) {r : Value} {w' : World}, p.type = ty → (Builtin.append_ #[t, u] ty #[a.eval x, a.eval y]).run C.P w = .ok r w' → (execOp a.eval p).run C.P w = .ok (.value r) w' := fun a w ty r w' e1 h1 => by
    obtain ⟨dst, op, type, pos, after, guard⟩ := p
    simp only at hp e1
    subst hp
    subst e1
    simp [execOp, resolve, hcal, invoke, builtin, ha, hty, h1]
  have hops : ∀ {ρ : Env} {a : Act}, (∀ x ∈ p.op.operands, a.eval x = (aeval tm x).den ρ) → a.eval x = (aeval tm x).den ρ ∧ a.eval y = (aeval tm y).den ρ := fun he => ⟨he x (by rw [hp]; simp [Op.operands, Call.operands, ha]), he y (by rw [hp]; simp [Op.operands, Call.operands, ha])⟩
  unfold bigAppTo at ho
  simp only at ho
  split at ho
  · rename_i l0 c0 hx
    split at ho
    · rw [withNat_eq] at ho
      simp only [outB, Option.some.injEq] at ho
      subst ho
      obtain ⟨hq, h0, hb1, hb2⟩ : q ∧ 0 < n ∧ n * i.bytes ≤ 140737488355328 ∧ n ≤ 4611686018427387904 := fact_of (hl.1 _ List.mem_cons_self)
      refine op_new (by simp [AV.ok, AV.within, Nat.blt_eq]) hdf fun ρ a w he hr hlo => ?_
      obtain ⟨e1, e2⟩ := hops he
      obtain ⟨hg, hln⟩ := bigNew_spec hr (P := C.P) hnew hq
      have hrun := app_nil w t u p.type e du i z ht hu hdu hi hz _ n vs hg h0 (by omega) (by omega)
      obtain ⟨r1, p1⟩ := rep_appB hr hlo (h' := h) (fun _ _ h => h) (low := nx) (fun _ _ _ => rfl) vs (vs.toArray ++ Builtin.zeroCells z.cells (grownCap w n 0 e - n)) e (Builtin.zeroCells z.cells (grownCap w n 0 e - n)).toList i.size (grownCap w n 0 e) (by simp) (by
        have := grownCap_ge w n 0 e
        rw [Array.size_append, hzl, List.size_toArray, hln, ← Nat.add_mul]
        congr 1; omega)
      refine ⟨_, _, hexec a w p.type rfl ?_, r1, p1.low_of fun m h1 h2 => by simp only [Nat.lt_min]; omega⟩
      rw [e1, e2, hx]
      simp only [AV.den, Env.with_σ, Env.with_κ, Nat.sub_zero]
      exact hrun
    · cases ho
  · rename_i b off len sub hx
    split at ho
    rotate_left
    · cases ho
    rename_i L k hbg
    split at ho
    rotate_left
    · cases ho
    rename_i hk
    have hk := Nat.eq_of_beq_eq_true hk
    subst hk
    rw [withNat_eq] at ho
    simp only [outB, Option.some.injEq] at ho
    subst ho
    obtain ⟨hq, hone, hlL, hb1, hb2⟩ : q ∧ (∀ u ∈ vs, u.oneCell' = true) ∧ len * i.size ≤ L.length ∧ (len + n) * i.bytes ≤ 140737488355328 ∧ len + n ≤ 4611686018427387904 := fact_of (hl.1 _ List.mem_cons_self)
    refine op_new (by simp [AV.ok, AV.within, Nat.blt_eq]) hdf fun ρ a w he hr hlo => ?_
    obtain ⟨e1, e2⟩ := hops he
    obtain ⟨hg, hln⟩ := bigNew_spec hr (P := C.P) hnew hq
    obtain ⟨bk, arr, eb, rest, hb0, hon, h1, h2, h3⟩ := hr.big hbg
    rw [hon] at h3
    have hal : arr.size = L.length + rest.length := by rw [← Array.length_toList, h2, List.length_append]
    have htl : (L.take (len * i.size)).length = len * i.size := by rw [List.length_take]; omega
    by_cases hroom : len + n ≤ (ρ.kk b).cap
    · have hfit : len * i.size + n * i.size ≤ arr.size := by
        have h3' : arr.size = (ρ.kk b).cap * i.size := h3
        rw [h3', ← Nat.add_mul]; exact Nat.mul_le_mul_right _ hroom
      have hrun := app_room w t u p.type e du i ht hu hdu hi (ρ.σ b) 0 len ((ρ.kk b).cap) arr eb h1 _ n vs hg hone hroom (by rw [hln]; omega)
      obtain ⟨r1, p1⟩ := rep_overB hr hb0 (L.take (len * i.size) ++ vs) i.size ((ρ.kk b).cap) (w.setRow (ρ.σ b) (arr.toList.take (0 + len * i.size) ++ vs ++ arr.toList.drop (0 + len * i.size + vs.length)).toArray) rfl rfl rfl (by simp) (fun k hk => setRow_other w _ k _ hk) (arr.toList.take (0 + len * i.size) ++ vs ++ arr.toList.drop (0 + len * i.size + vs.length)).toArray eb (arr.toList.drop (0 + len * i.size + vs.length)) (setRow_heap w _ arr _ eb _ h1) (by
        simp only [Nat.zero_add]
        rw [h2, List.take_append_of_le_length (by omega)]) (by
        simp only [List.size_toArray, List.length_append, List.length_take, List.length_drop, hln, Array.length_toList, Nat.zero_add]
        have h3' : arr.size = (ρ.kk b).cap * i.size := h3
        omega)
      refine ⟨_, _, hexec a w p.type rfl ?_, r1, p1⟩
      rw [e1, e2, hx]
      simp only [AV.den, Env.with_σ, Env.with_κ, Nat.sub_zero]
      exact hrun
    · have hrun := app_grow w t u p.type e du i z ht hu hdu hi hz ⟨ρ.σ b, 0, none⟩ len ((ρ.kk b).cap) (L.take (len * i.size)) htl (fun j v hj => by
        rw [add_plain, Nat.zero_add]
        have hj' : j < len * i.size := by have := (List.getElem?_eq_some_iff.1 hj).1; omega
        rw [List.getElem?_take, if_pos hj'] at hj
        exact big_cell h1 h2 hj) _ n vs hg (by omega) (by omega) (growslice_fits (by omega) hb1)
      obtain ⟨r1, p1⟩ := rep_appB hr hlo (h' := hdel h b) (fun m c hm => by rw [hget_del] at hm; split at hm; cases hm; exact hm) (low := b) (fun m hm _ => by rw [hget_del, if_neg (by omega)]) (L.take (len * i.size) ++ vs) ((L.take (len * i.size)).toArray ++ vs.toArray ++ Builtin.zeroCells z.cells (grownCap w (len + n) ((ρ.kk b).cap) e - (len + n))) e
        (Builtin.zeroCells z.cells (grownCap w (len + n) ((ρ.kk b).cap) e - (len + n))).toList i.size (grownCap w (len + n) ((ρ.kk b).cap) e) (by simp) (by
          have := grownCap_ge w (len + n) ((ρ.kk b).cap) e
          rw [Array.size_append, Array.size_append, hzl, List.size_toArray, List.size_toArray, hln, htl, ← Nat.add_mul, ← Nat.add_mul]
          congr 1; omega)
      refine ⟨_, _, hexec a w p.type rfl ?_, r1, p1⟩
      rw [e1, e2, hx]
      simp only [AV.den, Env.with_σ, Env.with_κ, Nat.sub_zero]
      exact hrun
  · rename_i b off len cap hx
    split at ho
    rotate_left
    · cases ho
    rename_i cs kd hcl
    split at ho
    rotate_left
    · cases ho
    rename_i L hcl2 hpu
    have hcl2 := Nat.eq_of_beq_eq_true hcl2
    rw [withNat_eq] at ho
    simp only [outB, Option.some.injEq] at ho
    subst ho
    obtain ⟨hq, hone, hlc, hb1, hb2⟩ : q ∧ (∀ u ∈ vs, u.oneCell' = true) ∧ len ≤ cap ∧ (len + n) * i.bytes ≤ 140737488355328 ∧ len + n ≤ 4611686018427387904 := fact_of (hl.1 _ List.mem_cons_self)
    refine op_new (by simp [AV.ok, AV.within, Nat.blt_eq]) hdf fun ρ a w he hr hlo => ?_
    obtain ⟨e1, e2⟩ := hops he
    obtain ⟨hg, hln⟩ := bigNew_spec hr (P := C.P) hnew hq
    obtain ⟨hb0, hbk⟩ := hcells_get hcl
    obtain ⟨arr, eb, rest, h1, h2, h3⟩ := hr.cells hb0 hbk
    simp only at h2 h3
    subst h3
    rw [List.append_nil, pures_den ρ hpu] at h2
    have hLl : L.length = cap * i.size := by rw [← hcl2, pures_eq hpu]; simp
    have hal : arr.size = L.length := by rw [← Array.length_toList, h2]
    have hlcs : len * i.size ≤ L.length := by rw [hLl]; exact Nat.mul_le_mul_right _ hlc
    have htl : (L.take (len * i.size)).length = len * i.size := by rw [List.length_take]; omega
    by_cases hroom : len + n ≤ cap
    · have hfit : len * i.size + n * i.size ≤ arr.size := by rw [hal, hLl, ← Nat.add_mul]; exact Nat.mul_le_mul_right _ hroom
      have hrun := app_room w t u p.type e du i ht hu hdu hi (ρ.σ b) 0 len cap arr eb h1 _ n vs hg hone hroom (by rw [hln]; omega)
      obtain ⟨r1, p1⟩ := rep_overB hr hb0 (L.take (len * i.size) ++ vs) i.size cap (w.setRow (ρ.σ b) (arr.toList.take (0 + len * i.size) ++ vs ++ arr.toList.drop (0 + len * i.size + vs.length)).toArray) rfl rfl rfl (by simp) (fun k hk => setRow_other w _ k _ hk) (arr.toList.take (0 + len * i.size) ++ vs ++ arr.toList.drop (0 + len * i.size + vs.length)).toArray eb (arr.toList.drop (0 + len * i.size + vs.length)) (setRow_heap w _ arr _ eb _ h1) (by
        simp only [Nat.zero_add]
        rw [h2]) (by
        simp only [List.size_toArray, List.length_append, List.length_take, List.length_drop, hln, Array.length_toList, Nat.zero_add]
        omega)
      refine ⟨_, _, hexec a w p.type rfl ?_, r1, p1⟩
      rw [e1, e2, hx]
      simp only [AV.den, Env.with_σ, Env.with_κ, Nat.sub_zero]
      exact hrun
    · have hrun := app_grow w t u p.type e du i z ht hu hdu hi hz ⟨ρ.σ b, 0, none⟩ len cap (L.take (len * i.size)) htl (fun j v hj => by
        rw [add_plain, Nat.zero_add]
        have hj' : j < len * i.size := by have := (List.getElem?_eq_some_iff.1 hj).1; omega
        rw [List.getElem?_take, if_pos hj'] at hj
        exact big_cell (rest := []) h1 (by rw [List.append_nil]; exact h2) hj) _ n vs hg (by omega) (by omega) (growslice_fits (by omega) hb1)
      obtain ⟨r1, p1⟩ := rep_appB hr hlo (h' := hdel h b) (fun m c hm => by rw [hget_del] at hm; split at hm; cases hm; exact hm) (low := b) (fun m hm _ => by rw [hget_del, if_neg (by omega)]) (L.take (len * i.size) ++ vs) ((L.take (len * i.size)).toArray ++ vs.toArray ++ Builtin.zeroCells z.cells (grownCap w (len + n) cap e - (len + n))) e
        (Builtin.zeroCells z.cells (grownCap w (len + n) cap e - (len + n))).toList i.size (grownCap w (len + n) cap e) (by simp) (by
          have := grownCap_ge w (len + n) cap e
          rw [Array.size_append, Array.size_append, hzl, List.size_toArray, List.size_toArray, hln, htl, ← Nat.add_mul, ← Nat.add_mul]
          congr 1; omega)
      refine ⟨_, _, hexec a w p.type rfl ?_, r1, p1⟩
      rw [e1, e2, hx]
      simp only [AV.den, Env.with_σ, Env.with_κ, Nat.sub_zero]
      exact hrun
  · cases ho

theorem bigAppend_ok {p : Oper} {c : Call} (hp : p.op = .call c) (hcal : c.callee = .builtin .append) {s : St} {o : Out} (h : bigAppend C c s = some o) (hl : Holds C G o.log) : OpOK C w0 p s o := by
  obtain ⟨tm, hh, nx, ora, rs⟩ := s
  unfold bigAppend at h
  split at h
  · rename_i x y t u hargs htys
    have ha : c.args = #[x, y] := by rw [← Array.toArray_toList (xs := c.args), hargs]
    have hty : c.argTypes = #[t, u] := by rw [← Array.toArray_toList (xs := c.argTypes), htys]
    split at h
    · rename_i et du hut huu
      split at h
      · rename_i i hdu hi
        split at h
        · rename_i z hz
          split at h
          · rename_i vs n q hzs hnc
            exact bigAppTo_ok hp hcal ha hty (und_of hut) (und_of huu) hdu (info_of hi) hz (Nat.eq_of_beq_eq_true hzs) hnc h hl
          · cases h
        · cases h
      · cases h
    · cases h
  · cases h

theorem goBig_ok {f : FuncId} {p : Oper} {s : St} {r : Option Out} {o : Out} (h : goBig C f p s = some r) (hr : r = some o) (hl : Holds C G o.log) : OpOK C w0 p s o := by
  subst hr
  unfold goBig at h
  split at h
  · rename_i t x ix hp
    split at h
    · rename_i a b c d hx
      simp only [Option.some.injEq] at h
      rw [← hx] at h
      exact bigIndex_ok hp h hl
    · rename_i a b c d hx
      simp only [Option.some.injEq] at h
      rw [← hx] at h
      exact bigIndex_ok hp h hl
    · cases h
  · rename_i t x hp
    split at h
    · rename_i n off hx
      simp only [Option.some.injEq] at h
      rw [← hx] at h
      exact bigLoad_ok hp h hl
    · cases h
  · rename_i t x y hp
    split at h
    · rename_i n off hx
      simp only [Option.some.injEq] at h
      rw [← hx] at h
      exact bigStore_ok hp h hl
    · cases h
  · rename_i t x y hp
    split at h
    · split at h
      · simp only [Option.some.injEq] at h
        exact bigMake_ok hp h hl
      · cases h
    · cases h
  · rename_i c hp
    split at h
    · rename_i hcal
      split at h
      · split at h
        · simp only [Option.some.injEq] at h
          exact bigAppend_ok hp hcal h hl
        · cases h
      · cases h
    · cases h
  · cases h
end
end Go.Ev
