import Derived.Test.YtmohaohdbklkeaaTB
import Derived.MapKept
set_option linter.unusedVariables false
set_option linter.unusedSimpArgs false
set_option linter.unusedSectionVars false
set_option linter.unnecessarySimpa false
/- Running the program's functions on values that are known in part: blocks whose contents are not laid open, and values in depth. -/
namespace Go.Ev
open Go.RowKit
section
variable {C : Ctx} {G : World → Prop} {w0 : World}
/-- An operation that leaves a value, and the world as it was. -/
theorem op_quiet {p : Oper} {s : St} {v : AV} {tm : List AV} {h : AHeap} {nx : Nat} {ora : List Bool} {rs rs' : Rs} {l : Log} (hs : s = ⟨tm, h, nx, ora, rs⟩) (hv : v.ok nx = true) (hfr : rs'.fr = rs.fr) (hd : isDefer p.op = false)
    (hrun : ∀ (ρ : Env) (a : Act) (w : World), (∀ x ∈ p.op.operands, a.eval x = (aeval tm x).den ρ) → Rep w0.heap.size ρ h nx w → (execOp a.eval p).run C.P w = .ok (.value (v.den ρ)) w) :
    OpOK C w0 p s ⟨.val v, ⟨tm, h, nx, ora, rs'⟩, nx, l⟩ := by
  subst hs
  refine ⟨v, rfl, hv, rfl, ⟨Nat.le_refl _, hfr⟩, fun rd ρ a w K Q he hr hb hE => wpIn_op hd ?_⟩
  rw [hrun ρ a w he hr, Oper.uponIn_value]
  exact hE ρ w hr (Post.refl hr _)
/-- An operation that leaves a value under a new name. -/
theorem op_new {p : Oper} {tm : List AV} {h h' : AHeap} {nx nx2 low : Nat} {ora : List Bool} {rs : Rs} {v : AV} {l : Log} (hle : nx ≤ nx2) (hv : v.ok (nx2) = true) (hd : isDefer p.op = false)
    (hrun : ∀ (ρ : Env) (a : Act) (w : World), (∀ x ∈ p.op.operands, a.eval x = (aeval tm x).den ρ) → Rep w0.heap.size ρ h nx w → Below w0.heap.size w0 w →
      ∃ ρ' w', (execOp a.eval p).run C.P w = .ok (.value (v.den ρ')) w' ∧ Rep w0.heap.size ρ' h' (nx2) w' ∧ Post ρ ρ' h h' nx (nx2) low w w') :
    OpOK C w0 p ⟨tm, h, nx, ora, rs⟩ ⟨.val v, ⟨tm, h', nx2, ora, rs⟩, low, l⟩ := by
  refine ⟨v, rfl, hv, rfl, ⟨hle, rfl⟩, fun rd ρ a w K Q he hr hb hE => wpIn_op hd ?_⟩
  obtain ⟨ρ', w', h1, h2, h3⟩ := hrun ρ a w he hr hb
  rw [h1, Oper.uponIn_value]
  exact hE ρ' w' h2 h3
theorem pures_map (vs : List Value) : pures (vs.map .pure) = some vs := by
  induction vs with
  | nil => rfl
  | cons v vs ih => simp [pures, ih]
/-- An operation that leaves a value in depth, and the world as it was. -/
theorem op_deep {p : Oper} {s : St} {tm : List AV} {h : AHeap} {nx : Nat} {ora : List Bool} {rs rs' : Rs} {d : D} {l : Log} (hs : s = ⟨tm, h, nx, ora, rs⟩) (hfr : rs'.fr = rs.fr) (hd : isDefer p.op = false)
    (hrun : ∀ (ρ : Env) (a : Act) (w : World), (∀ x ∈ p.op.operands, a.eval x = (aeval tm x).den ρ) → Rep w0.heap.size ρ h nx w → ∃ u, (execOp a.eval p).run C.P w = .ok (.value u) w ∧ Rp (FreeH ρ h) w d u) :
    OpOK C w0 p s ⟨.val (avOf nx d).1, ⟨tm, (avOf nx d).2.1 ++ h, (avOf nx d).2.2, ora, rs'⟩, nx, l⟩ := by
  subst hs
  have st := avOf_static nx d
  refine ⟨_, rfl, st.2, rfl, ⟨st.1, hfr⟩, fun rd ρ a w K Q he hr hb hE => wpIn_op hd ?_⟩
  obtain ⟨u, h1, h2⟩ := hrun ρ a w he hr
  obtain ⟨ρ', e1, r', p'⟩ := avOf_ok d hr h2
  rw [h1, Oper.uponIn_value, ← e1]
  exact hE ρ' w r' p'
/-- A slice in depth that is not empty. -/
theorem deep_slice {lo : Nat} {ρ : Env} {h : AHeap} {nx : Nat} {w : World} (r : Rep lo ρ h nx w) {n k : Nat} {cs : List D} (e : deepOf h n = some (k, cs)) (hk : 0 < k ∨ cs ≠ []) :
    ∃ b o cap, (ρ.kk n).dv = (some ⟨b, o, none⟩, k, cap) ∧ k ≤ cap ∧ b < w.heap.size ∧ FreeH ρ h b ∧ RpAt (FreeH ρ h) w cs b o := by
  have := r.deep e
  simp only [Rp] at this
  obtain ⟨dv, h1, h2, h3, h4⟩ := this
  obtain ⟨p, l, c⟩ := dv
  have hdv : (ρ.kk n).dv = (p, l, c) := by
    unfold sliceOf at h1
    simp only [Value.slice.injEq] at h1
    obtain ⟨a1, a2, a3⟩ := h1
    rw [← a1, ← a2, ← a3]
  simp only at h2 h3
  subst h2
  rcases h4 with ⟨h4, h5⟩ | ⟨b, o, h4, h5, h6, h7⟩
  · rcases hk with hk | hk
    · omega
    · exact absurd h5 hk
  · simp only at h4
    subst h4
    exact ⟨b, o, c, hdv, h3, h5, h6, h7⟩
theorem bigIndex_ok {p : Oper} {t : TypeId} {x ix : Operand} (hp : p.op = .indexAddr t x ix) {s : St} {o : Out} (h : bigIndex C t (aeval s.tmps x) (aeval s.tmps ix) s = some o) (hl : Holds C G o.log) : OpOK C w0 p s o := by
  obtain ⟨tm, hh, nx, ora, rs⟩ := s
  unfold bigIndex at h
  simp only at h
  split at h
  · rename_i k i e hix hu
    split at h
    · rename_i size hsz
      have key : ∀ (v : AV) (len : Nat) (q : Prop), (q → 0 ≤ i ∧ i.toNat < len) → (∀ ρ w, Rep w0.heap.size ρ hh nx w → q → ∃ B off cap, (aeval tm x).den ρ = .slice (some ⟨B, off, none⟩) len cap ∧ v.den ρ = .pointer (some ⟨B, off + i.toNat * size, none⟩)) → v.ok nx = true → outB tm hh nx ora rs v nx q = some o → OpOK C w0 p ⟨tm, hh, nx, ora, rs⟩ o := by
        intro v len q hqi hx hv ho
        simp only [outB, Option.some.injEq] at ho
        subst ho
        have hq : q := fact_of (hl.1 _ List.mem_cons_self)
        obtain ⟨h0, h1⟩ := hqi hq
        refine op_quiet rfl hv rfl (by rw [hp]; rfl) fun ρ a w he hr => ?_
        obtain ⟨B, off, cap, e3, e4⟩ := hx ρ w hr hq
        have e1 := he x (by rw [hp]; simp [Op.operands])
        have e2 := he ix (by rw [hp]; simp [Op.operands])
        rw [e3] at e1
        rw [hix] at e2
        obtain ⟨dst, op, type, pos, after, guard⟩ := p
        simp only at hp
        subst hp
        obtain ⟨m, rfl⟩ := Int.eq_ofNat_of_zero_le h0
        simp only [AV.den] at e2
        simp only [execOp, e1, e2, e4]
        have hb : (0 : Int) ≤ (m : Int) ∧ (m : Int) < (len : Int) := by simp at h1; omega
        simp at h1
        simp [Instr.indexAt, asIntOf, run_underlying (und_of hu), Instr.sureAddr, h1, run_sizeT hsz, add_plain]
      split at h
      · rename_i n off len cap hx
        split at h
        · rename_i hn
          exact key _ len _ id (fun ρ w hr hq => ⟨ρ.σ n, off, cap, by rw [hx]; rfl, rfl⟩) (by simpa [AV.ok, AV.within] using hn) h
        · cases h
      · rename_i n off len sub hx
        split at h
        · rename_i hn
          exact key _ len _ id (fun ρ w hr hq => ⟨ρ.σ n, off, (ρ.kk n).cap - sub, by rw [hx]; rfl, rfl⟩) (by simpa [AV.ok, AV.within] using hn) h
        · cases h
      · rename_i n hx
        split at h
        · rename_i k cs hd hn
          refine key _ k _ id (fun ρ w hr hq => ?_) (by simpa [AV.ok, AV.within] using hn) h
          obtain ⟨b, o, cap, h1, -⟩ := deep_slice hr hd (.inl (by omega))
          exact ⟨b, o, cap, by rw [hx]; exact sliceOf_eq h1, behindOf_eq h1 _⟩
        · cases h
      · cases h
    · cases h
  · rename_i k i m e hix hu
    split at h
    · rename_i size hsz
      split at h
      · rename_i n off hx
        split at h
        · rename_i k cs hd hn
          simp only [outB, Option.some.injEq] at h
          subst h
          obtain ⟨h0, h1, hk⟩ : 0 ≤ i ∧ i.toNat < m ∧ 0 < k := fact_of (hl.1 _ List.mem_cons_self)
          refine op_quiet rfl (by simpa [AV.ok, AV.within] using hn) rfl (by rw [hp]; rfl) fun ρ a w he hr => ?_
          obtain ⟨b, o, cap, g1, -⟩ := deep_slice hr hd (.inl hk)
          have e1 := he x (by rw [hp]; simp [Op.operands])
          have e2 := he ix (by rw [hp]; simp [Op.operands])
          rw [hx, behindOf_eq g1] at e1
          rw [hix] at e2
          obtain ⟨dst, op, type, pos, after, guard⟩ := p
          simp only at hp
          subst hp
          obtain ⟨j, rfl⟩ := Int.eq_ofNat_of_zero_le h0
          simp only [AV.den] at e2
          simp only [execOp, e1, e2, behindOf_eq g1]
          have hb : (0 : Int) ≤ (j : Int) ∧ (j : Int) < (m : Int) := by simp at h1; omega
          simp at h1
          simp [Instr.indexAt, asIntOf, run_underlying (und_of hu), Instr.sureAddr, h1, run_sizeT hsz, add_plain, Nat.add_assoc]
        · cases h
      · cases h
    · cases h
  · cases h
theorem RpAt.out {A : Nat → Prop} {w : World} {b : Nat} : ∀ {cs : List D} {off : Nat}, RpAt A w cs b off → ∃ us, RpL A w cs us ∧ us.length = cs.length ∧ ∀ (j : Nat) u, us[j]? = some u → w.cell? ⟨b, off + j, none⟩ = some u
  | [], off, _ => ⟨[], by simp only [RpL], rfl, fun j u hj => by simp at hj⟩
  | c :: cs, off, h => by
    simp only [RpAt] at h
    obtain ⟨⟨u, h1, h2⟩, h3⟩ := h
    obtain ⟨us, g1, g2, g3⟩ := RpAt.out h3
    refine ⟨u :: us, by simp only [RpL]; exact ⟨u, us, rfl, h2, g1⟩, by simp [g2], fun j v hj => ?_⟩
    cases j with
    | zero => simp at hj; subst hj; exact h1
    | succ j =>
      have := g3 j v (by simpa using hj)
      rwa [show off + 1 + j = off + (j + 1) by omega] at this
theorem reads {P : Program} {t : TypeId} {g : Bool} {size : Nat} (hg : aggType P t = some g) (hs : sizeT P t = some size) {A : Nat → Prop} {w : World} {b o off : Nat} {cs : List D} {d : D} (hc : RpAt A w cs b o) (hr : readsAs cs off size g d) :
    ∃ u, (loadVar t ⟨b, o + off, none⟩).run P w = .ok u w ∧ Rp A w d u := by
  have fin : ∀ (us : List Value) (u : Value), us.length = width g size → (∀ (j : Nat) v, us[j]? = some v → w.cell? ⟨b, o + off + j, none⟩ = some v) → whole g (us.map .pure) = some (.pure u) → (loadVar t ⟨b, o + off, none⟩).run P w = .ok u w := by
    intro us u h1 h2 h3
    have hld := run_whole hg hs ⟨fun _ => 0, fun _ => ⟨0, noVal, noDV⟩, fun _ => True, 0⟩ w b (o + off) (xs := us.map .pure) (by simpa using h1) (fun j y hj => by
      rw [List.getElem?_map] at hj
      cases hu : us[j]? with
      | none => rw [hu] at hj; cases hj
      | some v =>
        rw [hu] at hj
        simp only [Option.map_some, Option.some.injEq] at hj
        subst hj
        exact h2 j v hu) h3
    simpa only [AV.den] using hld
  unfold readsAs at hr
  split at hr
  · obtain ⟨u, h1, h2⟩ := hc.get off d hr
    exact ⟨u, fin [u] u rfl (fun j v hj => by
      cases j with
      | zero => simp at hj; subst hj; exact h1
      | succ j => simp at hj) rfl, h2⟩
  · obtain ⟨ds, rfl, h1, -, h2⟩ := hr
    have ha : RpAt A w ds b (o + off) := by
      refine RpAt.of fun j d hj => ?_
      have hjl : j < size := by
        have := (List.getElem?_eq_some_iff.1 hj).1
        omega
      rw [← h2, List.getElem?_take, if_pos hjl, List.getElem?_drop] at hj
      have := hc.get _ d hj
      rwa [← Nat.add_assoc] at this
    obtain ⟨us, g1, g2, g3⟩ := ha.out
    refine ⟨.agg us.toArray, fin us _ (by rw [g2, h1]; rfl) g3 (by simp only [whole, mkAgg, pures_map]), ?_⟩
    simp only [Rp]
    exact ⟨us, rfl, g1⟩
theorem bigLoad_ok {p : Oper} {t : TypeId} {x : Operand} (hp : p.op = .load t x) {s : St} {o : Out} (h : bigLoad C t (aeval s.tmps x) s = some o) (hl : Holds C G o.log) : OpOK C w0 p s o := by
  obtain ⟨tm, hh, nx, ora, rs⟩ := s
  obtain ⟨vals, fr⟩ := rs
  have hload : ∀ (a : Act) (w : World) (B off : Nat) (u : Value), a.eval x = .pointer (some ⟨B, off, none⟩) → (loadVar t ⟨B, off, none⟩).run C.P w = .ok u w → (execOp a.eval p).run C.P w = .ok (.value u) w := by
    intro a w B off u e1 hld
    obtain ⟨dst, op, type, pos, after, guard⟩ := p
    simp only at hp
    subst hp
    simp [execOp, Instr.loadAt, Instr.sureAddr, e1, hld]
  unfold bigLoad at h
  simp only at h
  split at h
  · rename_i n off d vals' hx
    split at h
    · rename_i L on g size hb hg hs
      have := outD_eq h
      subst this
      have hf : readsAs L off size g d := fact_of (hl.1 _ List.mem_cons_self)
      refine op_deep rfl rfl (by rw [hp]; rfl) fun ρ a w he hr => ?_
      obtain ⟨b, arr, ty, rest, vs, -, -, -, g1, g2, g3, -⟩ := hr.big hb
      have hat : RpAt (FreeH ρ hh) w L (ρ.σ n) 0 := RpAt.block g1 g2 g3 0
      obtain ⟨u, h1, h2⟩ := reads hg hs hat hf
      rw [Nat.zero_add] at h1
      have e1 := he x (by rw [hp]; simp [Op.operands])
      rw [hx] at e1
      exact ⟨u, hload a w _ _ u e1 h1, h2⟩
    · cases h
  · rename_i n off d vals' hx
    split at h
    · rename_i k cs g size hb hg hs
      have := outD_eq h
      subst this
      have hf : readsAs cs off size g d := fact_of (hl.1 _ List.mem_cons_self)
      refine op_deep rfl rfl (by rw [hp]; rfl) fun ρ a w he hr => ?_
      have e1 := he x (by rw [hp]; simp [Op.operands])
      rw [hx] at e1
      by_cases hk : 0 < k ∨ cs ≠ []
      · obtain ⟨b, o, cap, g1, -, -, -, g5⟩ := deep_slice hr hb hk
        obtain ⟨u, h1, h2⟩ := reads hg hs g5 hf
        rw [behindOf_eq g1] at e1
        exact ⟨u, hload a w _ _ u e1 h1, h2⟩
      · -- an empty slice has no cells: nothing is read there
        exfalso
        have hcs : cs = [] := Classical.byContradiction fun h => hk (.inr h)
        subst hcs
        unfold readsAs at hf
        split at hf
        · simp at hf
        · obtain ⟨ds, -, h1, h2, h3⟩ := hf
          simp at h3
          subst h3
          simp at h1
          omega
    · cases h
  · cases h
theorem deepField_ok {p : Oper} {t : TypeId} {x : Operand} {i : Nat} (hp : p.op = .fieldAddr t x i) {s : St} {o : Out} (h : deepField C t (aeval s.tmps x) i s = some o) (hl : Holds C G o.log) : OpOK C w0 p s o := by
  obtain ⟨tm, hh, nx, ora, rs⟩ := s
  unfold deepField at h
  simp only at h
  split at h
  · rename_i fs n off hu hx
    split at h
    · rename_i f hf
      rw [listGet_eq] at hf
      have hf : fs[i]? = some f := by simpa using hf
      split at h
      · rename_i k' k cs hsz hd hn
        simp only [outB, Option.some.injEq] at h
        subst h
        have hk : 0 < k := fact_of (hl.1 _ List.mem_cons_self)
        refine op_quiet rfl (by simpa [AV.ok, AV.within] using hn) rfl (by rw [hp]; rfl) fun ρ a w he hr => ?_
        obtain ⟨b, o, cap, g1, -⟩ := deep_slice hr hd (.inl hk)
        have e1 := he x (by rw [hp]; simp [Op.operands])
        rw [hx, behindOf_eq g1] at e1
        obtain ⟨dst, op, type, pos, after, guard⟩ := p
        simp only at hp
        subst hp
        simp [execOp, Instr.fieldAt, run_underlying (und_of hu), hf, e1, behindOf_eq g1, Instr.sureAddr, fieldPlace, run_sizeT hsz, add_plain, Nat.add_assoc]
      · cases h
    · cases h
  · cases h
theorem deepLen_ok {p : Oper} {c : Call} (hp : p.op = .call c) (hcal : c.callee = .builtin .len) {s : St} {r : Option Out} {o : Out} (h : deepLen C c s = some r) (hr : r = some o) : OpOK C w0 p s o := by
  subst hr
  obtain ⟨tm, hh, nx, ora, rs⟩ := s
  unfold deepLen at h
  simp only at h
  split at h
  · rename_i x t hargs htys
    have ha : c.args = #[x] := by rw [← Array.toArray_toList (xs := c.args), hargs]
    have hty : c.argTypes = #[t] := by rw [← Array.toArray_toList (xs := c.argTypes), htys]
    split at h
    · rename_i n e hx hu
      split at h
      · rename_i k cs hd
        simp only [Option.some.injEq] at h
        subst h
        refine op_quiet rfl (by simp [AV.ok, AV.within]) rfl (by rw [hp]; rfl) fun ρ a w he hr => ?_
        have e1 := he x (by rw [hp]; simp [Op.operands, Call.operands, ha])
        have hdp := hr.deep hd
        simp only [Rp] at hdp
        obtain ⟨dv, h1, h2, -⟩ := hdp
        obtain ⟨q, l, c'⟩ := dv
        simp only at h2
        subst h2
        rw [hx] at e1
        simp only [AV.den, sliceOf_inj h1, sliceOf] at e1
        obtain ⟨dst, op, type, pos, after, guard⟩ := p
        simp only at hp
        subst hp
        simp [execOp, resolve, hcal, invoke, builtin, ha, hty, e1, AV.den, Builtin.len_, run_underlying (und_of hu), goInt]
      · cases h
    · cases h
  · cases h
theorem ixOf_spec {tm : List AV} {d : Int} {x : Option Operand} {i : Int} (h : ixOf tm d x = some i) : (x = none ∧ i = d) ∨ ∃ y k, x = some y ∧ aeval tm y = .pure (.int k i) := by
  unfold ixOf at h
  split at h
  · simp only [Option.some.injEq] at h
    exact .inl ⟨rfl, h.symm⟩
  · rename_i y
    split at h
    · rename_i k j hy
      simp only [Option.some.injEq] at h
      subst h
      exact .inr ⟨y, k, rfl, hy⟩
    · cases h
theorem deepSlice_ok {p : Oper} {t : TypeId} {x : Operand} {lo hi mx : Option Operand} (hp : p.op = .slice t x lo hi mx) {s : St} {n : Nat} (hx : aeval s.tmps x = .dsl n) {o : Out} (h : deepSlice C t n lo hi mx s = some o) (hl : Holds C G o.log) : OpOK C w0 p s o := by
  obtain ⟨tm, hh, nx, ora, rs⟩ := s
  unfold deepSlice at h
  simp only at h hx
  split at h
  · rename_i k cs e hd hu
    split at h
    · rename_i size l u hsz hlo hhi
      have := outD_eq h
      subst this
      obtain ⟨f1, f2, f3, f4⟩ : 0 ≤ l ∧ l ≤ u ∧ u ≤ (k : Int) ∧ cs.length = k * size := fact_of (hl.1 _ List.mem_cons_self)
      refine op_deep rfl rfl (by rw [hp]; rfl) fun ρ a w he hr => ?_
      have e1 := he x (by rw [hp]; simp [Op.operands])
      rw [hx] at e1
      obtain ⟨l, rfl⟩ := Int.eq_ofNat_of_zero_le f1
      obtain ⟨u, rfl⟩ := Int.eq_ofNat_of_zero_le (show 0 ≤ u by omega)
      have hdp := hr.deep hd
      simp only [Rp] at hdp
      obtain ⟨dv, h1, h2, h3, h4⟩ := hdp
      obtain ⟨q, len, cap⟩ := dv
      simp only at h2 h3 h4
      subst h2
      simp only [AV.den, sliceOf_inj h1, sliceOf] at e1
      have hlo' : lo.map a.eval = none ∧ l = 0 ∨ ∃ kk, lo.map a.eval = some (.int kk (l : Int)) := by
        rcases ixOf_spec hlo with ⟨rfl, h5⟩ | ⟨y, kk, rfl, h5⟩
        · exact .inl ⟨rfl, by omega⟩
        · right
          have := he y (by rw [hp]; simp [Op.operands])
          rw [h5] at this
          exact ⟨kk, by simp [this, AV.den]⟩
      have hhi' : hi.map a.eval = none ∧ u = len ∨ ∃ kk, hi.map a.eval = some (.int kk (u : Int)) := by
        rcases ixOf_spec hhi with ⟨rfl, h5⟩ | ⟨y, kk, rfl, h5⟩
        · exact .inl ⟨rfl, by omega⟩
        · right
          have := he y (by rw [hp]; simp [Op.operands])
          rw [h5] at this
          exact ⟨kk, by simp [this, AV.den]⟩
      have hbl : bound ((lo.map a.eval).map .pure) 0 = some l := by
        rcases hlo' with ⟨h5, h6⟩ | ⟨kk, h5⟩
        · rw [h5, h6]; rfl
        · rw [h5]; rfl
      have hbh : bound ((hi.map a.eval).map .pure) len = some u := by
        rcases hhi' with ⟨h5, h6⟩ | ⟨kk, h5⟩
        · rw [h5, h6]; rfl
        · rw [h5]; rfl
      have hb := run_bounds (P := C.P) (mx := none) (cap := cap) (m := cap) w ρ true rfl hbl hbh (by omega) (by omega) (Nat.le_refl _) (by simp)
      have hden : ∀ z : Option Value, (z.map AV.pure).map (AV.den ρ) = z := fun z => by cases z <;> simp [AV.den]
      rw [hden, hden] at hb
      simp only [Option.map_none] at hb
      refine ⟨.slice (if cap = l then q else q.map fun b => b.add (l * size)) (u - l) (cap - l), ?_, ?_⟩
      · obtain ⟨dst, op, type, pos, after, guard⟩ := p
        simp only at hp
        subst hp
        simp only [execOp, e1, Instr.sliceAt, Instr.slice, Sem.run_bind, run_underlying (und_of hu), Result.andThen_ok, Sem.run_pure, Option.map_none, hb, run_sizeT hsz]
      · simp only [Int.toNat_natCast, Rp]
        refine ⟨(if cap = l then q else q.map fun b => b.add (l * size), u - l, cap - l), rfl, rfl, by simp only; omega, ?_⟩
        simp only
        rcases h4 with ⟨h5, rfl⟩ | ⟨b, off, rfl, h6, h7, h8⟩
        · left
          exact ⟨by omega, by simp⟩
        · by_cases hcl : cap = l
          · left
            have : u - l = 0 := by omega
            exact ⟨this, by rw [this]; simp⟩
          · right
            refine ⟨b, off + l * size, ?_, h6, h7, RpAt.of fun j d hj => ?_⟩
            · rw [if_neg hcl, Option.map_some, add_plain]
            · rw [List.getElem?_take] at hj
              split at hj
              · rw [List.getElem?_drop] at hj
                have := h8.get _ d hj
                rwa [← Nat.add_assoc] at this
              · cases hj
    · cases h
  · cases h
theorem bigSlice_ok {p : Oper} {t : TypeId} {x : Operand} {lo hi : Option Operand} (hp : p.op = .slice t x lo hi none) {s : St} {n off len cap : Nat} (hx : aeval s.tmps x = .bsl n off len cap) {o : Out} (h : bigSlice C t n off len cap lo hi s = some o) (hl : Holds C G o.log) : OpOK C w0 p s o := by
  obtain ⟨tm, hh, nx, ora, rs⟩ := s
  unfold bigSlice at h
  simp only at h hx
  split at h
  rotate_left
  · cases h
  rename_i e hu
  split at h
  rotate_left
  · cases h
  rename_i size l u hsz hlo hhi hn
  simp only [outB, Option.some.injEq] at h
  subst h
  obtain ⟨f1, f2, f3, f4⟩ : 0 ≤ l ∧ l ≤ u ∧ u ≤ (cap : Int) ∧ l < (cap : Int) := fact_of (hl.1 _ List.mem_cons_self)
  refine op_quiet rfl (by simpa [AV.ok, AV.within] using hn) rfl (by rw [hp]; rfl) fun ρ a w he hr => ?_
  have e1 := he x (by rw [hp]; simp [Op.operands])
  rw [hx] at e1
  obtain ⟨l, rfl⟩ := Int.eq_ofNat_of_zero_le f1
  obtain ⟨u, rfl⟩ := Int.eq_ofNat_of_zero_le (show 0 ≤ u by omega)
  simp only [AV.den] at e1
  have hlo' : lo.map a.eval = none ∧ l = 0 ∨ ∃ kk, lo.map a.eval = some (.int kk (l : Int)) := by
    rcases ixOf_spec hlo with ⟨rfl, h5⟩ | ⟨y, kk, rfl, h5⟩
    · exact .inl ⟨rfl, by omega⟩
    · right
      have := he y (by rw [hp]; simp [Op.operands])
      rw [h5] at this
      exact ⟨kk, by simp [this, AV.den]⟩
  have hhi' : hi.map a.eval = none ∧ u = len ∨ ∃ kk, hi.map a.eval = some (.int kk (u : Int)) := by
    rcases ixOf_spec hhi with ⟨rfl, h5⟩ | ⟨y, kk, rfl, h5⟩
    · exact .inl ⟨rfl, by omega⟩
    · right
      have := he y (by rw [hp]; simp [Op.operands])
      rw [h5] at this
      exact ⟨kk, by simp [this, AV.den]⟩
  have hbl : bound ((lo.map a.eval).map .pure) 0 = some l := by
    rcases hlo' with ⟨h5, h6⟩ | ⟨kk, h5⟩
    · rw [h5, h6]; rfl
    · rw [h5]; rfl
  have hbh : bound ((hi.map a.eval).map .pure) len = some u := by
    rcases hhi' with ⟨h5, h6⟩ | ⟨kk, h5⟩
    · rw [h5, h6]; rfl
    · rw [h5]; rfl
  have hb := run_bounds (P := C.P) (mx := none) (cap := cap) (m := cap) w ρ true rfl hbl hbh (by omega) (by omega) (Nat.le_refl _) (by simp)
  have hden : ∀ z : Option Value, (z.map AV.pure).map (AV.den ρ) = z := fun z => by cases z <;> simp [AV.den]
  rw [hden, hden] at hb
  simp only [Option.map_none] at hb
  have hne : ¬ (cap = l) := by omega
  obtain ⟨dst, op, type, pos, after, guard⟩ := p
  simp only at hp
  subst hp
  simp [execOp, e1, Instr.sliceAt, Instr.slice, Sem.run_bind, run_underlying (und_of hu), Result.andThen_ok, Sem.run_pure, hb, run_sizeT hsz, hne, add_plain, AV.den]
theorem deepNil_ok {p : Oper} {t t2 : TypeId} {x y : Operand} (hp : p.op = .binOp .eql t x y t2) {s : St} {n l c : Nat} {e : TypeId} (hx : aeval s.tmps x = .dsl n) (hy : aeval s.tmps y = .pure (.slice none l c)) (hu : undA C.P t = some (.slice e)) {o : Out} (h : deepNil n s = some o) (hl : Holds C G o.log) : OpOK C w0 p s o := by
  obtain ⟨tm, hh, nx, ora, rs⟩ := s
  unfold deepNil at h
  simp only at h hx hy
  split at h
  rotate_left
  · cases h
  rename_i k cs hd
  simp only [outB, Option.some.injEq] at h
  subst h
  have hk : 0 < k := fact_of (hl.1 _ List.mem_cons_self)
  refine op_quiet rfl (by simp [AV.ok, AV.within]) rfl (by rw [hp]; rfl) fun ρ a w he hr => ?_
  have e1 := he x (by rw [hp]; simp [Op.operands])
  have e2 := he y (by rw [hp]; simp [Op.operands])
  rw [hx] at e1
  rw [hy] at e2
  obtain ⟨b, off, cap, g1, -⟩ := deep_slice hr hd (.inl hk)
  rw [sliceOf_eq g1] at e1
  obtain ⟨h1, -⟩ := run_nilPair (P := C.P) (und_of hu) (x := .sl 0 off k cap) (y := .pure (.slice none l c)) rfl ⟨fun _ => b, ρ.kk, ρ.A, ρ.L⟩ w x y
  simp only [AV.den] at h1 e2
  obtain ⟨dst, op, type, pos, after, guard⟩ := p
  simp only at hp
  subst hp
  simp only [execOp, e1, e2]
  rw [Sem.run_bind, h1]
  simp [AV.den, Result.andThen]
theorem zeroIx_spec {tm : List AV} {o : Option Operand} (h : zeroIx tm o = true) : ∃ y k, o = some y ∧ aeval tm y = .pure (.int k 0) := by
  unfold zeroIx at h
  split at h
  · rename_i y
    split at h
    · rename_i k hy
      exact ⟨y, k, rfl, hy⟩
    · cases h
  · cases h
theorem voidSlice_ok {p : Oper} {t : TypeId} {x : Operand} {lo hi mx : Option Operand} (hp : p.op = .slice t x lo hi mx) {s : St} {n : Nat} (hx : aeval s.tmps x = .dsl n) {o : Out} (h : voidSlice C t n lo hi mx s = some o) : OpOK C w0 p s o := by
  obtain ⟨tm, hh, nx, ora, rs⟩ := s
  unfold voidSlice at h
  simp only at h hx
  split at h
  rotate_left
  · cases h
  rename_i k cs e hd hu
  split at h
  rotate_left
  · cases h
  rename_i size hsz hzh hzm
  rw [withNat_eq] at h
  simp only [Option.some.injEq] at h
  subst h
  obtain ⟨yh, kh, rfl, hyh⟩ := zeroIx_spec hzh
  obtain ⟨ym, km, rfl, hym⟩ := zeroIx_spec hzm
  refine op_new (by omega) (by simp [AV.ok, AV.within, Nat.blt_eq]) (by rw [hp]; rfl) fun ρ a w he hr hbw => ?_
  have e1 := he x (by rw [hp]; simp [Op.operands])
  have e2 := he yh (by rw [hp]; simp [Op.operands])
  have e3 := he ym (by rw [hp]; simp [Op.operands])
  rw [hx] at e1
  rw [hyh] at e2
  rw [hym] at e3
  simp only [AV.den] at e2 e3
  have hdp := hr.deep hd
  simp only [Rp] at hdp
  obtain ⟨dv, h1, h2, h3, h4⟩ := hdp
  obtain ⟨q, len, cap⟩ := dv
  simp only at h2 h3 h4
  simp only [AV.den, sliceOf_inj h1, sliceOf] at e1
  obtain ⟨r1, p1⟩ := rep_deepM hr (some 0) 0 [] (q, 0, 0) (by
    simp only [Rp]
    exact ⟨(q, 0, 0), rfl, rfl, Nat.le_refl _, .inl ⟨trivial, trivial⟩⟩) fun _ => rfl
  refine ⟨_, _, ?_, r1, p1⟩
  have hb := run_bounds (P := C.P) (lo := none) (hi := some (.pure (.int kh 0))) (mx := some (.pure (.int km 0))) (len := len) (cap := cap) (l := 0) (h := 0) (m := 0) w ρ true rfl rfl rfl (Nat.le_refl _) (Nat.le_refl _) (Nat.zero_le _) (by simp)
  simp only [Option.map_none, Option.map_some, AV.den] at hb
  obtain ⟨dst, op, type, pos, after, guard⟩ := p
  simp only at hp
  subst hp
  simp [execOp, e1, e2, e3, Instr.sliceAt, Instr.slice, Sem.run_bind, run_underlying (und_of hu), Result.andThen_ok, Sem.run_pure, hb, run_sizeT hsz, AV.den, sliceOf, Env.withD]
theorem strOf_spec {x : AV} {b : ByteArray} (h : strOf x = some b) : x = .pure (.string b) := by
  unfold strOf at h
  split at h
  · simp only [Option.some.injEq] at h
    subst h
    rfl
  · cases h
theorem strIndex_ok {p : Oper} {t : TypeId} {x ix : Operand} (hp : p.op = .index t x ix) {s : St} {b : ByteArray} (hx : aeval s.tmps x = .pure (.string b)) {o : Out} (h : strIndex C t b (aeval s.tmps ix) s = some o) (hl : Holds C G o.log) : OpOK C w0 p s o := by
  obtain ⟨tm, hh, nx, ora, rs⟩ := s
  unfold strIndex at h
  simp only at h hx
  split at h
  · rename_i k i hix hu
    simp only [outB, Option.some.injEq] at h
    subst h
    obtain ⟨h0, h1⟩ : 0 ≤ i ∧ i.toNat < b.size := fact_of (hl.1 _ List.mem_cons_self)
    refine op_quiet rfl (by simp [AV.ok, AV.within]) rfl (by rw [hp]; rfl) fun ρ a w he hr => ?_
    have e1 := he x (by rw [hp]; simp [Op.operands])
    have e2 := he ix (by rw [hp]; simp [Op.operands])
    rw [hx] at e1
    rw [hix] at e2
    obtain ⟨dst, op, type, pos, after, guard⟩ := p
    simp only at hp
    subst hp
    simp only [AV.den] at e1 e2 ⊢
    have hb : b[i.toNat]? = some b[i.toNat] := by simp [h1]
    simp [execOp, Instr.index, e1, e2, asIntOf, run_underlying (und_of hu), h0, hb, byteAt]
  · cases h
theorem strSlice_ok {p : Oper} {t : TypeId} {x : Operand} {lo hi mx : Option Operand} (hp : p.op = .slice t x lo hi mx) {s : St} {b : ByteArray} (hx : aeval s.tmps x = .pure (.string b)) {o : Out} (h : strSlice C t b lo hi mx s = some o) (hl : Holds C G o.log) : OpOK C w0 p s o := by
  obtain ⟨tm, hh, nx, ora, rs⟩ := s
  unfold strSlice at h
  simp only at h hx
  split at h
  · rename_i l u hu hlo hhi
    simp only [outB, Option.some.injEq] at h
    subst h
    obtain ⟨f1, f2, f3⟩ : 0 ≤ l ∧ l ≤ u ∧ u ≤ (b.size : Int) := fact_of (hl.1 _ List.mem_cons_self)
    refine op_quiet rfl (by simp [AV.ok, AV.within]) rfl (by rw [hp]; rfl) fun ρ a w he hr => ?_
    have e1 := he x (by rw [hp]; simp [Op.operands])
    rw [hx] at e1
    obtain ⟨l, rfl⟩ := Int.eq_ofNat_of_zero_le f1
    obtain ⟨u, rfl⟩ := Int.eq_ofNat_of_zero_le (show 0 ≤ u by omega)
    have hbl : bound ((lo.map a.eval).map .pure) 0 = some l := by
      rcases ixOf_spec hlo with ⟨rfl, h5⟩ | ⟨y, kk, rfl, h5⟩
      · have : l = 0 := by omega
        subst this; rfl
      · have := he y (by rw [hp]; simp [Op.operands])
        rw [h5] at this
        simp [this, AV.den, bound, natOf]
    have hbh : bound ((hi.map a.eval).map .pure) b.size = some u := by
      rcases ixOf_spec hhi with ⟨rfl, h5⟩ | ⟨y, kk, rfl, h5⟩
      · have : u = b.size := by omega
        subst this; rfl
      · have := he y (by rw [hp]; simp [Op.operands])
        rw [h5] at this
        simp [this, AV.den, bound, natOf]
    have hb := run_bounds (P := C.P) (mx := none) (cap := b.size) (m := b.size) w ρ false rfl hbl hbh (by omega) (by omega) (Nat.le_refl _) (by simp)
    have hden : ∀ z : Option Value, (z.map AV.pure).map (AV.den ρ) = z := fun z => by cases z <;> simp [AV.den]
    rw [hden, hden] at hb
    simp only [Option.map_none] at hb
    simp only [AV.den] at e1
    obtain ⟨dst, op, type, pos, after, guard⟩ := p
    simp only at hp
    subst hp
    simp only [execOp, e1, Instr.sliceAt, Instr.slice, Sem.run_bind, run_underlying (und_of hu), Result.andThen_ok, Sem.run_pure, Option.map_none, hb, AV.den, Int.toNat_natCast, Option.isSome_none, Bool.false_eq_true, if_false]
  · cases h
/-! ### Into a block -/
theorem RpL.take {A : Nat → Prop} {w : World} (n : Nat) {cs : List D} {vs : List Value} (h : RpL A w cs vs) : RpL A w (cs.take n) (vs.take n) := by
  obtain ⟨h1, h2⟩ := h.get
  refine RpL.of (by simp [h1]) fun j d u hj hu => ?_
  rw [List.getElem?_take] at hj hu
  split at hj
  · rw [if_pos (by assumption)] at hu
    obtain ⟨u', h3, h4⟩ := h2 j d hj
    rw [h3] at hu
    cases hu
    exact h4
  · cases hj
theorem RpL.drop {A : Nat → Prop} {w : World} (n : Nat) {cs : List D} {vs : List Value} (h : RpL A w cs vs) : RpL A w (cs.drop n) (vs.drop n) := by
  obtain ⟨h1, h2⟩ := h.get
  refine RpL.of (by simp [h1]) fun j d u hj hu => ?_
  rw [List.getElem?_drop] at hj hu
  obtain ⟨u', h3, h4⟩ := h2 _ d hj
  rw [h3] at hu
  cases hu
  exact h4
theorem RpL.append {A : Nat → Prop} {w : World} : ∀ {cs ds : List D} {vs us : List Value}, RpL A w cs vs → RpL A w ds us → RpL A w (cs ++ ds) (vs ++ us)
  | [], ds, vs, us, h, k => by
    simp only [RpL] at h
    subst h
    exact k
  | c :: cs, ds, vs, us, h, k => by
    simp only [RpL] at h
    obtain ⟨u, us', rfl, h1, h2⟩ := h
    simp only [List.cons_append, RpL]
    exact ⟨u, us' ++ us, rfl, h1, RpL.append h2 k⟩
theorem cellD_one {A : Nat → Prop} {w : World} {d : D} {u : Value} (h : cellD d) (k : Rp A w d u) : u.oneCell' = true := by
  cases d with
  | one v => simp only [Rp] at k; subst k; exact h
  | list k' cs =>
    simp only [Rp] at k
    obtain ⟨dv, rfl, -⟩ := k
    rfl
  | agg cs => exact h.elim
  | tup cs => exact h.elim
theorem cellDs_one {A : Nat → Prop} {w : World} {ds : List D} {us : List Value} (h : ∀ d ∈ ds, cellD d) (k : RpL A w ds us) : ∀ u ∈ us, u.oneCell' = true := by
  intro u hu
  obtain ⟨j, hj, rfl⟩ := List.mem_iff_getElem.1 hu
  obtain ⟨h1, h2⟩ := k.get
  have hjd : j < ds.length := by omega
  obtain ⟨u', h3, h4⟩ := h2 j ds[j] (List.getElem?_eq_getElem hjd)
  rw [List.getElem?_eq_getElem hj] at h3
  cases h3
  exact cellD_one (h _ (List.getElem_mem hjd)) h4
theorem bigStore_ok {p : Oper} {t : TypeId} {x y : Operand} (hp : p.op = .store t x y) {s : St} {o : Out} (h : bigStore C t (aeval s.tmps x) (aeval s.tmps y) s = some o) (hl : Holds C G o.log) : OpOK C w0 p s o := by
  obtain ⟨tm, hh, nx, ora, rs⟩ := s
  unfold bigStore at h
  simp only at h
  split at h
  · rename_i n off hx
    split at h
    · rename_i ds drops cs hds
      split at h
      · rename_i L on size hb hs
        split at h
        · rename_i hc1
          have hc1 := Nat.eq_of_beq_eq_true hc1
          rw [hputK_eq] at h
          simp only [Option.some.injEq] at h
          subst h
          obtain ⟨hf, hone⟩ : off + size ≤ L.length ∧ ∀ u ∈ ds, cellD u := fact_of (hl.1 _ List.mem_cons_self)
          have hcs : ∀ q ∈ cs, q.1 = q.2 := fun q hq => hl.1 q (List.mem_cons_of_mem _ hq)
          refine ⟨.pure undef, rfl, by simp [AV.ok, AV.within], rfl, ⟨Nat.le_refl _, rfl⟩, fun rd ρ a w K Q he hr hbw hE => wpIn_op (by rw [hp]; rfl) ?_⟩
          obtain ⟨r0, p0⟩ := rep_dropL hr (Below.refl _ _) drops
          obtain ⟨b, arr, ty, rest, vs, hb0, hbm, hon, g1, g2, g3, g4⟩ := r0.big hb
          have hus := dOfCells_ok hr hds hcs
          have hul := hus.get.1
          have hvl := g3.get.1
          have e1 := he x (by rw [hp]; simp [Op.operands])
          have e2 := he y (by rw [hp]; simp [Op.operands])
          rw [hx] at e1
          have hsol : solid (aeval tm y) = true := by
            cases hy : aeval tm y <;> first | rfl | (rw [hy] at hds; simp [cellsOf, dOfCells, dOfCell] at hds)
          have hcv : ((aeval tm y).den ρ).cells.toList = AV.denL ρ (cellsOf (aeval tm y)) := by rw [← cellsOf_den ρ _ hsol]
          generalize AV.denL ρ (cellsOf (aeval tm y)) = us at hus hul hcv
          have hal : arr.size = vs.length + rest.length := by rw [← Array.length_toList, g2, List.length_append]
          have hst := run_storeCells_at C.P (ρ.σ n) off ty us 0 arr w g1 (by omega) (cellDs_one hone hus)
          have hnew : (arr.toList.take off ++ us ++ arr.toList.drop (off + us.length)) = (vs.take off ++ us ++ vs.drop (off + us.length)) ++ rest := by
            rw [g2, List.take_append_of_le_length (by omega), List.drop_append_of_le_length (by omega)]
            simp [List.append_assoc]
          simp only [Nat.add_zero] at hst
          rw [hnew] at hst
          generalize hvs' : vs.take off ++ us ++ vs.drop (off + us.length) = vs' at hst
          have hvl' : vs'.length = vs.length := by rw [← hvs']; simp; omega
          have hrp : RpL (FreeH ρ (hdelL hh drops)) w (splice L off ds) vs' := by
            rw [← hvs', ← hul]
            exact ((g3.take off).append hus).append (g3.drop _)
          have hrun : (execOp a.eval p).run C.P w = .ok .skip (w.setRow (ρ.σ n) (vs' ++ rest).toArray) := by
            obtain ⟨dst, op, type, pos, after, guard⟩ := p
            simp only at hp
            subst hp
            have hsz : ((aeval tm y).den ρ).cells.size = size := by rw [← Array.length_toList, hcv, ← hul, hc1]
            have hsv : (storeVar t ⟨ρ.σ n, off, none⟩ ((aeval tm y).den ρ)).run C.P w = .ok () (w.setRow (ρ.σ n) (vs' ++ rest).toArray) := by
              simp only [storeVar, Sem.run_bind, run_sizeT hs, Result.andThen_ok, hsz, ne_eq, not_true_eq_false, if_false, hcv]
              exact hst
            simp only [AV.den] at e1
            simp [execOp, Instr.storeAt, Instr.sureAddr, e1, e2, hsv]
          rw [hrun, Oper.uponIn_skip]
          obtain ⟨r1, p1⟩ := rep_putB r0 hb0 hbm ⟨[], on, .big (splice L off ds)⟩ rfl rfl (w.setRow (ρ.σ n) (vs' ++ rest).toArray) rfl rfl rfl (by simp) (fun k hk => setRow_other w _ k _ hk)
            (fun A' hA => ⟨(vs' ++ rest).toArray, ty, rest, vs', setRow_heap w _ arr _ ty _ g1, by simp, hrp.keep hA, by
              rw [← hon]
              revert g4
              cases b.opn with
              | none => exact id
              | some k => intro g4; simp only [List.size_toArray, List.length_append, hvl']; omega⟩)
          have := hE ρ _ r1 (Post.low_of hr (p0.trans hr r0 p1) fun m h1 h2 => by simp only [Nat.lt_min] at h1 ⊢; omega)
          simpa [AV.den] using this
        · cases h
      · cases h
    · cases h
  · cases h
theorem manyZeros_rp (A : Nat → Prop) (w : World) (z : List Value) (n : Nat) : RpL A w (manyZeros z n) ((List.replicate n z).flatten) := RpL_map (Rp_dCell A w) _
theorem bigMake_ok {p : Oper} {t : TypeId} {x y : Operand} (hp : p.op = .makeSlice t x y) {s : St} {o : Out} (h : bigMake C t (aeval s.tmps x) (aeval s.tmps y) s = some o) (hl : Holds C G o.log) : OpOK C w0 p s o := by
  obtain ⟨tm, hh, nx, ora, rs⟩ := s
  unfold bigMake at h
  simp only at h
  split at h
  · rename_i k l k2 c e hx hy hu
    split at h
    · rename_i i hi
      split at h
      · rename_i z hz
        split at h
        · rename_i hzs
          have hzs := Nat.eq_of_beq_eq_true hzs
          rw [withNat_eq] at h
          simp only [outB, Option.some.injEq] at h
          subst h
          obtain ⟨h0, h1, h2, h3⟩ : 0 ≤ l ∧ l ≤ c ∧ i.bytes * c.toNat ≤ 140737488355328 ∧ c.toNat ≤ 140737488355328 := fact_of (hl.1 _ List.mem_cons_self)
          refine ⟨.bsl nx 0 l.toNat c.toNat, rfl, by simp [AV.ok, AV.within, Nat.blt_eq], rfl, ⟨by simp, rfl⟩, fun rd ρ a w K Q he hr hbw hE => wpIn_op (by rw [hp]; rfl) ?_⟩
          have e1 := he x (by rw [hp]; simp [Op.operands])
          have e2 := he y (by rw [hp]; simp [Op.operands])
          rw [hx] at e1
          rw [hy] at e2
          simp only [AV.den] at e1 e2
          obtain ⟨l', rfl⟩ := Int.eq_ofNat_of_zero_le h0
          obtain ⟨c', rfl⟩ := Int.eq_ofNat_of_zero_le (show 0 ≤ c by omega)
          simp only [Int.toNat_natCast] at h2 h3
          have hbi : (i.bytes : Int) * (c' : Int) ≤ 281474976710656 := by
            have h1 : ((i.bytes * c' : Nat) : Int) ≤ (140737488355328 : Nat) := Int.ofNat_le.2 h2
            rw [Int.natCast_mul] at h1
            omega
          have hm := run_make (P := C.P) w t e i z (und_of hu) (info_of hi) hz k k2 (l' : Int) (c' : Int) (by omega) (by omega) hbi (by omega)
          have hmc : madeCells z.cells ((c' : Int).toNat * i.size) = ((List.replicate c' z.cells.toList).flatten).toArray := by
            rw [Int.toNat_natCast, ← made_cells z.cells c' i.size hzs]; rfl
          rw [hmc] at hm
          have hrun : (execOp a.eval p).run C.P w = .ok (.value (.slice (some ⟨w.heap.size, 0, none⟩) l' c')) (w.alloc (.cells ((List.replicate c' z.cells.toList).flatten).toArray e)) := by
            obtain ⟨dst, op, type, pos, after, guard⟩ := p
            simp only at hp
            subst hp
            simp only [execOp, e1, e2, Sem.run_bind, hm, Result.andThen_ok, Sem.run_pure, Int.toNat_natCast]
          rw [hrun, Oper.uponIn_value]
          obtain ⟨r1, p1⟩ := rep_newB hr hbw.size ⟨[], none, .big (manyZeros z.cells.toList c')⟩ rfl (.cells ((List.replicate c' z.cells.toList).flatten).toArray e) 0 (fun A' w' _ => ⟨_, e, [], (List.replicate c' z.cells.toList).flatten, rfl, by simp, manyZeros_rp _ _ _ _, rfl⟩)
          have := hE _ _ r1 p1
          simpa [AV.den, Env.with_σ] using this
        · cases h
      · cases h
    · cases h
  · cases h
theorem bigNew_spec {lo : Nat} {ρ : Env} {h : AHeap} {nx : Nat} {w : World} (hr : Rep lo ρ h nx w) {P : Program} {size : Nat} {y : AV} {ds : List D} {n : Nat} {c : List (Bool × Bool)} {drops : List Nat} (e : bigNew h size y = some (ds, n, c, drops)) (hc : ∀ p ∈ c, p.1 = p.2) :
    ∃ us, Gives P size (y.den ρ) n us w ∧ RpL (FreeH ρ (hdelL h drops)) w ds us ∧ us.length = n * size := by
  have gives : ∀ {b : Addr} {len cap : Nat} {us : List Value}, us.length = len * size → (∀ (j : Nat) v, us[j]? = some v → w.cell? (b.add j) = some v) → Gives P size (.slice (some b) len cap) len us w := fun hlen hcell =>
    ⟨by simp [Builtin.lenOf], run_firstCells_some w size _ _ _ _ _ hlen hcell, run_firstCells_some w.drew size _ _ _ _ _ hlen (by simpa using hcell)⟩
  have blk : ∀ {b off len cap : Nat} {L : List D} {on : Option Nat}, bigOf h b = some (L, on) → off + len * size ≤ L.length →
      ∃ us, Gives P size (.slice (some ⟨ρ.σ b, off, none⟩) len cap) len us w ∧ RpL (FreeH ρ h) w ((L.drop off).take (len * size)) us ∧ us.length = len * size := by
    intro b off len cap L on hb hl
    obtain ⟨bk, arr, ty, rest, vs, -, -, -, g1, g2, g3, -⟩ := hr.big hb
    have hvl := g3.get.1
    have hat : RpAt (FreeH ρ h) w ((L.drop off).take (len * size)) (ρ.σ b) off := by
      have h1 := RpAt.block g1 g2 g3 off
      refine RpAt.of fun j d hj => ?_
      rw [List.getElem?_take] at hj
      split at hj
      · exact h1.get j d hj
      · cases hj
    obtain ⟨us, k1, k2, k3⟩ := hat.out
    have hlen : us.length = len * size := by rw [k2]; simp; omega
    exact ⟨us, gives hlen fun j v hj => by rw [add_plain]; exact k3 j v hj, k1, hlen⟩
  unfold bigNew at e
  split at e
  · split at e
    · rename_i L on hb
      cases e
      exact blk hb (fact_of (hc _ List.mem_cons_self))
    · cases e
  · split at e
    · rename_i L on hb
      cases e
      exact blk hb (fact_of (hc _ List.mem_cons_self))
    · cases e
  · rename_i m
    split at e
    · rename_i k cs hd
      cases e
      have hcl : ds.length = n * size := fact_of (hc _ List.mem_cons_self)
      have hdp := hr.deep hd
      simp only [Rp] at hdp
      obtain ⟨dv, h1, h2, h3, h4⟩ := hdp
      obtain ⟨q, len, cap⟩ := dv
      simp only at h2 h3 h4
      subst h2
      simp only [AV.den, sliceOf_inj h1, sliceOf]
      rcases h4 with ⟨rfl, rfl⟩ | ⟨b, off, rfl, -, -, h7⟩
      · refine ⟨[], ?_, by simp only [RpL], by simp⟩
        cases q with
        | none => exact ⟨by simp [Builtin.lenOf], by simp [Builtin.firstCells], by simp [Builtin.firstCells]⟩
        | some b => exact gives (by simp) fun j v hj => by simp at hj
      · obtain ⟨us, k1, k2, k3⟩ := h7.out
        exact ⟨us, gives (by rw [k2, hcl]) fun j v hj => by rw [add_plain]; exact k3 j v hj, k1, by rw [k2, hcl]⟩
    · cases e
  · split at e
    · rename_i ys m hnc
      split at e
      · rename_i ds' drops' c' hus
        cases e
        obtain ⟨h1, h2⟩ := newCells_spec (s := ⟨[], h, nx, [], ⟨[], noFrame⟩⟩) hr (P := P) hnc
        exact ⟨_, h1, dOfCells_ok hr hus hc, by rw [denL_length]; exact h2⟩
      · cases e
    · cases e
section
variable {P : Program} (w : World)
/-- What is appended: elements, or so many zeros. -/
def Puts (P : Program) (u : TypeId) (i : TypeInfo) (z y : Value) (n : Nat) (us : List Value) (w : World) : Prop :=
  (∃ du, P.underlying u = some du ∧ listLike du = true ∧ Gives P i.size y n us w) ∨ (∃ k k', P.underlying u = some (.int k) ∧ y = .int k' (n : Int) ∧ us = (List.replicate n z.cells.toList).flatten)
theorem zeros_eq {z : Value} {size : Nat} (n : Nat) (hzs : z.cells.size = size) : Builtin.zeroCells z.cells n = ((List.replicate n z.cells.toList).flatten).toArray := by
  have h := made_cells z.cells n size hzs
  unfold Builtin.zeroCells; rw [← hzs] at h; exact h
theorem zeros_nil {z : Value} {size n : Nat} (hzs : z.cells.size = size) (h0 : n * size = 0) : ((List.replicate n z.cells.toList).flatten).toArray = #[] := by
  rw [← zeros_eq n hzs]
  apply Array.size_eq_zero_iff.1
  unfold Builtin.zeroCells; rw [hzs]; simp only [Array.size_map, Array.size_range]; exact h0
theorem wrapN {n : Nat} (h : (n : Int) ≤ 9223372036854775807) : IntKind.i64.wrap (n : Int) = n := by
  simp [IntKind.wrap, IntKind.bits, IntKind.signed] <;> omega
theorem app_nilP (t u ty e : TypeId) (i : TypeInfo) (z : Value) (ht : P.underlying t = some (.slice e)) (hi : P.info? e = some i) (hz : i.zero = some z) (hzs : z.cells.size = i.size)
    (y : Value) (n : Nat) (news : List Value) (hy : Puts P u i z y n news w)
    (h0 : 0 < n) (h63 : (n : Int) ≤ 9223372036854775807) (h48 : n * i.bytes ≤ 281474976710656) :
    (Builtin.append_ #[t, u] ty #[.slice none 0 0, y]).run P w =
      .ok (.slice (some ⟨w.heap.size, 0, none⟩) n (grownCap w n 0 e)) (w.drew.alloc (.cells (news.toArray ++ Builtin.zeroCells z.cells (grownCap w n 0 e - n)) e)) := by
  rcases hy with ⟨du, hu, hdu, hy⟩ | ⟨k, k', hu, rfl, rfl⟩
  · exact app_nil w t u ty e du i z ht hu hdu hi hz y n news hy h0 h63 h48
  have hn : n ≠ 0 := by omega
  have hneg : ¬ ((n : Int) < 0) := by omega
  have hbig : ¬ (281474976710656 < (n : Int) * (i.bytes : Int)) := by
    rw [← Int.natCast_mul]; omega
  have h63' : ¬ (9223372036854775807 < (n : Int)) := by omega
  have h48' : ¬ (281474976710656 < Builtin.nextslicecap n 0 * i.bytes) := by rw [nextslicecap_zero h0]; omega
  simp [Builtin.append_, run_underlying ht, run_underlying hu, hi, hz, hn, hneg, hbig, h63', h48', Question.forced, run_firstCells_none, newRow, grownCap, asInt, asIntOf, wrapN h63, typeInfo, zeroValue, sizeOf]
  rw [← zeros_eq n hzs]
  split
  · rename_i h; rw [zeros_eq n hzs, zeros_nil hzs h, Array.empty_append]
  · rfl
theorem app_growP (t u ty e : TypeId) (i : TypeInfo) (z : Value) (ht : P.underlying t = some (.slice e)) (hi : P.info? e = some i) (hz : i.zero = some z) (hzs : z.cells.size = i.size)
    (b : Addr) (sLen sCap : Nat) (olds : List Value) (hlo : olds.length = sLen * i.size) (holds : ∀ j v, olds[j]? = some v → w.cell? (b.add j) = some v)
    (y : Value) (n : Nat) (news : List Value) (hy : Puts P u i z y n news w)
    (hg : sCap < sLen + n) (h63 : ((sLen + n : Nat) : Int) ≤ 9223372036854775807) (hfit : Builtin.nextslicecap (sLen + n) sCap * i.bytes ≤ 281474976710656) (h48 : n * i.bytes ≤ 281474976710656) :
    (Builtin.append_ #[t, u] ty #[.slice (some b) sLen sCap, y]).run P w =
      .ok (.slice (some ⟨w.heap.size, 0, none⟩) (sLen + n) (grownCap w (sLen + n) sCap e))
        (w.drew.alloc (.cells (olds.toArray ++ news.toArray ++ Builtin.zeroCells z.cells (grownCap w (sLen + n) sCap e - (sLen + n))) e)) := by
  rcases hy with ⟨du, hu, hdu, hy⟩ | ⟨k, k', hu, rfl, rfl⟩
  · exact app_grow w t u ty e du i z ht hu hdu hi hz b sLen sCap olds hlo holds y n news hy hg h63 hfit
  have hn : ¬ (sLen + n ≤ sCap) := by omega
  have hneg : ¬ ((n : Int) < 0) := by omega
  have hbig : ¬ (281474976710656 < (n : Int) * (i.bytes : Int)) := by
    rw [← Int.natCast_mul]; omega
  have h63' : ¬ (9223372036854775807 < ((sLen : Int) + (n : Int))) := by omega
  have h48' : ¬ (281474976710656 < Builtin.nextslicecap (sLen + n) sCap * i.bytes) := by omega
  have hfo := run_firstCells_some (P := P) w.drew i.size sLen b sLen sCap olds hlo (by simpa using holds)
  have hw := wrapN (n := n) (by omega)
  simp [Builtin.append_, run_underlying ht, run_underlying hu, sizeOf, typeInfo, zeroValue, hi, hz, hn, hneg, hbig, h63', h48', Question.forced, hfo, newRow, grownCap, asInt, asIntOf, hw]
  have hc : (olds ++ (List.replicate n z.cells.toList).flatten).toArray = olds.toArray ++ Builtin.zeroCells z.cells n := by rw [zeros_eq n hzs]; simp
  rw [hc]
  split
  · rename_i h
    have hn0 : Builtin.zeroCells z.cells n = #[] := by rw [zeros_eq n hzs, zeros_nil hzs h]
    rw [hn0, Array.append_empty]
  · rw [Array.append_assoc]
theorem app_roomP (t u ty e : TypeId) (i : TypeInfo) (z : Value) (ht : P.underlying t = some (.slice e)) (hi : P.info? e = some i) (hz : i.zero = some z) (hzs : z.cells.size = i.size)
    (g off sLen sCap : Nat) (cur : Array Value) (eb : TypeId) (hg : w.heap[g]? = some (.cells cur eb (0, 0)))
    (y : Value) (m : Nat) (news : List Value) (hy : Puts P u i z y m news w) (h1 : ∀ u ∈ news, u.oneCell' = true)
    (hroom : sLen + m ≤ sCap) (hfit : off + sLen * i.size + news.length ≤ cur.size) (h63 : (m : Int) ≤ 9223372036854775807) (h48 : m * i.bytes ≤ 281474976710656) :
    (Builtin.append_ #[t, u] ty #[.slice (some ⟨g, off, none⟩) sLen sCap, y]).run P w =
      .ok (.slice (some ⟨g, off, none⟩) (sLen + m) sCap) (w.setRow g (cur.toList.take (off + sLen * i.size) ++ news ++ cur.toList.drop (off + sLen * i.size + news.length)).toArray) := by
  rcases hy with ⟨du, hu, hdu, hy⟩ | ⟨k, k', hu, rfl, rfl⟩
  · exact app_room w t u ty e du i ht hu hdu hi g off sLen sCap cur eb hg y m news hy h1 hroom hfit
  have hst := run_storeCells_at P g (off + sLen * i.size) eb ((List.replicate m z.cells.toList).flatten) 0 cur w hg (by simpa using hfit) h1
  simp only [Nat.add_zero] at hst
  have hadd : (⟨g, off, none⟩ : Addr).add (sLen * i.size) = ⟨g, off + sLen * i.size, none⟩ := by unfold Addr.add; split <;> simp_all
  have hneg : ¬ ((m : Int) < 0) := by omega
  have hbig : ¬ (281474976710656 < (m : Int) * (i.bytes : Int)) := by
    rw [← Int.natCast_mul]; omega
  have hzl : (Builtin.zeroCells z.cells m).toList = (List.replicate m z.cells.toList).flatten := by rw [zeros_eq m hzs]
  by_cases h : m * i.size = 0
  · have hn : (List.replicate m z.cells.toList).flatten = [] := by
      have := congrArg Array.toList (zeros_nil (n := m) hzs h)
      simpa using this
    rw [hn] at hst ⊢
    simp at hst
    simp [Builtin.append_, run_underlying ht, run_underlying hu, sizeOf, typeInfo, zeroValue, hi, hz, hroom, hneg, hbig, asInt, asIntOf, wrapN h63, hadd, h, hst]
  · simp [Builtin.append_, run_underlying ht, run_underlying hu, sizeOf, typeInfo, zeroValue, hi, hz, hroom, hneg, hbig, asInt, asIntOf, wrapN h63, hadd, h, hzl, hst]
end
theorem bigPut_spec {lo : Nat} {ρ : Env} {h : AHeap} {nx : Nat} {w : World} (hr : Rep lo ρ h nx w) {P : Program} {u : TypeId} {du : TypeDesc} (hu : P.underlying u = some du) {i : TypeInfo} {z : Value} (hzs : z.cells.size = i.size) {y : AV} {ds : List D} {n : Nat} {c : List (Bool × Bool)} {drops : List Nat} (e : bigPut h i z du y = some (ds, n, c, drops)) (hc : ∀ p ∈ c, p.1 = p.2) :
    ∃ us, Puts P u i z (y.den ρ) n us w ∧ RpL (FreeH ρ (hdelL h drops)) w ds us ∧ us.length = n * i.size := by
  unfold bigPut at e
  split at e
  · rename_i hll
    obtain ⟨us, h1, h2, h3⟩ := bigNew_spec hr (P := P) e hc
    exact ⟨us, .inl ⟨du, hu, hll, h1⟩, h2, h3⟩
  · split at e
    · rename_i k l hkk
      cases e
      have h0 : 0 ≤ l := fact_of (hc _ List.mem_cons_self)
      refine ⟨(List.replicate l.toNat z.cells.toList).flatten, .inr ⟨_, k, hu, by simp only [AV.den, Int.toNat_of_nonneg h0], rfl⟩, manyZeros_rp _ _ _ _, ?_⟩
      have := congrArg Array.size (zeros_eq l.toNat hzs)
      rw [size_zeroCells, hzs] at this
      simpa using this.symm
    · cases e
theorem bigAppTo_ok {p : Oper} {c : Call} (hp : p.op = .call c) (hcal : c.callee = .builtin .append) {tm : List AV} {h : AHeap} {nx : Nat} {ora : List Bool} {rs : Rs} {x y : Operand} {t u e : TypeId} (ha : c.args = #[x, y]) (hty : c.argTypes = #[t, u])
    {i : TypeInfo} {z : Value} (ht : C.P.underlying t = some (.slice e)) (hi : C.P.info? e = some i) (hz : i.zero = some z) (hzs : z.cells.size = i.size)
    {ds : List D} {n : Nat} {cs : List (Bool × Bool)} {drops : List Nat} (hspec : ∀ {ρ : Env} {w : World}, Rep w0.heap.size ρ h nx w → (∀ q ∈ cs, q.1 = q.2) → ∃ us, Puts C.P u i z ((aeval tm y).den ρ) n us w ∧ RpL (FreeH ρ (hdelL h drops)) w ds us ∧ us.length = n * i.size) {o : Out} (ho : bigAppTo i.size i.bytes (aeval tm x) ds n cs drops ⟨tm, h, nx, ora, rs⟩ = some o) (hl : Holds C G o.log) :
    OpOK C w0 p ⟨tm, h, nx, ora, rs⟩ o := by
  have hdf : isDefer p.op = false := by rw [hp]; rfl
  have hzl : ∀ k, (Builtin.zeroCells z.cells k).size = k * i.size := fun k => by rw [size_zeroCells, hzs]
  have hexec : ∀ (a : Act) (w : World) (ty : TypeId) {r : Value} {w' : World}, p.type = ty → (Builtin.append_ #[t, u] ty #[a.eval x, a.eval y]).run C.P w = .ok r w' → (execOp a.eval p).run C.P w = .ok (.value r) w' := fun a w ty r w' e1 h1 => by
    obtain ⟨dst, op, type, pos, after, guard⟩ := p
    simp only at hp e1
    subst hp
    subst e1
    simp [execOp, resolve, hcal, invoke, builtin, ha, hty, h1]
  have hops : ∀ {ρ : Env} {a : Act}, (∀ x ∈ p.op.operands, a.eval x = (aeval tm x).den ρ) → a.eval x = (aeval tm x).den ρ ∧ a.eval y = (aeval tm y).den ρ := fun he => ⟨he x (by rw [hp]; simp [Op.operands, Call.operands, ha]), he y (by rw [hp]; simp [Op.operands, Call.operands, ha])⟩
  unfold bigAppTo at ho
  simp only at ho
  split at ho
  · rename_i l0 c0 hx
    split at ho
    · rw [withNat_eq] at ho
      simp only [outA, Option.some.injEq] at ho
      subst ho
      obtain ⟨h0, hb1, hb2⟩ : 0 < n ∧ n * i.bytes ≤ 140737488355328 ∧ n ≤ 4611686018427387904 := fact_of (hl.1 _ List.mem_cons_self)
      have hcs : ∀ q ∈ cs, q.1 = q.2 := fun q hq => hl.1 q (List.mem_cons_of_mem _ hq)
      refine op_new (by omega) (by simp [AV.ok, AV.within, Nat.blt_eq]) hdf fun ρ a w he hr hbw => ?_
      obtain ⟨e1, e2⟩ := hops he
      have hlo := hbw.size
      obtain ⟨us, hg, hrp, hln⟩ := hspec hr hcs
      obtain ⟨r0, p0⟩ := rep_dropL hr (Below.refl _ _) drops
      have hrun := app_nilP w t u p.type e i z ht hi hz hzs _ n us hg h0 (by omega) (by omega)
      obtain ⟨r1, p1⟩ := rep_appX r0 hlo (h' := hdelL h drops) (fun _ _ h => h) (low := nx) (fun _ _ _ => rfl) ⟨[], some i.size, .big ds⟩ rfl (.cells (us.toArray ++ Builtin.zeroCells z.cells (grownCap w n 0 e - n)) e) (grownCap w n 0 e)
        (fun A' w' hA => ⟨_, e, (Builtin.zeroCells z.cells (grownCap w n 0 e - n)).toList, us, rfl, by simp, hrp.keep hA, by
          have := grownCap_ge w n 0 e
          show (us.toArray ++ Builtin.zeroCells z.cells (grownCap w n 0 e - n)).size = grownCap w n 0 e * i.size
          rw [Array.size_append, hzl, List.size_toArray, hln, ← Nat.add_mul]
          congr 1; omega⟩)
      refine ⟨_, _, hexec a w p.type rfl ?_, r1, Post.low_of hr (p0.trans hr r0 p1) fun m h1 h2 => by simp only [Nat.lt_min]; omega⟩
      rw [e1, e2, hx]
      simp only [AV.den, Env.with_σ, Env.with_κ, Nat.sub_zero]
      exact hrun
    · cases ho
  · rename_i m hx
    split at ho
    rotate_left
    · cases ho
    rename_i hvd
    rw [withNat_eq] at ho
    simp only [outA, Option.some.injEq] at ho
    subst ho
    obtain ⟨h0, hb1, hb2⟩ : 0 < n ∧ n * i.bytes ≤ 140737488355328 ∧ n ≤ 4611686018427387904 := fact_of (hl.1 _ List.mem_cons_self)
    have hcs : ∀ q ∈ cs, q.1 = q.2 := fun q hq => hl.1 q (List.mem_cons_of_mem _ hq)
    refine op_new (by omega) (by simp [AV.ok, AV.within, Nat.blt_eq]) hdf fun ρ a w he hr hbw => ?_
    obtain ⟨e1, e2⟩ := hops he
    have hlo := hbw.size
    obtain ⟨us, hg, hrp, hln⟩ := hspec hr hcs
    obtain ⟨r0, p0⟩ := rep_dropL hr (Below.refl _ _) drops
    obtain ⟨q, hq⟩ := hr.void hvd
    have hrun : ∃ cap, n ≤ cap ∧ (Builtin.append_ #[t, u] p.type #[.slice q 0 0, a.eval y]).run C.P w = .ok (.slice (some ⟨w.heap.size, 0, none⟩) n cap) (w.drew.alloc (.cells (us.toArray ++ Builtin.zeroCells z.cells (cap - n)) e)) := by
      rw [e2]
      cases q with
      | none =>
        exact ⟨_, by have := grownCap_ge w n 0 e; omega, app_nilP w t u p.type e i z ht hi hz hzs _ n us hg h0 (by omega) (by omega)⟩
      | some b =>
        have := app_growP w t u p.type e i z ht hi hz hzs b 0 0 [] (by simp) (fun j v hj => by simp at hj) _ n us hg (by omega) (by omega) (growslice_fits (by omega) (by simpa using hb1)) (by omega)
        refine ⟨grownCap w (0 + n) 0 e, by have := grownCap_ge w (0 + n) 0 e; omega, ?_⟩
        simpa using this
    obtain ⟨cap, hcge, hrun⟩ := hrun
    obtain ⟨r1, p1⟩ := rep_appX r0 hlo (h' := hdelL h drops) (fun _ _ h => h) (low := nx) (fun _ _ _ => rfl) ⟨[], some i.size, .big ds⟩ rfl (.cells (us.toArray ++ Builtin.zeroCells z.cells (cap - n)) e) cap
      (fun A' w' hA => ⟨_, e, (Builtin.zeroCells z.cells (cap - n)).toList, us, rfl, by simp, hrp.keep hA, by
        show (us.toArray ++ Builtin.zeroCells z.cells (cap - n)).size = cap * i.size
        rw [Array.size_append, hzl, List.size_toArray, hln, ← Nat.add_mul]
        congr 1; omega⟩)
    refine ⟨_, _, hexec a w p.type rfl ?_, r1, Post.low_of hr (p0.trans hr r0 p1) fun m h1 h2 => by simp only [Nat.lt_min]; omega⟩
    rw [e1, hx]
    simp only [AV.den, Env.with_σ, Env.with_κ, Nat.sub_zero, hq, sliceOf]
    exact hrun
  · rename_i b off len sub hx
    split at ho
    rotate_left
    · cases ho
    rename_i L k hbg
    split at ho
    rotate_left
    · cases ho
    rename_i hk
    have hk := Nat.eq_of_beq_eq_true hk
    subst hk
    rw [withNat_eq] at ho
    simp only [outA, Option.some.injEq] at ho
    subst ho
    obtain ⟨hone, hlL, hb1, hb2⟩ : (∀ u ∈ ds, cellD u) ∧ len * i.size ≤ L.length ∧ (len + n) * i.bytes ≤ 140737488355328 ∧ len + n ≤ 4611686018427387904 := fact_of (hl.1 _ List.mem_cons_self)
    have hcs : ∀ q ∈ cs, q.1 = q.2 := fun q hq => hl.1 q (List.mem_cons_of_mem _ hq)
    have hn48 : n * i.bytes ≤ 281474976710656 := Nat.le_trans (Nat.mul_le_mul_right _ (Nat.le_add_left n len)) (by omega)
    refine op_new (by omega) (by simp [AV.ok, AV.within, Nat.blt_eq]) hdf fun ρ a w he hr hbw => ?_
    obtain ⟨e1, e2⟩ := hops he
    have hlo := hbw.size
    obtain ⟨us, hg, hrp, hln⟩ := hspec hr hcs
    obtain ⟨r0, p0⟩ := rep_dropL hr (Below.refl _ _) drops
    obtain ⟨bk, arr, eb, rest, vs, hb0, hbm, hon, h1, h2, h2', h3⟩ := r0.big hbg
    rw [hon] at h3
    have hvl := h2'.get.1
    have hal : arr.size = vs.length + rest.length := by rw [← Array.length_toList, h2, List.length_append]
    have htl : (vs.take (len * i.size)).length = len * i.size := by rw [List.length_take]; omega
    have hrpn : RpL (FreeH ρ (hdelL h drops)) w (L.take (len * i.size) ++ ds) (vs.take (len * i.size) ++ us) := (h2'.take _).append hrp
    by_cases hroom : len + n ≤ (ρ.kk b).cap
    · have h3' : arr.size = (ρ.kk b).cap * i.size := h3
      have hfit : len * i.size + n * i.size ≤ arr.size := by
        rw [h3', ← Nat.add_mul]; exact Nat.mul_le_mul_right _ hroom
      have hrun := app_roomP w t u p.type e i z ht hi hz hzs (ρ.σ b) 0 len ((ρ.kk b).cap) arr eb h1 _ n us hg (cellDs_one hone hrp) hroom (by rw [hln]; omega) (by omega) hn48
      obtain ⟨r1, p1⟩ := rep_overX r0 hb0 hbm ⟨[], some i.size, .big (L.take (len * i.size) ++ ds)⟩ rfl rfl ((ρ.kk b).cap) (w.setRow (ρ.σ b) (arr.toList.take (0 + len * i.size) ++ us ++ arr.toList.drop (0 + len * i.size + us.length)).toArray) rfl rfl rfl (by simp) (fun k hk => setRow_other w _ k _ hk)
        (fun A' hA => ⟨(arr.toList.take (0 + len * i.size) ++ us ++ arr.toList.drop (0 + len * i.size + us.length)).toArray, eb, arr.toList.drop (0 + len * i.size + us.length), vs.take (len * i.size) ++ us, setRow_heap w _ arr _ eb _ h1, by
          simp only [Nat.zero_add]
          rw [h2, List.take_append_of_le_length (by omega)], hrpn.keep hA, by
          simp only [List.size_toArray, List.length_append, List.length_take, List.length_drop, hln, Array.length_toList, Nat.zero_add]
          omega⟩)
      refine ⟨_, _, hexec a w p.type rfl ?_, r1, Post.low_of hr (p0.trans hr r0 p1) fun m h1 h2 => by simp only [Nat.lt_min] at h1 ⊢; omega⟩
      rw [e1, e2, hx]
      simp only [AV.den, Env.with_σ, Env.with_κ, Nat.sub_zero]
      exact hrun
    · have hrun := app_growP w t u p.type e i z ht hi hz hzs ⟨ρ.σ b, 0, none⟩ len ((ρ.kk b).cap) (vs.take (len * i.size)) htl (fun j v hj => by
        rw [add_plain, Nat.zero_add]
        have hj' : j < len * i.size := by have := (List.getElem?_eq_some_iff.1 hj).1; omega
        rw [List.getElem?_take, if_pos hj'] at hj
        have : arr.toList[j]? = some v := by rw [h2, List.getElem?_append_left (by omega)]; exact hj
        simpa [World.cell?, h1] using this) _ n us hg (by omega) (by omega) (growslice_fits (by omega) hb1) hn48
      obtain ⟨r1, p1⟩ := rep_appX r0 hlo (h' := hdel (hdelL h drops) b) (fun m c hm => (hdel_sub m c hm).2) (low := b) (fun m hm _ => by rw [hget_del, if_neg (by omega)]) ⟨[], some i.size, .big (L.take (len * i.size) ++ ds)⟩ rfl
        (.cells ((vs.take (len * i.size)).toArray ++ us.toArray ++ Builtin.zeroCells z.cells (grownCap w (len + n) ((ρ.kk b).cap) e - (len + n))) e) (grownCap w (len + n) ((ρ.kk b).cap) e)
        (fun A' w' hA => ⟨_, e, (Builtin.zeroCells z.cells (grownCap w (len + n) ((ρ.kk b).cap) e - (len + n))).toList, vs.take (len * i.size) ++ us, rfl, by simp, hrpn.keep fun k hk hf => hA k hk ⟨hf.1, fun m c hm hc => hf.2 m c (hdel_sub m c hm).2 hc⟩, by
          have := grownCap_ge w (len + n) ((ρ.kk b).cap) e
          show ((vs.take (len * i.size)).toArray ++ us.toArray ++ Builtin.zeroCells z.cells (grownCap w (len + n) ((ρ.kk b).cap) e - (len + n))).size = grownCap w (len + n) ((ρ.kk b).cap) e * i.size
          rw [Array.size_append, Array.size_append, hzl, List.size_toArray, List.size_toArray, hln, htl, ← Nat.add_mul, ← Nat.add_mul]
          congr 1; omega⟩)
      refine ⟨_, _, hexec a w p.type rfl ?_, r1, Post.low_of hr (p0.trans hr r0 p1) fun m h1 h2 => by simp only [Nat.lt_min] at h1 ⊢; omega⟩
      rw [e1, e2, hx]
      simp only [AV.den, Env.with_σ, Env.with_κ, Nat.sub_zero]
      exact hrun
  · rename_i b off len cap hx
    split at ho
    rotate_left
    · cases ho
    rename_i L hbg
    rw [withNat_eq] at ho
    simp only [outA, Option.some.injEq] at ho
    subst ho
    obtain ⟨hone, hlc, hLc, hb1, hb2⟩ : (∀ u ∈ ds, cellD u) ∧ len ≤ cap ∧ L.length = cap * i.size ∧ (len + n) * i.bytes ≤ 140737488355328 ∧ len + n ≤ 4611686018427387904 := fact_of (hl.1 _ List.mem_cons_self)
    have hcs : ∀ q ∈ cs, q.1 = q.2 := fun q hq => hl.1 q (List.mem_cons_of_mem _ hq)
    have hn48 : n * i.bytes ≤ 281474976710656 := Nat.le_trans (Nat.mul_le_mul_right _ (Nat.le_add_left n len)) (by omega)
    refine op_new (by omega) (by simp [AV.ok, AV.within, Nat.blt_eq]) hdf fun ρ a w he hr hbw => ?_
    obtain ⟨e1, e2⟩ := hops he
    have hlo := hbw.size
    obtain ⟨us, hg, hrp, hln⟩ := hspec hr hcs
    obtain ⟨r0, p0⟩ := rep_dropL hr (Below.refl _ _) drops
    obtain ⟨bk, arr, eb, rest, vs, hb0, hbm, hon, h1, h2, h2', h3⟩ := r0.big hbg
    rw [hon] at h3
    simp only at h3
    subst h3
    rw [List.append_nil] at h2
    have hvl := h2'.get.1
    have hLl : vs.length = cap * i.size := by rw [← hvl]; exact hLc
    have hal : arr.size = vs.length := by rw [← Array.length_toList, h2]
    have hlcs : len * i.size ≤ vs.length := by rw [hLl]; exact Nat.mul_le_mul_right _ hlc
    have htl : (vs.take (len * i.size)).length = len * i.size := by rw [List.length_take]; omega
    have hrpn : RpL (FreeH ρ (hdelL h drops)) w (L.take (len * i.size) ++ ds) (vs.take (len * i.size) ++ us) := (h2'.take _).append hrp
    by_cases hroom : len + n ≤ cap
    · have hfit : len * i.size + n * i.size ≤ arr.size := by rw [hal, hLl, ← Nat.add_mul]; exact Nat.mul_le_mul_right _ hroom
      have hrun := app_roomP w t u p.type e i z ht hi hz hzs (ρ.σ b) 0 len cap arr eb h1 _ n us hg (cellDs_one hone hrp) hroom (by rw [hln]; omega) (by omega) hn48
      obtain ⟨r1, p1⟩ := rep_overX r0 hb0 hbm ⟨[], some i.size, .big (L.take (len * i.size) ++ ds)⟩ rfl rfl cap (w.setRow (ρ.σ b) (arr.toList.take (0 + len * i.size) ++ us ++ arr.toList.drop (0 + len * i.size + us.length)).toArray) rfl rfl rfl (by simp) (fun k hk => setRow_other w _ k _ hk)
        (fun A' hA => ⟨(arr.toList.take (0 + len * i.size) ++ us ++ arr.toList.drop (0 + len * i.size + us.length)).toArray, eb, arr.toList.drop (0 + len * i.size + us.length), vs.take (len * i.size) ++ us, setRow_heap w _ arr _ eb _ h1, by
          simp only [Nat.zero_add]
          rw [h2], hrpn.keep hA, by
          simp only [List.size_toArray, List.length_append, List.length_take, List.length_drop, hln, Array.length_toList, Nat.zero_add]
          omega⟩)
      refine ⟨_, _, hexec a w p.type rfl ?_, r1, Post.low_of hr (p0.trans hr r0 p1) fun m h1 h2 => by simp only [Nat.lt_min] at h1 ⊢; omega⟩
      rw [e1, e2, hx]
      simp only [AV.den, Env.with_σ, Env.with_κ, Nat.sub_zero]
      exact hrun
    · have hrun := app_growP w t u p.type e i z ht hi hz hzs ⟨ρ.σ b, 0, none⟩ len cap (vs.take (len * i.size)) htl (fun j v hj => by
        rw [add_plain, Nat.zero_add]
        have hj' : j < len * i.size := by have := (List.getElem?_eq_some_iff.1 hj).1; omega
        rw [List.getElem?_take, if_pos hj'] at hj
        have : arr.toList[j]? = some v := by rw [h2]; exact hj
        simpa [World.cell?, h1] using this) _ n us hg (by omega) (by omega) (growslice_fits (by omega) hb1) hn48
      obtain ⟨r1, p1⟩ := rep_appX r0 hlo (h' := hdel (hdelL h drops) b) (fun m c hm => (hdel_sub m c hm).2) (low := b) (fun m hm _ => by rw [hget_del, if_neg (by omega)]) ⟨[], some i.size, .big (L.take (len * i.size) ++ ds)⟩ rfl
        (.cells ((vs.take (len * i.size)).toArray ++ us.toArray ++ Builtin.zeroCells z.cells (grownCap w (len + n) cap e - (len + n))) e) (grownCap w (len + n) cap e)
        (fun A' w' hA => ⟨_, e, (Builtin.zeroCells z.cells (grownCap w (len + n) cap e - (len + n))).toList, vs.take (len * i.size) ++ us, rfl, by simp, hrpn.keep fun k hk hf => hA k hk ⟨hf.1, fun m c hm hc => hf.2 m c (hdel_sub m c hm).2 hc⟩, by
          have := grownCap_ge w (len + n) cap e
          show ((vs.take (len * i.size)).toArray ++ us.toArray ++ Builtin.zeroCells z.cells (grownCap w (len + n) cap e - (len + n))).size = grownCap w (len + n) cap e * i.size
          rw [Array.size_append, Array.size_append, hzl, List.size_toArray, List.size_toArray, hln, htl, ← Nat.add_mul, ← Nat.add_mul]
          congr 1; omega⟩)
      refine ⟨_, _, hexec a w p.type rfl ?_, r1, Post.low_of hr (p0.trans hr r0 p1) fun m h1 h2 => by simp only [Nat.lt_min] at h1 ⊢; omega⟩
      rw [e1, e2, hx]
      simp only [AV.den, Env.with_σ, Env.with_κ, Nat.sub_zero]
      exact hrun
  · rename_i b off len cap hx
    split at ho
    rotate_left
    · cases ho
    rename_i bcs kd hcl
    split at ho
    rotate_left
    · cases ho
    rename_i L hcl2 hpu
    have hcl2 := Nat.eq_of_beq_eq_true hcl2
    rw [withNat_eq] at ho
    simp only [outA, Option.some.injEq] at ho
    subst ho
    obtain ⟨hone, hlc, hb1, hb2⟩ : (∀ u ∈ ds, cellD u) ∧ len ≤ cap ∧ (len + n) * i.bytes ≤ 140737488355328 ∧ len + n ≤ 4611686018427387904 := fact_of (hl.1 _ List.mem_cons_self)
    have hcs : ∀ q ∈ cs, q.1 = q.2 := fun q hq => hl.1 q (List.mem_cons_of_mem _ hq)
    have hn48 : n * i.bytes ≤ 281474976710656 := Nat.le_trans (Nat.mul_le_mul_right _ (Nat.le_add_left n len)) (by omega)
    refine op_new (by omega) (by simp [AV.ok, AV.within, Nat.blt_eq]) hdf fun ρ a w he hr hbw => ?_
    obtain ⟨e1, e2⟩ := hops he
    have hlo := hbw.size
    obtain ⟨us, hg, hrp, hln⟩ := hspec hr hcs
    obtain ⟨r0, p0⟩ := rep_dropL hr (Below.refl _ _) drops
    obtain ⟨hb0, hbk⟩ := hcells_get hcl
    obtain ⟨arr, eb, rest, h1, h2, h3⟩ := r0.cells hb0 hbk
    have hbm := mem_cells hbk
    simp only at h2 h3
    subst h3
    rw [List.append_nil] at h2
    have h2' : RpL (FreeH ρ (hdelL h drops)) w L (AV.denL ρ bcs) := dOfCells_ok r0 hpu fun q hq => by simp at hq
    have hvl := h2'.get.1
    have hLl : (AV.denL ρ bcs).length = cap * i.size := by rw [← hcl2, denL_length]
    generalize AV.denL ρ bcs = vs at h2 h2' hvl hLl
    have hal : arr.size = vs.length := by rw [← Array.length_toList, h2]
    have hlcs : len * i.size ≤ vs.length := by rw [hLl]; exact Nat.mul_le_mul_right _ hlc
    have htl : (vs.take (len * i.size)).length = len * i.size := by rw [List.length_take]; omega
    have hrpn : RpL (FreeH ρ (hdelL h drops)) w (L.take (len * i.size) ++ ds) (vs.take (len * i.size) ++ us) := (h2'.take _).append hrp
    by_cases hroom : len + n ≤ cap
    · have hfit : len * i.size + n * i.size ≤ arr.size := by rw [hal, hLl, ← Nat.add_mul]; exact Nat.mul_le_mul_right _ hroom
      have hrun := app_roomP w t u p.type e i z ht hi hz hzs (ρ.σ b) 0 len cap arr eb h1 _ n us hg (cellDs_one hone hrp) hroom (by rw [hln]; omega) (by omega) hn48
      obtain ⟨r1, p1⟩ := rep_overX r0 hb0 hbm ⟨[], some i.size, .big (L.take (len * i.size) ++ ds)⟩ rfl rfl cap (w.setRow (ρ.σ b) (arr.toList.take (0 + len * i.size) ++ us ++ arr.toList.drop (0 + len * i.size + us.length)).toArray) rfl rfl rfl (by simp) (fun k hk => setRow_other w _ k _ hk)
        (fun A' hA => ⟨(arr.toList.take (0 + len * i.size) ++ us ++ arr.toList.drop (0 + len * i.size + us.length)).toArray, eb, arr.toList.drop (0 + len * i.size + us.length), vs.take (len * i.size) ++ us, setRow_heap w _ arr _ eb _ h1, by
          simp only [Nat.zero_add]
          rw [h2], hrpn.keep hA, by
          simp only [List.size_toArray, List.length_append, List.length_take, List.length_drop, hln, Array.length_toList, Nat.zero_add]
          omega⟩)
      refine ⟨_, _, hexec a w p.type rfl ?_, r1, Post.low_of hr (p0.trans hr r0 p1) fun m h1 h2 => by simp only [Nat.lt_min] at h1 ⊢; omega⟩
      rw [e1, e2, hx]
      simp only [AV.den, Env.with_σ, Env.with_κ, Nat.sub_zero]
      exact hrun
    · have hrun := app_growP w t u p.type e i z ht hi hz hzs ⟨ρ.σ b, 0, none⟩ len cap (vs.take (len * i.size)) htl (fun j v hj => by
        rw [add_plain, Nat.zero_add]
        have hj' : j < len * i.size := by have := (List.getElem?_eq_some_iff.1 hj).1; omega
        rw [List.getElem?_take, if_pos hj'] at hj
        have : arr.toList[j]? = some v := by rw [h2]; exact hj
        simpa [World.cell?, h1] using this) _ n us hg (by omega) (by omega) (growslice_fits (by omega) hb1) hn48
      obtain ⟨r1, p1⟩ := rep_appX r0 hlo (h' := hdel (hdelL h drops) b) (fun m c hm => (hdel_sub m c hm).2) (low := b) (fun m hm _ => by rw [hget_del, if_neg (by omega)]) ⟨[], some i.size, .big (L.take (len * i.size) ++ ds)⟩ rfl
        (.cells ((vs.take (len * i.size)).toArray ++ us.toArray ++ Builtin.zeroCells z.cells (grownCap w (len + n) cap e - (len + n))) e) (grownCap w (len + n) cap e)
        (fun A' w' hA => ⟨_, e, (Builtin.zeroCells z.cells (grownCap w (len + n) cap e - (len + n))).toList, vs.take (len * i.size) ++ us, rfl, by simp, hrpn.keep fun k hk hf => hA k hk ⟨hf.1, fun m c hm hc => hf.2 m c (hdel_sub m c hm).2 hc⟩, by
          have := grownCap_ge w (len + n) cap e
          show ((vs.take (len * i.size)).toArray ++ us.toArray ++ Builtin.zeroCells z.cells (grownCap w (len + n) cap e - (len + n))).size = grownCap w (len + n) cap e * i.size
          rw [Array.size_append, Array.size_append, hzl, List.size_toArray, List.size_toArray, hln, htl, ← Nat.add_mul, ← Nat.add_mul]
          congr 1; omega⟩)
      refine ⟨_, _, hexec a w p.type rfl ?_, r1, Post.low_of hr (p0.trans hr r0 p1) fun m h1 h2 => by simp only [Nat.lt_min] at h1 ⊢; omega⟩
      rw [e1, e2, hx]
      simp only [AV.den, Env.with_σ, Env.with_κ, Nat.sub_zero]
      exact hrun
  · cases ho
theorem bigCopy_ok {p : Oper} {c : Call} (hp : p.op = .call c) (hcal : c.callee = .builtin .copy) {s : St} {o : Out} (h : bigCopy C c s = some o) (hl : Holds C G o.log) : OpOK C w0 p s o := by
  obtain ⟨tm, hh, nx, ora, rs⟩ := s
  unfold bigCopy at h
  simp only at h
  split at h
  rotate_left
  · cases h
  rename_i x y t u hargs htys
  have ha : c.args = #[x, y] := by rw [← Array.toArray_toList (xs := c.args), hargs]
  have hty : c.argTypes = #[t, u] := by rw [← Array.toArray_toList (xs := c.argTypes), htys]
  split at h
  rotate_left
  · cases h
  rename_i e n off len cap hu hx
  split at h
  rotate_left
  · cases h
  rename_i size L on hs hb
  split at h
  rotate_left
  · cases h
  rename_i ds m cs hnew
  rw [hputK_eq] at h
  simp only [Option.some.injEq] at h
  subst h
  obtain ⟨hml, hf, hone⟩ : m ≤ len ∧ off + m * size ≤ L.length ∧ ∀ u ∈ ds, cellD u := fact_of (hl.1 _ List.mem_cons_self)
  have hcs : ∀ q ∈ cs, q.1 = q.2 := fun q hq => hl.1 q (List.mem_cons_of_mem _ hq)
  refine ⟨.pure (.int .i64 m), rfl, by simp [AV.ok, AV.within], rfl, ⟨Nat.le_refl _, rfl⟩, fun rd ρ a w K Q he hr hbw hE => wpIn_op (by rw [hp]; rfl) ?_⟩
  obtain ⟨us, hg, hrp0, hln⟩ := bigNew_spec hr (P := C.P) hnew hcs
  have hus : RpL (FreeH ρ hh) w ds us := hrp0
  obtain ⟨b, arr, ty, rest, vs, hb0, hbm, hon, g1, g2, g3, g4⟩ := hr.big hb
  have hul := hus.get.1
  have hvl := g3.get.1
  have e1 := he x (by rw [hp]; simp [Op.operands, Call.operands, ha])
  have e2 := he y (by rw [hp]; simp [Op.operands, Call.operands, ha])
  rw [hx] at e1
  have hal : arr.size = vs.length + rest.length := by rw [← Array.length_toList, g2, List.length_append]
  have hst := run_storeCells_at C.P (ρ.σ n) off ty us 0 arr w g1 (by omega) (cellDs_one hone hus)
  have hnew2 : (arr.toList.take off ++ us ++ arr.toList.drop (off + us.length)) = (vs.take off ++ us ++ vs.drop (off + us.length)) ++ rest := by
    rw [g2, List.take_append_of_le_length (by omega), List.drop_append_of_le_length (by omega)]
    simp [List.append_assoc]
  simp only [Nat.add_zero] at hst
  rw [hnew2] at hst
  generalize hvs' : vs.take off ++ us ++ vs.drop (off + us.length) = vs' at hst
  have hvl' : vs'.length = vs.length := by rw [← hvs']; simp; omega
  have hrp : RpL (FreeH ρ hh) w (splice L off ds) vs' := by
    rw [← hvs', ← hul]
    exact ((g3.take off).append hus).append (g3.drop _)
  have hmin : Nat.min m len = m := Nat.min_eq_left hml
  have hlen := hg.len
  have hcells := hg.cells
  have hrun : (execOp a.eval p).run C.P w = .ok (.value (.int .i64 m)) (w.setRow (ρ.σ n) (vs' ++ rest).toArray) := by
    obtain ⟨dst, op, type, pos, after, guard⟩ := p
    simp only at hp
    subst hp
    simp only [AV.den] at e1
    simp [execOp, resolve, hcal, invoke, builtin, ha, hty, Builtin.copy_, e1, e2, run_underlying (und_of hu), run_sizeT hs, hlen, hmin, hcells, hst, goInt]
  rw [hrun, Oper.uponIn_value]
  obtain ⟨r1, p1⟩ := rep_putB hr hb0 hbm ⟨[], on, .big (splice L off ds)⟩ rfl rfl (w.setRow (ρ.σ n) (vs' ++ rest).toArray) rfl rfl rfl (by simp) (fun k hk => setRow_other w _ k _ hk)
    (fun A' hA => ⟨(vs' ++ rest).toArray, ty, rest, vs', setRow_heap w _ arr _ ty _ g1, by simp, hrp.keep hA, by
      rw [← hon]
      revert g4
      cases b.opn with
      | none => exact id
      | some k => intro g4; simp only [List.size_toArray, List.length_append, hvl']; omega⟩)
  have := hE ρ _ r1 (Post.low_of hr p1 fun m h1 h2 => by simp only [Nat.lt_min] at h1 ⊢; omega)
  simpa [AV.den] using this
theorem bigAppend_ok {p : Oper} {c : Call} (hp : p.op = .call c) (hcal : c.callee = .builtin .append) {s : St} {o : Out} (h : bigAppend C c s = some o) (hl : Holds C G o.log) : OpOK C w0 p s o := by
  obtain ⟨tm, hh, nx, ora, rs⟩ := s
  unfold bigAppend at h
  split at h
  · rename_i x y t u hargs htys
    have ha : c.args = #[x, y] := by rw [← Array.toArray_toList (xs := c.args), hargs]
    have hty : c.argTypes = #[t, u] := by rw [← Array.toArray_toList (xs := c.argTypes), htys]
    split at h
    · rename_i et du hut huu
      split at h
      · rename_i i hi
        split at h
        · rename_i z hz
          split at h
          · rename_i vs n q drops hzs hnc
            exact bigAppTo_ok hp hcal ha hty (und_of hut) (info_of hi) hz (Nat.eq_of_beq_eq_true hzs) (fun hr hc => bigPut_spec hr (und_of huu) (Nat.eq_of_beq_eq_true hzs) hnc hc) h hl
          · cases h
        · cases h
      · cases h
    · cases h
  · cases h
theorem shut_ok {p : Oper} {s : St} {r : Option Out} {o : Out} (h : shutB s.nxt r = some o) (hl : Holds C G o.log) (hr : ∀ o1, r = some o1 → Holds C G o1.log → OpOK C w0 p s o1) : OpOK C w0 p s o := by
  unfold shutB at h
  split at h
  · rename_i v tm hh nx ora rs low c q
    split at h
    · rename_i d drops cs hd
      split at h
      · rename_i hdr
        have := outD_eq h
        subst this
        have h1 : Holds C G ⟨c, q⟩ := ⟨fun p hp => hl.1 p (List.mem_append_right _ hp), hl.2⟩
        have hcs : ∀ p ∈ cs, p.1 = p.2 := fun p hp => hl.1 p (List.mem_append_left _ hp)
        obtain ⟨v', a1, a2, a3, a4, a5⟩ := hr _ rfl h1
        simp only at a1 a3 a4
        cases a1
        have st := avOf_static nx d
        have hge : ∀ n ∈ drops, s.nxt ≤ n := fun n hn => ble_le (List.all_eq_true.1 hdr n hn)
        refine ⟨_, rfl, st.2, a3, ⟨Nat.le_trans a4.1 st.1, a4.2⟩, fun rd ρ a w K Q he hrp hb hE => a5 rd ρ a w K Q he hrp hb fun ρ1 w1 r1 p1 => ?_⟩
        have r2 := rep_forget r1 (h' := hdelL hh drops) fun n b hn => (hdelL_sub hn).2
        have p2 : Post ρ ρ1 s.heap (hdelL hh drops) s.nxt nx low w w1 := { p1 with
          fresh := fun n b hn hm => p1.fresh n b (hdelL_sub hn).2 hm
          keep := fun n hn hx => by
            rw [hdelL_get (fun hd => by have := hge n hd; omega)]
            exact p1.keep n hn hx }
        obtain ⟨ρ2, e1, r3, p3⟩ := avOf_ok d r2 (dOfCell_ok r1 hd hcs)
        show K (a.put p.dst (AV.den ρ1 v)) w1
        rw [← e1]
        exact hE ρ2 w1 r3 (Post.low_of hrp (p2.trans hrp r2 p3) fun m h1 h2 => by
          have h3 : m < low := h1
          have h4 : s.nxt ≤ nx := a4.1
          show m < Nat.min low nx
          simp only [Nat.lt_min]; omega)
      · cases h
    · cases h
  · cases h
theorem app_none {P : Program} {w : World} (t u ty e : TypeId) (du : TypeDesc) (i : TypeInfo) (ht : P.underlying t = some (.slice e)) (hu : P.underlying u = some du) (hdu : listLike du = true) (hi : P.info? e = some i)
    (b : Addr) (y : Value) (news : List Value) (hn : news = []) (hy : Gives P i.size y 0 news w) :
    (Builtin.append_ #[t, u] ty #[.slice (some b) 0 0, y]).run P w = .ok (.slice (some b) 0 0) w := by
  subst hn
  have hf := hy.cells
  have hl := hy.len
  rcases listLike_spec hdu with ⟨e', rfl⟩ | rfl <;> simp [Builtin.append_, run_underlying ht, run_underlying hu, sizeOf, typeInfo, hi, hl, hf, storeCells]
theorem emptyApp_ok {p : Oper} {c : Call} (hp : p.op = .call c) (hcal : c.callee = .builtin .append) {tm : List AV} {h : AHeap} {nx : Nat} {ora : List Bool} {rs : Rs} {x y : Operand} {t u e : TypeId} (ha : c.args = #[x, y]) (hty : c.argTypes = #[t, u])
    {du : TypeDesc} {i : TypeInfo} {z : Value} (ht : C.P.underlying t = some (.slice e)) (hu : C.P.underlying u = some du) (hdu : listLike du = true) (hi : C.P.info? e = some i) (hz : i.zero = some z) (hzs : z.cells.size = i.size) (hx : emptySl (aeval tm x) = true)
    {ds : List D} {n : Nat} {cs : List (Bool × Bool)} {drops : List Nat} (hnew : bigNew h i.size (aeval tm y) = some (ds, n, cs, drops)) {o : Out} (ho : emptyApp i.bytes ds n cs drops ⟨tm, h, nx, ora, rs⟩ = some o) (hl : Holds C G o.log) :
    OpOK C w0 p ⟨tm, h, nx, ora, rs⟩ o := by
  have hdf : isDefer p.op = false := by rw [hp]; rfl
  have hzl : ∀ k, (Builtin.zeroCells z.cells k).size = k * i.size := fun k => by rw [size_zeroCells, hzs]
  have hexec : ∀ (a : Act) (w : World) (ty : TypeId) {r : Value} {w' : World}, p.type = ty → (Builtin.append_ #[t, u] ty #[a.eval x, a.eval y]).run C.P w = .ok r w' → (execOp a.eval p).run C.P w = .ok (.value r) w' := fun a w ty r w' e1 h1 => by
    obtain ⟨dst, op, type, pos, after, guard⟩ := p
    simp only at hp e1
    subst hp
    subst e1
    simp [execOp, resolve, hcal, invoke, builtin, ha, hty, h1]
  have hops : ∀ {ρ : Env} {a : Act}, (∀ x ∈ p.op.operands, a.eval x = (aeval tm x).den ρ) → a.eval x = (aeval tm x).den ρ ∧ a.eval y = (aeval tm y).den ρ := fun he => ⟨he x (by rw [hp]; simp [Op.operands, Call.operands, ha]), he y (by rw [hp]; simp [Op.operands, Call.operands, ha])⟩
  unfold emptyApp at ho
  simp only at ho
  split at ho
  rotate_left
  · cases ho
  have := outD_eq ho
  subst this
  obtain ⟨hb1, hb2⟩ : n * i.bytes ≤ 140737488355328 ∧ n ≤ 4611686018427387904 := fact_of (hl.1 _ List.mem_cons_self)
  have hcs : ∀ q ∈ cs, q.1 = q.2 := fun q hq => hl.1 q (List.mem_cons_of_mem _ hq)
  obtain ⟨b, off, hx⟩ : ∃ b off, aeval tm x = .sl b off 0 0 := by
    generalize aeval tm x = q at hx
    unfold emptySl at hx
    split at hx
    · exact ⟨_, _, rfl⟩
    · cases hx
  have st := avOf_static nx (.list n ds)
  refine op_new st.1 st.2 hdf fun ρ a w he hr hbw => ?_
  obtain ⟨e1, e2⟩ := hops he
  have hlo := hbw.size
  obtain ⟨us, hg, hrp, hln⟩ := bigNew_spec hr (P := C.P) hnew hcs
  rw [hx] at e1
  simp only [AV.den] at e1
  rcases Nat.eq_zero_or_pos n with hn | hn
  · subst hn
    have hus : us = [] := List.length_eq_zero_iff.1 (by omega)
    have hds : ds = [] := List.length_eq_zero_iff.1 (by have := hrp.get.1; rw [hus] at this; simpa using this)
    subst hds
    have hrun := app_none t u p.type e du i ht hu hdu hi ⟨ρ.σ b, off, none⟩ _ us hus hg
    obtain ⟨ρ2, f1, r2, p2⟩ := avOf_ok (.list 0 []) hr (v := .slice (some ⟨ρ.σ b, off, none⟩) 0 0) (by
      simp only [Rp]
      exact ⟨(some ⟨ρ.σ b, off, none⟩, 0, 0), rfl, rfl, Nat.le_refl _, .inl ⟨trivial, trivial⟩⟩)
    refine ⟨ρ2, w, hexec a w p.type rfl ?_, r2, p2⟩
    rw [e1, e2, f1]
    exact hrun
  · have hrun := app_grow w t u p.type e du i z ht hu hdu hi hz ⟨ρ.σ b, off, none⟩ 0 0 [] (by simp) (fun j v hj => by simp at hj) _ n us hg (by omega) (by omega) (growslice_fits (by omega) (by simpa using hb1))
    generalize hcap : grownCap w (0 + n) 0 e = cap at hrun
    have hcge : n ≤ cap := by have := grownCap_ge w (0 + n) 0 e; omega
    generalize hw' : w.drew.alloc (.cells (([] : List Value).toArray ++ us.toArray ++ Builtin.zeroCells z.cells (cap - (0 + n))) e) = w' at hrun
    have hheap : w'.heap = w.heap.push (.cells (([] : List Value).toArray ++ us.toArray ++ Builtin.zeroCells z.cells (cap - (0 + n))) e) := by subst hw'; rfl
    have hB : Below w.heap.size w w' := by
      subst hw'
      exact ⟨rfl, rfl, rfl, by simp [World.alloc], fun k hk => heap_push_old w.drew _ k hk⟩
    obtain ⟨r1, p1⟩ := rep_below hr hB nx
    have hat : w'.heap[w.heap.size]? = some (.cells (([] : List Value).toArray ++ us.toArray ++ Builtin.zeroCells z.cells (cap - (0 + n))) e (0, 0)) := by rw [hheap]; simp
    have hk : Keep (FreeH ρ (hdelL h [])) w (fun k => FreeH ρ h k ∨ w.heap.size ≤ k) w' := fun k hk hf => ⟨hB.block k hk, .inl hf⟩
    have hsz : w.heap.size < w'.heap.size := by rw [hheap]; simp
    have hrl : Rp (fun k => FreeH ρ h k ∨ w.heap.size ≤ k) w' (.list n ds) (.slice (some ⟨w.heap.size, 0, none⟩) n cap) := by
      simp only [Rp]
      refine ⟨(some ⟨w.heap.size, 0, none⟩, n, cap), rfl, rfl, hcge, .inr ⟨w.heap.size, 0, rfl, hsz, .inr (Nat.le_refl _), ?_⟩⟩
      exact RpAt.block (vs := us) (rest := (Builtin.zeroCells z.cells (cap - (0 + n))).toList) hat (by simp) (hrp.keep hk) 0
    obtain ⟨ρ2, f1, r2, p2⟩ := avOf_ok (.list n ds) r1 (Rp.keep (free_later hr) _ hrl)
    refine ⟨ρ2, w', hexec a w p.type rfl ?_, r2, Post.low_of hr (p1.trans hr r1 p2) fun m h1 h2 => by simp only [Nat.lt_min]; omega⟩
    rw [e1, e2, f1]
    simpa using hrun
theorem shutApp_ok {p : Oper} {c : Call} (hp : p.op = .call c) (hcal : c.callee = .builtin .append) {s : St} {o : Out} (h : shutApp C c s = some o) (hl : Holds C G o.log) : OpOK C w0 p s o := by
  unfold shutApp at h
  split at h
  · rename_i x y t u hargs htys
    have ha : c.args = #[x, y] := by rw [← Array.toArray_toList (xs := c.args), hargs]
    have hty : c.argTypes = #[t, u] := by rw [← Array.toArray_toList (xs := c.argTypes), htys]
    split at h
    · rename_i hx
      split at h
      · rename_i et du hut huu
        split at h
        · rename_i i hdu hi
          split at h
          · rename_i z hz
            split at h
            · rename_i vs n q drops hzs hnc
              obtain ⟨tm, hh, nx, ora, rs⟩ := s
              exact emptyApp_ok hp hcal ha hty (und_of hut) (und_of huu) hdu (info_of hi) hz (Nat.eq_of_beq_eq_true hzs) hx hnc h hl
            · cases h
          · cases h
        · cases h
      · cases h
    · exact shut_ok h hl fun o1 e1 h1 => bigAppend_ok hp hcal e1 h1
  · cases h
theorem shutNil_ok {p : Oper} {t : TypeId} {len : Nat} {parts : Array (Nat × Operand)} (hp : p.op = .buildSlice t len parts) {s : St} {o : Out} (h : shutNil C t len parts.toList s = some o) : OpOK C w0 p s o := by
  have hdf : isDefer p.op = false := by rw [hp]; rfl
  obtain ⟨tm, hh, nx, ora, rs⟩ := s
  unfold shutNil at h
  simp only at h
  split at h
  rotate_left
  · cases h
  rename_i e hpt hu
  split at h
  rotate_left
  · cases h
  rename_i size z hsz hz
  have hpt2 : parts = #[] := Array.ext' (by simpa using hpt)
  subst hpt2
  have := outD_eq h
  subst this
  have st := avOf_static nx (.list 0 [])
  refine op_new st.1 st.2 hdf fun ρ a w he hr hbw => ?_
  have hlo := hbw.size
  generalize hw' : w.alloc (.cells #[] e) = w'
  have hheap : w'.heap = w.heap.push (.cells #[] e) := by subst hw'; rfl
  have hrun : (execOp a.eval p).run C.P w = .ok (.value (.slice (some ⟨w.heap.size, 0, none⟩) 0 0)) w' := by
    obtain ⟨dst, op, type, pos, after, guard⟩ := p
    simp only at hp
    subst hp
    subst hw'
    have hno : ¬ (0 * size > 2 ^ 24) := by omega
    have h0 : 0 * size = 0 := by omega
    simp [execOp, Instr.buildSlice, Sem.run_bind, run_underlying (und_of hu), Result.andThen_ok, run_sizeT hsz, Instr.fill, run_newRow]
    rw [show Array.range 0 = #[] from rfl, Array.map_empty]
  have hB : Below w.heap.size w w' := by
    subst hw'
    exact ⟨rfl, rfl, rfl, by rw [hheap]; simp, fun k hk => heap_push_old w _ k hk⟩
  obtain ⟨r1, p1⟩ := rep_below hr hB nx
  obtain ⟨ρ2, f1, r2, p2⟩ := avOf_ok (.list 0 []) r1 (v := .slice (some ⟨w.heap.size, 0, none⟩) 0 0) (by
    simp only [Rp]
    exact ⟨(some ⟨w.heap.size, 0, none⟩, 0, 0), rfl, rfl, Nat.le_refl _, .inl ⟨trivial, trivial⟩⟩)
  refine ⟨ρ2, w', ?_, r2, Post.low_of hr (p1.trans hr r1 p2) fun m h1 h2 => by simp only [Nat.lt_min]; omega⟩
  rw [f1]
  exact hrun
theorem growLit_ok {t : TypeId} {p : Oper} {s : St} {o : Out} (h : growLit C t p s = some o) (hl : Holds C G o.log) (hr : ∀ o1, goPlain C p s = some o1 → OpOK C w0 p s o1) : OpOK C w0 p s o := by
  unfold growLit at h
  split at h
  rotate_left
  · cases h
  rename_i e hu
  split at h
  rotate_left
  · cases h
  rename_i size hs
  split at h
  rotate_left
  · cases h
  rename_i b off len cap tm hh nx ora rs low c q hgp
  split at h
  rotate_left
  · cases h
  rename_i cs kd hcl
  split at h
  rotate_left
  · cases h
  rename_i L hlen hpu
  have hlen := Nat.eq_of_beq_eq_true hlen
  rw [withNat_eq] at h
  simp only [Option.some.injEq] at h
  subst h
  obtain ⟨v', a1, a2, a3, a4, a5⟩ := hr _ hgp
  simp only at a1 a3 a4
  cases a1
  refine ⟨_, rfl, by simp [AV.ok, AV.within, Nat.blt_eq], a3, ⟨Nat.le_trans a4.1 (Nat.le_succ nx), a4.2⟩, fun rd ρ a w K Q he hrp hb hE => a5 rd ρ a w K Q he hrp hb fun ρ1 w1 r1 p1 => ?_⟩
  obtain ⟨hb0, hbk⟩ := hcells_get hcl
  obtain ⟨arr, eb, rest, h1, h2, h3⟩ := Rep.cells r1 hb0 hbk
  have hbm := mem_cells hbk
  simp only at h2 h3
  subst h3
  have h2' : RpL (FreeH ρ1 hh) w1 L (AV.denL ρ1 cs) := dOfCells_ok r1 hpu fun q hq => by simp at hq
  have hal : arr.size = cap * size := by
    rw [← Array.length_toList, h2, List.append_nil, denL_length, hlen]
  obtain ⟨r3, p3⟩ := rep_overX r1 hb0 hbm ⟨[], some size, .big L⟩ rfl rfl cap w1 rfl rfl rfl rfl (fun _ _ => rfl)
    (fun A' hA => ⟨arr, eb, [], AV.denL ρ1 cs, h1, h2, h2'.keep hA, hal⟩)
  have e1 : AV.den (ρ1.with nx (ρ1.σ b) cap) (.bslx nx 0 len 0) = AV.den ρ1 (.sl b 0 len cap) := by
    simp only [AV.den, Env.with_σ, Env.with_κ, Nat.sub_zero]
  show K (a.put p.dst (AV.den ρ1 (.sl b 0 len cap))) w1
  rw [← e1]
  exact hE _ w1 r3 (Post.low_of hrp (p1.trans hrp r1 p3) fun m h1 h2 => by
    have h3 : m < Nat.min b low := h1
    have h4 : s.nxt ≤ nx := a4.1
    simp only [Nat.lt_min] at h3 ⊢
    omega)
theorem keyB_ok {d : TypeDesc} {k : Value} (h : keyB d k = true) : Go.MapKept.IsKey d k := by
  unfold keyB at h
  split at h <;> simp_all [Go.MapKept.IsKey]
theorem mpAt_get {h : AHeap} {n : Nat} {cs : List AV} {born : List Nat} {clock : Nat} (e : mpAt h n = some (cs, born, clock)) : hget h n = some ⟨cs, none, .mp born clock⟩ := by
  unfold mpAt at e
  split at e
  · rename_i hh; cases e; exact hh
  · cases e
abbrev flatE (es : List MapEntry) : List Value := (es.map fun e => [e.key, e.val]).flatten
theorem mpFind_spec {kind : TypeDesc} {k : Value} {ρ : Env} : ∀ (cs : List AV) (es : List MapEntry) (i : Nat) {r : Option (Nat × AV)}, mpFind kind k cs i = some r → flatE es = AV.denL ρ cs →
    Instr.findNow kind k es i = some (r.map fun q => (q.1, q.2.den ρ)) ∧ ∀ j x, r = some (j, x) → i ≤ j ∧ x ∈ cs
  | [], es, i, r, h, he => by
    unfold mpFind at h
    cases h
    cases es with
    | nil => exact ⟨rfl, fun j x h => by cases h⟩
    | cons e es => simp [flatE, AV.denL] at he
  | [x], es, i, r, h, he => by
    unfold mpFind at h
    split at h <;> simp_all
  | y :: x :: cs, es, i, r, h, he => by
    cases y with
    | pure v =>
      cases es with
      | nil => simp [flatE, AV.denL] at he
      | cons e es =>
        simp only [flatE, List.map_cons, List.flatten_cons, List.cons_append, List.nil_append, AV.denL, List.cons.injEq, AV.den] at he
        obtain ⟨h1, h2, h3⟩ := he
        unfold mpFind at h
        split at h
        · rename_i hs
          cases h
          rw [← h1] at hs
          refine ⟨by simp only [Instr.findNow, hs, Option.map_some, h2], fun j x h => ?_⟩
          cases h
          exact ⟨Nat.le_refl _, by simp⟩
        · rename_i hs
          rw [← h1] at hs
          obtain ⟨g1, g2⟩ := mpFind_spec cs es (i + 1) h h3
          refine ⟨by simp only [Instr.findNow, hs, g1], fun j x hj => ?_⟩
          obtain ⟨q1, q2⟩ := g2 j x hj
          exact ⟨by omega, by simp [q2]⟩
        · cases h
    | _ => simp [mpFind] at h
theorem mpSet_spec {ρ : Env} {key : AV} {v : AV} : ∀ (cs : List AV) (es : List MapEntry) (j : Nat), flatE es = AV.denL ρ cs → flatE (es.modify j fun e => { e with key := key.den ρ, val := v.den ρ }) = AV.denL ρ (mpSet cs j key v)
  | [], [], j, _ => by cases j <;> simp [mpSet, flatE, AV.denL]
  | [], e :: es, j, h => by simp [flatE, AV.denL] at h
  | [x], es, j, h => by
    cases es with
    | nil => simp [flatE, AV.denL] at h
    | cons e es => simp [flatE, AV.denL] at h
  | y :: x :: cs, [], j, h => by simp [flatE, AV.denL] at h
  | y :: x :: cs, e :: es, j, h => by
    simp only [flatE, List.map_cons, List.flatten_cons, List.cons_append, List.nil_append, AV.denL, List.cons.injEq] at h
    obtain ⟨h1, h2, h3⟩ := h
    cases j with
    | zero => simp [mpSet, flatE, AV.denL, h3]
    | succ j =>
      have := mpSet_spec (key := key) (v := v) cs es j h3
      simp only [flatE] at this
      simp [mpSet, flatE, AV.denL, h1, h2, this]
theorem born_modify (es : List MapEntry) (j : Nat) (k v : Value) : (es.modify j fun e => { e with key := k, val := v }).map (·.born) = es.map (·.born) := by
  induction es generalizing j with
  | nil => simp
  | cons e es ih => cases j <;> simp [ih]
theorem opMakeMap_ok {p : Oper} {t : TypeId} {r : Option Operand} (hp : p.op = .makeMap t r) {s : St} {o : Out} (h : opMakeMap r s = some o) : OpOK C w0 p s o := by
  obtain ⟨tm, hh, nx, ora, rs⟩ := s
  unfold opMakeMap at h
  cases r with
  | some x => cases h
  | none =>
    simp only at h
    rw [withNat_eq] at h
    simp only [outB, Option.some.injEq] at h
    subst h
    refine op_new (by omega) (by simp [AV.ok, AV.within, Nat.blt_eq]) (by rw [hp]; rfl) fun ρ a w he hr hbw => ?_
    obtain ⟨r1, p1⟩ := rep_newB hr hbw.size ⟨[], none, .mp [] 0⟩ rfl (.map #[] 0) 0 fun A' w' _ => ⟨#[], rfl, rfl, rfl⟩
    refine ⟨_, _, ?_, r1, p1⟩
    obtain ⟨dst, op, type, pos, after, guard⟩ := p
    simp only at hp
    subst hp
    simp only [execOp, Instr.makeMap, AV.den, Env.with_σ]
    rfl
theorem opLookup_ok {p : Oper} {t : TypeId} {x k : Operand} {ok : Bool} (hp : p.op = .lookup t x k ok) {s : St} {o : Out} (h : opLookup C t (aeval s.tmps x) (aeval s.tmps k) ok s = some o) : OpOK C w0 p s o := by
  obtain ⟨tm, hh, nx, ora, rs⟩ := s
  unfold opLookup at h
  simp only at h
  split at h
  rotate_left
  · cases h
  rename_i n kv kt et hx hk ht
  split at h
  rotate_left
  · cases h
  rename_i kd cs born clock z hkd hm hz
  have hget' := mpAt_get hm
  have key : ∀ (r : Option (Nat × AV)), keyB kd kv = true → mpFind kd kv cs 0 = some r → ∀ (ρ : Env) (w : World), Rep w0.heap.size ρ hh nx w →
      (Instr.lookup t (.map (some (ρ.σ n))) kv ok).run C.P w = .ok ((match r with | some (_, v) => (if ok then AV.tuple [v, .pure (.bool true)] else v) | none => (if ok then AV.tuple [.pure z, .pure (.bool false)] else .pure z)).den ρ) w := by
    intro r hkb hf ρ w hr
    obtain ⟨es, b1, b2, b3⟩ := hr.block n _ hget'
    obtain ⟨f1, f2⟩ := mpFind_spec cs es.toList 0 hf b2
    have hik := keyB_ok hkb
    cases r with
    | none =>
      cases ok <;> simp [Instr.lookup, run_underlying (und_of ht), Go.MapKept.run_getObj_map b1, Go.MapKept.run_checkKey (und_of hkd) hik, Go.MapKept.run_findKey (und_of hkd) f1, run_zeroT hz, AV.den, AV.denL]
    | some q =>
      cases ok <;> simp [Instr.lookup, run_underlying (und_of ht), Go.MapKept.run_getObj_map b1, Go.MapKept.run_checkKey (und_of hkd) hik, Go.MapKept.run_findKey (und_of hkd) f1, AV.den, AV.denL]
  have fin : ∀ (r : Option (Nat × AV)) (v : AV), keyB kd kv = true → mpFind kd kv cs 0 = some r → v = (match r with | some (_, v) => (if ok then AV.tuple [v, .pure (.bool true)] else v) | none => (if ok then AV.tuple [.pure z, .pure (.bool false)] else .pure z)) → v.ok nx = true → OpOK C w0 p ⟨tm, hh, nx, ora, rs⟩ ⟨.val v, ⟨tm, hh, nx, ora, rs⟩, nx, ⟨[(fact True, true)], []⟩⟩ := by
    intro r v hkb hf hv hvok
    refine op_quiet rfl hvok rfl (by rw [hp]; rfl) fun ρ a w he hr => ?_
    have e1 := he x (by rw [hp]; simp [Op.operands])
    have e2 := he k (by rw [hp]; simp [Op.operands])
    rw [hx] at e1
    rw [hk] at e2
    simp only [AV.den] at e1 e2
    have hrun := key r hkb hf ρ w hr
    rw [← hv] at hrun
    obtain ⟨dst, op, type, pos, after, guard⟩ := p
    simp only at hp
    subst hp
    simp only [execOp, e1, e2]
    rw [Sem.run_bind, hrun]
    rfl
  split at h
  · rename_i j v hkb hf
    split at h
    rotate_left
    · cases h
    rename_i hv
    simp only [outB, Option.some.injEq] at h
    subst h
    refine fin _ _ hkb hf rfl ?_
    cases ok
    · exact hv
    · unfold AV.ok at hv ⊢
      simp [AV.within, AV.withinL, hv]
  · rename_i hkb hf
    simp only [outB, Option.some.injEq] at h
    subst h
    refine fin _ _ hkb hf rfl ?_
    cases ok <;> simp [AV.ok, AV.within, AV.withinL]
  · cases h
theorem sameNow_eq {d : TypeDesc} {k k' : Value} (h : Instr.sameNow d k k' = some true) : k = k' := by
  unfold Instr.sameNow at h
  split at h
  · split at h <;> simp_all
  · rw [Option.some.injEq, Go.MapKept.bytes_beq] at h; rw [h]
  · simp_all
  · cases h
theorem findNow_at {d : TypeDesc} {k : Value} : ∀ (es : List MapEntry) (i j : Nat) {v : Value}, Instr.findNow d k es i = some (some (j, v)) → i ≤ j ∧ ∃ e, es[j - i]? = some e ∧ k = e.key
  | [], i, j, v, h => by simp [Instr.findNow] at h
  | e :: es, i, j, v, h => by
    unfold Instr.findNow at h
    split at h
    · rename_i hs
      cases h
      exact ⟨Nat.le_refl _, e, by simp, sameNow_eq hs⟩
    · obtain ⟨h1, e', h2, h3⟩ := findNow_at es (i + 1) j h
      exact ⟨by omega, e', by rw [show j - i = (j - (i + 1)) + 1 by omega]; simpa using h2, h3⟩
    · cases h
theorem okL_app {m : Nat} : ∀ {xs ys : List AV}, AV.okL m xs = true → AV.okL m ys = true → AV.okL m (xs ++ ys) = true
  | [], ys, _, h => h
  | x :: xs, ys, h, k => by
    unfold AV.okL at h k ⊢
    simp only [AV.withinL, Bool.and_eq_true, List.cons_append] at h ⊢
    exact ⟨h.1, okL_app h.2 k⟩
theorem okL_set {m : Nat} {k v : AV} (hk : k.ok m = true) (hv : v.ok m = true) : ∀ (cs : List AV) (j : Nat), AV.okL m cs = true → AV.okL m (mpSet cs j k v) = true
  | [], j, h => by cases j <;> simpa [mpSet] using h
  | [x], j, h => by cases j <;> simpa [mpSet] using h
  | x :: y :: cs, 0, h => by
    unfold AV.okL at h ⊢
    simp only [AV.withinL, Bool.and_eq_true, mpSet] at h ⊢
    exact ⟨hk, hv, h.2.2⟩
  | x :: y :: cs, j + 1, h => by
    unfold AV.okL at h ⊢
    simp only [AV.withinL, Bool.and_eq_true, mpSet] at h ⊢
    exact ⟨h.1, h.2.1, okL_set hk hv cs j h.2.2⟩
theorem denL_snoc2 {ρ : Env} (k v : AV) : ∀ cs : List AV, AV.denL ρ (cs ++ [k, v]) = AV.denL ρ cs ++ [k.den ρ, v.den ρ]
  | [] => by simp [AV.denL]
  | c :: cs => by simp [AV.denL, denL_snoc2 k v cs]
theorem opUpdate_ok {p : Oper} {t : TypeId} {m k v : Operand} (hp : p.op = .mapUpdate t m k v) {s : St} {o : Out} (h : opUpdate C t (aeval s.tmps m) (aeval s.tmps k) (aeval s.tmps v) s = some o) : OpOK C w0 p s o := by
  obtain ⟨tm, hh, nx, ora, rs⟩ := s
  unfold opUpdate at h
  simp only at h
  split at h
  rotate_left
  · cases h
  rename_i n kv kt et hx hk ht
  split at h
  rotate_left
  · cases h
  rename_i kd cs born clock hkd hm hvok
  have hget' := mpAt_get hm
  have fin : ∀ (blk : ABlock), blk.mem = true → AV.okL nx blk.cells = true → (∀ (ρ : Env) (w : World) (es : Array MapEntry), w.heap[ρ.σ n]? = some (.map es clock) → flatE es.toList = AV.denL ρ cs → es.toList.map (·.born) = born →
      ∃ ob, (Instr.mapUpdate t (.map (some (ρ.σ n))) kv ((aeval tm v).den ρ)).run C.P w = .ok () { w with heap := w.heap.setIfInBounds (ρ.σ n) ob } ∧ ∀ A' w', BlockOK A' w' ρ blk (ρ.kk n) (some ob)) →
      OpOK C w0 p ⟨tm, hh, nx, ora, rs⟩ ⟨.val (.pure undef), ⟨tm, hput hh n blk, nx, ora, rs⟩, Nat.min n nx, ⟨[(fact True, true)], []⟩⟩ := by
    intro blk hblk hok hrun
    refine ⟨.pure undef, rfl, by simp [AV.ok, AV.within], rfl, ⟨Nat.le_refl _, rfl⟩, fun rd ρ a w K Q he hr hbw hE => wpIn_op (by rw [hp]; rfl) ?_⟩
    obtain ⟨es, b1, b2, b3⟩ := hr.block n _ hget'
    obtain ⟨ob, r1, r2⟩ := hrun ρ w es b1 b2 b3
    have e1 := he m (by rw [hp]; simp [Op.operands])
    have e2 := he k (by rw [hp]; simp [Op.operands])
    have e3 := he v (by rw [hp]; simp [Op.operands])
    rw [hx] at e1
    rw [hk] at e2
    simp only [AV.den] at e1 e2
    have hlt : ρ.σ n < w.heap.size := (Array.getElem?_eq_some_iff.1 b1).1
    have hex : (execOp a.eval p).run C.P w = .ok .skip { w with heap := w.heap.setIfInBounds (ρ.σ n) ob } := by
      obtain ⟨dst, op, type, pos, after, guard⟩ := p
      simp only at hp
      subst hp
      simp only [execOp, e1, e2, e3]
      rw [Sem.run_bind, r1]
      rfl
    rw [hex, Oper.uponIn_skip]
    obtain ⟨q1, q2⟩ := rep_putB hr hget' rfl blk hblk hok { w with heap := w.heap.setIfInBounds (ρ.σ n) ob } rfl rfl rfl (by simp) (fun k hk => (Go.MapKept.heap_set b1).2 k hk)
      (fun A' hA => by rw [show ({ w with heap := w.heap.setIfInBounds (ρ.σ n) ob } : World).heap[ρ.σ n]? = some ob from (Go.MapKept.heap_set b1).1]; exact r2 A' _)
    exact hE ρ _ q1 (Post.low_of hr q2 fun m h1 h2 => by simp only [Nat.lt_min] at h1 ⊢; omega)
  split at h
  · rename_i j x hcs hkb hf
    rw [hputK_eq] at h
    simp only [Option.some.injEq] at h
    subst h
    refine fin _ rfl (okL_set (by simp [AV.ok, AV.within]) hvok cs j hcs) fun ρ w es b1 b2 b3 => ?_
    obtain ⟨f1, -⟩ := mpFind_spec cs es.toList 0 hf b2
    have hik := keyB_ok hkb
    obtain ⟨-, e, g1, g2⟩ := findNow_at es.toList 0 j f1
    have hj : es[j]? = some e := by simpa using g1
    refine ⟨_, by
      simp [Instr.mapUpdate, run_underlying (und_of ht), Go.MapKept.run_getObj_map b1, Go.MapKept.run_checkKey (und_of hkd) hik, Go.MapKept.run_findKey (und_of hkd) f1, hj, ← g2, Go.MapKept.run_keyThatStays hik, Go.MapKept.run_setObj_map _ b1, Result.andThen]
      rfl, fun A' w' => ⟨_, rfl, ?_, ?_⟩⟩
    · rw [Array.toList_modify]
      exact mpSet_spec (key := .pure kv) cs es.toList j b2
    · rw [Array.toList_modify, born_modify]
      exact b3
  · rename_i hcs hkb hf
    rw [hputK_eq] at h
    simp only [Option.some.injEq] at h
    subst h
    refine fin _ rfl (okL_app hcs (by unfold AV.okL; unfold AV.ok at hvok; simp [AV.withinL, AV.within, hvok])) fun ρ w es b1 b2 b3 => ?_
    obtain ⟨f1, -⟩ := mpFind_spec cs es.toList 0 hf b2
    have hik := keyB_ok hkb
    refine ⟨_, by
      simp [Instr.mapUpdate, run_underlying (und_of ht), Go.MapKept.run_getObj_map b1, Go.MapKept.run_checkKey (und_of hkd) hik, Go.MapKept.run_findKey (und_of hkd) f1, Go.MapKept.run_setObj_map _ b1, Result.andThen]
      rfl, fun A' w' => ⟨_, rfl, ?_, ?_⟩⟩
    · simp only [Array.toList_push, List.map_append, List.flatten_append]
      show flatE es.toList ++ _ = _
      rw [b2, denL_snoc2]
      simp [AV.den]
    · simp [b3]
  · cases h
theorem goBig_ok (hg : Good C G) (hw0 : G w0) {f : FuncId} {p : Oper} {s : St} {r : Option Out} {o : Out} (h : goBig C f p s = some r) (hr : r = some o) (hl : Holds C G o.log) : OpOK C w0 p s o := by
  subst hr
  unfold goBig at h
  split at h
  · rename_i t len parts hp
    split at h
    · split at h
      · split at h
        · simp only [Option.some.injEq] at h
          exact shutNil_ok hp h
        · simp only [Option.some.injEq] at h
          exact growLit_ok h hl fun o1 e1 => plain_ok hg hw0 e1
      · cases h
    · cases h
  · rename_i t x ix hp
    split at h <;> first
      | (rename_i hx
         simp only [Option.some.injEq] at h
         rw [← hx] at h
         exact bigIndex_ok hp h hl)
      | cases h
  · rename_i t x hp
    split at h <;> first
      | (rename_i hx
         simp only [Option.some.injEq] at h
         rw [← hx] at h
         exact bigLoad_ok hp h hl)
      | cases h
  · rename_i t x i hp
    split at h
    · rename_i n off hx
      simp only [Option.some.injEq] at h
      rw [← hx] at h
      exact deepField_ok hp h hl
    · cases h
  · rename_i t x lo hi mx hp
    split at h
    · rename_i n hx
      split at h
      · simp only [Option.some.injEq] at h
        exact deepSlice_ok hp hx h hl
      · simp only [Option.some.injEq] at h
        exact voidSlice_ok hp hx h
    · rename_i n off len cap hx
      split at h
      · simp only [Option.some.injEq] at h
        exact bigSlice_ok hp hx h hl
      · cases h
    · split at h
      · rename_i hb
        simp only [Option.some.injEq] at h
        exact strSlice_ok hp (strOf_spec hb) h hl
      · cases h
  · rename_i t x ix hp
    split at h
    · rename_i hb
      simp only [Option.some.injEq] at h
      exact strIndex_ok hp (strOf_spec hb) h hl
    · cases h
  · rename_i t x y hp
    split at h
    · rename_i n off hx
      simp only [Option.some.injEq] at h
      rw [← hx] at h
      exact bigStore_ok hp h hl
    · cases h
  · rename_i t x y hp
    split at h
    · split at h
      · simp only [Option.some.injEq] at h
        exact bigMake_ok hp h hl
      · cases h
    · cases h
  · rename_i c hp
    split at h
    · rename_i hcal
      split at h
      · split at h
        · split at h
          · simp only [Option.some.injEq] at h
            exact shutApp_ok hp hcal h hl
          · simp only [Option.some.injEq] at h
            exact bigAppend_ok hp hcal h hl
        · cases h
      · cases h
    · rename_i hcal
      exact deepLen_ok hp hcal h rfl
    · rename_i hcal
      simp only [Option.some.injEq] at h
      exact bigCopy_ok hp hcal h hl
    · cases h
  · rename_i t r hp
    simp only [Option.some.injEq] at h
    exact opMakeMap_ok hp h
  · rename_i t x k ok hp
    split at h
    · rename_i n hx
      simp only [Option.some.injEq] at h
      rw [← hx] at h
      exact opLookup_ok hp h
    · cases h
  · rename_i t m k v hp
    split at h
    · rename_i n hx
      simp only [Option.some.injEq] at h
      rw [← hx] at h
      exact opUpdate_ok hp h
    · cases h
  · rename_i op t x y t2 hp
    split at h
    · split at h
      · rename_i n hx
        split at h
        · rename_i l c e hy hu
          simp only [Option.some.injEq] at h
          exact deepNil_ok hp hx hy hu h hl
        · cases h
      · cases h
    · cases h
  · cases h
end
end Go.Ev
/- Running the program's functions on values that are known in part: the theorem. -/
namespace Go.Ev
open Go.RowKit
section
variable {C : Ctx} {w0 : World} {ops : Array Oper} {base : Nat} {h0 : AHeap} {tm0 : List AV} {L : List Item} {ρ0 : Env} {ws : World} {ds : List Deferred} {rd : Option Nat}
/-- How many operations are left. -/
def leftOver (ops : Array Oper) (listed : Array Bool) : List Nat := (List.range ops.size).filter fun i => !listed.getD i true
theorem leftOver_lt {ops : Array Oper} {listed : Array Bool} {i : Nat} (hi : i < ops.size) (hl : listed.getD i true = false) (hs : listed.size = ops.size) :
    (leftOver ops (listed.setIfInBounds i true)).length < (leftOver ops listed).length := by
  unfold leftOver
  have hsub : ∀ j, (!(listed.setIfInBounds i true).getD j true) = (!listed.getD j true && !(j == i)) := by
    intro j
    by_cases hji : j = i
    · subst hji
      simp [hs, hi]
    · have : (listed.setIfInBounds i true).getD j true = listed.getD j true := by
        simp [Ne.symm hji]
      rw [this]; simp [hji]
  have heq : ((List.range ops.size).filter fun j => !(listed.setIfInBounds i true).getD j true) = ((List.range ops.size).filter fun j => !listed.getD j true).filter fun j => !(j == i) := by
    rw [List.filter_filter]
    apply List.filter_congr
    intro j _
    rw [hsub j, Bool.and_comm]
  rw [heq]
  refine Nat.lt_of_le_of_ne (List.length_filter_le _ _) (fun e => ?_)
  have hall := List.length_filter_eq_length_iff.1 e
  have := hall i (List.mem_filter.2 ⟨List.mem_range.2 hi, by simp [hl]⟩)
  simp at this
theorem mem_depsOf {p : Oper} {d : Nat} (h : d ∈ depsOf p) : ∃ e ∈ p.after, Region.binds .any e = true ∧ e.on = d := by
  unfold depsOf at h
  obtain ⟨e, he, hb⟩ := List.mem_filterMap.1 h
  split at hb
  · rename_i hb'
    exact ⟨e, by simpa using he, hb', by simpa using hb⟩
  · cases hb
theorem ready_spec {ops : Array Oper} {listed : Array Bool} {i : Nat} (hi : i ∈ Region.ready .any ops listed) : ∃ p, ops[i]? = some p ∧ i < ops.size ∧ listed.getD i true = false ∧ ∀ d ∈ depsOf p, listed[d]? = some true := by
  unfold Region.ready at hi
  simp only [List.mem_filter, List.mem_range, Bool.and_eq_true, Bool.not_eq_true'] at hi
  obtain ⟨h1, h2, h3⟩ := hi
  have hp : ops[i]? = some ops[i] := by simp
  rw [hp] at h3
  simp only [Option.map_some, Option.getD_some] at h3
  refine ⟨_, hp, h1, h2, fun d hdm => ?_⟩
  obtain ⟨e, he, hb, rfl⟩ := mem_depsOf hdm
  have := Array.all_eq_true'.1 h3 e he
  rw [hb] at this
  simp only [Bool.not_true, Bool.false_or] at this
  rw [Array.getD_eq_getD_getElem?] at this
  cases hx : listed[e.on]? with
  | none => rw [hx] at this; simp at this
  | some b => rw [hx] at this; simp at this; rw [this]
theorem ready_mk {ops : Array Oper} {listed : Array Bool} {i : Nat} {p : Oper} (hp : ops[i]? = some p) (hl : listed.getD i true = false) (hdep : ∀ d ∈ depsOf p, listed[d]? = some true) : i ∈ Region.ready .any ops listed := by
  have hi : i < ops.size := by
    rcases Nat.lt_or_ge i ops.size with h | h
    · exact h
    · simp [Array.getElem?_eq_none h] at hp
  unfold Region.ready
  simp only [List.mem_filter, List.mem_range, Bool.and_eq_true, Bool.not_eq_true']
  refine ⟨hi, hl, ?_⟩
  rw [hp]
  simp only [Option.map_some, Option.getD_some]
  refine Array.all_eq_true'.2 fun e he => ?_
  cases hbe : Region.binds .any e with
  | false => rfl
  | true =>
    have hdm : e.on ∈ depsOf p := by
      unfold depsOf
      exact List.mem_filterMap.2 ⟨e, by simpa using he, by simp [hbe]⟩
    simp [hdep _ hdm]
theorem ready_nil {ops : Array Oper} {listed : Array Bool} (hd : baseOk ops = true) (hs : listed.size = ops.size) (hr : Region.ready .any ops listed = []) : ∀ i, i < ops.size → listed[i]? = some true := by
  intro i
  induction i using Nat.strongRecOn with
  | _ i ih =>
    intro hi
    have hil : i < listed.size := by omega
    cases hb : listed[i] with
    | true => rw [Array.getElem?_eq_getElem hil, hb]
    | false =>
      exfalso
      have hp : ops[i]? = some ops[i] := by simp
      have : i ∈ Region.ready .any ops listed := ready_mk hp (by rw [Array.getD_eq_getD_getElem?, Array.getElem?_eq_getElem hil, hb]; rfl) fun d hdm => by
        have hlt := (baseOk_spec hd hp).1 d hdm
        exact ih d hlt (by omega)
      rw [hr] at this; cases this
theorem leftOver_ge {ops : Array Oper} {listed : Array Bool} {k : Nat} (hs : listed.size = ops.size) (hk : k ≤ ops.size) (hl : ∀ i, i < ops.size → (listed[i]? = some true ↔ i < k)) : ops.size - k ≤ (leftOver ops listed).length := by
  unfold leftOver
  have : List.range ops.size = List.range' 0 k ++ List.range' k (ops.size - k) := by
    rw [List.range_eq_range', show ops.size = k + (ops.size - k) by omega, ← List.range'_append]
    simp
  rw [this, List.filter_append, List.length_append]
  have h2 : (List.range' k (ops.size - k)).filter (fun i => !listed.getD i true) = List.range' k (ops.size - k) := by
    refine List.filter_eq_self.2 fun i hi => ?_
    rw [List.mem_range'_1] at hi
    have hlt : i < listed.size := by omega
    have : ¬ (listed[i]? = some true) := fun h => by have := (hl i (by omega)).1 h; omega
    rw [Array.getElem?_eq_getElem hlt] at this
    rw [Array.getD_eq_getD_getElem?, Array.getElem?_eq_getElem hlt]
    simpa using this
  rw [h2]
  simp
/-- What comes last comes in its order. -/
theorem tail_serial {P : Program} (hb : baseOk ops = true) {m : Nat} (htail : ∀ (i : Nat) (p : Oper), ops[i]? = some p → m ≤ i → ∀ j, j < i → j ∈ anc (before ops.toList []) i) {Q : Exit → Act → World → Prop} : ∀ (n k : Nat) (fuel : Nat) (listed : Array Bool) (a : Act) (w : World), k + n = ops.size → m ≤ k → listed.size = ops.size →
    (∀ i, i < ops.size → (listed[i]? = some true ↔ i < k)) → n ≤ fuel → wpOpsIn (fenceR rd) 0 P ops Q (List.range' k n) a w → wpAnyIn (fenceR rd) 0 P .any ops Q fuel listed a w := by
  have hclosed : ∀ (k : Nat) (listed : Array Bool), listed.size = ops.size → k ≤ ops.size → (∀ i, i < ops.size → (listed[i]? = some true ↔ i < k)) → ∀ (i : Nat) (p : Oper), ops[i]? = some p → listed[i]? = some true → ∀ d ∈ depsOf p, listed[d]? = some true := by
    intro k listed hs hks hl i p hp hi d hdm
    have hil : i < ops.size := by
      rcases Nat.lt_or_ge i ops.size with h | h
      · exact h
      · simp [Array.getElem?_eq_none h] at hp
    have := (hl i hil).1 hi
    have hlt := (baseOk_spec hb hp).1 d hdm
    exact (hl d (by omega)).2 (by omega)
  intro n
  induction n with
  | zero =>
    intro k fuel listed a w hkn hm hs hl hf hw
    have hr : Region.ready .any ops listed = [] := by
      cases hrr : Region.ready .any ops listed with
      | nil => rfl
      | cons i rest =>
        exfalso
        obtain ⟨p, hp, hi, hli, -⟩ := ready_spec (show i ∈ Region.ready .any ops listed by rw [hrr]; exact List.mem_cons_self)
        have := (hl i hi).2 (by omega)
        rw [Array.getD_eq_getD_getElem?, this] at hli; cases hli
    cases fuel with
    | zero => exact ⟨hr, hw⟩
    | succ f => exact ⟨fun _ => hw, fun i hi => by rw [hr] at hi; cases hi⟩
  | succ n ih =>
    intro k fuel listed a w hkn hm hs hl hf hw
    obtain ⟨f, rfl⟩ : ∃ f, fuel = f + 1 := ⟨fuel - 1, by omega⟩
    have hk : k < ops.size := by omega
    have hp : ops[k]? = some ops[k] := by simp
    have hlk : listed.getD k true = false := by
      have hlt : k < listed.size := by omega
      have : ¬ (listed[k]? = some true) := fun h => by have := (hl k hk).1 h; omega
      rw [Array.getElem?_eq_getElem hlt] at this
      rw [Array.getD_eq_getD_getElem?, Array.getElem?_eq_getElem hlt]
      simpa using this
    have hrk : k ∈ Region.ready .any ops listed := ready_mk hp hlk fun d hdm => by
      have hlt := (baseOk_spec hb hp).1 d hdm
      exact (hl d (by omega)).2 hlt
    refine ⟨fun hr => absurd hrk (by rw [hr]; exact List.not_mem_nil), fun i hi => ?_⟩
    obtain ⟨p, hpi, hil, hli, hdep⟩ := ready_spec hi
    have hik : i = k := by
      have hnot : ¬ i < k := fun h => by
        have := (hl i hil).2 h
        rw [Array.getD_eq_getD_getElem?, this] at hli; cases hli
      rcases Nat.lt_or_ge k i with h | h
      · exfalso
        have hka := htail i p hpi (by omega) k h
        have := anc_listed (D := fun j => listed[j]? = some true) (hclosed k listed hs (by omega) hl) i p hpi hdep k hka
        have := (hl k hk).1 this
        omega
      · omega
    subst hik
    rw [List.range'_succ, wpOpsIn_cons] at hw
    refine wpOpIn_mono (fun a' w' h' => ih (i + 1) f _ a' w' (by omega) (by omega) (by simp [hs]) (fun j hj => ?_) (by omega) h') hw
    rw [Array.getElem?_setIfInBounds]
    by_cases hji : i = j
    · subst hji; simp [hs, hil]
    · rw [if_neg hji, hl j hj]; omega
theorem firstStore_not : ∀ (l : List Oper) (i : Nat) (p : Oper), i < firstStore l → l[i]? = some p → isStore p.op = false
  | [], i, p, h, _ => by cases h
  | o :: l, i, p, h, hp => by
    unfold firstStore at h
    split at h
    · cases h
    · rename_i hs
      cases i with
      | zero => simp at hp; subst hp; exact hs
      | succ i => exact firstStore_not l i p (by omega) (by simpa using hp)
theorem firstStore_is : ∀ (l : List Oper) (p : Oper), l[firstStore l]? = some p → isStore p.op = true
  | [], p, hp => by simp at hp
  | o :: l, p, hp => by
    unfold firstStore at hp
    split at hp
    · rename_i hs; simp at hp; subst hp; exact hs
    · exact firstStore_is l p (by simpa using hp)
/-- Quiet operations in any order, once the rest of what comes first is done. -/
theorem quiet_any {P : Program} (hb : baseOk ops = true) {Q : Exit → Act → World → Prop} {f : Act} {w : World} {m : Nat} (hm : m ≤ ops.size) (htail : ∀ (i : Nat) (p : Oper), ops[i]? = some p → m ≤ i → ∀ j, j < i → j ∈ anc (before ops.toList []) i)
    (hf : ∀ (fuel : Nat) (listed : Array Bool), listed.size = ops.size → (∀ i, i < ops.size → (listed[i]? = some true ↔ i < m)) → ops.size - m ≤ fuel → wpAnyIn (fenceR rd) 0 P .any ops Q fuel listed f w) :
    ∀ (fuel : Nat) (M : List Nat) (listed : Array Bool) (a : Act), listed.size = ops.size →
    (∀ i, i < ops.size → (listed[i]? = some true ↔ (i < m ∧ i ∉ M))) → (∀ i ∈ M, i < m) → M.Pairwise (· < ·) → M.length + (ops.size - m) ≤ fuel → (∀ i ∈ M, ∀ p, ops[i]? = some p → quietOp p.op = true ∧ p.guard = none) →
    (∀ (i : Nat) (p : Oper), ops[i]? = some p → listed[i]? = some true → ∀ d ∈ depsOf p, listed[d]? = some true) → runQ ops M a = some f → wpAnyIn (fenceR rd) 0 P .any ops Q fuel listed a w := by
  intro fuel
  induction fuel with
  | zero =>
    intro M listed a hs hl hM hpw hle hq hcl hr
    have hnil : M = [] := List.length_eq_zero_iff.1 (by omega)
    subst hnil
    cases hr
    exact hf 0 listed hs (fun i hi => by rw [hl i hi]; simp) (by omega)
  | succ fuel ih =>
    intro M listed a hs hl hM hpw hle hq hcl hr
    by_cases hne : M = []
    · subst hne
      cases hr
      exact hf _ listed hs (fun i hi => by rw [hl i hi]; simp) (by simpa using hle)
    obtain ⟨i0, hi0⟩ := List.exists_mem_of_ne_nil M hne
    have h0 : ¬ (listed[i0]? = some true) := fun e => ((hl i0 (by have := hM i0 hi0; omega)).1 e).2 hi0
    refine ⟨fun hrd => absurd (ready_nil hb hs hrd i0 (by have := hM i0 hi0; omega)) h0, fun i hi => ?_⟩
    obtain ⟨p, hp, hil, hli, hdep⟩ := ready_spec hi
    have hnl : ¬ (listed[i]? = some true) := fun e => by rw [Array.getD_eq_getD_getElem?, e] at hli; cases hli
    have hik : i < m := by
      rcases Nat.lt_or_ge i m with h | h
      · exact h
      · exact absurd (anc_listed (D := fun j => listed[j]? = some true) hcl i p hp hdep i0 (htail i p hp (by omega) i0 (by have := hM i0 hi0; omega))) h0
    have hiM : i ∈ M := Classical.byContradiction fun h => hnl ((hl i hil).2 ⟨hik, h⟩)
    obtain ⟨pre, post, rfl⟩ := List.append_of_mem hiM
    have hpre : ∀ j ∈ pre, j < i := fun j hj => (List.pairwise_append.1 hpw).2.2 j hj i List.mem_cons_self
    have hapart : ∀ j ∈ pre, (∀ (p' q : Oper) (d : Tmp), ops[i]? = some p' → ops[j]? = some q → q.dst = some d → d ∉ p'.looksAt ops ∧ p'.dst ≠ some d) ∧ (∀ (p' q : Oper) (d : Tmp), ops[i]? = some p' → ops[j]? = some q → p'.dst = some d → d ∉ q.looksAt ops) := by
      intro j hj
      have hji := hpre j hj
      have hjM : j ∈ pre ++ i :: post := List.mem_append_left _ hj
      have na : ∀ p', ops[i]? = some p' → j ∉ anc (before ops.toList []) i := fun p' hp' hk => by
        rw [hp] at hp'; cases hp'
        have := anc_listed (D := fun j => listed[j]? = some true) hcl i p hp hdep j hk
        exact ((hl j (by have := hM j hjM; omega)).1 this).2 hjM
      have nb : ∀ q, ops[j]? = some q → i ∉ anc (before ops.toList []) j := fun q hq' hk => by
        have := (anc_spec hq' hk).1; omega
      refine ⟨fun p' q d hp' hq' hd' => ⟨fun hlook => ?_, ((baseOk_spec hb hp').2.2.1 j q d hq' hd').2 (by omega)⟩, fun p' q d hp' hq' hd' hlook => ?_⟩
      · rcases ((baseOk_spec hb hp').2.2.1 j q d hq' hd').1 hlook with h | h
        · exact na p' hp' h
        · exact nb q hq' h
      · rcases ((baseOk_spec hb hq').2.2.1 i p' d hp' hd').1 hlook with h | h
        · exact nb q hq' h
        · exact na p' hp' h
    obtain ⟨p2, v, hp2, hv, hr2⟩ := runQ_cons (frontQ hapart hr)
    rw [hp] at hp2; cases hp2
    obtain ⟨q1, q2⟩ := hq i hiM p hp
    have hset : ∀ j, (listed.setIfInBounds i true)[j]? = some true ↔ (listed[j]? = some true ∨ j = i) := by
      intro j
      rw [Array.getElem?_setIfInBounds]
      by_cases hji : i = j
      · subst hji; simp [hs, hil]
      · rw [if_neg hji]; simp [Ne.symm hji]
    have hnotin : i ∉ pre ++ post := by
      intro h
      have hp1 := (List.pairwise_append.1 hpw)
      rcases List.mem_append.1 h with h | h
      · have := hpre i h; omega
      · have := (List.pairwise_cons.1 hp1.2.1).1 i h; omega
    unfold wpOpIn
    have hw : Region.wanted p (yielded ops a.tmps) = true := by unfold Region.wanted; rw [q2]
    simp only [hp, hw, if_true]
    refine quiet_mk q1 hv (ih (pre ++ post) _ _ (by simp [hs]) (fun j hj => ?_) (fun j hj => hM j ?_) ?_ (by simp at hle ⊢; omega) (fun j hj => hq j ?_) (fun j q hq' hj d hd' => ?_) hr2)
    · rw [hset, hl j hj]
      constructor
      · rintro (⟨h1, h⟩ | rfl)
        · exact ⟨h1, fun h' => h (by rcases List.mem_append.1 h' with h' | h'; exact List.mem_append_left _ h'; exact List.mem_append_right _ (List.mem_cons_of_mem _ h'))⟩
        · exact ⟨hik, hnotin⟩
      · rintro ⟨h1, h⟩
        by_cases hji : j = i
        · exact .inr hji
        · refine .inl ⟨h1, fun h' => h ?_⟩
          rcases List.mem_append.1 h' with h' | h'
          · exact List.mem_append_left _ h'
          · rcases List.mem_cons.1 h' with h' | h'
            · exact absurd h' hji
            · exact List.mem_append_right _ h'
    · rcases List.mem_append.1 hj with h' | h'
      · exact List.mem_append_left _ h'
      · exact List.mem_append_right _ (List.mem_cons_of_mem _ h')
    · exact hpw.sublist (List.Sublist.append (List.Sublist.refl _) (List.sublist_cons_self _ _))
    · rcases List.mem_append.1 hj with h' | h'
      · exact List.mem_append_left _ h'
      · exact List.mem_append_right _ (List.mem_cons_of_mem _ h')
    · rw [hset]
      rcases (hset j).1 hj with h | rfl
      · exact .inl (hcl j q hq' h d hd')
      · rw [hp] at hq'; cases hq'; exact .inl (hdep d hd')
/-- Quiet operations one after another, as they were reckoned. -/
theorem serial_inv (hc : Chain C w0 ops base h0 tm0 L) (hlen : L.length ≤ ops.size) (hb : baseOk ops = true) (hs0 : ∀ n b, hget h0 n = some b → n < base ∧ AV.okL base b.cells = true) (ht0 : AV.okL base tm0 = true) {w : World} :
    ∀ (M : List Nat) (D : Nat → Prop) (ρ : Env) (a : Act), Inv w0 ops base h0 tm0 L ρ0 ws ds D ρ a w → (∀ i ∈ M, i < L.length ∧ ¬ D i) → M.Pairwise (· < ·) → (∀ i ∈ M, ∀ p, ops[i]? = some p → quietOp p.op = true ∧ p.guard = none ∧ isStore p.op = false ∧ ∀ d ∈ depsOf p, D d ∨ d ∈ M) →
      ∃ (f : Act) (ρ' : Env), runQ ops M a = some f ∧ Inv w0 ops base h0 tm0 L ρ0 ws ds (fun i => D i ∨ i ∈ M) ρ' f w
  | [], D, ρ, a, hI, _, _, _ => ⟨a, ρ, rfl, by simpa using hI⟩
  | i :: M, D, ρ, a, hI, hM, hpw, hq => by
    obtain ⟨hiL, hDi⟩ := hM i List.mem_cons_self
    have hp : ops[i]? = some ops[i] := by simp
    obtain ⟨q1, q2, q3, q4⟩ := hq i List.mem_cons_self _ hp
    have hlt := (List.pairwise_cons.1 hpw).1
    have hdep : ∀ d ∈ depsOf ops[i], D d := fun d hdm => by
      have hdi := (baseOk_spec hb hp).1 d hdm
      rcases q4 d hdm with h | h
      · exact h
      · rcases List.mem_cons.1 h with h | h
        · omega
        · have := hlt d h; omega
    have hit : L[i]? = some L[i] := List.getElem?_eq_getElem hiL
    obtain ⟨-, -, -, -, hf⟩ := hc.item i _ _ hit hp
    have hg := guard_stands hc hlen hb hI hp hit hdep hDi
    have hw : ∀ tmps, Region.wanted ops[i] (yielded ops tmps) = true := fun tmps => by unfold Region.wanted; rw [q2]
    rcases hf with ⟨f1, -⟩ | ⟨f1, f2, f3, f4, s, o, g1, g2, g3, g4, g5, g6, g7, g8⟩ | ⟨f1, -⟩
    · have := f1 ρ a.tmps hg; rw [hw] at this; cases this
    · obtain ⟨v, k1, k2, k3, k4, k5⟩ := g8
      rw [g4] at k1
      cases k1
      obtain ⟨ρi, hdi, hRep, hstep⟩ := inv_on hc hlen hb hs0 ht0 hI hp hit hdep hDi g2 g3 g5 g6 g7
      have hwp := k5 none ρi a w (fun a' w' => ∃ ρ', Inv w0 ops base h0 tm0 L ρ0 ws ds (fun j => D j ∨ j = i) ρ' a' w' ∧ True) (fun _ _ _ => False) (fun x hx => by rw [g1, hdi]; exact operand_stands hc hlen hb hI hp hit hdep hDi x hx) hRep hI.below fun ρ' w' hr' hp' => by
        obtain ⟨ρ2, h2⟩ := hstep ρ' w' hr' hp'
        exact ⟨ρ2, h2, trivial⟩
      obtain ⟨u, hu, ρ', hI', -⟩ := quiet_wp q1 hwp
      obtain ⟨f, ρ2, hr, hI2⟩ := serial_inv hc hlen hb hs0 ht0 M _ ρ' _ hI' (fun j hj => ⟨(hM j (List.mem_cons_of_mem _ hj)).1, fun h => by
        rcases h with h | h
        · exact (hM j (List.mem_cons_of_mem _ hj)).2 h
        · have := hlt j hj; omega⟩) (List.pairwise_cons.1 hpw).2 (fun j hj p hp' => by
          obtain ⟨r1, r2, r3, r4⟩ := hq j (List.mem_cons_of_mem _ hj) p hp'
          refine ⟨r1, r2, r3, fun d hdm => ?_⟩
          rcases r4 d hdm with h | h
          · exact .inl (.inl h)
          · rcases List.mem_cons.1 h with h | h
            · exact .inl (.inr h)
            · exact .inr h)
      refine ⟨f, ρ2, by rw [runQ_mk hp hu]; exact hr, ?_⟩
      have : (fun j => D j ∨ j ∈ i :: M) = (fun j => (D j ∨ j = i) ∨ j ∈ M) := funext fun j => propext ⟨fun h => by
        rcases h with h | h
        · exact .inl (.inl h)
        · rcases List.mem_cons.1 h with h | h
          · exact .inl (.inr h)
          · exact .inr h, fun h => by
        rcases h with (h | h) | h
        · exact .inl h
        · exact .inr (by rw [h]; exact List.mem_cons_self)
        · exact .inr (List.mem_cons_of_mem _ h)⟩
      rw [this]; exact hI2
    · rw [q3] at f1; cases f1
theorem any_order (hc : Chain C w0 ops base h0 tm0 L) (hlen : L.length ≤ ops.size) (hd : drawOk ops = true) (hser : ∀ (i : Nat) (p : Oper), ops[i]? = some p → L.length ≤ i → ∀ j, j < i → j ∈ anc (before ops.toList []) i) (hns : ∀ i p, i < L.length → ops[i]? = some p → isStore p.op = false) (hs0 : ∀ n b, hget h0 n = some b → n < base ∧ AV.okL base b.cells = true) (ht0 : AV.okL base tm0 = true)
    {Q : Exit → Act → World → Prop} (hQ : ∀ D ρ a w, (∀ i, i < ops.size → (D i ↔ i < L.length)) → Inv w0 ops base h0 tm0 L ρ0 ws ds D ρ a w → wpOpsIn (fenceR rd) 0 C.P ops Q (List.range' L.length (ops.size - L.length)) a w) :
    ∀ (fuel : Nat) (listed : Array Bool) (ρ : Env) (a : Act) (w : World), listed.size = ops.size → (leftOver ops listed).length ≤ fuel → (∀ i, L.length ≤ i → listed[i]? ≠ some true) → Inv w0 ops base h0 tm0 L ρ0 ws ds (fun i => listed[i]? = some true) ρ a w →
      wpAnyIn (fenceR rd) 0 C.P .any ops Q fuel listed a w := by
  have hfin : ∀ (fuel : Nat) (listed : Array Bool) (ρ : Env) (a : Act) (w : World), listed.size = ops.size → (leftOver ops listed).length ≤ fuel → (∀ i, L.length ≤ i → listed[i]? ≠ some true) → Inv w0 ops base h0 tm0 L ρ0 ws ds (fun i => listed[i]? = some true) ρ a w →
      (∀ i, i < L.length → listed[i]? = some true) → wpAnyIn (fenceR rd) 0 C.P .any ops Q fuel listed a w := by
    intro fuel listed ρ a w hs hle hno hI hall
    have hl : ∀ i, i < ops.size → (listed[i]? = some true ↔ i < L.length) := fun i _ => ⟨fun h => by
      rcases Nat.lt_or_ge i L.length with h1 | h1
      · exact h1
      · exact absurd h (hno i h1), fun h => hall i h⟩
    refine tail_serial (drawOk_base hd) (m := L.length) (fun i p hp hi => hser i p hp hi) (ops.size - L.length) L.length fuel listed a w (by omega) (Nat.le_refl _) hs hl (Nat.le_trans (leftOver_ge hs hlen hl) hle) ?_
    exact hQ _ ρ a w hl hI
  intro fuel
  induction fuel with
  | zero =>
    intro listed ρ a w hs hle hno hI
    refine hfin 0 listed ρ a w hs hle hno hI fun i hi => ?_
    have hr : Region.ready .any ops listed = [] := by
      cases hrr : Region.ready .any ops listed with
      | nil => rfl
      | cons i rest =>
        exfalso
        obtain ⟨p, hp, hi, hl, -⟩ := ready_spec (show i ∈ Region.ready .any ops listed by rw [hrr]; exact List.mem_cons_self)
        have : i ∈ leftOver ops listed := List.mem_filter.2 ⟨List.mem_range.2 hi, by rw [hl]; rfl⟩
        have := List.length_pos_of_mem this
        omega
    exact ready_nil (drawOk_base hd) hs hr i (by omega)
  | succ fuel ih =>
    intro listed ρ a w hs hle hno hI
    by_cases hall : ∀ i, i < L.length → listed[i]? = some true
    · exact hfin _ listed ρ a w hs hle hno hI hall
    refine ⟨fun hr => absurd (fun i hi => ready_nil (drawOk_base hd) hs hr i (by omega)) hall, fun i hi => ?_⟩
    obtain ⟨p, hp, hil, hl, hdep⟩ := ready_spec hi
    have hiL : i < L.length := by
      rcases Nat.lt_or_ge i L.length with h | h
      · exact h
      · exfalso
        refine hall fun j hj => ?_
        have hka := hser i p hp (by omega) j (by omega)
        exact anc_listed (D := fun j => listed[j]? = some true) hI.closed i p hp hdep j hka
    have hit : L[i]? = some L[i] := List.getElem?_eq_getElem hiL
    have hset : ∀ j, (listed.setIfInBounds i true)[j]? = some true ↔ (listed[j]? = some true ∨ j = i) := by
      intro j
      rw [Array.getElem?_setIfInBounds]
      by_cases hji : i = j
      · subst hji; simp [hs, hil]
      · rw [if_neg hji]; simp [Ne.symm hji]
    have hDi : ¬ (listed[i]? = some true) := by
      intro e; rw [Array.getD_eq_getD_getElem?, e] at hl; cases hl
    have hnext : ∀ ρ' a' w', Inv w0 ops base h0 tm0 L ρ0 ws ds (fun j => listed[j]? = some true ∨ j = i) ρ' a' w' → wpAnyIn (fenceR rd) 0 C.P .any ops Q fuel (listed.setIfInBounds i true) a' w' := by
      intro ρ' a' w' hI'
      refine ih _ ρ' a' w' (by simp [hs]) (by have := leftOver_lt hil hl hs; omega) (fun j hj e => ?_) ?_
      · rcases (hset j).1 e with h | h
        · exact hno j hj h
        · omega
      · have : (fun j => (listed.setIfInBounds i true)[j]? = some true) = (fun j => listed[j]? = some true ∨ j = i) := funext fun j => propext (hset j)
        rw [this]; exact hI'
    obtain ⟨-, -, -, -, hf⟩ := hc.item i _ p hit hp
    have hg := guard_stands hc hlen (drawOk_base hd) hI hp hit hdep hDi
    unfold wpOpIn
    simp only [hp]
    rcases hf with ⟨f1, f2, f3, f4, f5⟩ | ⟨f1, f2, f3, f4, s, o, g1, g2, g3, g4, g5, g6, g7, g8⟩ | ⟨f1, -⟩
    rotate_left 2
    · rw [hns i p hiL hp] at f1; cases f1
    · rw [f1 ρ a.tmps hg]
      simp only [Bool.false_eq_true, if_false]
      exact ⟨fun _ _ => trivial, hnext ρ _ w (inv_off (drawOk_base hd) hI hp hit hdep hDi f2 f3)⟩
    · rw [f1 ρ a.tmps hg]
      simp only [if_true]
      obtain ⟨v, k1, k2, k3, k4, k5⟩ := g8
      rw [g4] at k1
      cases k1
      obtain ⟨ρi, hdi, hRep, hstep⟩ := inv_on hc hlen (drawOk_base hd) hs0 ht0 hI hp hit hdep hDi g2 g3 g5 g6 g7
      refine k5 rd ρi a w _ Q (fun x hx => by rw [g1, hdi]; exact operand_stands hc hlen (drawOk_base hd) hI hp hit hdep hDi x hx) hRep hI.below fun ρ' w' hr' hp' => ?_
      obtain ⟨ρ2, h2⟩ := hstep ρ' w' hr' hp'
      exact hnext ρ2 _ w' h2
theorem lateOk_spec (h : lateOk ops = true) : baseOk ops = true ∧ firstStore ops.toList < ops.size ∧ (∀ (i : Nat) (p : Oper), ops[i]? = some p →
    (i < firstStore ops.toList → i ∈ anc (before ops.toList []) (firstStore ops.toList) ∨ (quietOp p.op = true ∧ p.guard = none)) ∧ (i = firstStore ops.toList → p.guard = none ∧ p.dst = none)) ∧
    ((∀ (i : Nat) (p : Oper), ops[i]? = some p → firstStore ops.toList < i → ∀ j, j < i → j ∈ anc (before ops.toList []) i) ∨ ∀ (i : Nat) (p : Oper), ops[i]? = some p → firstStore ops.toList < i → quietOp p.op = true ∧ p.guard = none ∧ firstStore ops.toList ∈ anc (before ops.toList []) i) := by
  have hbare : ∀ p : Oper, bare p = true → p.guard = none := fun p h => by
    unfold bare at h; split at h
    · assumption
    · cases h
  have hsz : ∀ (i : Nat) (p : Oper), ops[i]? = some p → i < ops.size := fun i p hp => by
    rcases Nat.lt_or_ge i ops.size with h | h
    · exact h
    · simp [Array.getElem?_eq_none h] at hp
  have hany : ∀ (i k : Nat), ((before ops.toList []).getD i []).any (Nat.beq k) = true → k ∈ anc (before ops.toList []) i := fun i k h => by
    simp only [List.any_eq_true] at h
    obtain ⟨l, hl, hb⟩ := h
    have := Nat.eq_of_beq_eq_true hb
    subst this
    exact hl
  unfold lateOk at h
  simp only [Bool.and_eq_true, Bool.or_eq_true, List.all_eq_true, List.mem_range] at h
  obtain ⟨⟨⟨h1, h2⟩, h3⟩, h4⟩ := h
  refine ⟨h1, blt_lt h2, fun i p hp => ?_, ?_⟩
  · have hi := hsz i p hp
    have h3 := h3 i hi
    rw [hp] at h3
    simp only at h3
    split at h3
    · rename_i e
      have e := blt_lt e
      simp only [Bool.or_eq_true, Bool.and_eq_true] at h3
      refine ⟨fun _ => ?_, fun h => by omega⟩
      rcases h3 with h6 | h6
      · exact .inl (hany _ _ h6)
      · exact .inr ⟨h6.1, hbare p h6.2⟩
    · rename_i e
      have e : ¬ i < firstStore ops.toList := fun h => by
        have : Nat.blt i (firstStore ops.toList) = true := by simpa [Nat.blt_eq] using h
        rw [this] at e; cases e
      split at h3
      · simp only [Bool.and_eq_true] at h3
        refine ⟨fun h => absurd h e, fun _ => ⟨hbare p h3.1, ?_⟩⟩
        have h4 := h3.2
        split at h4
        · assumption
        · cases h4
      · rename_i e2
        exact ⟨fun h => absurd h e, fun h => by rw [h] at e2; simp at e2⟩
  · rcases h4 with h4 | h4
    · refine .inl fun i p hp hki => ?_
      rcases h4 i (hsz i p hp) with h5 | h5
      · have := ble_le h5; omega
      · exact anc_full hp (Nat.eq_of_beq_eq_true h5)
    · refine .inr fun i p hp hki => ?_
      rcases h4 i (hsz i p hp) with h5 | h5
      · have := ble_le h5; omega
      · rw [hp] at h5
        simp only [Bool.and_eq_true] at h5
        exact ⟨h5.1.1, hbare p h5.1.2, hany _ _ h5.2⟩
/-- Quiet operations that come last, in their order. -/
theorem quiet_tail {P : Program} {Q : Exit → Act → World → Prop} {w : World} : ∀ (n s : Nat) (f : Act), s + n ≤ ops.size → (∀ (i : Nat) (p : Oper), ops[i]? = some p → s ≤ i → quietOp p.op = true ∧ p.guard = none) →
    wpOpsIn (fenceR rd) 0 P ops Q (List.range' s n) f w → ∃ g, runQ ops (List.range' s n) f = some g ∧ wpOpsIn (fenceR rd) 0 P ops Q [] g w := by
  intro n
  induction n with
  | zero => intro s f _ _ h; exact ⟨f, rfl, h⟩
  | succ n ih =>
    intro s f hs hq h
    have hp : ops[s]? = some ops[s] := by simp
    obtain ⟨q1, q2⟩ := hq s _ hp (Nat.le_refl _)
    rw [List.range'_succ, wpOpsIn_cons] at h
    unfold wpOpIn at h
    have hw : Region.wanted ops[s] (yielded ops f.tmps) = true := by unfold Region.wanted; rw [q2]
    simp only [hp, hw, if_true] at h
    obtain ⟨v, hv, hk⟩ := quiet_wp q1 h
    obtain ⟨g, hg, hr⟩ := ih (s + 1) _ (by omega) (fun i p hpi hi => hq i p hpi (by omega)) hk
    exact ⟨g, by rw [List.range'_succ, runQ_mk hp hv]; exact hg, hr⟩
theorem wpOps_store {P : Program} {Q : Exit → Act → World → Prop} (hQ : ∀ x a w, Q x a w → x = .normal) {k n : Nat} {p : Oper} (hp : ops[k]? = some p) (hs : isStore p.op = true) (hg : p.guard = none) (hd : p.dst = none) {a : Act} {w : World}
    (h : wpOpsIn (fenceR rd) 0 P ops Q (List.range' k (n + 1)) a w) : ∃ w', (execOp a.eval p).run P w = .ok .skip w' ∧ wpOpsIn (fenceR rd) 0 P ops Q (List.range' (k + 1) n) a w' := by
  rw [List.range'_succ, wpOpsIn_cons] at h
  unfold wpOpIn at h
  have hw : Region.wanted p (yielded ops a.tmps) = true := by unfold Region.wanted; rw [hg]
  simp only [hp, hw, if_true] at h
  have hdf : isDefer p.op = false := by revert hs; cases p.op <;> simp [isStore, isDefer]
  replace h := wpIn_inv hdf h
  obtain ⟨dst, op, type, pos, after, guard⟩ := p
  cases op <;> simp only [isStore] at hs <;> try (cases hs; done)
  rename_i t x y
  simp only at hd
  subst hd
  simp only [execOp, Sem.run_bind] at h ⊢
  cases hr : (Instr.storeAt t (a.eval x) (a.eval y)).run P w with
  | ok u w' =>
    rw [hr] at h
    simp only [Result.andThen_ok, Sem.run_pure, Oper.uponIn] at h ⊢
    exact ⟨_, rfl, h⟩
  | halt z w' =>
    rw [hr] at h
    cases z <;> simp [Result.andThen, Oper.uponIn] at h
    have := hQ _ _ _ h; cases this
/-- A region in any order, its first store before or behind what is quiet. -/
theorem late_order (hc : Chain C w0 ops base h0 tm0 L) (hd : lateOk ops = true) (hlen : L.length = firstStore ops.toList) (hs0 : ∀ n b, hget h0 n = some b → n < base ∧ AV.okL base b.cells = true) (ht0 : AV.okL base tm0 = true)
    {Q : Exit → Act → World → Prop} (hQn : ∀ x a w, Q x a w → x = .normal) (hQ : ∀ D ρ a w, (∀ i, i < ops.size → (D i ↔ i < L.length)) → Inv w0 ops base h0 tm0 L ρ0 ws ds D ρ a w → wpOpsIn (fenceR rd) 0 C.P ops Q (List.range' L.length (ops.size - L.length)) a w) :
    ∀ (fuel : Nat) (listed : Array Bool) (ρ : Env) (a : Act) (w : World), listed.size = ops.size → (leftOver ops listed).length ≤ fuel → (∀ i, L.length ≤ i → listed[i]? ≠ some true) → Inv w0 ops base h0 tm0 L ρ0 ws ds (fun i => listed[i]? = some true) ρ a w →
      wpAnyIn (fenceR rd) 0 C.P .any ops Q fuel listed a w := by
  obtain ⟨hb, hk, hspec, htl⟩ := lateOk_spec hd
  have hst : ∀ p, ops[firstStore ops.toList]? = some p → isStore p.op = true := fun p hp => firstStore_is ops.toList p (by simpa using hp)
  have hns : ∀ i p, i < firstStore ops.toList → ops[i]? = some p → isStore p.op = false := fun i p hi hp => firstStore_not ops.toList i p hi (by simpa using hp)
  rw [hlen] at hQ ⊢
  generalize firstStore ops.toList = k at *
  have hlen' : L.length ≤ ops.size := by omega
  have hleft : ∀ listed : Array Bool, listed.size = ops.size → listed[k]? ≠ some true → listed.getD k true = false := fun listed hs hno => by
    have hlt : k < listed.size := by omega
    rw [Array.getElem?_eq_getElem hlt] at hno
    rw [Array.getD_eq_getD_getElem?, Array.getElem?_eq_getElem hlt]
    simpa using hno
  intro fuel
  induction fuel with
  | zero =>
    intro listed ρ a w hs hle hno hI
    exfalso
    have : k ∈ leftOver ops listed := List.mem_filter.2 ⟨List.mem_range.2 hk, by rw [hleft listed hs (hno k (Nat.le_refl _))]; rfl⟩
    have := List.length_pos_of_mem this
    omega
  | succ fuel ih =>
    intro listed ρ a w hs hle hno hI
    refine ⟨fun hr => absurd (ready_nil hb hs hr k hk) (hno k (Nat.le_refl _)), fun i hi => ?_⟩
    obtain ⟨p, hp, hil, hl, hdep⟩ := ready_spec hi
    have hset : ∀ j, (listed.setIfInBounds i true)[j]? = some true ↔ (listed[j]? = some true ∨ j = i) := by
      intro j
      rw [Array.getElem?_setIfInBounds]
      by_cases hji : i = j
      · subst hji; simp [hs, hil]
      · rw [if_neg hji]; simp [Ne.symm hji]
    have hDi : ¬ (listed[i]? = some true) := by
      intro e; rw [Array.getD_eq_getD_getElem?, e] at hl; cases hl
    have hlt := leftOver_lt hil hl hs
    rcases Nat.lt_trichotomy i k with hik | hik | hik
    rotate_left
    · subst hik
      obtain ⟨g1, g2⟩ := (hspec i p hp).2 rfl
      let M := (List.range i).filter fun j => !listed.getD j true
      have hM : ∀ j, j ∈ M ↔ (j < i ∧ ¬ (listed[j]? = some true)) := by
        intro j
        show j ∈ (List.range i).filter _ ↔ _
        rw [List.mem_filter, List.mem_range]
        constructor
        · rintro ⟨h1, h2⟩
          exact ⟨h1, fun e => by rw [Array.getD_eq_getD_getElem?, e] at h2; simp at h2⟩
        · rintro ⟨h1, h2⟩
          refine ⟨h1, ?_⟩
          have hlt : j < listed.size := by omega
          rw [Array.getElem?_eq_getElem hlt] at h2
          rw [Array.getD_eq_getD_getElem?, Array.getElem?_eq_getElem hlt]
          simpa using h2
      have hpw : M.Pairwise (· < ·) := List.Pairwise.filter _ List.pairwise_lt_range
      have hanc : ∀ j, j ∈ anc (before ops.toList []) i → listed[j]? = some true := fun j hj => anc_listed (D := fun j => listed[j]? = some true) hI.closed i p hp hdep j hj
      have hq : ∀ j ∈ M, ∀ q, ops[j]? = some q → quietOp q.op = true ∧ q.guard = none ∧ isStore q.op = false ∧ ∀ d ∈ depsOf q, listed[d]? = some true ∨ d ∈ M := by
        intro j hj q hqj
        obtain ⟨m1, m2⟩ := (hM j).1 hj
        have s4 : quietOp q.op = true ∧ q.guard = none := by
          rcases (hspec j q hqj).1 m1 with h | h
          · exact absurd (hanc j h) m2
          · exact h
        refine ⟨s4.1, s4.2, hns j q m1 hqj, fun d hdm => ?_⟩
        by_cases hld : listed[d]? = some true
        · exact .inl hld
        · refine .inr ((hM d).2 ⟨?_, hld⟩)
          have := (baseOk_spec hb hqj).1 d hdm
          omega
      obtain ⟨f, ρ', hrun, hI'⟩ := serial_inv hc hlen' hb hs0 ht0 _ _ ρ a hI (fun j hj => ⟨by rw [hlen]; exact ((hM j).1 hj).1, ((hM j).1 hj).2⟩) hpw hq
      have hops := hQ _ ρ' f w (fun j hj => ⟨fun h => by
        rcases h with h | h
        · rcases Nat.lt_or_ge j i with h1 | h1
          · exact h1
          · exact absurd h (hno j h1)
        · exact ((hM j).1 h).1, fun h => by
        by_cases hlj : listed[j]? = some true
        · exact .inl hlj
        · exact .inr ((hM j).2 ⟨h, hlj⟩)⟩) hI'
      rw [show ops.size - i = (ops.size - (i + 1)) + 1 by omega] at hops
      obtain ⟨w', hx, hrest⟩ := wpOps_store hQn hp (hst p hp) g1 g2 hops
      unfold wpOpIn
      have hw : Region.wanted p (yielded ops a.tmps) = true := by unfold Region.wanted; rw [g1]
      simp only [hp, hw, if_true]
      refine store_mk (hst p hp) (fun x hxm => ?_) hx ?_
      · refine (runQ_keep (fun j hj q t hqj hxt hdt => ?_) hrun).symm
        subst hxt
        obtain ⟨m1, m2⟩ := (hM j).1 hj
        rcases ((baseOk_spec hb hp).2.2.1 j q t hqj hdt).1 (looks_mem hxm) with h | h
        · exact m2 (hanc j h)
        · have := (anc_spec hqj h).1; omega
      · rw [g2]
        have hsplit : (leftOver ops listed).length = M.length + (ops.size - i) := by
          show ((List.range ops.size).filter fun j => !listed.getD j true).length = _
          have e : List.range ops.size = List.range i ++ List.range' i (ops.size - i) := by
            rw [List.range_eq_range', List.range_eq_range', show ops.size = i + (ops.size - i) by omega, ← List.range'_append]
            simp
          rw [e, List.filter_append, List.length_append]
          have h2 : (List.range' i (ops.size - i)).filter (fun j => !listed.getD j true) = List.range' i (ops.size - i) := by
            refine List.filter_eq_self.2 fun j hj => ?_
            rw [List.mem_range'_1] at hj
            have hlt : j < listed.size := by omega
            have := hno j (by omega)
            rw [Array.getElem?_eq_getElem hlt] at this
            rw [Array.getD_eq_getD_getElem?, Array.getElem?_eq_getElem hlt]
            simpa using this
          rw [h2, List.length_range']
        rcases htl with hA | hB
        · refine quiet_any (f := f) (m := i + 1) hb (by omega) (fun j q hqj hij => hA j q hqj (by omega)) (fun fl ls e1 e2 e3 => tail_serial hb (fun j q hqj hij => hA j q hqj (by omega)) (ops.size - (i + 1)) (i + 1) fl ls f w' (by omega) (Nat.le_refl _) e1 e2 e3 hrest) fuel M _ a (by simp [hs]) (fun j hj => ?_) (fun j hj => by have := ((hM j).1 hj).1; omega) hpw ?_ (fun j hj q hqj => ⟨(hq j hj q hqj).1, (hq j hj q hqj).2.1⟩) (fun j q hqj hj d hdm => ?_) hrun
          · rw [hset, hM]
            constructor
            · rintro (h | h)
              · have hji : j < i := by
                  rcases Nat.lt_or_ge j i with h1 | h1
                  · exact h1
                  · exact absurd h (hno j h1)
                exact ⟨by omega, fun h' => h'.2 h⟩
              · exact ⟨by omega, fun h' => by omega⟩
            · rintro ⟨h1, h2⟩
              by_cases hji : j = i
              · exact .inr hji
              · exact .inl (Classical.byContradiction fun h3 => h2 ⟨by omega, h3⟩)
          · omega
          · rw [hset]
            left
            rcases (hset j).1 hj with h | rfl
            · exact hI.closed j q hqj h d hdm
            · rw [hp] at hqj; cases hqj; exact hdep d hdm
        · obtain ⟨g, hg, hrest2⟩ := quiet_tail (ops.size - (i + 1)) (i + 1) f (by omega) (fun j q hqj hij => ⟨(hB j q hqj (by omega)).1, (hB j q hqj (by omega)).2.1⟩) hrest
          have hin : ∀ j, j ∈ List.range' (i + 1) (ops.size - (i + 1)) ↔ (i < j ∧ j < ops.size) := fun j => by rw [List.mem_range'_1]; omega
          refine quiet_any (f := g) (m := ops.size) hb (Nat.le_refl _) (fun j q hqj hij => ?_) (fun fl ls e1 e2 e3 => tail_serial hb (m := ops.size) (fun j q hqj hij => ?_) 0 ops.size fl ls g w' (by omega) (Nat.le_refl _) e1 e2 (by omega) hrest2) fuel (M ++ List.range' (i + 1) (ops.size - (i + 1))) _ a (by simp [hs]) (fun j hj => ?_) (fun j hj => ?_) ?_ ?_ (fun j hj q hqj => ?_) (fun j q hqj hj d hdm => ?_) (runQ_append hrun hg)
          · rw [Array.getElem?_eq_none hij] at hqj; cases hqj
          · rw [Array.getElem?_eq_none hij] at hqj; cases hqj
          · rw [hset, List.mem_append, hM, hin]
            constructor
            · rintro (h | h)
              · have hji : j < i := by
                  rcases Nat.lt_or_ge j i with h1 | h1
                  · exact h1
                  · exact absurd h (hno j h1)
                exact ⟨hj, fun h' => by rcases h' with h' | h'; exact h'.2 h; omega⟩
              · exact ⟨hj, fun h' => by rcases h' with h' | h' <;> omega⟩
            · rintro ⟨h1, h2⟩
              by_cases hji : j = i
              · exact .inr hji
              · refine .inl (Classical.byContradiction fun h3 => h2 ?_)
                rcases Nat.lt_or_ge j i with h4 | h4
                · exact .inl ⟨h4, h3⟩
                · exact .inr ⟨by omega, hj⟩
          · rcases List.mem_append.1 hj with h | h
            · have := ((hM j).1 h).1; omega
            · exact ((hin j).1 h).2
          · refine List.pairwise_append.2 ⟨hpw, List.pairwise_lt_range', fun x hx y hy => ?_⟩
            have := ((hM x).1 hx).1
            have := ((hin y).1 hy).1
            omega
          · rw [List.length_append, List.length_range']; omega
          · rcases List.mem_append.1 hj with h | h
            · exact ⟨(hq j h q hqj).1, (hq j h q hqj).2.1⟩
            · exact ⟨(hB j q hqj ((hin j).1 h).1).1, (hB j q hqj ((hin j).1 h).1).2.1⟩
          · rw [hset]
            left
            rcases (hset j).1 hj with h | rfl
            · exact hI.closed j q hqj h d hdm
            · rw [hp] at hqj; cases hqj; exact hdep d hdm
    · exfalso
      exact hno k (Nat.le_refl _) (anc_listed (D := fun j => listed[j]? = some true) hI.closed i p hp hdep k (by rcases htl with hA | hB; exact hA i p hp hik k hik; exact (hB i p hp hik).2.2))
    · have s1 := hns i p hik hp
      have hit : L[i]? = some (L[i]'(by omega)) := List.getElem?_eq_getElem (by omega)
      have hnext : ∀ ρ' a' w', Inv w0 ops base h0 tm0 L ρ0 ws ds (fun j => listed[j]? = some true ∨ j = i) ρ' a' w' → wpAnyIn (fenceR rd) 0 C.P .any ops Q fuel (listed.setIfInBounds i true) a' w' := by
        intro ρ' a' w' hI'
        refine ih _ ρ' a' w' (by simp [hs]) (by omega) (fun j hj e => ?_) ?_
        · rcases (hset j).1 e with h | h
          · exact hno j hj h
          · omega
        · have : (fun j => (listed.setIfInBounds i true)[j]? = some true) = (fun j => listed[j]? = some true ∨ j = i) := funext fun j => propext (hset j)
          rw [this]; exact hI'
      obtain ⟨-, -, -, -, hf⟩ := hc.item i _ p hit hp
      have hg := guard_stands hc hlen' hb hI hp hit hdep hDi
      unfold wpOpIn
      simp only [hp]
      rcases hf with ⟨f1, f2, f3, f4, f5⟩ | ⟨f1, f2, f3, f4, s, o, g1, g2, g3, g4, g5, g6, g7, g8⟩ | ⟨f1, -⟩
      rotate_left 2
      · rw [s1] at f1; cases f1
      · rw [f1 ρ a.tmps hg]
        simp only [Bool.false_eq_true, if_false]
        exact ⟨fun _ _ => trivial, hnext ρ _ w (inv_off hb hI hp hit hdep hDi f2 f3)⟩
      · rw [f1 ρ a.tmps hg]
        simp only [if_true]
        obtain ⟨v, k1, k2, k3, k4, k5⟩ := g8
        rw [g4] at k1
        cases k1
        obtain ⟨ρi, hdi, hRep, hstep⟩ := inv_on hc hlen' hb hs0 ht0 hI hp hit hdep hDi g2 g3 g5 g6 g7
        refine k5 rd ρi a w _ Q (fun x hx => by rw [g1, hdi]; exact operand_stands hc hlen' hb hI hp hit hdep hDi x hx) hRep hI.below fun ρ' w' hr' hp' => ?_
        obtain ⟨ρ2, h2⟩ := hstep ρ' w' hr' hp'
        exact hnext ρ2 _ w' h2
end
section
variable {C : Ctx} {G : World → Prop} {w0 : World} {R : Rec}
theorem firstStore_le : ∀ ops : List Oper, firstStore ops ≤ ops.length
  | [] => Nat.le_refl _
  | o :: ops => by
    unfold firstStore
    split
    · exact Nat.zero_le _
    · have := firstStore_le ops
      simp; omega
/-- A region that draws its order, but for what comes last. -/
theorem tailFrom_spec (T : List (List Nat)) : ∀ m, tailFrom T m ≤ m ∧ ∀ i, tailFrom T m ≤ i → i < m → (T.getD i []).length = i
  | 0 => ⟨Nat.le_refl _, fun i _ h => by omega⟩
  | m + 1 => by
    unfold tailFrom
    split
    · rename_i h
      have h := Nat.eq_of_beq_eq_true h
      obtain ⟨a, b⟩ := tailFrom_spec T m
      refine ⟨by omega, fun i h1 h2 => ?_⟩
      rcases Nat.lt_or_ge i m with h3 | h3
      · exact b i h1 h3
      · have : i = m := by omega
        subst this; exact h
    · exact ⟨Nat.le_refl _, fun i h1 h2 => by omega⟩
theorem splitOf_spec {ops : Array Oper} (h : drawOk ops = true) : splitOf ops ≤ firstStore ops.toList ∧ ∀ (i : Nat) (p : Oper), ops[i]? = some p → splitOf ops ≤ i → ∀ j, j < i → j ∈ anc (before ops.toList []) i := by
  have hl : lastOk ops = true := by unfold drawOk at h; simp only [Bool.and_eq_true] at h; exact h.2
  unfold splitOf
  rw [hl]
  simp only
  split
  · obtain ⟨a, b⟩ := tailFrom_spec (before ops.toList []) (firstStore ops.toList)
    refine ⟨a, fun i p hp hi => ?_⟩
    rcases Nat.lt_or_ge i (firstStore ops.toList) with h1 | h1
    · exact anc_full hp (b i hi h1)
    · exact drawOk_last h hp h1
  · exact ⟨Nat.le_refl _, fun i p hp hi => drawOk_last h hp hi⟩
theorem region_ok (hg : Good C G) {id : Nat} {f : FuncId} {ops : Array Oper} {s : St} {o2 : Out} (hd : drawOk ops = true) (hk : StOK s)
    (h2' : goTail R f ops (splitOf ops) (R (.draw f ops (ops.toList.take (splitOf ops)) s.nxt [] []) s) = some o2) (hl : Holds C G o2.log)
    (hdraw : ∀ o, R (.draw f ops (ops.toList.take (splitOf ops)) s.nxt [] []) s = some o → Holds C G o.log → DrawOK C w0 ops (ops.toList.take (splitOf ops)) s.nxt [] [] s o)
    (htail : ∀ s o, R (.ops f ops (ops.toList.drop (splitOf ops))) s = some o → Holds C G o.log → StOK s → OpsOK C w0 ops (ops.toList.drop (splitOf ops)) s o) : CodeOK C w0 (.region id ops true) s o2 := by
  obtain ⟨hle0, hser⟩ := splitOf_spec hd
  have hfs : splitOf ops ≤ ops.size := Nat.le_trans hle0 (by simpa using firstStore_le ops.toList)
  generalize hm : splitOf ops = m at *
  unfold goTail at h2'
  split at h2'
  rotate_left
  · cases h2'
  rename_i s1 l1 c1 k1 hrun
  obtain ⟨o3, hr3, rfl⟩ := behind_eq h2'
  have h := hdraw _ hrun hl.left
  generalize ho : (⟨.normal, s1, l1, ⟨c1, k1⟩⟩ : Out) = o at h
  obtain ⟨L, h1, h2, h3, h4, h5, h6, h7, h8⟩ := h m [] s.tmps hfs rfl rfl rfl rfl rfl (Nat.le_refl _) ⟨fun i it p hi => by simp at hi, fun i it p hi => by simp at hi⟩ (Nat.zero_le _)
  have hs1 : s1 = o.st := by rw [← ho]
  have hl1 : l1 = o.low := by rw [← ho]
  subst hs1
  subst hl1
  obtain ⟨b1, b2, b3, b4⟩ := htail _ _ hr3 hl.right h7
  have hfr := h8.2
  replace h8 := h8.1
  refine ⟨by rw [b1]; rfl, b2, ⟨Nat.le_trans h8 b3.1, by rw [b3.2, hfr]⟩, fun ρ w Q hr hb he => ?_⟩
  unfold fenceOf
  have hs0 : ∀ n b, hget s.heap n = some b → n < s.nxt ∧ AV.okL s.nxt b.cells = true := hr.scope
  refine wpIn_region_any hg.mixed ?_
  have hI0 : Inv w0 ops s.nxt s.heap s.tmps L ρ w (act ρ s.res.fr s.tmps).defers (fun i => (Array.replicate ops.size false)[i]? = some true) ρ (act ρ s.res.fr s.tmps) { w with drawn := w.drawn + 1 } := by
    have hno : ∀ i, ¬ ((Array.replicate ops.size false)[i]? = some true) := fun i e => by
      rw [Array.getElem?_replicate] at e; split at e <;> simp at e
    have hth : ∀ n b, There s.heap L (fun i => (Array.replicate ops.size false)[i]? = some true) n b → hget s.heap n = some b := fun n b h => by
      rcases h with h | ⟨j, it, hj, -⟩
      · exact h
      · exact absurd hj (hno j)
    exact ⟨fun i p _ hi => absurd hi (hno i), rfl, by simp [act, denL_length], fun j it p t hj => absurd hj (hno j), fun t _ => by simp [act], fun n b hn => (hr.block n b (hth n b hn)).keep (fun k hk hf => ⟨rfl, hf.1, fun n b hn hm => hf.2 n b (hth n b hn) hm⟩) rfl rfl fun _ => rfl, fun n m b c hn hm => hr.inj n m b c (hth n b hn) (hth m c hm),
      fun n b hn => hr.above n b (hth n b hn), fun j it n b hj => absurd hj (hno j), ⟨rfl, rfl⟩, hr.base, fun n b hn => hr.reach n b (hth n b hn), fun n _ => ⟨rfl, rfl⟩, rfl, rfl, rfl, Nat.le_refl _, fun k _ => rfl, hb.drew⟩
  refine any_order (ρ0 := ρ) (ws := w) h2 (by omega) hd (fun i p hp hi => hser i p hp (by omega)) (fun i p hi hp => firstStore_not ops.toList i p (by omega) (by simpa using hp)) hs0 hk.1 ?_ ops.size _ ρ _ _ (by simp) (by unfold leftOver; exact Nat.le_trans (List.length_filter_le _ _) (by simp)) (fun i _ e => by
    rw [Array.getElem?_replicate] at e; split at e <;> simp at e) hI0
  intro D ρ' a w' hD hI
  -- all is done that may come in any order
  have hD' : ∀ i, i < m → D i := fun i hi => (hD i (by omega)).2 (by omega)
  have hDm : ∀ i p, ops[i]? = some p → D i → i < m := fun i p hp hDi => by
    have hi : i < ops.size := by
      rcases Nat.lt_or_ge i ops.size with h | h
      · exact h
      · simp [Array.getElem?_eq_none h] at hp
    have := (hD i hi).1 hDi
    omega
  rw [h1]
  have hle : s.nxt ≤ nxAt s.nxt L m := by rw [← h6]; exact h8
  have hth : ∀ n b, hget o.st.heap n = some b → There s.heap L D n b := by
    intro n b hn
    rw [h5, hget_append] at hn
    cases hm : hget (L.map Item.made).flatten n with
    | some c =>
      rw [hm] at hn; cases hn
      obtain ⟨j, hh, hj, hb⟩ := flatten_get' hm
      rw [List.getElem?_map] at hj
      cases hjt : L[j]? with
      | none => rw [hjt] at hj; cases hj
      | some jt =>
        rw [hjt] at hj
        simp only [Option.map_some, Option.some.injEq] at hj
        subst hj
        exact .inr ⟨j, jt, hD' j (by have := (List.getElem?_eq_some_iff.1 hjt).1; omega), hjt, hb⟩
    | none => rw [hm] at hn; exact .inl hn
  have hσ : ∀ n, n < s.nxt → ρ'.σ n = ρ.σ n := fun n hn => (hI.agree n (.inl hn)).1
  have ha : a = act ρ' o.st.res.fr o.st.tmps := by
    obtain ⟨tmps, defers⟩ := a
    have hdf := hI.defers
    simp only [act] at hdf
    subst hdf
    rw [hfr]
    unfold act
    rw [marks_eq hσ hk.2]
    congr 1
    rw [h4]
    apply Array.ext'
    apply List.ext_getElem?
    intro t
    rw [Array.getElem?_toList]
    by_cases hex : ∃ (j : Nat) (q : Oper), j < m ∧ ops[j]? = some q ∧ q.dst = some t
    · obtain ⟨j, q, hj, hq, hdq⟩ := hex
      have hjt : L[j]? = some L[j] := List.getElem?_eq_getElem (by omega)
      rcases Nat.lt_or_ge t s.tmps.length with hlt | hge
      · have e1 := hI.put j _ q t (hD' j hj) hjt hq hdq hlt
        simp only at e1
        rw [e1, denL_map, List.getElem?_map, tmAt_put hjt hq hdq hlt (fun k r hk hr hdr => ((baseOk_spec (drawOk_base hd) hr).2.2.1 j q t hq hdq).2 hk hdr) hj]
        rfl
      · have hsz := hI.size
        simp only at hsz
        rw [Array.getElem?_eq_none (by omega), denL_map, List.getElem?_map, List.getElem?_eq_none (by rw [tmAt_length]; exact hge)]; rfl
    · have hno : ∀ (j : Nat) (q : Oper), j < m → ops[j]? = some q → q.dst ≠ some t := fun j q hj hq hdq => hex ⟨j, q, hj, hq, hdq⟩
      have e1 := hI.left t (fun j q hDj hq => hno j q (hDm j q hq hDj) hq)
      simp only at e1
      rw [e1, denL_map, denL_map, List.getElem?_map, List.getElem?_map, tmAt_keep (fun j q hj hq => hno j q hj hq)]
  have hmade : ∀ n b, hget o.st.heap n = some b → ¬ hget s.heap n = some b → s.nxt ≤ n ∧ n < o.st.nxt ∧ AV.okL o.st.nxt b.cells = true ∧ (b.mem = true → w.heap.size ≤ ρ'.σ n) := by
    intro n b hn hne
    rcases hth n b hn with h | ⟨j, jt, hDj, hjt, hb⟩
    · exact absurd h hne
    · obtain ⟨m1, m2, m3, m4⟩ := hI.made j jt n b hDj hjt hb
      have := base_le h2 (by omega) hjt
      rw [h1] at this
      rw [h6]
      exact ⟨by omega, by omega, okL_mono (by omega) _ m3, m4⟩
  rw [ha]
  have hRep : Rep w0.heap.size ρ' o.st.heap o.st.nxt w' := by
    refine ⟨fun n b hn => (hI.block n b (hth n b hn)).keep (Keep.wide fun k hk hf => ⟨hf.1, fun n b hn hm => hf.2 n b (hth n b hn) hm⟩) rfl rfl fun _ => rfl, fun n m b c hn hm => hI.inj n m b c (hth n b hn) (hth m c hm), fun n b hn => ?_, fun n b hn => hI.above n b (hth n b hn), by rw [hI.area.2]; exact Nat.le_trans hI.ground hI.wsize, fun n b hn => hI.reach n b (hth n b hn)⟩
    by_cases hne : hget s.heap n = some b
    · obtain ⟨q1, q2⟩ := hs0 n b hne
      exact ⟨by rw [h6]; omega, okL_mono (by rw [h6]; exact hle) _ q2⟩
    · obtain ⟨-, q1, q2, -⟩ := hmade n b hn hne
      exact ⟨q1, q2⟩
  have hPost : Post ρ ρ' s.heap o.st.heap s.nxt o.st.nxt o.low w w' := by
    refine ⟨fun n hn => hI.agree n (by rw [h1, ← h6]; exact hn), hI.area, h8, hI.os, hI.tape, hI.output, hI.wsize, fun k hk _ => hI.frame k hk, fun n b hn hbm => ?_, fun n hl hx => ?_⟩
    · by_cases hne : hget s.heap n = some b
      · exact .inl ⟨n, b, hne, hbm, (hI.agree n (.inl (hs0 n b hne).1)).1, .inl rfl⟩
      · exact .inr ((hmade n b hn hne).2.2.2 hbm)
    · rw [h5, hget_append]
      cases hm : hget (L.map Item.made).flatten n with
      | none => rfl
      | some c =>
        obtain ⟨j, hh, hj, hb⟩ := flatten_get' hm
        rw [List.getElem?_map] at hj
        cases hjt : L[j]? with
        | none => rw [hjt] at hj; cases hj
        | some jt =>
          rw [hjt] at hj
          simp only [Option.map_some, Option.some.injEq] at hj
          subst hj
          have hjl := (List.getElem?_eq_some_iff.1 hjt).1
          obtain ⟨m1, -⟩ := hI.made j jt n c (hD' j (by omega)) hjt hb
          have := base_le h2 (by omega) hjt
          omega
  simp only [b1] at he
  have b4' := fun Q => b4 m rfl ρ' w' Q
  have hfe := fence_eq (ρ := ρ) (ρ1 := ρ') hσ hk.2 (show o.st.res.fr.rnd = s.res.fr.rnd by rw [hfr])
  rw [hfe] at b4'
  exact b4' Q hRep (below_of_post hr hPost hb) (he.trans (x := .normal) (l := ⟨c1 ++ o3.log.conds, k1 ++ o3.log.calls⟩) hr hRep hPost)
/-- A region that draws its order, its first store before or behind what is quiet. -/
theorem region_late (hg : Good C G) {id : Nat} {f : FuncId} {ops : Array Oper} {s : St} {o2 : Out} (hd : lateOk ops = true) (hk : StOK s)
    (h2' : goTail R f ops (firstStore ops.toList) (R (.draw f ops (ops.toList.take (firstStore ops.toList)) s.nxt [] []) s) = some o2) (hl : Holds C G o2.log)
    (hdraw : ∀ o, R (.draw f ops (ops.toList.take (firstStore ops.toList)) s.nxt [] []) s = some o → Holds C G o.log → DrawOK C w0 ops (ops.toList.take (firstStore ops.toList)) s.nxt [] [] s o)
    (htail : ∀ s o, R (.ops f ops (ops.toList.drop (firstStore ops.toList))) s = some o → Holds C G o.log → StOK s → OpsOK C w0 ops (ops.toList.drop (firstStore ops.toList)) s o) : CodeOK C w0 (.region id ops true) s o2 := by
  have hfs : firstStore ops.toList ≤ ops.size := by simpa using firstStore_le ops.toList
  generalize hm : firstStore ops.toList = m at *
  unfold goTail at h2'
  split at h2'
  rotate_left
  · cases h2'
  rename_i s1 l1 c1 k1 hrun
  obtain ⟨o3, hr3, rfl⟩ := behind_eq h2'
  have h := hdraw _ hrun hl.left
  generalize ho : (⟨.normal, s1, l1, ⟨c1, k1⟩⟩ : Out) = o at h
  obtain ⟨L, h1, h2, h3, h4, h5, h6, h7, h8⟩ := h m [] s.tmps hfs rfl rfl rfl rfl rfl (Nat.le_refl _) ⟨fun i it p hi => by simp at hi, fun i it p hi => by simp at hi⟩ (Nat.zero_le _)
  have hs1 : s1 = o.st := by rw [← ho]
  have hl1 : l1 = o.low := by rw [← ho]
  subst hs1
  subst hl1
  obtain ⟨b1, b2, b3, b4⟩ := htail _ _ hr3 hl.right h7
  have hfr := h8.2
  replace h8 := h8.1
  refine ⟨by rw [b1]; rfl, b2, ⟨Nat.le_trans h8 b3.1, by rw [b3.2, hfr]⟩, fun ρ w Q hr hb he => ?_⟩
  unfold fenceOf
  have hs0 : ∀ n b, hget s.heap n = some b → n < s.nxt ∧ AV.okL s.nxt b.cells = true := hr.scope
  refine wpIn_mono (Q := fun x a w => x = .normal ∧ Q x a w) ?_ (fun _ _ _ h => h.2)
  refine wpIn_region_any hg.mixed ?_
  have hI0 : Inv w0 ops s.nxt s.heap s.tmps L ρ w (act ρ s.res.fr s.tmps).defers (fun i => (Array.replicate ops.size false)[i]? = some true) ρ (act ρ s.res.fr s.tmps) { w with drawn := w.drawn + 1 } := by
    have hno : ∀ i, ¬ ((Array.replicate ops.size false)[i]? = some true) := fun i e => by
      rw [Array.getElem?_replicate] at e; split at e <;> simp at e
    have hth : ∀ n b, There s.heap L (fun i => (Array.replicate ops.size false)[i]? = some true) n b → hget s.heap n = some b := fun n b h => by
      rcases h with h | ⟨j, it, hj, -⟩
      · exact h
      · exact absurd hj (hno j)
    exact ⟨fun i p _ hi => absurd hi (hno i), rfl, by simp [act, denL_length], fun j it p t hj => absurd hj (hno j), fun t _ => by simp [act], fun n b hn => (hr.block n b (hth n b hn)).keep (fun k hk hf => ⟨rfl, hf.1, fun n b hn hm => hf.2 n b (hth n b hn) hm⟩) rfl rfl fun _ => rfl, fun n m b c hn hm => hr.inj n m b c (hth n b hn) (hth m c hm),
      fun n b hn => hr.above n b (hth n b hn), fun j it n b hj => absurd hj (hno j), ⟨rfl, rfl⟩, hr.base, fun n b hn => hr.reach n b (hth n b hn), fun n _ => ⟨rfl, rfl⟩, rfl, rfl, rfl, Nat.le_refl _, fun k _ => rfl, hb.drew⟩
  refine late_order (ρ0 := ρ) (ws := w) h2 hd (by omega) hs0 hk.1 (fun _ _ _ h => h.1) ?_ ops.size _ ρ _ _ (by simp) (by unfold leftOver; exact Nat.le_trans (List.length_filter_le _ _) (by simp)) (fun i _ e => by
    rw [Array.getElem?_replicate] at e; split at e <;> simp at e) hI0
  intro D ρ' a w' hD hI
  -- all is done that may come in any order
  have hD' : ∀ i, i < m → D i := fun i hi => (hD i (by omega)).2 (by omega)
  have hDm : ∀ i p, ops[i]? = some p → D i → i < m := fun i p hp hDi => by
    have hi : i < ops.size := by
      rcases Nat.lt_or_ge i ops.size with h | h
      · exact h
      · simp [Array.getElem?_eq_none h] at hp
    have := (hD i hi).1 hDi
    omega
  rw [h1]
  have hle : s.nxt ≤ nxAt s.nxt L m := by rw [← h6]; exact h8
  have hth : ∀ n b, hget o.st.heap n = some b → There s.heap L D n b := by
    intro n b hn
    rw [h5, hget_append] at hn
    cases hm : hget (L.map Item.made).flatten n with
    | some c =>
      rw [hm] at hn; cases hn
      obtain ⟨j, hh, hj, hb⟩ := flatten_get' hm
      rw [List.getElem?_map] at hj
      cases hjt : L[j]? with
      | none => rw [hjt] at hj; cases hj
      | some jt =>
        rw [hjt] at hj
        simp only [Option.map_some, Option.some.injEq] at hj
        subst hj
        exact .inr ⟨j, jt, hD' j (by have := (List.getElem?_eq_some_iff.1 hjt).1; omega), hjt, hb⟩
    | none => rw [hm] at hn; exact .inl hn
  have hσ : ∀ n, n < s.nxt → ρ'.σ n = ρ.σ n := fun n hn => (hI.agree n (.inl hn)).1
  have ha : a = act ρ' o.st.res.fr o.st.tmps := by
    obtain ⟨tmps, defers⟩ := a
    have hdf := hI.defers
    simp only [act] at hdf
    subst hdf
    rw [hfr]
    unfold act
    rw [marks_eq hσ hk.2]
    congr 1
    rw [h4]
    apply Array.ext'
    apply List.ext_getElem?
    intro t
    rw [Array.getElem?_toList]
    by_cases hex : ∃ (j : Nat) (q : Oper), j < m ∧ ops[j]? = some q ∧ q.dst = some t
    · obtain ⟨j, q, hj, hq, hdq⟩ := hex
      have hjt : L[j]? = some L[j] := List.getElem?_eq_getElem (by omega)
      rcases Nat.lt_or_ge t s.tmps.length with hlt | hge
      · have e1 := hI.put j _ q t (hD' j hj) hjt hq hdq hlt
        simp only at e1
        rw [e1, denL_map, List.getElem?_map, tmAt_put hjt hq hdq hlt (fun k r hk hr hdr => ((baseOk_spec (lateOk_spec hd).1 hr).2.2.1 j q t hq hdq).2 hk hdr) hj]
        rfl
      · have hsz := hI.size
        simp only at hsz
        rw [Array.getElem?_eq_none (by omega), denL_map, List.getElem?_map, List.getElem?_eq_none (by rw [tmAt_length]; exact hge)]; rfl
    · have hno : ∀ (j : Nat) (q : Oper), j < m → ops[j]? = some q → q.dst ≠ some t := fun j q hj hq hdq => hex ⟨j, q, hj, hq, hdq⟩
      have e1 := hI.left t (fun j q hDj hq => hno j q (hDm j q hq hDj) hq)
      simp only at e1
      rw [e1, denL_map, denL_map, List.getElem?_map, List.getElem?_map, tmAt_keep (fun j q hj hq => hno j q hj hq)]
  have hmade : ∀ n b, hget o.st.heap n = some b → ¬ hget s.heap n = some b → s.nxt ≤ n ∧ n < o.st.nxt ∧ AV.okL o.st.nxt b.cells = true ∧ (b.mem = true → w.heap.size ≤ ρ'.σ n) := by
    intro n b hn hne
    rcases hth n b hn with h | ⟨j, jt, hDj, hjt, hb⟩
    · exact absurd h hne
    · obtain ⟨m1, m2, m3, m4⟩ := hI.made j jt n b hDj hjt hb
      have := base_le h2 (by omega) hjt
      rw [h1] at this
      rw [h6]
      exact ⟨by omega, by omega, okL_mono (by omega) _ m3, m4⟩
  rw [ha]
  have hRep : Rep w0.heap.size ρ' o.st.heap o.st.nxt w' := by
    refine ⟨fun n b hn => (hI.block n b (hth n b hn)).keep (Keep.wide fun k hk hf => ⟨hf.1, fun n b hn hm => hf.2 n b (hth n b hn) hm⟩) rfl rfl fun _ => rfl, fun n m b c hn hm => hI.inj n m b c (hth n b hn) (hth m c hm), fun n b hn => ?_, fun n b hn => hI.above n b (hth n b hn), by rw [hI.area.2]; exact Nat.le_trans hI.ground hI.wsize, fun n b hn => hI.reach n b (hth n b hn)⟩
    by_cases hne : hget s.heap n = some b
    · obtain ⟨q1, q2⟩ := hs0 n b hne
      exact ⟨by rw [h6]; omega, okL_mono (by rw [h6]; exact hle) _ q2⟩
    · obtain ⟨-, q1, q2, -⟩ := hmade n b hn hne
      exact ⟨q1, q2⟩
  have hPost : Post ρ ρ' s.heap o.st.heap s.nxt o.st.nxt o.low w w' := by
    refine ⟨fun n hn => hI.agree n (by rw [h1, ← h6]; exact hn), hI.area, h8, hI.os, hI.tape, hI.output, hI.wsize, fun k hk _ => hI.frame k hk, fun n b hn hbm => ?_, fun n hl hx => ?_⟩
    · by_cases hne : hget s.heap n = some b
      · exact .inl ⟨n, b, hne, hbm, (hI.agree n (.inl (hs0 n b hne).1)).1, .inl rfl⟩
      · exact .inr ((hmade n b hn hne).2.2.2 hbm)
    · rw [h5, hget_append]
      cases hm : hget (L.map Item.made).flatten n with
      | none => rfl
      | some c =>
        obtain ⟨j, hh, hj, hb⟩ := flatten_get' hm
        rw [List.getElem?_map] at hj
        cases hjt : L[j]? with
        | none => rw [hjt] at hj; cases hj
        | some jt =>
          rw [hjt] at hj
          simp only [Option.map_some, Option.some.injEq] at hj
          subst hj
          have hjl := (List.getElem?_eq_some_iff.1 hjt).1
          obtain ⟨m1, -⟩ := hI.made j jt n c (hD' j (by omega)) hjt hb
          have := base_le h2 (by omega) hjt
          omega
  simp only [b1] at he
  have b4' := fun Q => b4 m rfl ρ' w' Q
  have he2 := he.trans (x := .normal) (l := ⟨c1 ++ o3.log.conds, k1 ++ o3.log.calls⟩) hr hRep hPost
  have hfe := fence_eq (ρ := ρ) (ρ1 := ρ') hσ hk.2 (show o.st.res.fr.rnd = s.res.fr.rnd by rw [hfr])
  rw [hfe] at b4'
  exact b4' _ hRep (below_of_post hr hPost hb) (fun ρ2 w2 r2 p2 => ⟨rfl, he2 ρ2 w2 r2 p2⟩)
end
end Go.Ev
/- Running the program's functions on values that are known in part: a region that draws its order, its operations written down in another order. -/
namespace Go.Ev
open Go.RowKit
structure Moves (π : Nat → Nat) (ops ops' : Array Oper) : Prop where
  size : ops'.size = ops.size
  op : ∀ i p, ops[i]? = some p → ops'[π i]? = some (renOp π p)
  to : ∀ i, i < ops.size → π i < ops.size
  onto : ∀ j, j < ops.size → ∃ i, i < ops.size ∧ π i = j
  inj : ∀ i j, i < ops.size → j < ops.size → π i = π j → i = j
  out : ∀ i, ops.size ≤ i → ops.size ≤ π i
theorem ren_deps (π : Nat → Nat) (o : Oper) : depsOf (renOp π o) = (depsOf o).map π := by
  unfold depsOf renOp
  simp only [List.filterMap_map, List.map_filterMap]
  congr 1
  funext e
  simp only [Function.comp]
  have : Region.binds .any { on := π e.on, ground := e.ground } = Region.binds .any e := rfl
  rw [this]
  cases Region.binds .any e <;> rfl
theorem ren_wp {F : Fence} {n : Nat} {P : Program} {π : Nat → Nat} {o : Oper} {a : Act} {w : World} {K : Act → World → Prop} {Q : Exit → Act → World → Prop} : (renOp π o).wpIn F n P a w K Q = o.wpIn F n P a w K Q := rfl
section
variable {π : Nat → Nat} {ops ops' : Array Oper}
theorem Moves.some_lt {i : Nat} {p : Oper} (hp : ops[i]? = some p) : i < ops.size := by
  rcases Nat.lt_or_ge i ops.size with h | h
  · exact h
  · simp [Array.getElem?_eq_none h] at hp
theorem Moves.ready (hm : Moves π ops ops') {l l' : Array Bool} (hl : l.size = ops.size) (hl' : l'.size = ops.size) (he : ∀ i, i < ops.size → l'[π i]? = l[i]?) (i : Nat) (hi : i < ops.size) : i ∈ Region.ready .any ops l ↔ π i ∈ Region.ready .any ops' l' := by
  have hd : ∀ d, l[d]? = some true ↔ l'[π d]? = some true := fun d => by
    rcases Nat.lt_or_ge d ops.size with h | h
    · rw [he d h]
    · rw [Array.getElem?_eq_none (by omega), Array.getElem?_eq_none (by have := hm.out d h; omega)]
  have hg : l'.getD (π i) true = l.getD i true := by
    rw [Array.getD_eq_getD_getElem?, Array.getD_eq_getD_getElem?, he i hi]
  constructor
  · intro h
    obtain ⟨p, hp, -, h2, h3⟩ := ready_spec h
    refine ready_mk (hm.op i p hp) (by rw [hg, h2]) fun d hdm => ?_
    rw [ren_deps] at hdm
    obtain ⟨e, he1, rfl⟩ := List.mem_map.1 hdm
    exact (hd e).1 (h3 e he1)
  · intro h
    obtain ⟨p', hp', -, h2, h3⟩ := ready_spec h
    have hp : ops[i]? = some ops[i] := by simp
    have := hm.op i _ hp
    rw [hp'] at this
    cases this
    refine ready_mk hp (by rw [← hg, h2]) fun d hdm => (hd d).2 (h3 _ ?_)
    rw [ren_deps]
    exact List.mem_map.2 ⟨d, hdm, rfl⟩
theorem Moves.yielded (hm : Moves π ops ops') (tmps : Array Value) (j : Nat) : yielded ops' tmps (π j) = yielded ops tmps j := by
  have hx : (ops'[π j]?).bind (·.dst) = (ops[j]?).bind (·.dst) := by
    rcases Nat.lt_or_ge j ops.size with h | h
    · have hp : ops[j]? = some ops[j] := by simp
      rw [hm.op j _ hp, hp]; rfl
    · rw [Array.getElem?_eq_none h, Array.getElem?_eq_none (by have := hm.out j h; have := hm.size; omega)]
  unfold Go.yielded
  rw [hx]
theorem Moves.any (hm : Moves π ops ops') {F : Fence} {n : Nat} {P : Program} {Q : Exit → Act → World → Prop} : ∀ (fuel : Nat) (l l' : Array Bool) (a : Act) (w : World), l.size = ops.size → l'.size = ops.size → (∀ i, i < ops.size → l'[π i]? = l[i]?) →
    wpAnyIn F n P .any ops' Q fuel l' a w → wpAnyIn F n P .any ops Q fuel l a w := by
  have nil : ∀ (l l' : Array Bool), l.size = ops.size → l'.size = ops.size → (∀ i, i < ops.size → l'[π i]? = l[i]?) → (Region.ready .any ops l = [] ↔ Region.ready .any ops' l' = []) := by
    intro l l' h1 h2 h3
    constructor
    · intro h
      refine List.eq_nil_iff_forall_not_mem.2 fun j hj => ?_
      obtain ⟨p, hp, -⟩ := ready_spec hj
      have hjs := Moves.some_lt hp
      rw [hm.size] at hjs
      obtain ⟨i, hi, rfl⟩ := hm.onto j hjs
      have := (hm.ready h1 h2 h3 i hi).2 hj
      rw [h] at this; cases this
    · intro h
      refine List.eq_nil_iff_forall_not_mem.2 fun i hi => ?_
      obtain ⟨p, hp, -⟩ := ready_spec hi
      have := (hm.ready h1 h2 h3 i (Moves.some_lt hp)).1 hi
      rw [h] at this; cases this
  intro fuel
  induction fuel with
  | zero =>
    intro l l' a w h1 h2 h3 h
    exact ⟨(nil l l' h1 h2 h3).2 h.1, h.2⟩
  | succ fuel ih =>
    intro l l' a w h1 h2 h3 h
    refine ⟨fun hr => h.1 ((nil l l' h1 h2 h3).1 hr), fun i hi => ?_⟩
    obtain ⟨p, hp, hil, -⟩ := ready_spec hi
    have hh := h.2 (π i) ((hm.ready h1 h2 h3 i hil).1 hi)
    have next : ∀ a w, wpAnyIn F n P .any ops' Q fuel (l'.setIfInBounds (π i) true) a w → wpAnyIn F n P .any ops Q fuel (l.setIfInBounds i true) a w := fun a w hk => by
      refine ih _ _ a w (by simp [h1]) (by simp [h2]) (fun j hj => ?_) hk
      rw [Array.getElem?_setIfInBounds, Array.getElem?_setIfInBounds]
      by_cases hij : i = j
      · subst hij
        rw [if_pos rfl, if_pos rfl, if_pos (show π i < l'.size by have := hm.to i hil; omega), if_pos (show i < l.size by omega)]
      · rw [if_neg (fun h => hij (hm.inj i j hil hj h)), if_neg hij, h3 j hj]
    unfold wpOpIn at hh ⊢
    rw [hp]
    rw [hm.op i p hp] at hh
    dsimp only at hh ⊢
    have hw : Region.wanted (renOp π p) (Go.yielded ops' a.tmps) = Region.wanted p (Go.yielded ops a.tmps) := by
      unfold Region.wanted renOp
      cases hg : p.guard with
      | none => rfl
      | some g => obtain ⟨j, b⟩ := g; show (Go.yielded ops' a.tmps (π j) == some b) = (Go.yielded ops a.tmps j == some b); rw [hm.yielded]
    rw [hw] at hh
    split
    · rename_i hc
      rw [if_pos hc, ren_wp] at hh
      exact Oper.wpIn_mono next hh
    · rename_i hc
      rw [if_neg hc] at hh
      exact ⟨hh.1, next _ _ hh.2⟩
/-- A region, by its operations in another order of writing, or in their own. -/
theorem wpIn_region_perm {F : Fence} {n : Nat} {P : Program} {Q : Exit → Act → World → Prop} (hm : ops' = ops ∨ ∃ π, Moves π ops ops') {id : Nat} {a : Act} {w : World} (hx : P.follows .mixedOrders = true)
    (h : wpAnyIn F n P .any ops' Q ops'.size (Array.replicate ops'.size false) a { w with drawn := w.drawn + 1 }) : (Code.region id ops true).wpIn F n P Q a w := by
  rcases hm with rfl | ⟨π, hm⟩
  · exact wpIn_region_any hx h
  · refine wpIn_region_any hx (hm.any ops.size (Array.replicate ops.size false) (Array.replicate ops.size false) _ _ (by simp) (by simp) (fun i hi => ?_) (by rw [hm.size] at h; exact h))
    rw [Array.getElem?_replicate, Array.getElem?_replicate, if_pos hi, if_pos (hm.to i hi)]
end
theorem posIn_get : ∀ (l : List Nat) (i : Nat), posIn l i < l.length → l[posIn l i]? = some i
  | [], _, h => absurd h (Nat.not_lt_zero _)
  | x :: xs, i, h => by
    unfold posIn at h ⊢
    cases hb : Nat.beq x i with
    | true => rw [Nat.eq_of_beq_eq_true hb]; rfl
    | false =>
      rw [hb] at h
      simp only [List.length_cons, Nat.add_lt_add_iff_right] at h
      simpa using posIn_get xs i h
theorem takeOps_get {f : Nat → Nat} {l : List Oper} : ∀ (is : List Nat), (∀ i ∈ is, i < l.length) → ∀ p : Nat, (takeOps f l is)[p]? = (is[p]?).bind fun i => (l[i]?).map (renOp f)
  | [], _, p => by simp [takeOps]
  | i :: is, h, p => by
    have hi := h i List.mem_cons_self
    unfold takeOps
    rw [listGet_eq, List.getElem?_eq_getElem hi]
    cases p with
    | zero => simp [List.getElem?_eq_getElem hi]
    | succ p => simpa using takeOps_get is (fun j hj => h j (List.mem_cons_of_mem _ hj)) p
theorem takeOps_len {f : Nat → Nat} {l : List Oper} : ∀ (is : List Nat), (∀ i ∈ is, i < l.length) → (takeOps f l is).length = is.length
  | [], _ => rfl
  | i :: is, h => by
    have hi := h i List.mem_cons_self
    unfold takeOps
    rw [listGet_eq, List.getElem?_eq_getElem hi]
    simpa using takeOps_len is fun j hj => h j (List.mem_cons_of_mem _ hj)
theorem permB_moves {ord : List Nat} {ops : Array Oper} (h : permB ord ops.size = true) : Moves (posIn ord) ops (movedBy ord ops) := by
  unfold permB at h
  simp only [Bool.and_eq_true, List.all_eq_true, List.mem_range] at h
  obtain ⟨⟨h1, h2⟩, h3⟩ := h
  have h1 := Nat.eq_of_beq_eq_true h1
  have h2 : ∀ i ∈ ord, i < ops.toList.length := fun i hi => by simpa using blt_lt (h2 i hi)
  have hto : ∀ i, i < ops.size → posIn ord i < ops.size := fun i hi => blt_lt (h3 i hi).1
  have hget : ∀ i, i < ops.size → ord[posIn ord i]? = some i := fun i hi => posIn_get ord i (by rw [h1]; exact hto i hi)
  refine ⟨?_, fun i p hp => ?_, hto, fun j hj => ?_, fun i j hi hj e => ?_, fun i hi => ?_⟩
  · unfold movedBy
    rw [List.size_toArray, takeOps_len ord h2, h1]
  · have hi := Moves.some_lt hp
    unfold movedBy
    rw [List.getElem?_toArray, takeOps_get ord h2, hget i hi]
    simp [hp]
  · have := (h3 j hj).2
    split at this
    · rename_i i hi
      rw [listGet_eq] at hi
      refine ⟨i, by simpa using h2 i (List.mem_of_getElem? hi), Nat.eq_of_beq_eq_true this⟩
    · cases this
  · have a := hget i hi
    rw [e, hget j hj] at a
    exact (Option.some.inj a).symm
  · rcases Nat.lt_or_ge (posIn ord i) ord.length with h | h
    · have := posIn_get ord i h
      have := h2 i (List.mem_of_getElem? this)
      simp at this; omega
    · omega
end Go.Ev
/- Operations that read at most: they may come before or behind a store elsewhere. -/
namespace Go.Ev
open Go.RowKit
/-! ### Operations that read at most -/
/-- A reckoning that leaves one world as it is, and says the same in another. -/
def Steady {α : Type} (P : Program) (w w' : World) (s : Sem α) : Prop := ∀ v w2, s.run P w = .ok v w2 → w2 = w ∧ s.run P w' = .ok v w'
section
variable {P : Program} {w w' : World} {α β : Type}
theorem steady_pure (a : α) : Steady P w w' (pure a : Sem α) := fun v w2 h => by
  have h' : Result.ok a w = .ok v w2 := h
  cases h'
  exact ⟨rfl, rfl⟩
theorem steady_bind {s : Sem α} {f : α → Sem β} (h1 : Steady P w w' s) (h2 : ∀ v, Steady P w w' (f v)) : Steady P w w' (s >>= f) := fun v w2 h => by
  rw [Sem.run_bind] at h ⊢
  cases hs : s.run P w with
  | halt z w3 => rw [hs] at h; cases h
  | ok u w3 =>
    obtain ⟨rfl, e⟩ := h1 u w3 hs
    rw [hs] at h
    rw [e]
    exact h2 u v w2 h
theorem steady_halt (z : Halt) : Steady P w w' (.halt z : Sem α) := fun v w2 h => by cases h
theorem steady_program : Steady P w w' program := fun v w2 h => by
  have h' : Result.ok P w = .ok v w2 := h
  cases h'
  exact ⟨rfl, rfl⟩
theorem steady_underlying (t : TypeId) : Steady P w w' (underlying t) := by
  unfold underlying
  refine steady_bind steady_program fun p => ?_
  split
  · exact steady_pure _
  · exact steady_halt _
theorem steady_info (t : TypeId) : Steady P w w' (typeInfo t) := by
  unfold typeInfo
  refine steady_bind steady_program fun p => ?_
  split
  · exact steady_pure _
  · exact steady_halt _
theorem steady_sizeOf (t : TypeId) : Steady P w w' (sizeOf t) := by
  unfold sizeOf
  exact steady_bind (steady_info t) fun _ => steady_pure _
theorem steady_isAgg (t : TypeId) : Steady P w w' (isAgg t) := by
  unfold isAgg
  refine steady_bind (steady_underlying t) fun d => ?_
  split <;> exact steady_pure _
theorem steady_load {a : Addr} {arr : Array Value} {e : TypeId} {m : Nat × Nat} (h1 : w.heap[a.block]? = some (.cells arr e m)) (h2 : w'.heap[a.block]? = w.heap[a.block]?) : Steady P w w' (load a) := fun v w2 h => by
  have hc : w'.cell? a = w.cell? a := by unfold World.cell?; rw [h2]
  unfold load at h ⊢
  unfold Sem.run at h ⊢
  rw [hc]
  cases hv : w.cell? a with
  | some u =>
    rw [hv] at h
    have h' : Result.ok u w = .ok v w2 := h
    cases h'
    exact ⟨rfl, rfl⟩
  | none =>
    rw [hv] at h
    simp only [World.farLoad, h1] at h
    cases h
theorem steady_loadCells {a : Addr} {arr : Array Value} {e : TypeId} {m : Nat × Nat} (h1 : w.heap[a.block]? = some (.cells arr e m)) (h2 : w'.heap[a.block]? = w.heap[a.block]?) : ∀ (n i : Nat) (acc : Array Value), Steady P w w' (loadCellsFrom a i n acc)
  | 0, i, acc => steady_pure _
  | n + 1, i, acc => by
    unfold loadCellsFrom
    have hb : (a.add i).block = a.block := by unfold Addr.add; split <;> rfl
    exact steady_bind (steady_load (by rw [hb]; exact h1) (by rw [hb]; exact h2)) fun v => steady_loadCells h1 h2 n (i + 1) _
theorem steady_loadVar {t : TypeId} {a : Addr} {arr : Array Value} {e : TypeId} {m : Nat × Nat} (h1 : w.heap[a.block]? = some (.cells arr e m)) (h2 : w'.heap[a.block]? = w.heap[a.block]?) : Steady P w w' (loadVar t a) := by
  unfold loadVar
  refine steady_bind (steady_isAgg t) fun b => ?_
  split
  · refine steady_bind (steady_sizeOf t) fun n => ?_
    exact steady_bind (steady_loadCells h1 h2 n 0 _) fun _ => steady_pure _
  · exact steady_load h1 h2
theorem steady_sure (x : Value) : Steady P w w' (Instr.sureAddr x) := by
  unfold Instr.sureAddr
  split
  · exact steady_pure _
  · exact steady_halt _
theorem steady_int (x : Value) : Steady P w w' (asIntOf x) := by
  unfold asIntOf
  split
  · exact steady_pure _
  · exact steady_halt _
  · exact steady_halt _
theorem steady_bounds (k : IntKind) (x y : Int) (c : BoundsCode) : Steady P w w' (boundsPanic k x y c : Sem α) := fun v w2 h => by
  unfold boundsPanic at h
  simp only [runtimePanic, goPanic] at h
  split at h
  · simp only [Sem.run_bind] at h
    revert h
    cases (Sem.run P ((fun x => x == 1) <$> choose (.extern "runtime.boundsError.signed" 2)) w) <;> intro h <;> cases h
  · cases h
theorem steady_fieldAt {s : TypeId} {x : Value} {i : Nat} {fs : Array Field} {f : Field} {n : Nat} (h1 : undA P s = some (.struct fs)) (h2 : fs[i]? = some f) (h3 : sizeT P f.type = some (n + 1)) : Steady P w w' (Instr.fieldAt s x i) := fun v w2 h => by
  unfold Instr.fieldAt at h ⊢
  have hu : ∀ w : World, (underlying s).run P w = .ok (.struct fs) w := fun w => by rw [run_underlying (und_of h1)]
  simp only [Sem.run_bind, hu, Result.andThen_ok, h2] at h ⊢
  revert h
  cases hs : (Instr.sureAddr x).run P w with
  | halt z w3 => intro h; cases h
  | ok a w3 =>
    obtain ⟨rfl, e⟩ := steady_sure (w' := w') x a w3 hs
    intro h
    simp only [e, Result.andThen_ok, fieldPlace, Sem.run_bind, run_sizeT h3] at h ⊢
    simp at h ⊢
    obtain ⟨rfl, rfl⟩ := h
    simp
theorem steady_indexAt (t : TypeId) (x ix : Value) : Steady P w w' (Instr.indexAt t x ix) := by
  unfold Instr.indexAt
  refine steady_bind (steady_int ix) fun ki => ?_
  refine steady_bind (steady_underlying t) fun d => ?_
  dsimp only
  split
  · refine steady_bind (steady_sure _) fun a => steady_bind (steady_pure _) fun bl => steady_bind (steady_underlying t) fun d => ?_
    repeat' (first | exact steady_pure _ | exact steady_halt _ | exact steady_bounds _ _ _ _ | exact steady_bind (steady_sizeOf _) fun _ => steady_pure _ | split)
  · refine steady_bind (steady_pure _) fun bl => steady_bind (steady_underlying t) fun d => ?_
    repeat' (first | exact steady_pure _ | exact steady_halt _ | exact steady_bounds _ _ _ _ | exact steady_bind (steady_sizeOf _) fun _ => steady_pure _ | split)
  · refine steady_bind (steady_halt _) fun bl => steady_bind (steady_underlying t) fun d => ?_
    repeat' (first | exact steady_pure _ | exact steady_halt _ | exact steady_bounds _ _ _ _ | exact steady_bind (steady_sizeOf _) fun _ => steady_pure _ | split)
end
/-! ### What operations make, told by what they look at -/
abbrev VF := Oper → (Operand → Value) → Option Value
def CongrV (V : VF) : Prop := ∀ p e e', (∀ x ∈ p.op.operands, e x = e' x) → V p e = V p e'
def runV (V : VF) (ops : Array Oper) : List Nat → Act → Option Act
  | [], a => some a
  | i :: is, a => match ops[i]? with
    | some p => match V p a.eval with
      | some v => runV V ops is (a.put p.dst v)
      | none => none
    | none => none
section
variable {V : VF} {ops : Array Oper}
theorem runV_cons {i : Nat} {is : List Nat} {a f : Act} (h : runV V ops (i :: is) a = some f) : ∃ p v, ops[i]? = some p ∧ V p a.eval = some v ∧ runV V ops is (a.put p.dst v) = some f := by
  unfold runV at h
  split at h
  · rename_i p hp
    split at h
    · rename_i v hv
      exact ⟨p, v, hp, hv, h⟩
    · cases h
  · cases h
theorem runV_mk {i : Nat} {is : List Nat} {a : Act} {p : Oper} {v : Value} (hp : ops[i]? = some p) (hv : V p a.eval = some v) : runV V ops (i :: is) a = runV V ops is (a.put p.dst v) := by
  simp only [runV, hp, hv]
theorem runV_append : ∀ {M N : List Nat} {a f g : Act}, runV V ops M a = some f → runV V ops N f = some g → runV V ops (M ++ N) a = some g
  | [], N, a, f, g, h, k => by cases h; exact k
  | i :: M, N, a, f, g, h, k => by
    obtain ⟨p, v, hp, hv, h⟩ := runV_cons h
    rw [List.cons_append, runV_mk hp hv]
    exact runV_append h k
theorem runV_keep {x : Operand} : ∀ {M : List Nat} {a f : Act}, (∀ j ∈ M, ∀ q t, ops[j]? = some q → x = .tmp t → q.dst ≠ some t) → runV V ops M a = some f → f.eval x = a.eval x
  | [], a, f, _, h => by cases h; rfl
  | j :: M, a, f, hj, h => by
    obtain ⟨q, u, hq, hu, h⟩ := runV_cons h
    rw [runV_keep (fun j hj' => hj j (List.mem_cons_of_mem _ hj')) h]
    exact eval_put fun t ht => hj j List.mem_cons_self q t hq ht
theorem runV_to {V' : VF} (hV : ∀ p e v, V p e = some v → V' p e = some v) : ∀ {M : List Nat} {a f : Act}, runV V ops M a = some f → runV V' ops M a = some f
  | [], a, f, h => h
  | j :: M, a, f, h => by
    obtain ⟨q, u, hq, hu, h⟩ := runV_cons h
    rw [runV_mk hq (hV _ _ _ hu)]
    exact runV_to hV h
theorem swapV (hV : CongrV V) {i j : Nat} {is : List Nat} {a f : Act} (h1 : ∀ p q d, ops[i]? = some p → ops[j]? = some q → q.dst = some d → d ∉ p.looksAt ops ∧ p.dst ≠ some d) (h2 : ∀ p q d, ops[i]? = some p → ops[j]? = some q → p.dst = some d → d ∉ q.looksAt ops)
    (h : runV V ops (j :: i :: is) a = some f) : runV V ops (i :: j :: is) a = some f := by
  obtain ⟨q, u, hq, hu, h⟩ := runV_cons h
  obtain ⟨p, v, hp, hv, h⟩ := runV_cons h
  have e1 : V p (a.put q.dst u).eval = V p a.eval := hV p _ _ fun x hx => eval_put fun t ht hd => by subst ht; exact (h1 p q t hp hq hd).1 (looks_mem hx)
  have e2 : V q (a.put p.dst v).eval = V q a.eval := hV q _ _ fun x hx => eval_put fun t ht hd => by subst ht; exact h2 p q t hp hq hd (looks_mem hx)
  rw [e1] at hv
  rw [runV_mk hp hv, runV_mk hq (e2.trans hu), ← put_comm (fun t ht => (h1 p q t hp hq ht).2)]
  exact h
theorem frontV (hV : CongrV V) {i : Nat} {post : List Nat} {f : Act} : ∀ {pre : List Nat} {a : Act}, (∀ j ∈ pre, (∀ p q d, ops[i]? = some p → ops[j]? = some q → q.dst = some d → d ∉ p.looksAt ops ∧ p.dst ≠ some d) ∧ (∀ p q d, ops[i]? = some p → ops[j]? = some q → p.dst = some d → d ∉ q.looksAt ops)) →
    runV V ops (pre ++ i :: post) a = some f → runV V ops (i :: (pre ++ post)) a = some f
  | [], _, _, h => h
  | j :: pre, a, hj, h => by
    obtain ⟨q, u, hq, hu, h⟩ := runV_cons (is := pre ++ i :: post) h
    have ih := frontV hV (fun j hj' => hj j (List.mem_cons_of_mem _ hj')) h
    refine swapV hV (is := pre ++ post) (hj j List.mem_cons_self).1 (hj j List.mem_cons_self).2 ?_
    rw [runV_mk hq hu]
    exact ih
end
/-- What it looks at is so that a store into the block n does not matter. -/
def Fit (P : Program) (σ0 : Nat → Nat) (h0 : AHeap) (n : Nat) (op : Op) (e : Operand → Value) : Prop := match op with
  | .load _ x => ∃ m o, m ≠ n ∧ cellsAt h0 m = true ∧ e x = .pointer (some ⟨σ0 m, o, none⟩)
  | .fieldAddr s _ i => ∃ fs f k, undA P s = some (.struct fs) ∧ fs[i]? = some f ∧ sizeT P f.type = some (k + 1)
  | .binOp .add _ x y _ => ∃ k a k' b, e x = .int k a ∧ e y = .int k' b
  | .binOp .sub _ x y _ => ∃ k a k' b, e x = .int k a ∧ e y = .int k' b
  | .binOp .mul _ x y _ => ∃ k a k' b, e x = .int k a ∧ e y = .int k' b
  | .call c => ∀ x ∈ c.args.toList, ∃ k a, e x = .int k a
  | _ => True
open Classical in
/-- What an operation that reads at most makes in a world. -/
noncomputable def VW (P : Program) (σ0 : Nat → Nat) (h0 : AHeap) (n : Nat) (w : World) : VF := fun p e => if coolOp p.op = true ∧ Fit P σ0 h0 n p.op e then (match (execOp e p).run P w with
  | .ok (.value v) w2 => if w2 = w then some v else none
  | _ => none) else none
theorem VW_iff {P : Program} {σ0 : Nat → Nat} {h0 : AHeap} {n : Nat} {w : World} {p : Oper} {e : Operand → Value} {v : Value} : VW P σ0 h0 n w p e = some v ↔ coolOp p.op = true ∧ Fit P σ0 h0 n p.op e ∧ (execOp e p).run P w = .ok (.value v) w := by
  unfold VW
  constructor
  · intro h
    split at h
    · rename_i hc
      split at h
      · rename_i u w2 hr
        split at h
        · rename_i hw
          cases h
          subst hw
          exact ⟨hc.1, hc.2, hr⟩
        · cases h
      · cases h
    · cases h
  · rintro ⟨h1, h2, h3⟩
    rw [if_pos ⟨h1, h2⟩, h3]
    simp
theorem VW_congr (P : Program) (σ0 : Nat → Nat) (h0 : AHeap) (n : Nat) (w : World) : CongrV (VW P σ0 h0 n w) := by
  intro p e e' h
  unfold VW
  obtain ⟨dst, op, type, pos, after, guard⟩ := p
  cases hc : coolOp op with
  | false => rw [if_neg (by simp), if_neg (by simp)]
  | true =>
    have key : execOp e ⟨dst, op, type, pos, after, guard⟩ = execOp e' ⟨dst, op, type, pos, after, guard⟩ ∧ (Fit P σ0 h0 n op e ↔ Fit P σ0 h0 n op e') := by
      simp only at h
      cases op <;> simp only [coolOp, quietOp] at hc <;> try (cases hc; done)
      case move x => exact ⟨by simp only [execOp, h x (by simp [Op.operands])], Iff.rfl⟩
      case assign x => exact ⟨by simp only [execOp, h x (by simp [Op.operands])], Iff.rfl⟩
      case extract x i => exact ⟨by simp only [execOp, h x (by simp [Op.operands])], Iff.rfl⟩
      case load t x => exact ⟨by simp only [execOp, h x (by simp [Op.operands])], by unfold Fit; simp only [h x (by simp [Op.operands])]⟩
      case fieldAddr t x i => exact ⟨by simp only [execOp, h x (by simp [Op.operands])], Iff.rfl⟩
      case indexAddr t x i => exact ⟨by simp only [execOp, h x (by simp [Op.operands]), h i (by simp [Op.operands])], Iff.rfl⟩
      case binOp bop t x y u =>
        have hx := h x (by simp [Op.operands])
        have hy := h y (by simp [Op.operands])
        refine ⟨by simp only [execOp, hx, hy], ?_⟩
        unfold Fit
        cases bop <;> simp only [hx, hy]
      case call c =>
        have ha : ∀ x ∈ c.args.toList, e x = e' x := fun x hx => h x (by
          simp only [Op.operands, Call.operands]
          cases c.callee <;> simp <;> first | exact .inr (by simpa using hx) | simpa using hx)
        refine ⟨?_, ?_⟩
        · have hm : c.args.map e = c.args.map e' := by
            apply Array.ext'
            simp only [Array.toList_map]
            exact List.map_congr_left ha
          split at hc
          · rename_i hcal
            simp only [execOp, resolve, hcal, hm]
          · rename_i hcal
            simp only [execOp, resolve, hcal, hm]
          · cases hc
        · unfold Fit
          simp only
          exact ⟨fun k x hx => by rw [← ha x hx]; exact k x hx, fun k x hx => by rw [ha x hx]; exact k x hx⟩
    rw [key.1]
    by_cases hF : Fit P σ0 h0 n op e'
    · rw [if_pos ⟨rfl, key.2.2 hF⟩, if_pos ⟨rfl, hF⟩]
    · rw [if_neg (fun k => hF (key.2.1 k.2)), if_neg (fun k => hF k.2)]
theorem run_fold {P : Program} {f : Value → Value → Sem Value} (hf : ∀ k a k' b, ∃ c, f (.int k a) (.int k' b) = pure (.int k c)) : ∀ (l : List Value), (∀ v ∈ l, ∃ k a, v = .int k a) → ∀ k a, ∃ c, ∀ w : World, (l.foldlM f (.int k a)).run P w = .ok (.int k c) w
  | [], _, k, a => ⟨a, fun w => rfl⟩
  | v :: l, h, k, a => by
    obtain ⟨k', b, rfl⟩ := h v List.mem_cons_self
    obtain ⟨c, hc⟩ := hf k a k' b
    obtain ⟨d, hd⟩ := run_fold hf l (fun u hu => h u (List.mem_cons_of_mem _ hu)) k c
    refine ⟨d, fun w => ?_⟩
    rw [List.foldlM_cons, hc, Sem.run_bind, Sem.run_pure, Result.andThen_ok]
    exact hd w
theorem min2_int (k : IntKind) (a : Int) (k' : IntKind) (b : Int) : ∃ c, Builtin.min2 (.int k a) (.int k' b) = pure (.int k c) := ⟨_, rfl⟩
theorem max2_int (k : IntKind) (a : Int) (k' : IntKind) (b : Int) : ∃ c, Builtin.max2 (.int k a) (.int k' b) = pure (.int k c) := ⟨_, rfl⟩
theorem steady_fold {P : Program} {w w' : World} {f : Value → Value → Sem Value} (hf : ∀ k a k' b, ∃ c, f (.int k a) (.int k' b) = pure (.int k c)) {l : List Value} (h : ∀ v ∈ l, ∃ k a, v = .int k a) (k : IntKind) (a : Int) : Steady P w w' (l.foldlM f (.int k a)) := by
  obtain ⟨c, hc⟩ := run_fold (P := P) hf l h k a
  intro v w2 hx
  rw [hc] at hx ⊢
  cases hx
  exact ⟨rfl, rfl⟩
theorem steady_min {P : Program} {w w' : World} {ts : Array TypeId} {t : TypeId} {args : Array Value} (h : ∀ v ∈ args.toList, ∃ k a, v = .int k a) : Steady P w w' (Builtin.min_ ts t args) := by
  unfold Builtin.min_
  split
  · exact steady_halt _
  · rename_i x rest hx
    rw [hx] at h
    obtain ⟨k, a, rfl⟩ := h x List.mem_cons_self
    exact steady_fold min2_int (fun v hv => h v (List.mem_cons_of_mem _ hv)) k a
theorem steady_max {P : Program} {w w' : World} {ts : Array TypeId} {t : TypeId} {args : Array Value} (h : ∀ v ∈ args.toList, ∃ k a, v = .int k a) : Steady P w w' (Builtin.max_ ts t args) := by
  unfold Builtin.max_
  split
  · exact steady_halt _
  · rename_i x rest hx
    rw [hx] at h
    obtain ⟨k, a, rfl⟩ := h x List.mem_cons_self
    exact steady_fold max2_int (fun v hv => h v (List.mem_cons_of_mem _ hv)) k a
/-- A reckoning of two ints. -/
theorem steady_arith {P : Program} {w w' : World} {op : BinOp} (hop : op = .add ∨ op = .sub ∨ op = .mul) {t : TypeId} {x y : Operand} {k k' : IntKind} {a b : Int} :
    Steady P w w' (do eqGuard op t x y (.int k a) (.int k' b); binOp op t (.int k a) (.int k' b)) := by
  rcases hop with rfl | rfl | rfl
  all_goals
    refine steady_bind ?_ fun _ => ?_
    · unfold eqGuard
      rw [if_pos (by rfl)]
      exact steady_pure _
    · unfold binOp
      simp only
      split
      · exact steady_halt _
      · exact steady_pure _
/-- Operations that read at most leave the world as it is; where it is the same but for the block, they make the same. -/
theorem cool_steady {P : Program} {σ0 : Nat → Nat} {h0 : AHeap} {n : Nat} {w w' : World} {p : Oper} {e : Operand → Value} (hc : coolOp p.op = true) (hF : Fit P σ0 h0 n p.op e)
    (hw : ∀ m, m ≠ n → cellsAt h0 m = true → (∃ arr e mk, w.heap[σ0 m]? = some (.cells arr e mk)) ∧ w'.heap[σ0 m]? = w.heap[σ0 m]?) :
    Steady P w w' (execOp e p) ∧ ∀ nx w2, (execOp e p).run P w = .ok nx w2 → ∃ v, nx = .value v := by
  have key : (∃ v, execOp e p = pure (.value v)) ∨ ∃ s : Sem Value, execOp e p = (do pure (.value (← s))) ∧ Steady P w w' s := by
    obtain ⟨dst, op, type, pos, after, guard⟩ := p
    simp only at hc hF
    cases op <;> simp only [coolOp, quietOp] at hc <;> try (cases hc; done)
    case move x => exact .inl ⟨_, rfl⟩
    case assign x => exact .inl ⟨_, rfl⟩
    case extract x i =>
      refine .inr ⟨_, rfl, ?_⟩
      unfold Instr.extract
      repeat' (first | exact steady_pure _ | exact steady_halt _ | split)
    case load t x =>
      obtain ⟨m, o, h1, h2, h3⟩ := hF
      obtain ⟨⟨arr, et, mk, h4⟩, h5⟩ := hw m h1 h2
      refine .inr ⟨_, rfl, ?_⟩
      rw [h3]
      exact (steady_loadVar (a := ⟨σ0 m, o, none⟩) h4 h5 : Steady P w w' (loadVar t ⟨σ0 m, o, none⟩))
    case fieldAddr t x i =>
      obtain ⟨fs, f, k, h1, h2, h3⟩ := hF
      exact .inr ⟨_, rfl, steady_fieldAt h1 h2 h3⟩
    case indexAddr t x i => exact .inr ⟨_, rfl, steady_indexAt _ _ _⟩
    case binOp bop t x y u =>
      refine .inr ⟨_, rfl, ?_⟩
      cases bop <;> simp only [coolOp, quietOp] at hc <;> try (cases hc; done)
      all_goals
        obtain ⟨k, a, k', b, h1, h2⟩ := hF
        rw [h1, h2]
        exact steady_arith (by simp)
    case call c =>
      have hF : ∀ x ∈ c.args.toList, ∃ k a, e x = .int k a := hF
      have ha : ∀ v ∈ (c.args.map e).toList, ∃ k a, v = .int k a := by
        intro v hv
        simp only [Array.toList_map, List.mem_map] at hv
        obtain ⟨x, hx, rfl⟩ := hv
        exact hF x hx
      split at hc
      · rename_i hcal
        exact .inr ⟨_, by simp only [execOp, resolve, hcal]; rfl, steady_min ha⟩
      · rename_i hcal
        exact .inr ⟨_, by simp only [execOp, resolve, hcal]; rfl, steady_max ha⟩
      · cases hc
  rcases key with ⟨v, hv⟩ | ⟨s, hs, hst⟩
  · rw [hv]
    exact ⟨steady_pure _, fun nx w2 h => by
      have h' : Result.ok (Next.value v) w = .ok nx w2 := h
      cases h'
      exact ⟨v, rfl⟩⟩
  · rw [hs]
    refine ⟨steady_bind hst fun _ => steady_pure _, fun nx w2 h => ?_⟩
    rw [Sem.run_bind] at h
    cases hr : s.run P w with
    | halt z w3 => rw [hr] at h; cases h
    | ok v w3 =>
      rw [hr] at h
      have h' : Result.ok (Next.value v) w3 = .ok nx w2 := h
      cases h'
      exact ⟨v, rfl⟩
/-- A store into a row of cells leaves all other blocks. -/
theorem storeCells_same {P : Program} {a : Addr} {e : TypeId} {mk : Nat × Nat} : ∀ (vs : List Value) (i : Nat) {w w' : World} {u : Unit} {arr : Array Value}, w.heap[a.block]? = some (.cells arr e mk) → (storeCells a vs i).run P w = .ok u w' → ∀ b, b ≠ a.block → w'.heap[b]? = w.heap[b]?
  | [], i, w, w', u, arr, h1, h, b, hb => by
    have h' : Result.ok () w = .ok u w' := h
    cases h'
    rfl
  | v :: vs, i, w, w', u, arr, h1, h, b, hb => by
    unfold storeCells at h
    rw [Sem.run_bind] at h
    have hblk : (a.add i).block = a.block := by unfold Addr.add; split <;> rfl
    cases hr : (store (a.add i) v).run P w with
    | halt z w3 => rw [hr] at h; cases h
    | ok u3 w3 =>
      rw [hr] at h
      have h : (storeCells a vs (i + 1)).run P w3 = .ok u w' := h
      have hw3 : w3 = w.setCell (a.add i) v := by
        have key : ∀ v : Value, (∀ cs, v ≠ .agg cs) → (∀ cs, v ≠ .tuple cs) → (store (a.add i) v).run P w = .ok u3 w3 → w3 = w.setCell (a.add i) v := fun v k1 k2 hr => by
          have e : (store (a.add i) v).run P w = (match w.cell? (a.add i) with
            | some _ => if w.frozen? (a.add i) then Result.halt (.unsupported (.unsafePointer "a write to bytes that a string shares")) w else Result.ok () (w.setCell (a.add i) v)
            | none => match World.farStore P w (a.add i) v (Mode.plain == Mode.atomic) with
              | .ok (w, _) => Result.ok () w
              | .error h => .halt h w) := by
            unfold store Sem.run
            cases v <;> first | exact absurd rfl (k1 _) | exact absurd rfl (k2 _) | rfl
          rw [e] at hr
          split at hr
          · split at hr
            · cases hr
            · cases hr; rfl
          · simp only [World.farStore, hblk, h1] at hr
            cases hr
        cases v with
        | agg cs => have h' : Result.halt (.stuck "store: not the value of one cell") w = Result.ok u3 w3 := hr; cases h'
        | tuple cs => have h' : Result.halt (.stuck "store: not the value of one cell") w = Result.ok u3 w3 := hr; cases h'
        | _ => exact key _ (by simp) (by simp) hr
      subst hw3
      have hne : b ≠ (a.add i).block := by rw [hblk]; exact hb
      have hget : ∃ arr', (w.setCell (a.add i) v).heap[a.block]? = some (.cells arr' e mk) := by
        unfold World.setCell
        simp only [hblk, Array.getElem?_modify, if_true, h1, Option.map_some]
        exact ⟨_, rfl⟩
      obtain ⟨arr', hget⟩ := hget
      rw [storeCells_same vs (i + 1) hget h b hb]
      unfold World.setCell
      rw [Array.getElem?_modify, if_neg (Ne.symm hne)]
theorem store_same {P : Program} {t : TypeId} {ad : Addr} {v : Value} {w w' : World} {u : Unit} {arr : Array Value} {e : TypeId} {mk : Nat × Nat} (h1 : w.heap[ad.block]? = some (.cells arr e mk)) (h : (Instr.storeAt t (.pointer (some ad)) v).run P w = .ok u w') : ∀ b, b ≠ ad.block → w'.heap[b]? = w.heap[b]? := by
  have h : (storeVar t ad v).run P w = .ok u w' := h
  unfold storeVar at h
  rw [Sem.run_bind] at h
  cases hs : (sizeOf t).run P w with
  | halt z w3 => rw [hs] at h; cases h
  | ok n w3 =>
    obtain ⟨rfl, -⟩ := steady_sizeOf (w' := w) t n w3 hs
    rw [hs] at h
    simp only [Result.andThen_ok] at h
    split at h
    · rw [Sem.run_bind] at h; cases h
    · exact storeCells_same _ 0 h1 h
end Go.Ev
