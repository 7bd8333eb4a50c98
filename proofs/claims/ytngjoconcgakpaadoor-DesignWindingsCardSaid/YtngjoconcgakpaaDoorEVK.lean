/- Running the program's functions on values that are known in part: code, loops, calls. -/
import Derived.Test.YtngjoconcgakpaaDoorEVJ
set_option linter.unusedVariables false
set_option linter.unusedSimpArgs false
set_option linter.unusedSectionVars false
set_option linter.unnecessarySimpa false
namespace Go.Ev
open Go.RowKit

section
variable {C : Ctx} {G : World → Prop} {w0 : World} {R : Rec} {n : Nat}

theorem skip_ok {s : St} {o : Out} {x : AX} {c : Code} (h : stay x s = some o) (hx : isVal x = false) (hk : StOK s)
    (hc : ∀ (F : Fence) (Q : Exit → Act → World → Prop) a w, Q (exitOf x) a w → c.wpIn F 0 C.P Q a w) : CodeOK C w0 c s o := by
  have := stay_eq h
  subst this
  exact ⟨hx, hk, ⟨Nat.le_refl _, rfl⟩, fun ρ w Q hr _ he => hc _ Q _ _ (he.stay hr)⟩

theorem cond_ok {f : FuncId} {c : Operand} {x y : Code} {s : St} {o : Out} (h : goCond C R f c x y s = some o) (hl : Holds C G o.log)
    (hx : ∀ s o, R (.code f x) s = some o → Holds C G o.log → StOK s → CodeOK C w0 x s o)
    (hy : ∀ s o, R (.code f y) s = some o → Holds C G o.log → StOK s → CodeOK C w0 y s o) (hk : StOK s) : CodeOK C w0 (.cond c x y) s o := by
  obtain ⟨tm, hh, nx, ora, rs⟩ := s
  unfold goCond at h
  simp only at h
  have hpick : ∀ (b : Bool) s o, R (.code f (pickCode b x y)) s = some o → Holds C G o.log → StOK s → CodeOK C w0 (if b then x else y) s o := fun b s o h1 h2 h3 => by
    cases b
    · exact hy s o h1 h2 h3
    · exact hx s o h1 h2 h3
  split at h
  · rename_i b hb
    split at h
    · cases ora with
      | nil => cases h
      | cons q ora =>
        simp only at h
        unfold withCond at h
        split at h
        · rename_i x2 s2 l2 c2 k2 hr
          simp only [Option.some.injEq] at h
          subst h
          have hbq : b = q := hl.1 (b, q) (by simp)
          have hl2 : Holds C G ⟨c2, k2⟩ := ⟨fun p hp => hl.1 p (List.mem_cons_of_mem _ hp), hl.2⟩
          obtain ⟨h1, h2, h3, h4⟩ := hpick q _ _ hr hl2 hk
          refine ⟨h1, h2, h3, fun ρ w Q hr' hb' he => wpIn_cond (t := q) ?_ (h4 ρ w Q hr' hb' he)⟩
          rw [act_eval, hb, ← hbq]; simp [AV.den]
        · cases h
    · obtain ⟨h1, h2, h3, h4⟩ := hpick b _ _ h hl hk
      refine ⟨h1, h2, h3, fun ρ w Q hr' hb' he => wpIn_cond (t := b) ?_ (h4 ρ w Q hr' hb' he)⟩
      rw [act_eval, hb]; simp [AV.den]
  · cases h

theorem seq_ok {f : FuncId} {a b : Code} {s : St} {o : Out} (h : goSeq R f b (R (.code f a) s) = some o) (hl : Holds C G o.log)
    (hx : ∀ s o, R (.code f a) s = some o → Holds C G o.log → StOK s → CodeOK C w0 a s o)
    (hy : ∀ s o, R (.code f b) s = some o → Holds C G o.log → StOK s → CodeOK C w0 b s o) (hk : StOK s) : CodeOK C w0 (.seq a b) s o := by
  unfold goSeq at h
  split at h
  · rename_i s1 l1 c1 k1 hr
    obtain ⟨o2, h2, rfl⟩ := behind_eq h
    obtain ⟨a1, a2, a3, a4⟩ := hx _ _ hr hl.left hk
    obtain ⟨b1, b2, b3, b4⟩ := hy _ _ h2 hl.right a2
    refine ⟨b1, b2, ⟨Nat.le_trans a3.1 b3.1, b3.2.trans a3.2⟩, fun ρ w Q hr' hb' he => wpIn_seq (a4 ρ w _ hr' hb' fun ρ1 w1 r1 p1 => ?_)⟩
    have := b4 ρ1 w1 Q r1 (below_of_post hr' p1 hb') (he.trans hr' r1 p1)
    rw [fence_eq p1.σ_old hk.2 a3.2] at this
    exact this
  · rename_i hne
    obtain ⟨a1, a2, a3, a4⟩ := hx _ _ h hl hk
    refine ⟨a1, a2, a3, fun ρ w Q hr' hb' he => wpIn_seq (a4 ρ w _ hr' hb' fun ρ1 w1 r1 p1 => ?_)⟩
    have hq := he ρ1 w1 r1 p1
    obtain ⟨x, st, low, log⟩ := o
    cases x with
    | normal => exact absurd h (fun e => hne st low log.conds log.calls e)
    | exit id => exact hq
    | ret => exact hq
    | val v => exact hq

theorem block_ok {f : FuncId} {id : Nat} {c : Code} {s : St} {o : Out} (h : goBlock id (R (.code f c) s) = some o) (hl : Holds C G o.log)
    (hx : ∀ s o, R (.code f c) s = some o → Holds C G o.log → StOK s → CodeOK C w0 c s o) (hk : StOK s) : CodeOK C w0 (.block id c) s o := by
  unfold goBlock at h
  split at h
  · rename_i j s1 l1 g1 hr
    split at h
    · rename_i e
      simp only [Option.some.injEq] at h
      subst h
      obtain ⟨a1, a2, a3, a4⟩ := hx _ _ hr hl hk
      refine ⟨rfl, a2, a3, fun ρ w Q hr' hb' he => wpIn_block (a4 ρ w _ hr' hb' fun ρ1 w1 r1 p1 => ?_)⟩
      have := Nat.eq_of_beq_eq_true e
      simp only [exitOf, Exit.inBlock, this, if_true]
      exact he ρ1 w1 r1 p1
    · rename_i e
      simp only [Option.some.injEq] at h
      subst h
      obtain ⟨a1, a2, a3, a4⟩ := hx _ _ hr hl hk
      refine ⟨rfl, a2, a3, fun ρ w Q hr' hb' he => wpIn_block (a4 ρ w _ hr' hb' fun ρ1 w1 r1 p1 => ?_)⟩
      have hne : j ≠ id := by intro k; subst k; simp at e
      simp only [exitOf, Exit.inBlock, hne, if_false]
      exact he ρ1 w1 r1 p1
  · rename_i hne
    obtain ⟨a1, a2, a3, a4⟩ := hx _ _ h hl hk
    refine ⟨a1, a2, a3, fun ρ w Q hr' hb' he => wpIn_block (a4 ρ w _ hr' hb' fun ρ1 w1 r1 p1 => ?_)⟩
    have hq := he ρ1 w1 r1 p1
    obtain ⟨x, st, low, log⟩ := o
    cases x with
    | normal => exact hq
    | exit j => exact absurd h (fun e => hne j st low log e)
    | ret => exact hq
    | val v => exact hq

theorem loop_ok {f : FuncId} {c : Code} {s : St} {o : Out} (h : goLoop R f c (R (.code f c) s) = some o) (hl : Holds C G o.log)
    (hx : ∀ s o, R (.code f c) s = some o → Holds C G o.log → StOK s → CodeOK C w0 c s o)
    (hy : ∀ s o, R (.loop f c) s = some o → Holds C G o.log → StOK s → LoopOK C w0 n c s o) (hk : StOK s) : LoopOK C w0 (n + 1) c s o := by
  unfold goLoop at h
  split at h
  · rename_i s1 l1 c1 k1 hr
    obtain ⟨o2, h2, rfl⟩ := behind_eq h
    obtain ⟨a1, a2, a3, a4⟩ := hx _ _ hr hl.left hk
    obtain ⟨b1, b2, b3, b4⟩ := hy _ _ h2 hl.right a2
    refine ⟨b1, b2, ⟨Nat.le_trans a3.1 b3.1, b3.2.trans a3.2⟩, fun ρ w Q hr' hb' he => ?_⟩
    rw [roundsIn_succ]
    refine a4 ρ w _ hr' hb' fun ρ1 w1 r1 p1 => ?_
    have := b4 ρ1 w1 Q r1 (below_of_post hr' p1 hb') (he.trans hr' r1 p1)
    rw [fence_eq p1.σ_old hk.2 a3.2] at this
    exact this
  · rename_i hne
    obtain ⟨a1, a2, a3, a4⟩ := hx _ _ h hl hk
    refine ⟨a1, a2, a3, fun ρ w Q hr' hb' he => ?_⟩
    rw [roundsIn_succ]
    refine a4 ρ w _ hr' hb' fun ρ1 w1 r1 p1 => ?_
    have hq := he ρ1 w1 r1 p1
    obtain ⟨x, st, low, log⟩ := o
    cases x with
    | normal => exact absurd h (fun e => hne st low log.conds log.calls e)
    | exit id => exact hq
    | ret => exact hq
    | val v => exact hq

theorem drop_cons {α : Type} {xs : List α} {k : Nat} {x : α} {rest : List α} (h : xs.drop k = x :: rest) : xs[k]? = some x ∧ xs.drop (k + 1) = rest ∧ k < xs.length := by
  have hk : k < xs.length := by
    rcases Nat.lt_or_ge k xs.length with h1 | h1
    · exact h1
    · rw [List.drop_eq_nil_of_le h1] at h; cases h
  rw [List.drop_eq_getElem_cons hk] at h
  cases h
  exact ⟨by simp [hk], rfl, hk⟩

theorem ops_ok {f : FuncId} {ops : Array Oper} {todo : List Oper} {s : St} {o : Out} (h : goOps C R f ops todo s = some o) (hl : Holds C G o.log)
    (hop : ∀ p s o, R (.op f p) s = some o → Holds C G o.log → StOK s → OpOK C w0 p s o)
    (hrest : ∀ todo s o, R (.ops f ops todo) s = some o → Holds C G o.log → StOK s → OpsOK C w0 ops todo s o) (hk : StOK s) : OpsOK C w0 ops todo s o := by
  obtain ⟨tm, hh, nx, ora, rs⟩ := s
  unfold goOps at h
  simp only at h
  cases todo with
  | nil =>
    have := stay_eq h
    subst this
    refine ⟨rfl, hk, ⟨Nat.le_refl _, rfl⟩, fun k hkk ρ w Q hr _ he => ?_⟩
    have : ops.size - k = 0 := by
      have := List.drop_eq_nil_iff.1 hkk
      simp at this; omega
    rw [this]
    exact he.stay hr
  | cons p rest =>
    simp only at h
    have hguard : ∀ (b : Bool) ora1 l, guardOf C f ops tm ora p = some (b, ora1, l) → (∀ q ∈ l, q.1 = q.2) → ∀ ρ, Region.wanted p (yielded ops (act ρ rs.fr tm).tmps) = b := fun b ora1 l hg hq ρ =>
      guard_sound hg hq ρ _ (fun j want t _ _ => by simp [act])
    split at h
    · cases h
    · rename_i ora1 l hg
      rw [setTK_eq] at h
      obtain ⟨o2, h2, rfl⟩ := behind_eq h
      have hgl := hl.left (c := l) (k := [])
      obtain ⟨b1, b2, b3, b4⟩ := hrest _ _ _ h2 hl.right ⟨setT_ok hk.1 (by simp [AV.ok, AV.within]), hk.2⟩
      refine ⟨b1, b2, b3, fun k hkk ρ w Q hr hb he => ?_⟩
      obtain ⟨e1, e2, e3⟩ := drop_cons hkk
      have e3' : k < ops.size := by simpa using e3
      rw [show ops.size - k = (ops.size - (k + 1)) + 1 by omega, List.range'_succ, wpOpsIn_cons]
      have ho : ops[k]? = some p := by simpa using e1
      unfold wpOpIn
      simp only [ho, hguard _ _ _ hg hgl.1 ρ, Bool.false_eq_true, if_false]
      have hput : (act ρ rs.fr tm).put p.dst undef = act ρ rs.fr (setT tm p.dst (.pure undef)) := by
        have := act_put ρ ρ (nx := nx) (fr := rs.fr) hk.2 (fun _ _ => rfl) (tm := tm) (dst := p.dst) (v := .pure undef) rfl
        simpa [AV.den] using this
      rw [hput]
      refine ⟨fun _ _ => trivial, ?_⟩
      exact b4 (k + 1) e2 ρ w Q hr hb (fun ρ' w' r' p' => he ρ' w' r' (p'.low_le (Nat.min_le_right _ _)))
    · rename_i ora1 l hg
      unfold goOp1 at h
      split at h
      · rename_i v tm' h1 nx1 ora2 rs1 l1 c1 k1 hr
        rw [setTK_eq] at h
        obtain ⟨o2, h2, rfl⟩ := behind_eq h
        have hgl : ∀ q ∈ l, q.1 = q.2 := fun q hq => hl.1 q (by simp; exact .inl hq)
        have hl1 : Holds C G ⟨c1, k1⟩ := ⟨fun q hq => hl.1 q (by simp; exact .inr (.inl hq)), fun q hq => hl.2 q (by simp; exact .inl hq)⟩
        obtain ⟨v', a1, a2, a3, a4, a5⟩ := hop _ _ _ hr hl1 hk
        cases a1
        simp only at a2 a3 a4
        have hfr : rs1.fr = rs.fr := a4.2
        obtain ⟨b1, b2, b3, b4⟩ := hrest _ _ _ h2 hl.right ⟨setT_ok (okL_mono a4.1 _ hk.1) a2, by show frOK nx1 rs1.fr = true; rw [hfr]; exact frOK_mono a4.1 hk.2⟩
        refine ⟨b1, b2, ⟨Nat.le_trans a4.1 b3.1, b3.2.trans a4.2⟩, fun k hkk ρ w Q hr' hb he => ?_⟩
        obtain ⟨e1, e2, e3⟩ := drop_cons hkk
        have e3' : k < ops.size := by simpa using e3
        rw [show ops.size - k = (ops.size - (k + 1)) + 1 by omega, List.range'_succ, wpOpsIn_cons]
        have ho : ops[k]? = some p := by simpa using e1
        unfold wpOpIn
        simp only [ho, hguard _ _ _ hg hgl ρ, if_true]
        refine a5 _ ρ (act ρ rs.fr tm) w _ Q (fun x _ => act_eval ρ rs.fr tm x) hr' hb fun ρ1 w1 r1 p1 => ?_
        have hput : (act ρ rs.fr tm).put p.dst (v.den ρ1) = act ρ1 rs.fr (setT tm p.dst v) := act_put ρ ρ1 (nx := nx) hk.2 p1.σ_old (p1.denL hk.1)
        show wpOpsIn (fenceOf ρ rs.fr) 0 C.P ops Q _ ((act ρ rs.fr tm).put p.dst (v.den ρ1)) w1
        rw [hput, ← fence_eq p1.σ_old hk.2 (show rs.fr.rnd = rs.fr.rnd from rfl)]
        simp only [hfr] at b4
        exact b4 (k + 1) e2 ρ1 w1 Q r1 (below_of_post hr' p1 hb) (he.trans (o1 := ⟨.val v, ⟨tm', h1, nx1, ora2, rs1⟩, l1, ⟨c1, k1⟩⟩) hr' r1 p1)
      · cases h

theorem plain_ok (hg : Good C G) {p : Oper} {s : St} {o : Out} (hw0 : G w0) (h : goPlain C p s = some o) : OpOK C w0 p s o := by
  obtain ⟨tm, hh, nx, ora, rs⟩ := s
  unfold goPlain at h
  simp only at h
  split at h
  · cases h
  rename_i hdf
  split at h
  · rename_i v h1 nx1 low ha
    rw [withNat_eq, forceV_eq] at h
    split at h
    · rename_i hv
      simp only [Option.some.injEq] at h
      subst h
      simp only [Bool.and_eq_true] at hv
      refine ⟨v, rfl, hv.1, rfl, ⟨ble_le hv.2, rfl⟩, fun rd ρ a w K Q he hr hb hE => wpIn_op hdf ?_⟩
      obtain ⟨ρ', w', hrun, hr', hp'⟩ := aop_sound (e := a.eval) p hr hb.size (hg.tab w (hg.stable w0 w hw0 hb)) he ha
      rcases hrun with hrun | ⟨hrun, hu⟩
      · rw [hrun, Oper.uponIn_value]; exact hE ρ' w' hr' hp'
      · rw [hrun, Oper.uponIn_skip, ← hu]; exact hE ρ' w' hr' hp'
    · cases h
  · cases h

theorem div_ok (hg : Good C G) {p : Oper} {s : St} {o : Out} (hw0 : G w0) (h : goDiv C p s = some o) (hl : Holds C G o.log) : OpOK C w0 p s o := by
  obtain ⟨tm, hh, nx, ora, rs⟩ := s
  unfold goDiv at h
  simp only at h
  split at h
  · rename_i v b hd
    simp only [Option.some.injEq] at h
    subst h
    have hb : b = false := hl.1 (b, false) (by simp)
    refine ⟨.pure v, rfl, by simp [AV.ok, AV.within], rfl, ⟨Nat.le_refl _, rfl⟩, fun rd ρ a w K Q he hr _ hE => wpIn_op ?_ ?_⟩
    · unfold divOf at hd
      split at hd
      · rename_i hop; rw [hop]; rfl
      · rename_i hop; rw [hop]; rfl
      · cases hd
    have hfin : (execOp a.eval p).run C.P w = .ok (.value v) w := by
      unfold divOf at hd
      split at hd
      · rename_i t x y t2 hop
        split at hd
        · rename_i m n hm hn
          simp only [Option.some.injEq, Prod.mk.injEq] at hd
          obtain ⟨rfl, rfl⟩ := hd
          have hn0 : ¬ n = 0 := by simpa using hb
          have hx := he x (by simp [hop, Op.operands])
          have hy := he y (by simp [hop, Op.operands])
          rw [hm] at hx
          rw [hn] at hy
          simp only [AV.den] at hx hy
          obtain ⟨dst, op, type, pos, after, guard⟩ := p
          simp only at hop
          subst hop
          simp only [execOp, hx, hy]
          simp [eqGuard, binOp, Op.intDiv, hn0]
        · cases hd
      · rename_i t x y t2 hop
        split at hd
        · rename_i m n hm hn
          simp only [Option.some.injEq, Prod.mk.injEq] at hd
          obtain ⟨rfl, rfl⟩ := hd
          have hn0 : ¬ n = 0 := by simpa using hb
          have hx := he x (by simp [hop, Op.operands])
          have hy := he y (by simp [hop, Op.operands])
          rw [hm] at hx
          rw [hn] at hy
          simp only [AV.den] at hx hy
          obtain ⟨dst, op, type, pos, after, guard⟩ := p
          simp only at hop
          subst hop
          simp only [execOp, hx, hy]
          simp [eqGuard, binOp, Op.intDiv, hn0]
        · cases hd
      · cases hd
    rw [hfin, Oper.uponIn_value]
    have := hE ρ w hr (Post.refl hr _)
    simpa [AV.den] using this
  · exact plain_ok hg hw0 h

theorem pick_ok (hg : Good C G) {f : FuncId} {p : Oper} {c x y : Operand} (hp : p.op = .pick c x y) {s : St} {o : Out} (hw0 : G w0) (h : goPick C f p c x y s = some o) (hl : Holds C G o.log) : OpOK C w0 p s o := by
  obtain ⟨tm, hh, nx, ora, rs⟩ := s
  have hfin : ∀ (q : Bool) (v : AV) (ora' : List Bool), aeval tm c = .pure (.bool q) → (aeval tm (match q with | true => x | false => y)) = v → v.ok nx = true →
      OpOK C w0 p ⟨tm, hh, nx, ora, rs⟩ ⟨.val v, ⟨tm, hh, nx, ora', rs⟩, nx, ⟨[(q, q)], []⟩⟩ := by
    intro q v ora' hc hv hk
    refine ⟨v, rfl, hk, rfl, ⟨Nat.le_refl _, rfl⟩, fun rd ρ a w K Q he hr _ hE => wpIn_op (by rw [hp]; rfl) ?_⟩
    have h1 := he c (by simp [hp, Op.operands])
    have h2 := he x (by simp [hp, Op.operands])
    have h3 := he y (by simp [hp, Op.operands])
    rw [hc] at h1
    simp only [AV.den] at h1
    have hrun : (execOp a.eval p).run C.P w = .ok (.value (v.den ρ)) w := by
      obtain ⟨dst, op, type, pos, after, guard⟩ := p
      simp only at hp
      subst hp
      simp only [execOp, h1]
      cases q
      · simp only at hv; subst hv
        simp [asBool, h3]
      · simp only at hv; subst hv
        simp [asBool, h2]
    rw [hrun, Oper.uponIn_value]
    exact hE ρ w hr (Post.refl hr _)
  unfold goPick at h
  simp only at h
  split at h
  · exact plain_ok hg hw0 h
  · split at h
    · rename_i b q ora1 hc
      split at h
      · rw [forceV_eq] at h
        split at h
        · rename_i hk
          simp only [Option.some.injEq] at h
          subst h
          have hb : b = true := hl.1 (b, true) (by simp)
          subst hb
          exact hfin true _ _ hc rfl hk
        · cases h
      · rw [forceV_eq] at h
        split at h
        · rename_i hk
          simp only [Option.some.injEq] at h
          subst h
          have hb : b = false := hl.1 (b, false) (by simp)
          subst hb
          exact hfin false _ _ hc rfl hk
        · cases h
    · cases h

theorem contract_ok (hg : Good C G) {g : FuncId} {vs : List AV} {s : St} {o : Out} (hw0 : G w0) (h : contract g vs s = some o) (hl : Holds C G o.log) : EnterOK C w0 g vs s o := by
  obtain ⟨tm, hh, nx, ora, rs⟩ := s
  obtain ⟨rv, fr⟩ := rs
  unfold contract at h
  simp only at h
  split at h
  · rename_i us r res hp
    simp only [Option.some.injEq] at h
    subst h
    refine ⟨.pure r, rfl, by simp [AV.ok, AV.within], ⟨Nat.le_refl _, rfl⟩, fun ρ w hr hb => ?_⟩
    have hc : CallOK C G (g, us, r) := hl.2 (.call g us r) (by simp)
    rw [pures_den ρ hp]
    refine (hc w (hg.stable w0 w hw0 hb)).mono fun e w' ⟨he, hbw⟩ => ?_
    obtain ⟨r1, p1⟩ := rep_below hr hbw nx
    exact ⟨ρ, by simpa [AV.den] using he, r1, p1⟩
  · cases h

theorem summary_ok (hg : Good C G) {g : FuncId} {vs : List AV} {v : Value} {s : St} {o : Out} (hw0 : G w0) (hf : C.fnp g vs s.heap = some v) (h : summary v s = some o) : EnterOK C w0 g vs s o := by
  obtain ⟨tm, hh, nx, ora, rs⟩ := s
  unfold summary at h
  simp only [Option.some.injEq] at h
  subst h
  refine ⟨.pure v, rfl, by simp [AV.ok, AV.within], ⟨Nat.le_refl _, rfl⟩, fun ρ w hr hb => ?_⟩
  refine (hg.fnp g vs hh v hf _ ρ nx w (hg.stable w0 w hw0 hb) hr).mono fun e w' ⟨he, hbw⟩ => ?_
  obtain ⟨r1, p1⟩ := rep_below hr hbw nx
  exact ⟨ρ, by simpa [AV.den] using he, r1, p1⟩

def resVar (tmps : Array Value) : ResultVar → Sem Value
  | .tmp t => pure (tmps.getD t undef)
  | .cell a t => do loadVar t (← asAddr (tmps.getD a undef))

theorem results_eq (fn : Func) (tmps : Array Value) : results fn tmps = (do
    let vs ← fn.results.mapM (resVar tmps)
    pure (if h : vs.size = 1 then vs[0] else .tuple vs)) := by
  unfold results
  congr 1

theorem resVar_run {s : St} {ρ : Env} {w : World} (hr : Rep w0.heap.size ρ s.heap s.nxt w) (ht : Tab C.tab w) {r : ResultVar} {v : AV} (h : aresult C s.tmps s.heap r = some v) :
    (resVar (AV.denL ρ s.tmps).toArray r).run C.P w = .ok (v.den ρ) w := by
  have hgd : ∀ t, (AV.denL ρ s.tmps).toArray.getD t undef = (slot s.tmps t).den ρ := fun t => by
    rw [getD_den]; simp [List.getD_eq_getElem?_getD]
  cases r with
  | tmp t =>
    simp only [aresult, Option.some.injEq] at h
    subst h
    simp only [resVar, hgd, Sem.run_pure]
  | cell a t =>
    simp only [aresult] at h
    split at h
    · rename_i b off hs
      obtain ⟨ad, h1, h2⟩ := aload_sound hr ht h
      have : (slot s.tmps a).den ρ = .pointer (some ad) := by rw [hs]; exact h1
      simp only [resVar, hgd, this, asAddr, Sem.run_bind, Sem.run_pure, Result.andThen_ok, h2]
    · cases h

theorem results_run {s : St} {ρ : Env} {w : World} (hr : Rep w0.heap.size ρ s.heap s.nxt w) (ht : Tab C.tab w) : ∀ {rv : List ResultVar} {vs : List AV}, aresults C s.tmps s.heap rv = some vs →
    (rv.mapM (resVar (AV.denL ρ s.tmps).toArray)).run C.P w = .ok (AV.denL ρ vs) w
  | [], vs, h => by simp [aresults] at h; subst h; simp [AV.denL]
  | r :: rs, vs, h => by
    unfold aresults at h
    split at h
    · rename_i v us hv hus
      simp only [Option.some.injEq] at h
      subst h
      have ih := results_run hr ht hus
      have h1 := resVar_run hr ht hv
      rw [List.mapM_cons]
      simp only [Sem.run_bind, h1, Result.andThen_ok, ih, AV.denL, Sem.run_pure]
    · cases h

theorem resultOf_den (ρ : Env) (vs : List AV) : (resultOf vs).den ρ = (if h : (AV.denL ρ vs).toArray.size = 1 then (AV.denL ρ vs).toArray[0] else .tuple (AV.denL ρ vs).toArray) := by
  match vs with
  | [] => simp [resultOf, mkTuple_den, AV.denL]
  | [v] => simp [resultOf, AV.denL]
  | v :: u :: us => simp [resultOf, mkTuple_den, AV.denL]

theorem replicate_den (ρ : Env) (n : Nat) : AV.denL ρ (List.replicate n (.pure undef)) = List.replicate n undef := by
  simp [denL_map, AV.den]

theorem post_hbelow {ρ ρ' : Env} {h h' : AHeap} {nxt nxt' l : Nat} {w w' : World} (p : Post ρ ρ' h h' nxt nxt' l w w') : Post ρ ρ' h (hbelow h' nxt) nxt nxt' l w w' :=
  { p with
    fresh := fun n b hn => p.fresh n b (by rw [hget_below] at hn; split at hn; exact hn; cases hn)
    keep := fun n hn hx => by rw [hget_below, if_pos hx]; exact p.keep n hn hx }

theorem shutMarks_ok {P : Program} {lo : Nat} {fn : Func} {tmps : Array Value} {R : Ending → World → Prop} {ρ : Env} {nx : Nat} : ∀ {ds : List Nat} {h h' : AHeap} {w : World}, shutMarks ds h = some h' → Rep lo ρ h nx w →
    (∀ w', Rep lo ρ h' nx w' → Post ρ ρ h h' nx nx (lowOf ds nx) w w' → ∃ v, (results fn tmps).run P w' = .ok v w' ∧ R (.returned v) w') →
    LeavesInM Fence.wide 0 P fn tmps R (ds.map fun d => { target := .collected (ρ.σ d), args := #[] }) .returning w
  | [], h, h', w, e, hr, hR => by
    simp only [shutMarks, Option.some.injEq] at e
    subst e
    exact hR w hr (Post.refl hr _)
  | d :: ds, h, h', w, e, hr, hR => by
    unfold shutMarks at e
    split at e
    · rename_i cs on hd
      have hb := hr.block d _ hd
      simp only [BlockOK] at hb
      obtain ⟨r1, p1⟩ := rep_drop hr hd (w.putObj (ρ.σ d) (.deferred none)) rfl rfl rfl (by simp) (fun k hk => World.putObj_heap_other hk)
      refine ⟨by simp, .inl ⟨_, _, rfl, run_takeDeferred hb, ?_⟩⟩
      exact shutMarks_ok e r1 fun w' hw' p2 => hR w' hw' (p1.trans hr r1 p2)
    · cases e

theorem enter_ok (hg : Good C G) {g : FuncId} {vs : List AV} {s : St} {o : Out} (hw0 : G w0) (h : goEnter C R g vs s = some o) (hl : Holds C G o.log)
    (hx : ∀ c s o, R (.code g c) s = some o → Holds C G o.log → okCode c = true → StOK s → CodeOK C w0 c s o) : EnterOK C w0 g vs s o := by
  obtain ⟨tm, hh, nx, ora, rs⟩ := s
  unfold goEnter at h
  simp only at h
  split at h
  · rename_i fn hfine hfn
    rw [listGet_eq, Array.getElem?_toList] at hfn
    split at h
    · rename_i c hbody hok
      rw [spine_eq] at h
      have hcode := hg.code g fn c hfine hfn hbody
      have htm : AV.okL nx (vs ++ List.replicate (fn.ntmps - vs.length) (.pure undef)) = true := by
        rw [okL_iff] at hok ⊢
        intro x hx
        rcases List.mem_append.1 hx with hx | hx
        · exact hok x hx
        · rw [(List.mem_replicate.1 hx).2]; simp [AV.ok, AV.within]
      unfold leave at h
      split at h
      · rename_i x tm2 h2 nx2 ora2 rs2 l2 g2 hr
        have key : ∀ h3, shutMarks rs2.fr.marks h2 = some h3 → isOff x = true → leaveWith C fn.results.toList vs nx rs.fr tm2 h3 nx2 ora2 rs2.vals (Nat.min l2 (lowOf rs2.fr.marks nx2)) g2 = some o → EnterOK C w0 g vs ⟨tm, hh, nx, ora, rs⟩ o := by
          intro h3 hsh hoff h
          unfold leaveWith at h
          split at h
          · rename_i us hres
            have main : ∀ (hfin : AHeap), (∀ ρ ρ' w w', Rep w0.heap.size ρ' h3 nx2 w' → Post ρ ρ' hh h3 nx nx2 (Nat.min l2 (lowOf rs2.fr.marks nx2)) w w' → Rep w0.heap.size ρ' hfin nx2 w' ∧ Post ρ ρ' hh hfin nx nx2 (Nat.min l2 (lowOf rs2.fr.marks nx2)) w w') → Holds C G g2 →
                nx ≤ nx2 ∧ ∀ ρ w, Rep w0.heap.size ρ hh nx w → Below w0.heap.size w0 w → Calls C.P g (AV.denL ρ vs).toArray w fun e w' => ∃ ρ', e = .returned ((resultOf us).den ρ') ∧ Rep w0.heap.size ρ' hfin nx2 w' ∧ Post ρ ρ' hh hfin nx nx2 (Nat.min l2 (lowOf rs2.fr.marks nx2)) w w' := by
              intro hfin hf hlg
              obtain ⟨a1, a2, a3, a4⟩ := hx c _ _ hr hlg hcode ⟨htm, rfl⟩
              refine ⟨a3.1, fun ρ w hr' hb => ?_⟩
              refine (callsIn_wide (n := 0)).1 (callsIn_of_wp_marks hfn hbody trivial ?_)
              have hact : ({ tmps := (AV.denL ρ vs).toArray ++ Array.replicate (fn.ntmps - (AV.denL ρ vs).toArray.size) undef, defers := [] } : Act) = act ρ noFrame (vs ++ List.replicate (fn.ntmps - vs.length) (.pure undef)) := by
                unfold act
                congr 1
                apply Array.ext'
                simp [denL_append, replicate_den, denL_length]
              rw [hact]
              refine a4 ρ w _ hr' hb fun ρ1 w1 r1 p1 => ?_
              have hleave : LeavesInM Fence.wide 0 C.P fn (act ρ1 rs2.fr tm2).tmps (fun e w' => ∃ ρ', e = .returned ((resultOf us).den ρ') ∧ Rep w0.heap.size ρ' hfin nx2 w' ∧ Post ρ ρ' hh hfin nx nx2 (Nat.min l2 (lowOf rs2.fr.marks nx2)) w w') (act ρ1 rs2.fr tm2).defers .returning w1 := by
                refine shutMarks_ok hsh r1 fun w3 r3 p3 => ?_
                have hb3 := below_of_post r1 p3 (below_of_post hr' p1 hb)
                have ht := hg.tab w3 (hg.stable w0 w3 hw0 hb3)
                have hrun := results_run (s := ⟨tm2, h3, nx2, ora2, rs2⟩) r3 ht hres
                have hfull : (results fn (act ρ1 rs2.fr tm2).tmps).run C.P w3 = .ok ((resultOf us).den ρ1) w3 := by
                  rw [results_eq, Array.mapM_eq_mapM_toList]
                  simp only [Sem.run_bind, Sem.run_map, act]
                  simp only at hrun
                  rw [hrun]
                  simp [resultOf_den]
                have p4 := p1.trans hr' r1 p3
                exact ⟨_, hfull, ρ1, rfl, (hf ρ ρ1 w w3 r3 p4).1, (hf ρ ρ1 w w3 r3 p4).2⟩
              cases x with
              | normal => exact hleave
              | ret => exact hleave
              | exit id => simp [isOff] at hoff
              | val v => simp [isOff] at hoff
            split at h
            · rename_i hpure
              simp only [Option.some.injEq] at h
              subst h
              simp only [Bool.and_eq_true] at hpure
              obtain ⟨m1, m2⟩ := main (hbelow h3 nx) (fun ρ ρ' w w' r p => ⟨rep_forget r (fun n b hn => by rw [hget_below] at hn; split at hn; exact hn; cases hn), post_hbelow p⟩) hl
              refine ⟨resultOf us, rfl, ?_, ⟨m1, rfl⟩, m2⟩
              obtain ⟨v, hv, -⟩ := isPure_den (ρ := ⟨id, fun _ => ⟨0, noVal⟩⟩) hpure.2
              simp only [hv]; simp [AV.ok, AV.within]
            · split at h
              · rename_i hrok
                simp only [Option.some.injEq] at h
                subst h
                obtain ⟨m1, m2⟩ := main h3 (fun ρ ρ' w w' r p => ⟨r, p⟩) hl
                exact ⟨resultOf us, rfl, hrok, ⟨m1, rfl⟩, m2⟩
              · cases h
          · cases h
        split at h
        · rename_i hoff hm
          exact key h2 (by rw [hm]; rfl) hoff (by rw [hm]; exact h)
        · rename_i m ms hoff hm
          split at h
          · rename_i h3 hsh
            exact key h3 (by rw [hm]; exact hsh) hoff (by rw [hm]; exact h)
          · cases h
        · cases h
      · cases h
    · cases h
  · cases h

theorem callsIn_any {P : Program} {g : FuncId} {args : Array Value} {w : World} {K : Ending → World → Prop} (rd : Option Nat) (h : Calls P g args w K) : CallsIn (fenceR rd) (0 - 1) P g args w K :=
  (callsIn_wide (n := 0)).2 h

theorem call_ok (hg : Good C G) {p : Oper} {c : Call} (hp : p.op = .call c) {s : St} {o : Out} (h : goCall R c s = some o) (hl : Holds C G o.log)
    (hx : ∀ g vs s o, R (.enter g vs) s = some o → Holds C G o.log → EnterOK C w0 g vs s o)
    (hbody : ∀ g vs s o, R (.enter g vs) s = some o → ∃ fn, C.P.funcs[g]? = some fn ∧ fn.body.isSome = true) : OpOK C w0 p s o := by
  obtain ⟨tm, hh, nx, ora, rs⟩ := s
  unfold goCall at h
  simp only at h
  split at h
  · rename_i g vs hcal
    unfold backTo at h
    split at h
    · rename_i x2 tm' h1 nx1 ora1 rs1 l1 g1 hr
      simp only [Option.some.injEq] at h
      subst h
      obtain ⟨v, a1, a2, a3, a4⟩ := hx _ _ _ _ hr hl
      simp only at a1
      subst a1
      obtain ⟨fn, hfn, hb⟩ := hbody _ _ _ _ hr
      refine ⟨v, rfl, a2, rfl, a3, fun rd ρ a w K Q he hr' hbw hE => wpIn_op (by rw [hp]; rfl) ?_⟩
      have hrun := callee_sound (C := C) (e := a.eval) (ρ := ρ) (w := w) c p.type hcal (fun x hx => he x (by rw [hp]; exact hx)) hfn (hg.names g fn hfn) hb
      have : execOp a.eval p = (do let d ← resolve a.eval c p.type; invoke d.target d.args : Sem Next) := by
        unfold execOp; rw [hp]
      rw [this, hrun, Oper.uponIn_enter]
      refine ⟨fun h => (by cases h), ?_⟩
      refine CallsIn.mono (callsIn_any rd (a4 ρ w hr' hbw)) fun e w' ⟨ρ', he', r', p'⟩ => ?_
      subst he'
      exact hE ρ' w' r' p'
    · cases h
  · cases h

end
end Go.Ev
