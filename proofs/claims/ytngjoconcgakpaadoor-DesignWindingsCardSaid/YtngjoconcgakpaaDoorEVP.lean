/- Running the program's functions on values that are known in part: quiet operations, which may come before or behind a store. -/
import Derived.Test.YtngjoconcgakpaaDoorEVN
set_option linter.unusedVariables false
set_option linter.unusedSimpArgs false
set_option linter.unusedSectionVars false
set_option linter.unnecessarySimpa false
namespace Go.Ev
open Go.RowKit

/-- What a quiet operation makes of what it looks at. -/
def qval (op : Op) (e : Operand → Value) : Option Value := match op with
  | .move x => some (e x)
  | .assign x => some (e x)
  | .extract x i => match e x with
    | .tuple vs => vs[i]?
    | _ => none
  | _ => none

theorem quiet_wp {P : Program} {rd : Option Nat} {p : Oper} {a : Act} {w : World} {K : Act → World → Prop} {Q : Exit → Act → World → Prop} (hq : quietOp p.op = true) (hQ : ∀ x a w, ¬ Q x a w) :
    p.wpIn (fenceR rd) 0 P a w K Q → ∃ v, qval p.op a.eval = some v ∧ K (a.put p.dst v) w := by
  intro hwp
  have hdf : isDefer p.op = false := by revert hq; cases p.op <;> simp [quietOp, isDefer]
  replace hwp := wpIn_inv hdf hwp
  revert hwp
  obtain ⟨dst, op, type, pos, after, guard⟩ := p
  cases op <;> simp only [quietOp] at hq <;> try (cases hq; done)
  case move x => intro h; exact ⟨_, rfl, by simpa [execOp, Oper.uponIn] using h⟩
  case assign x => intro h; exact ⟨_, rfl, by simpa [execOp, Oper.uponIn] using h⟩
  case extract x i =>
    intro h
    unfold execOp Instr.extract at h
    simp only at h
    unfold qval
    simp only
    cases hx : a.eval x <;> rw [hx] at h <;> try (simp [Oper.uponIn] at h; done)
    rename_i vs
    simp only at h ⊢
    cases hv : vs[i]? with
    | none => rw [hv] at h; simp [Oper.uponIn] at h
    | some v => rw [hv] at h; exact ⟨v, rfl, by simpa [Oper.uponIn] using h⟩

theorem quiet_mk {P : Program} {rd : Option Nat} {p : Oper} {a : Act} {w : World} {K : Act → World → Prop} {Q : Exit → Act → World → Prop} {v : Value} (hq : quietOp p.op = true) (hv : qval p.op a.eval = some v) (hk : K (a.put p.dst v) w) : p.wpIn (fenceR rd) 0 P a w K Q := by
  have hdf : isDefer p.op = false := by revert hq; cases p.op <;> simp [quietOp, isDefer]
  refine wpIn_op hdf ?_
  obtain ⟨dst, op, type, pos, after, guard⟩ := p
  cases op <;> simp only [quietOp] at hq <;> try (cases hq; done)
  case move x => simp only [qval, Option.some.injEq] at hv; subst hv; simpa [execOp, Oper.uponIn] using hk
  case assign x => simp only [qval, Option.some.injEq] at hv; subst hv; simpa [execOp, Oper.uponIn] using hk
  case extract x i =>
    unfold execOp Instr.extract
    unfold qval at hv
    simp only at hv ⊢
    cases hx : a.eval x <;> rw [hx] at hv <;> try (simp at hv; done)
    rename_i vs
    simp only at hv ⊢
    rw [hv]
    simpa [Oper.uponIn] using hk

theorem store_ran {P : Program} {rd : Option Nat} {p : Oper} {a : Act} {w : World} {K : Act → World → Prop} {Q : Exit → Act → World → Prop} (hs : isStore p.op = true) (hQ : ∀ x a w, ¬ Q x a w) (h : p.wpIn (fenceR rd) 0 P a w K Q) :
    ∃ w', (execOp a.eval p).run P w = .ok .skip w' ∧ K (a.put p.dst undef) w' := by
  have hdf : isDefer p.op = false := by revert hs; cases p.op <;> simp [isStore, isDefer]
  replace h := wpIn_inv hdf h
  obtain ⟨dst, op, type, pos, after, guard⟩ := p
  cases op <;> simp only [isStore] at hs <;> try (cases hs; done)
  rename_i t x y
  simp only [execOp, Sem.run_bind] at h ⊢
  cases hr : (Instr.storeAt t (a.eval x) (a.eval y)).run P w with
  | ok u w' =>
    rw [hr] at h
    simp only [Result.andThen_ok, Sem.run_pure, Oper.uponIn] at h ⊢
    exact ⟨_, rfl, h⟩
  | halt z w' =>
    rw [hr] at h
    cases z <;> simp [Result.andThen, Oper.uponIn] at h
    exact absurd h (hQ _ _ _)

theorem store_mk {P : Program} {rd : Option Nat} {p : Oper} {a b : Act} {w w' : World} {K : Act → World → Prop} {Q : Exit → Act → World → Prop} (hs : isStore p.op = true) (he : ∀ x ∈ p.op.operands, b.eval x = a.eval x) (h : (execOp a.eval p).run P w = .ok .skip w') (hk : K (b.put p.dst undef) w') : p.wpIn (fenceR rd) 0 P b w K Q := by
  have hdf : isDefer p.op = false := by revert hs; cases p.op <;> simp [isStore, isDefer]
  have e : execOp b.eval p = execOp a.eval p := by
    obtain ⟨dst, op, type, pos, after, guard⟩ := p
    cases op <;> simp only [isStore] at hs <;> try (cases hs; done)
    rename_i t x y
    simp only [Op.operands] at he
    simp only [execOp, he x (by simp), he y (by simp)]
  refine wpIn_op hdf ?_
  rw [e, h]
  exact hk

/-- Quiet operations, one after another. -/
def runQ (ops : Array Oper) : List Nat → Act → Option Act
  | [], a => some a
  | i :: is, a => match ops[i]? with
    | some p => match qval p.op a.eval with
      | some v => runQ ops is (a.put p.dst v)
      | none => none
    | none => none

theorem runQ_cons {ops : Array Oper} {i : Nat} {is : List Nat} {a f : Act} (h : runQ ops (i :: is) a = some f) : ∃ p v, ops[i]? = some p ∧ qval p.op a.eval = some v ∧ runQ ops is (a.put p.dst v) = some f := by
  unfold runQ at h
  split at h
  · rename_i p hp
    split at h
    · rename_i v hv
      exact ⟨p, v, hp, hv, h⟩
    · cases h
  · cases h

theorem runQ_mk {ops : Array Oper} {i : Nat} {is : List Nat} {a : Act} {p : Oper} {v : Value} (hp : ops[i]? = some p) (hv : qval p.op a.eval = some v) : runQ ops (i :: is) a = runQ ops is (a.put p.dst v) := by
  simp only [runQ, hp, hv]

theorem eval_put {a : Act} {d : Option Tmp} {v : Value} {x : Operand} (h : ∀ t, x = .tmp t → d ≠ some t) : (a.put d v).eval x = a.eval x := by
  cases d with
  | none => rfl
  | some d =>
    cases x with
    | tmp t =>
      have : d ≠ t := fun e => h t rfl (by rw [e])
      simp [Act.put, Act.eval, this]
    | const c => rfl
    | global g => rfl
    | func f => rfl

theorem qval_congr {op : Op} {e e' : Operand → Value} (h : ∀ x ∈ op.operands, e x = e' x) : qval op e = qval op e' := by
  cases op <;> try rfl
  case move x => simp only [qval, h x (by simp [Op.operands])]
  case assign x => simp only [qval, h x (by simp [Op.operands])]
  case extract x i => simp only [qval, h x (by simp [Op.operands])]

theorem put_comm {a : Act} {d e : Option Tmp} {v u : Value} (h : ∀ t, d = some t → e ≠ some t) : (a.put d v).put e u = (a.put e u).put d v := by
  cases d with
  | none => rfl
  | some d =>
    cases e with
    | none => rfl
    | some e =>
      have : d ≠ e := fun x => h d rfl (by rw [x])
      simp only [Act.put]
      congr 1
      rw [Array.setIfInBounds_comm v u this]

theorem looks_mem {ops : Array Oper} {p : Oper} {t : Tmp} (h : Operand.tmp t ∈ p.op.operands) : t ∈ p.looksAt ops := by
  unfold Oper.looksAt
  exact List.mem_append_left _ (List.mem_filterMap.2 ⟨_, by simpa using h, rfl⟩)

/-- Two that neither look at what the other makes, nor make the same, may change places. -/
theorem swapQ {ops : Array Oper} {i j : Nat} {is : List Nat} {a f : Act} (h1 : ∀ p q d, ops[i]? = some p → ops[j]? = some q → q.dst = some d → d ∉ p.looksAt ops ∧ p.dst ≠ some d) (h2 : ∀ p q d, ops[i]? = some p → ops[j]? = some q → p.dst = some d → d ∉ q.looksAt ops)
    (h : runQ ops (j :: i :: is) a = some f) : runQ ops (i :: j :: is) a = some f := by
  obtain ⟨q, u, hq, hu, h⟩ := runQ_cons h
  obtain ⟨p, v, hp, hv, h⟩ := runQ_cons h
  have e1 : qval p.op (a.put q.dst u).eval = qval p.op a.eval := qval_congr fun x hx => eval_put fun t ht hd => by subst ht; exact (h1 p q t hp hq hd).1 (looks_mem hx)
  have e2 : qval q.op (a.put p.dst v).eval = qval q.op a.eval := qval_congr fun x hx => eval_put fun t ht hd => by subst ht; exact h2 p q t hp hq hd (looks_mem hx)
  rw [e1] at hv
  rw [runQ_mk hp hv, runQ_mk hq (e2.trans hu), ← put_comm (fun t ht => (h1 p q t hp hq ht).2)]
  exact h

theorem frontQ {ops : Array Oper} {i : Nat} {post : List Nat} {f : Act} : ∀ {pre : List Nat} {a : Act}, (∀ j ∈ pre, (∀ p q d, ops[i]? = some p → ops[j]? = some q → q.dst = some d → d ∉ p.looksAt ops ∧ p.dst ≠ some d) ∧ (∀ p q d, ops[i]? = some p → ops[j]? = some q → p.dst = some d → d ∉ q.looksAt ops)) →
    runQ ops (pre ++ i :: post) a = some f → runQ ops (i :: (pre ++ post)) a = some f
  | [], _, _, h => h
  | j :: pre, a, hj, h => by
    obtain ⟨q, u, hq, hu, h⟩ := runQ_cons (is := pre ++ i :: post) h
    have ih := frontQ (fun j hj' => hj j (List.mem_cons_of_mem _ hj')) h
    refine swapQ (is := pre ++ post) (hj j List.mem_cons_self).1 (hj j List.mem_cons_self).2 ?_
    rw [runQ_mk hq hu]
    exact ih

/-- What quiet operations do not make stands. -/
theorem runQ_keep {ops : Array Oper} {x : Operand} : ∀ {M : List Nat} {a f : Act}, (∀ j ∈ M, ∀ q t, ops[j]? = some q → x = .tmp t → q.dst ≠ some t) → runQ ops M a = some f → f.eval x = a.eval x
  | [], a, f, _, h => by cases h; rfl
  | j :: M, a, f, hj, h => by
    obtain ⟨q, u, hq, hu, h⟩ := runQ_cons h
    rw [runQ_keep (fun j hj' => hj j (List.mem_cons_of_mem _ hj')) h]
    exact eval_put fun t ht => hj j List.mem_cons_self q t hq ht
end Go.Ev
