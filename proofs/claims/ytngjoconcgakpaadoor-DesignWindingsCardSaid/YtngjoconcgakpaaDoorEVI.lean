/- Running the program's functions on values that are known in part: operations and calls. -/
import Derived.Test.YtngjoconcgakpaaDoorEVH
set_option linter.unusedVariables false
set_option linter.unusedSimpArgs false
set_option linter.unusedSectionVars false
set_option linter.unnecessarySimpa false
namespace Go.Ev
open Go.RowKit

section
variable {C : Ctx} {e : Operand → Value} {lo : Nat} {ρ : Env} {s : St} {r : Res} {w : World}

theorem allPure_spec {tmps : List AV} : ∀ {xs : List Operand}, allPure tmps xs = true → ∀ x ∈ xs, ∃ v, aeval tmps x = .pure v
  | [], _, x, hx => by cases hx
  | y :: ys, h, x, hx => by
    unfold allPure at h
    split at h
    · rename_i v hv
      rcases List.mem_cons.1 hx with rfl | hx
      · exact ⟨v, hv⟩
      · exact allPure_spec h x hx
    · cases h

theorem slow_sound (o : Oper) (hsel : ∀ cs b, o.op ≠ .select cs b) (hr : Rep lo ρ s.heap s.nxt w) (hlo : lo ≤ w.heap.size) (ht : Tab C.tab w) (he : ∀ x ∈ o.op.operands, e x = (aeval s.tmps x).den ρ)
    (h : slow C s o = some r) : Does C.P e o lo ρ s r w := by
  unfold slow at h
  split at h
  · rename_i hp
    split at h
    · rename_i v hv
      have hc : execOp e o = execOp (penv s.tmps) o := execOp_congr o hsel (fun x hx => by
        obtain ⟨u, hu⟩ := allPure_spec hp x (by simpa using hx)
        rw [he x hx]
        simp [penv, hu, AV.den])
      exact does_quiet hr h (by rw [hc, still_run hv]; simp [AV.den])
    · exact own_sound o hr hlo ht he h
  · exact own_sound o hr hlo ht he h

theorem fast_sound {op : BinOp} {a b : Int} {v : Value} (h : fastInt op a b = some v) (P : Program) (t : TypeId) (x y : Operand) (w : World) :
    (do eqGuard op t x y (.int .i64 a) (.int .i64 b); binOp op t (.int .i64 a) (.int .i64 b)).run P w = .ok v w := by
  cases op <;> simp [fastInt] at h <;> subst h <;> simp [eqGuard, binOp, Op.intArith, Op.intCmp]

theorem aop_sound (o : Oper) (hr : Rep lo ρ s.heap s.nxt w) (hlo : lo ≤ w.heap.size) (ht : Tab C.tab w) (he : ∀ x ∈ o.op.operands, e x = (aeval s.tmps x).den ρ) (h : aop C s o = some r) :
    Does C.P e o lo ρ s r w := by
  have hown : ∀ o' : Oper, o' = o → aopOwn C s o' = some r → Does C.P e o lo ρ s r w := fun o' ho h => own_sound o hr hlo ht he (ho ▸ h)
  have hslow : ∀ o' : Oper, o' = o → (∀ cs b, o'.op ≠ .select cs b) → slow C s o' = some r → Does C.P e o lo ρ s r w := fun o' ho hs h => slow_sound o (ho ▸ hs) hr hlo ht he (ho ▸ h)
  obtain ⟨dst, op, type, pos, after, guard⟩ := o
  cases op <;> simp only [aop] at h <;> first
    | (cases h; done)
    | exact hown _ rfl (by simpa only [aopOwn] using h)
    | exact hslow _ rfl (by simp) h
    | (unfold unlessPure at h; split at h; (exact hslow _ rfl (by simp) h); exact hown _ rfl (by simpa only [aopOwn] using h))
    | skip
  rename_i op t x y t2
  unfold opBin at h
  split at h
  · rename_i xs ys ha hb
    have hx := he x (by simp [Op.operands])
    have hy := he y (by simp [Op.operands])
    rw [ha] at hx
    rw [hb] at hy
    simp only [AV.den] at hx hy
    unfold opEq at h
    split at h
    · split at h
      · rename_i b hb
        refine does_quiet hr h ?_
        have := (aeqTop_sound hb x y w).1
        simp only [AV.den, execOp, hx, hy]
        rw [Sem.run_bind, this]
        rfl
      · exact hslow _ rfl (by simp) h
    · split at h
      · rename_i b hb
        refine does_quiet hr h ?_
        have := (aeqTop_sound hb x y w).2
        simp only [AV.den, execOp, hx, hy]
        rw [Sem.run_bind, this]
        rfl
      · exact hslow _ rfl (by simp) h
    · exact hslow _ rfl (by simp) h
  · rename_i a b ha hb
    split at h
    · rename_i v hv
      refine does_quiet hr h ?_
      have hx := he x (by simp [Op.operands])
      have hy := he y (by simp [Op.operands])
      rw [ha] at hx
      rw [hb] at hy
      have := fast_sound hv C.P t x y w
      simp only [AV.den] at hx hy ⊢
      simp only [execOp, hx, hy]
      rw [Sem.run_bind, this]
      rfl
    · exact hslow _ rfl (by simp) h
  · exact hslow _ rfl (by simp) h

theorem callee_sound (c : Call) (type : TypeId) {tm : List AV} {g : FuncId} {vs : List AV} (h : callee tm c = some (g, vs)) (he : ∀ x ∈ c.operands, e x = (aeval tm x).den ρ)
    {fn : Func} (hf : C.P.funcs[g]? = some fn) (hn : (fn.name == "runtime.NumGoroutine") = false) (hb : fn.body.isSome = true) :
    (do let d ← resolve e c type; invoke d.target d.args : Sem Next).run C.P w = .ok (.enter g (AV.denL ρ vs).toArray) w := by
  have hargs : c.args.map e = (AV.denL ρ (c.args.toList.map (aeval tm))).toArray := map_den_list ρ tm c.args (fun x hx => he x (by simp [Call.operands]; exact .inr (by simpa using hx)))
  have hnone : fn.body.isNone = false := by cases hbb : fn.body <;> simp_all
  have hcf : ∀ args, (callFunc g args).run C.P w = .ok (.enter g args) w := fun args => by
    simp only [callFunc, Sem.run_bind, run_program, Result.andThen_ok, hf, hn, hnone, Bool.false_eq_true, if_false, Sem.run_pure]
  unfold callee at h
  split at h
  · rename_i x hc
    have hx := he x (by simp [Call.operands, hc])
    split at h
    · rename_i f us vs' hv
      cases h
      rw [hv] at hx
      simp only [AV.den] at hx
      simp only [resolve, hc, hx, Deferred.ofValue, Sem.run_bind, Sem.run_pure, Result.andThen_ok, invoke, hcf, hargs]
      congr 2
      apply Array.ext'
      simp [denL_append, denL_pure]
    · rename_i f us vs' hv
      cases h
      rw [hv] at hx
      simp only [AV.den] at hx
      simp only [resolve, hc, hx, Deferred.ofValue, Sem.run_bind, Sem.run_pure, Result.andThen_ok, invoke, hcf, hargs]
      congr 2
      apply Array.ext'
      simp [denL_append]
    · cases h
  · cases h

end
end Go.Ev
