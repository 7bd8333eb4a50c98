/- Running the program's functions on values that are known in part: what a run says of the program. -/
import Derived.Test.YtngjoconcgakpaaDoorEVI
import Derived.OrdersIn
import Derived.LoopNIn
import Derived.TacticsIn
import Derived.RangeFuncRecord
set_option linter.unusedVariables false
set_option linter.unusedSimpArgs false
set_option linter.unusedSectionVars false
set_option linter.unnecessarySimpa false
namespace Go.Ev
open Go.RowKit

/-- What is taken of the program, and of the worlds in which it runs. -/
structure Good (C : Ctx) (G : World → Prop) : Prop where
  mixed : C.P.follows .mixedOrders = true
  names : ∀ (g : FuncId) (fn : Func), C.P.funcs[g]? = some fn → (fn.name == "runtime.NumGoroutine") = false
  code : ∀ (g : FuncId) (fn : Func) (c : Code), C.fine g = true → C.P.funcs[g]? = some fn → fn.body = some c → okCode c = true
  tab : ∀ w, G w → Tab C.tab w
  stable : ∀ w w', G w → Below w.heap.size w w' → G w'
  fnp : ∀ (g : FuncId) (vs : List AV) (h : AHeap) (v : Value), C.fnp g vs h = some v → ∀ (lo : Nat) (ρ : Env) (nx : Nat) (w : World), G w → Rep lo ρ h nx w →
    Calls C.P g (AV.denL ρ vs).toArray w fun e w' => e = .returned v ∧ Below w.heap.size w w'

/-- A contract: called with these values, it returns this one, and turns nothing. -/
def CallOK (C : Ctx) (G : World → Prop) (q : FuncId × List Value × Value) : Prop :=
  ∀ w, G w → Calls C.P q.1 q.2.1.toArray w fun e w' => e = .returned q.2.2 ∧ Below w.heap.size w w'

def exitOf : AX → Exit
  | .normal => .normal
  | .exit id => .exit id
  | .ret => .ret
  | .val _ => .outgrown

def isVal : AX → Bool
  | .val _ => true
  | _ => false

section
variable (C : Ctx) (G : World → Prop) (w0 : World)

/-- The continuation holds wherever the run may have ended. -/
def Ends (ρ : Env) (s : St) (o : Out) (w : World) (K : Env → World → Prop) : Prop :=
  ∀ ρ' w', Rep w0.heap.size ρ' o.st.heap o.st.nxt w' → Post ρ ρ' s.heap o.st.heap s.nxt o.st.nxt o.low w w' → K ρ' w'

def act (ρ : Env) (fr : AFrame) (tm : List AV) : Act := ⟨(AV.denL ρ tm).toArray, fr.marks.map fun d => { target := .collected (ρ.σ d), args := #[] }⟩

def StOK (s : St) : Prop := AV.okL s.nxt s.tmps = true ∧ frOK s.nxt s.res.fr = true

/-- Everything is let in; a round's frame or not. -/
def fenceR (r : Option Nat) : Fence := { Fence.wide with round := r }
def fenceOf (ρ : Env) (fr : AFrame) : Fence := fenceR (fr.rnd.map ρ.σ)

def CodeOK (c : Code) (s : St) (o : Out) : Prop :=
  isVal o.x = false ∧ StOK o.st ∧ (s.nxt ≤ o.st.nxt ∧ o.st.res.fr.rnd = s.res.fr.rnd) ∧
  ∀ ρ w Q, Rep w0.heap.size ρ s.heap s.nxt w → Below w0.heap.size w0 w → Ends w0 ρ s o w (fun ρ' w' => Q (exitOf o.x) (act ρ' o.st.res.fr o.st.tmps) w') → c.wpIn (fenceOf ρ s.res.fr) 0 C.P Q (act ρ s.res.fr s.tmps) w

def LoopOK (n : Nat) (c : Code) (s : St) (o : Out) : Prop :=
  isVal o.x = false ∧ StOK o.st ∧ (s.nxt ≤ o.st.nxt ∧ o.st.res.fr.rnd = s.res.fr.rnd) ∧
  ∀ ρ w Q, Rep w0.heap.size ρ s.heap s.nxt w → Below w0.heap.size w0 w → Ends w0 ρ s o w (fun ρ' w' => Q (exitOf o.x) (act ρ' o.st.res.fr o.st.tmps) w') → Code.roundsIn (fenceOf ρ s.res.fr) 0 C.P c Q n (act ρ s.res.fr s.tmps) w

def OpsOK (ops : Array Oper) (todo : List Oper) (s : St) (o : Out) : Prop :=
  o.x = .normal ∧ StOK o.st ∧ (s.nxt ≤ o.st.nxt ∧ o.st.res.fr = s.res.fr) ∧
  ∀ k, ops.toList.drop k = todo → ∀ ρ w Q, Rep w0.heap.size ρ s.heap s.nxt w → Below w0.heap.size w0 w → Ends w0 ρ s o w (fun ρ' w' => Q .normal (act ρ' o.st.res.fr o.st.tmps) w') →
    wpOpsIn (fenceOf ρ s.res.fr) 0 C.P ops Q (List.range' k (ops.size - k)) (act ρ s.res.fr s.tmps) w

def OpOK (p : Oper) (s : St) (o : Out) : Prop :=
  ∃ v, o.x = .val v ∧ v.ok o.st.nxt = true ∧ o.st.tmps = s.tmps ∧ (s.nxt ≤ o.st.nxt ∧ o.st.res.fr = s.res.fr) ∧
  ∀ (rd : Option Nat) ρ a w K Q, (∀ x ∈ p.op.operands, a.eval x = (aeval s.tmps x).den ρ) → Rep w0.heap.size ρ s.heap s.nxt w → Below w0.heap.size w0 w →
    Ends w0 ρ s o w (fun ρ' w' => K (a.put p.dst (v.den ρ')) w') → p.wpIn (fenceR rd) 0 C.P a w K Q

def EnterOK (g : FuncId) (vs : List AV) (s : St) (o : Out) : Prop :=
  ∃ v, o.x = .val v ∧ v.ok o.st.nxt = true ∧ (s.nxt ≤ o.st.nxt ∧ o.st.res.fr = s.res.fr) ∧
  ∀ ρ w, Rep w0.heap.size ρ s.heap s.nxt w → Below w0.heap.size w0 w →
    Calls C.P g (AV.denL ρ vs).toArray w fun e w' => ∃ ρ', e = .returned (v.den ρ') ∧ Rep w0.heap.size ρ' o.st.heap o.st.nxt w' ∧ Post ρ ρ' s.heap o.st.heap s.nxt o.st.nxt o.low w w'
end

/-- A loop ends so, in whatever world. -/
def LoopEnds (C : Ctx) (G : World → Prop) (c : Code) (s : St) (x : AX) (t : St) (low : Nat) : Prop := ∀ w0, G w0 → StOK s → CodeOK C w0 (.loop c) s ⟨x, t, low, ⟨[], []⟩⟩

def AskOK (C : Ctx) (G : World → Prop) : Ask → Prop
  | .call g vs v => CallOK C G (g, vs, v)
  | .loop c s x t low => LoopEnds C G c s x t low

/-- What a run has asked for holds. -/
def Holds (C : Ctx) (G : World → Prop) (l : Log) : Prop := (∀ p ∈ l.conds, p.1 = p.2) ∧ ∀ q ∈ l.calls, AskOK C G q

theorem behind_eq {low : Nat} {l : List (Bool × Bool)} {k : List Ask} {r : Option Out} {o : Out} (h : behind low l k r = some o) :
    ∃ o1, r = some o1 ∧ o = ⟨o1.x, o1.st, Nat.min low o1.low, ⟨l ++ o1.log.conds, k ++ o1.log.calls⟩⟩ := by
  unfold behind at h
  split at h
  · rename_i x s2 l2 c2 k2
    simp only [Option.some.injEq] at h
    exact ⟨_, rfl, h.symm⟩
  · cases h

theorem Holds.left {C : Ctx} {G : World → Prop} {c c' : List (Bool × Bool)} {k k' : List Ask} (h : Holds C G ⟨c ++ c', k ++ k'⟩) : Holds C G ⟨c, k⟩ :=
  ⟨fun p hp => h.1 p (List.mem_append_left _ hp), fun q hq => h.2 q (List.mem_append_left _ hq)⟩
theorem Holds.right {C : Ctx} {G : World → Prop} {c c' : List (Bool × Bool)} {k k' : List Ask} (h : Holds C G ⟨c ++ c', k ++ k'⟩) : Holds C G ⟨c', k'⟩ :=
  ⟨fun p hp => h.1 p (List.mem_append_right _ hp), fun q hq => h.2 q (List.mem_append_right _ hq)⟩

section
variable {C : Ctx} {G : World → Prop} {w0 : World}

theorem stay_eq {x : AX} {s : St} {o : Out} (h : stay x s = some o) : o = ⟨x, s, s.nxt, ⟨[], []⟩⟩ := by
  obtain ⟨tm, hh, nx, ora, rs⟩ := s
  simp only [stay, Option.some.injEq] at h
  exact h.symm

theorem Ends.stay {ρ : Env} {s : St} {x : AX} {w : World} {K : Env → World → Prop} {l : Log} (hr : Rep w0.heap.size ρ s.heap s.nxt w) (h : Ends w0 ρ s ⟨x, s, s.nxt, l⟩ w K) : K ρ w :=
  h ρ w hr (Post.refl hr _)

/-- Two runs, one behind the other. -/
theorem Ends.trans {ρ : Env} {s : St} {o1 : Out} {o2 : Out} {x : AX} {l : Log} {w : World} {K : Env → World → Prop} (hr : Rep w0.heap.size ρ s.heap s.nxt w) {ρ1 : Env} {w1 : World}
    (hr1 : Rep w0.heap.size ρ1 o1.st.heap o1.st.nxt w1) (hp1 : Post ρ ρ1 s.heap o1.st.heap s.nxt o1.st.nxt o1.low w w1) (h : Ends w0 ρ s ⟨x, o2.st, Nat.min o1.low o2.low, l⟩ w K) : Ends w0 ρ1 o1.st o2 w1 K :=
  fun ρ' w' r p => h ρ' w' r (hp1.trans hr hr1 p)

theorem act_eval (ρ : Env) (fr : AFrame) (tm : List AV) (x : Operand) : (act ρ fr tm).eval x = (aeval tm x).den ρ := aeval_den ρ tm _ x

theorem fence_eq {ρ ρ1 : Env} {nx : Nat} {fr fr1 : AFrame} (hag : ∀ n, n < nx → ρ1.σ n = ρ.σ n) (hf : frOK nx fr = true) (e : fr1.rnd = fr.rnd) : fenceOf ρ1 fr1 = fenceOf ρ fr := by
  unfold fenceOf
  rw [e]
  cases hr : fr.rnd with
  | none => rfl
  | some l =>
    have hl : l < nx := by
      simp only [frOK, hr, Bool.and_eq_true] at hf
      exact blt_lt hf.1
    simp [hag l hl]

theorem marks_eq {ρ ρ1 : Env} {nx : Nat} {fr : AFrame} (hag : ∀ n, n < nx → ρ1.σ n = ρ.σ n) (hf : frOK nx fr = true) :
    (fr.marks.map fun d => ({ target := .collected (ρ1.σ d), args := #[] } : Deferred)) = fr.marks.map fun d => { target := .collected (ρ.σ d), args := #[] } := by
  apply List.map_congr_left
  intro d hd
  simp only [frOK, Bool.and_eq_true, List.all_eq_true] at hf
  rw [hag d (blt_lt (hf.2 d hd))]

theorem frOK_mono {m m' : Nat} (h : m ≤ m') {fr : AFrame} (k : frOK m fr = true) : frOK m' fr = true := by
  simp only [frOK, Bool.and_eq_true, List.all_eq_true] at k ⊢
  refine ⟨?_, fun d hd => ?_⟩
  · revert k
    cases fr.rnd with
    | none => intro _; rfl
    | some l => intro k; have := blt_lt k.1; simp [Nat.blt_eq]; omega
  · have := blt_lt (k.2 d hd); simp [Nat.blt_eq]; omega

theorem Post.low_of {ρ ρ' : Env} {h h' : AHeap} {nxt nxt' l l' : Nat} {w w' : World} (p : Post ρ ρ' h h' nxt nxt' l w w') (hl : ∀ n, n < l' → n < nxt → n < l) : Post ρ ρ' h h' nxt nxt' l' w w' :=
  { p with keep := fun n hn hx => p.keep n (hl n hn hx) hx }

theorem Post.σ_old {ρ ρ' : Env} {h h' : AHeap} {nxt nxt' l : Nat} {w w' : World} (p : Post ρ ρ' h h' nxt nxt' l w w') : ∀ n, n < nxt → ρ'.σ n = ρ.σ n := fun n hn => (p.agree n (.inl hn)).1

theorem wpIn_inv {P : Program} {p : Oper} {a : Act} {w : World} {K : Act → World → Prop} {Q : Exit → Act → World → Prop} {rd : Option Nat} (hd : isDefer p.op = false)
    (h : p.wpIn (fenceR rd) 0 P a w K Q) : p.uponIn (fenceR rd) 0 P a K Q ((execOp a.eval p).run P w) := by
  have h := h.2
  rw [show (fenceR rd).round = rd from rfl, Oper.semAt_eq rd a.eval p (fun c hc => by rw [hc] at hd; cases hd)] at h
  exact h

/-- An operation's wp, whatever the frame. -/
theorem wpIn_op {P : Program} {p : Oper} {a : Act} {w : World} {K : Act → World → Prop} {Q : Exit → Act → World → Prop} {rd : Option Nat} (hd : isDefer p.op = false)
    (h : p.uponIn (fenceR rd) 0 P a K Q ((execOp a.eval p).run P w)) : p.wpIn (fenceR rd) 0 P a w K Q := by
  refine ⟨fun _ _ => trivial, ?_⟩
  rw [show (fenceR rd).round = rd from rfl, Oper.semAt_eq rd a.eval p (fun c hc => by rw [hc] at hd; cases hd)]
  exact h

theorem act_put (ρ ρ' : Env) {nx : Nat} {fr : AFrame} (hf : frOK nx fr = true) (hag : ∀ n, n < nx → ρ'.σ n = ρ.σ n) {tm : List AV} {dst : Option Tmp} {v : AV} (h : AV.denL ρ' tm = AV.denL ρ tm) : (act ρ fr tm).put dst (v.den ρ') = act ρ' fr (setT tm dst v) := by
  cases dst with
  | none => simp only [Act.put, act, setT, h, marks_eq hag hf]
  | some d =>
    simp only [Act.put, act, setT, ← h, marks_eq hag hf]
    congr 1
    apply Array.ext'
    simp [denL_map, List.map_set]

theorem setT_ok {m : Nat} {tm : List AV} {dst : Option Tmp} {v : AV} (h : AV.okL m tm = true) (hv : v.ok m = true) : AV.okL m (setT tm dst v) = true := by
  cases dst with
  | none => exact h
  | some d =>
    rw [okL_iff] at h ⊢
    intro x hx
    rcases List.mem_or_eq_of_mem_set hx with hx | rfl
    · exact h x hx
    · exact hv

theorem below_of_post {ρ ρ' : Env} {h h' : AHeap} {nxt nxt' l : Nat} {w w' : World} (r : Rep w0.heap.size ρ h nxt w) (p : Post ρ ρ' h h' nxt nxt' l w w') (b : Below w0.heap.size w0 w) : Below w0.heap.size w0 w' :=
  b.trans (p.below r b.size)

/-- The guard, as it was reckoned. -/
theorem guard_sound {f : FuncId} {ops : Array Oper} {tm : List AV} {ora ora1 : List Bool} {p : Oper} {b : Bool} {l : List (Bool × Bool)} (h : guardOf C f ops tm ora p = some (b, ora1, l)) (hl : ∀ q ∈ l, q.1 = q.2)
    (ρ : Env) (tmps : Array Value) (ht : ∀ j want t, p.guard = some (j, want) → (ops[j]?).bind (·.dst) = some t → tmps[t]? = (AV.denL ρ tm)[t]?) : Region.wanted p (yielded ops tmps) = b := by
  unfold guardOf at h
  unfold Region.wanted
  split at h
  · rename_i hg
    simp only [Option.some.injEq, Prod.mk.injEq] at h
    rw [hg]; exact h.1
  · rename_i j want hg
    rw [hg]
    simp only
    have hy : yielded ops tmps j = match ((ops[j]?).bind (·.dst)).bind (tmps[·]?) with | some (.bool b) => some b | _ => none := rfl
    rw [listGet_eq, Array.getElem?_toList] at h
    split at h
    · rename_i t hd
      have ht' := ht j want t hg hd
      rw [hd] at hy
      simp only [Option.bind_some] at hy
      rw [ht', denL_map, List.getElem?_map] at hy
      rw [listGet_eq] at h
      split at h
      · rename_i b' hb
        rw [hb] at hy
        simp only [Option.map_some, AV.den] at hy
        rw [hy]
        split at h
        · cases ora with
          | nil => cases h
          | cons q ora2 =>
            simp only [Option.some.injEq, Prod.mk.injEq] at h
            obtain ⟨h1, -, rfl⟩ := h
            have := hl (b', q) (by simp)
            simp only at this
            subst this
            rw [← h1]
            cases b' <;> cases want <;> rfl
        · simp only [Option.some.injEq, Prod.mk.injEq] at h
          rw [← h.1]
          cases b' <;> cases want <;> rfl
      · cases h
      · rename_i hne hna
        simp only [Option.some.injEq, Prod.mk.injEq] at h
        rw [← h.1]
        cases hx : tm[t]? with
        | none => rw [hx] at hy; simp only [Option.map_none] at hy; rw [hy]; rfl
        | some x =>
          rw [hx] at hy
          have : (match (some (x.den ρ) : Option Value) with | some (.bool b) => some b | _ => none) = (none : Option Bool) := by
            cases x with
            | pure v =>
              cases v <;> first
                | rfl
                | exact absurd hx (by rename_i bb; exact fun e => hne bb e)
            | any n => exact absurd hx (hna n)
            | _ => rfl
          simp only [Option.map_some] at hy
          rw [hy, this]; rfl
    · rename_i hd
      rw [hd] at hy
      simp only [Option.bind_none] at hy
      simp only [Option.some.injEq, Prod.mk.injEq] at h
      rw [hy, ← h.1]; rfl

end
end Go.Ev
