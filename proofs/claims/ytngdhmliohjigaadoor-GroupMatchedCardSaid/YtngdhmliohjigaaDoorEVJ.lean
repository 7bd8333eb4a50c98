/- Running the program's functions on values that are known in part: what a run says of the program. -/
import Derived.Test.YtngdhmliohjigaaDoorEVI
set_option linter.unusedVariables false
set_option linter.unusedSimpArgs false
set_option linter.unusedSectionVars false
set_option linter.unnecessarySimpa false
namespace Go.Ev
open Go.RowKit

/-- What is taken of the program, and of the worlds in which it runs. -/
structure Good (C : Ctx) (G : World → Prop) : Prop where
  mixed : C.P.follows .mixedOrders = true
  names : ∀ (g : FuncId) (fn : Func), C.P.funcs[g]? = some fn → (fn.name == "runtime.NumGoroutine") = false
  code : ∀ (g : FuncId) (fn : Func) (c : Code), C.fine g = true → C.P.funcs[g]? = some fn → fn.body = some c → okCode c = true
  tab : ∀ w, G w → Tab C.tab w
  stable : ∀ w w', G w → Below w.heap.size w w' → G w'

/-- A contract: called with these values, it returns this one, and turns nothing. -/
def CallOK (C : Ctx) (G : World → Prop) (q : FuncId × List Value × Value) : Prop :=
  ∀ w, G w → Calls C.P q.1 q.2.1.toArray w fun e w' => e = .returned q.2.2 ∧ Below w.heap.size w w'

/-- What a run has asked for holds. -/
def Holds (C : Ctx) (G : World → Prop) (l : Log) : Prop := (∀ p ∈ l.conds, p.1 = p.2) ∧ ∀ q ∈ l.calls, CallOK C G q

def exitOf : AX → Exit
  | .normal => .normal
  | .exit id => .exit id
  | .ret => .ret
  | .val _ => .outgrown

def isVal : AX → Bool
  | .val _ => true
  | _ => false

theorem behind_eq {low : Nat} {l : List (Bool × Bool)} {k : List (FuncId × List Value × Value)} {r : Option Out} {o : Out} (h : behind low l k r = some o) :
    ∃ o1, r = some o1 ∧ o = ⟨o1.x, o1.st, Nat.min low o1.low, ⟨l ++ o1.log.conds, k ++ o1.log.calls⟩⟩ := by
  unfold behind at h
  split at h
  · rename_i x s2 l2 c2 k2
    simp only [Option.some.injEq] at h
    exact ⟨_, rfl, h.symm⟩
  · cases h

theorem Holds.left {C : Ctx} {G : World → Prop} {c c' : List (Bool × Bool)} {k k' : List (FuncId × List Value × Value)} (h : Holds C G ⟨c ++ c', k ++ k'⟩) : Holds C G ⟨c, k⟩ :=
  ⟨fun p hp => h.1 p (List.mem_append_left _ hp), fun q hq => h.2 q (List.mem_append_left _ hq)⟩
theorem Holds.right {C : Ctx} {G : World → Prop} {c c' : List (Bool × Bool)} {k k' : List (FuncId × List Value × Value)} (h : Holds C G ⟨c ++ c', k ++ k'⟩) : Holds C G ⟨c', k'⟩ :=
  ⟨fun p hp => h.1 p (List.mem_append_right _ hp), fun q hq => h.2 q (List.mem_append_right _ hq)⟩

section
variable (C : Ctx) (G : World → Prop) (w0 : World)

/-- The continuation holds wherever the run may have ended. -/
def Ends (ρ : Env) (s : St) (o : Out) (w : World) (K : Env → World → Prop) : Prop :=
  ∀ ρ' w', Rep w0.heap.size ρ' o.st.heap o.st.nxt w' → Post ρ ρ' s.heap o.st.heap s.nxt o.st.nxt o.low w w' → K ρ' w'

def act (ρ : Env) (tm : List AV) : Act := ⟨(AV.denL ρ tm).toArray, []⟩

def CodeOK (c : Code) (s : St) (o : Out) : Prop :=
  isVal o.x = false ∧ AV.okL o.st.nxt o.st.tmps = true ∧ s.nxt ≤ o.st.nxt ∧
  ∀ ρ w Q, Rep w0.heap.size ρ s.heap s.nxt w → Below w0.heap.size w0 w → Ends w0 ρ s o w (fun ρ' w' => Q (exitOf o.x) (act ρ' o.st.tmps) w') → c.wp C.P Q (act ρ s.tmps) w

def LoopOK (n : Nat) (c : Code) (s : St) (o : Out) : Prop :=
  isVal o.x = false ∧ AV.okL o.st.nxt o.st.tmps = true ∧ s.nxt ≤ o.st.nxt ∧
  ∀ ρ w Q, Rep w0.heap.size ρ s.heap s.nxt w → Below w0.heap.size w0 w → Ends w0 ρ s o w (fun ρ' w' => Q (exitOf o.x) (act ρ' o.st.tmps) w') → Code.rounds C.P c Q n (act ρ s.tmps) w

def OpsOK (ops : Array Oper) (todo : List Oper) (s : St) (o : Out) : Prop :=
  o.x = .normal ∧ AV.okL o.st.nxt o.st.tmps = true ∧ s.nxt ≤ o.st.nxt ∧
  ∀ k, ops.toList.drop k = todo → ∀ ρ w Q, Rep w0.heap.size ρ s.heap s.nxt w → Below w0.heap.size w0 w → Ends w0 ρ s o w (fun ρ' w' => Q .normal (act ρ' o.st.tmps) w') →
    wpOps C.P ops Q (List.range' k (ops.size - k)) (act ρ s.tmps) w

def OpOK (p : Oper) (s : St) (o : Out) : Prop :=
  ∃ v, o.x = .val v ∧ v.ok o.st.nxt = true ∧ o.st.tmps = s.tmps ∧ s.nxt ≤ o.st.nxt ∧
  ∀ ρ a w K Q, (∀ x ∈ p.op.operands, a.eval x = (aeval s.tmps x).den ρ) → Rep w0.heap.size ρ s.heap s.nxt w → Below w0.heap.size w0 w →
    Ends w0 ρ s o w (fun ρ' w' => K (a.put p.dst (v.den ρ')) w') → p.wp C.P a w K Q

def EnterOK (g : FuncId) (vs : List AV) (s : St) (o : Out) : Prop :=
  ∃ v, o.x = .val v ∧ v.ok o.st.nxt = true ∧ s.nxt ≤ o.st.nxt ∧
  ∀ ρ w, Rep w0.heap.size ρ s.heap s.nxt w → Below w0.heap.size w0 w →
    Calls C.P g (AV.denL ρ vs).toArray w fun e w' => ∃ ρ', e = .returned (v.den ρ') ∧ Rep w0.heap.size ρ' o.st.heap o.st.nxt w' ∧ Post ρ ρ' s.heap o.st.heap s.nxt o.st.nxt o.low w w'
end

section
variable {C : Ctx} {G : World → Prop} {w0 : World}

theorem stay_eq {x : AX} {s : St} {o : Out} (h : stay x s = some o) : o = ⟨x, s, s.nxt, ⟨[], []⟩⟩ := by
  obtain ⟨tm, hh, nx, ora, rs⟩ := s
  simp only [stay, Option.some.injEq] at h
  exact h.symm

theorem Ends.stay {ρ : Env} {s : St} {x : AX} {w : World} {K : Env → World → Prop} {l : Log} (hr : Rep w0.heap.size ρ s.heap s.nxt w) (h : Ends w0 ρ s ⟨x, s, s.nxt, l⟩ w K) : K ρ w :=
  h ρ w hr (Post.refl hr _)

/-- Two runs, one behind the other. -/
theorem Ends.trans {ρ : Env} {s : St} {o1 : Out} {o2 : Out} {x : AX} {l : Log} {w : World} {K : Env → World → Prop} (hr : Rep w0.heap.size ρ s.heap s.nxt w) {ρ1 : Env} {w1 : World}
    (hr1 : Rep w0.heap.size ρ1 o1.st.heap o1.st.nxt w1) (hp1 : Post ρ ρ1 s.heap o1.st.heap s.nxt o1.st.nxt o1.low w w1) (h : Ends w0 ρ s ⟨x, o2.st, Nat.min o1.low o2.low, l⟩ w K) : Ends w0 ρ1 o1.st o2 w1 K :=
  fun ρ' w' r p => h ρ' w' r (hp1.trans hr hr1 p)

theorem act_eval (ρ : Env) (tm : List AV) (x : Operand) : (act ρ tm).eval x = (aeval tm x).den ρ := aeval_den ρ tm [] x

theorem act_put (ρ ρ' : Env) {tm : List AV} {dst : Option Tmp} {v : AV} (h : AV.denL ρ' tm = AV.denL ρ tm) : (act ρ tm).put dst (v.den ρ') = act ρ' (setT tm dst v) := by
  cases dst with
  | none => simp [Act.put, act, setT, h]
  | some d =>
    simp only [Act.put, act, setT, ← h]
    congr 1
    apply Array.ext'
    simp [denL_map, List.map_set]

theorem setT_ok {m : Nat} {tm : List AV} {dst : Option Tmp} {v : AV} (h : AV.okL m tm = true) (hv : v.ok m = true) : AV.okL m (setT tm dst v) = true := by
  cases dst with
  | none => exact h
  | some d =>
    rw [okL_iff] at h ⊢
    intro x hx
    rcases List.mem_or_eq_of_mem_set hx with hx | rfl
    · exact h x hx
    · exact hv

theorem below_of_post {ρ ρ' : Env} {h h' : AHeap} {nxt nxt' l : Nat} {w w' : World} (r : Rep w0.heap.size ρ h nxt w) (p : Post ρ ρ' h h' nxt nxt' l w w') (b : Below w0.heap.size w0 w) : Below w0.heap.size w0 w' :=
  b.trans (p.below r b.size)

/-- The guard, as it was reckoned. -/
theorem guard_sound {f : FuncId} {ops : Array Oper} {tm : List AV} {ora ora1 : List Bool} {p : Oper} {b : Bool} {l : List (Bool × Bool)} (h : guardOf C f ops tm ora p = some (b, ora1, l)) (hl : ∀ q ∈ l, q.1 = q.2)
    (ρ : Env) (tmps : Array Value) (ht : ∀ j want t, p.guard = some (j, want) → (ops[j]?).bind (·.dst) = some t → tmps[t]? = (AV.denL ρ tm)[t]?) : Region.wanted p (yielded ops tmps) = b := by
  unfold guardOf at h
  unfold Region.wanted
  split at h
  · rename_i hg
    simp only [Option.some.injEq, Prod.mk.injEq] at h
    rw [hg]; exact h.1
  · rename_i j want hg
    rw [hg]
    simp only
    have hy : yielded ops tmps j = match ((ops[j]?).bind (·.dst)).bind (tmps[·]?) with | some (.bool b) => some b | _ => none := rfl
    rw [listGet_eq, Array.getElem?_toList] at h
    split at h
    · rename_i t hd
      have ht' := ht j want t hg hd
      rw [hd] at hy
      simp only [Option.bind_some] at hy
      rw [ht', denL_map, List.getElem?_map] at hy
      rw [listGet_eq] at h
      split at h
      · rename_i b' hb
        rw [hb] at hy
        simp only [Option.map_some, AV.den] at hy
        rw [hy]
        split at h
        · cases ora with
          | nil => cases h
          | cons q ora2 =>
            simp only [Option.some.injEq, Prod.mk.injEq] at h
            obtain ⟨h1, -, rfl⟩ := h
            have := hl (b', q) (by simp)
            simp only at this
            subst this
            rw [← h1]
            cases b' <;> cases want <;> rfl
        · simp only [Option.some.injEq, Prod.mk.injEq] at h
          rw [← h.1]
          cases b' <;> cases want <;> rfl
      · rename_i hne
        simp only [Option.some.injEq, Prod.mk.injEq] at h
        rw [← h.1]
        cases hx : tm[t]? with
        | none => rw [hx] at hy; simp only [Option.map_none] at hy; rw [hy]; rfl
        | some x =>
          rw [hx] at hy
          have : (match (some (x.den ρ) : Option Value) with | some (.bool b) => some b | _ => none) = (none : Option Bool) := by
            cases x with
            | pure v =>
              cases v <;> first
                | rfl
                | exact absurd hx (by rename_i bb; exact fun e => hne bb e)
            | _ => rfl
          simp only [Option.map_some] at hy
          rw [hy, this]; rfl
    · rename_i hd
      rw [hd] at hy
      simp only [Option.bind_none] at hy
      simp only [Option.some.injEq, Prod.mk.injEq] at h
      rw [hy, ← h.1]; rfl

end
end Go.Ev
