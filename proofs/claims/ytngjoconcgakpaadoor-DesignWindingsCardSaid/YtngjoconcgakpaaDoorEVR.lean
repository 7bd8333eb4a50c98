/- Running the program's functions on values that are known in part: ranges over functions, and their rounds. -/
import Derived.Test.YtngjoconcgakpaaDoorEVK
set_option linter.unusedVariables false
set_option linter.unusedSimpArgs false
set_option linter.unusedSectionVars false
set_option linter.unnecessarySimpa false
namespace Go.Ev
open Go.RowKit

section
variable {C : Ctx} {G : World → Prop} {w0 : World} {R : Rec}

theorem act_old {ρ ρ' : Env} {nx : Nat} {fr : AFrame} {tm : List AV} (hag : ∀ n, n < nx → ρ'.σ n = ρ.σ n ∧ ρ'.kk n = ρ.kk n) (hf : frOK nx fr = true) (ht : AV.okL nx tm = true) : act ρ' fr tm = act ρ fr tm := by
  unfold act
  rw [marks_eq (fun n hn => (hag n hn).1) hf, denL_agree hag tm ht]

/-- The function that is ranged over, and what follows. -/
theorem rangeRun_ok {f : FuncId} {q : FuncId × List AV × List AV} {ps : Array Tmp} {asg body : Code} {tm : List AV} {h : AHeap} {l : Nat} {ora : List Bool} {vals : List Value} {fr : AFrame} {o : Out}
    (hrun : rangeRun R f q ps asg body tm h l ora vals fr = some o) (hl : Holds C G o.log)
    (henter : ∀ g vs s o, R (.enter g vs) s = some o → Holds C G o.log → EnterOK C w0 g vs s o) (hasg : okCode asg = true) (hbody : okCode body = true) (htm : AV.okL l tm = true) (hfr : frOK l fr = true) (hq1 : AV.okL l q.2.1 = true) (hq2 : AV.okL l q.2.2 = true) :
    isVal o.x = false ∧ StOK o.st ∧ l ≤ o.st.nxt ∧ o.st.res.fr = fr ∧
    ∀ (ρ : Env) (w : World) (fn : FuncId) (D : Nat) (rd : Option Nat) (Q : Exit → Act → World → Prop) (N : Nat), N = w.heap.size → Rep w0.heap.size ρ h l w → Below w0.heap.size w0 w →
      (∀ ρ' w', Rep w0.heap.size ρ' o.st.heap o.st.nxt w' → Post ρ ρ' h o.st.heap l o.st.nxt o.low w w' → Q (exitOf o.x) (act ρ' o.st.res.fr o.st.tmps) w') →
      Calls C.P q.1 ((AV.denL ρ q.2.1).toArray ++ #[.func (.yield N) #[] #[]] ++ (AV.denL ρ q.2.2).toArray)
        (w.alloc (.loop { state := .ready, pending := none, fn := fn, tmps := (AV.denL ρ tm).toArray, params := ps, assign := asg, body := body, defers := D }))
        (rangePost (fenceR rd) 0 C.P N Q (act ρ fr tm)) := by
  unfold rangeRun rangeEnd at hrun
  split at hrun
  · rename_i v tm' h1 nx1 ora1 rs1 l1 g1 he
    split at hrun
    · rename_i cs on r hrec
      have key : ∀ (x : AX) (jump : Option Code), r.st.state ≠ .busy → r.st.pending = jump → isVal x = false → (∀ (rd : Option Nat) (Q : Exit → Act → World → Prop) a w, Q (exitOf x) a w → match jump with | none => Q .normal a w | some c => c.wpIn (fenceR rd) 0 C.P Q a w) →
          some (⟨x, ⟨tm, hdel h1 l, nx1, ora1, ⟨rs1.vals, fr⟩⟩, l1, g1⟩ : Out) = some o →
          isVal o.x = false ∧ StOK o.st ∧ l ≤ o.st.nxt ∧ o.st.res.fr = fr ∧
          ∀ (ρ : Env) (w : World) (fn : FuncId) (D : Nat) (rd : Option Nat) (Q : Exit → Act → World → Prop) (N : Nat), N = w.heap.size → Rep w0.heap.size ρ h l w → Below w0.heap.size w0 w →
            (∀ ρ' w', Rep w0.heap.size ρ' o.st.heap o.st.nxt w' → Post ρ ρ' h o.st.heap l o.st.nxt o.low w w' → Q (exitOf o.x) (act ρ' o.st.res.fr o.st.tmps) w') →
            Calls C.P q.1 ((AV.denL ρ q.2.1).toArray ++ #[.func (.yield N) #[] #[]] ++ (AV.denL ρ q.2.2).toArray)
              (w.alloc (.loop { state := .ready, pending := none, fn := fn, tmps := (AV.denL ρ tm).toArray, params := ps, assign := asg, body := body, defers := D }))
              (rangePost (fenceR rd) 0 C.P N Q (act ρ fr tm)) := by
        intro x jump hst hpe hx hj heq
        simp only [Option.some.injEq] at heq
        subst heq
        obtain ⟨v', a1, a2, a3, a4⟩ := henter _ _ _ _ he hl
        simp only at a3 a4
        have hle : l ≤ nx1 := by omega
        refine ⟨hx, ⟨okL_mono hle _ htm, frOK_mono hle hfr⟩, hle, rfl, fun ρ w fn D rd Q N hN hr hb hQ => ?_⟩
        subst hN
        obtain ⟨r1, p1⟩ := rep_newB (nxt := l) hr hb.size ⟨tm, none, .loop ⟨f, ps, asg, body, .ready⟩⟩ htm (.loop { state := .ready, pending := none, fn := fn, tmps := (AV.denL ρ tm).toArray, params := ps, assign := asg, body := body, defers := D }) 0
          ⟨hasg, hbody, fn, D, by
            have ag : ∀ n, n < l → (ρ.with l w.heap.size 0).σ n = ρ.σ n ∧ (ρ.with l w.heap.size 0).kk n = ρ.kk n := fun n hn => Env.with_agree _ _ _ _ _ (by omega)
            rw [denL_agree ag tm htm]; rfl⟩
        have hargs : (AV.denL (ρ.with l w.heap.size 0) (q.2.1 ++ [.yld l] ++ q.2.2)).toArray = (AV.denL ρ q.2.1).toArray ++ #[.func (.yield w.heap.size) #[] #[]] ++ (AV.denL ρ q.2.2).toArray := by
          have ag : ∀ n, n < l → (ρ.with l w.heap.size 0).σ n = ρ.σ n ∧ (ρ.with l w.heap.size 0).kk n = ρ.kk n := fun n hn => Env.with_agree _ _ _ _ _ (by omega)
          rw [denL_append, denL_append, denL_agree ag _ hq1, denL_agree ag _ hq2]
          simp [AV.denL, AV.den, Env.with_σ]
        have hc := a4 _ _ r1 (below_of_post hr p1 hb)
        rw [hargs] at hc
        refine hc.mono fun e w' ⟨ρ', he', r2, p2⟩ => ?_
        subst he'
        have hblk := r2.block l _ hrec
        simp only [BlockOK] at hblk
        obtain ⟨-, -, fn', D', hobj⟩ := hblk
        have hσ : ρ'.σ l = w.heap.size := by rw [(p2.agree l (.inl (by omega))).1, Env.with_σ]
        rw [hσ] at hobj
        have hend := run_endLoop (P := C.P) hobj hst
        obtain ⟨r3, p3⟩ := rep_drop r2 hrec (w'.putObj w.heap.size (.loop { state := .exhausted, pending := r.st.pending, fn := fn', tmps := (AV.denL ρ' cs).toArray, params := r.ps, assign := r.asg, body := r.body, defers := D' })) rfl rfl rfl (by simp) (fun k hk => World.putObj_heap_other (by rw [hσ] at hk; exact hk))
        have p4 := (p1.trans hr r1 p2).trans hr r2 p3
        have p5 : Post ρ ρ' h (hdel h1 l) l nx1 l1 w _ := p4.low_of fun n h1 h2 => by simp only [Nat.lt_min]; omega
        have hq := hQ ρ' _ r3 p5
        rw [act_old (fun n hn => p5.agree n (.inl hn)) hfr htm] at hq
        have hq9 := hj rd Q _ _ hq
        refine ⟨jump, _, by rw [← hpe]; exact hend, ?_⟩
        cases jump with
        | none => exact hq9
        | some c => exact hq9
      split at hrun
      · rename_i hst
        exact key .normal none (by rw [hst]; simp [RState.state]) (by rw [hst]; rfl) rfl (fun rd Q a w hq => hq) hrun
      · rename_i hst
        exact key .ret (some .ret) (by rw [hst]; simp [RState.state]) (by rw [hst]; rfl) rfl (fun rd Q a w hq => wpIn_ret hq) hrun
      · rename_i id hst
        exact key (.exit id) (some (.exit id)) (by rw [hst]; simp [RState.state]) (by rw [hst]; rfl) rfl (fun rd Q a w hq => wpIn_exit hq) hrun
      · cases hrun
    · cases hrun
  · cases hrun

theorem funOf_spec {x : AV} {g : FuncId} {us vs : List AV} (h : funOf x = some (g, us, vs)) (ρ : Env) : x.den ρ = .func (.func g) (AV.denL ρ us).toArray (AV.denL ρ vs).toArray ∧ ∀ m, x.ok m = true → AV.okL m us = true ∧ AV.okL m vs = true := by
  unfold funOf at h
  split at h
  · cases h
    refine ⟨by simp [AV.den, denL_pure], fun m _ => ⟨?_, ?_⟩⟩
    · rw [okL_iff]; intro x hx; obtain ⟨v, -, rfl⟩ := List.mem_map.1 hx; simp [AV.ok, AV.within]
    · rw [okL_iff]; intro x hx; obtain ⟨v, -, rfl⟩ := List.mem_map.1 hx; simp [AV.ok, AV.within]
  · cases h
    refine ⟨by simp [AV.den], fun m hm => ?_⟩
    simpa [AV.ok, AV.okL, AV.within] using hm
  · cases h

theorem aeval_ok {m : Nat} {tm : List AV} (ht : AV.okL m tm = true) (x : Operand) : (aeval tm x).ok m = true := by
  cases x with
  | tmp t =>
    simp only [aeval, slot_eq]
    rw [List.getD_eq_getElem?_getD]
    cases hx : tm[t]? with
    | none => simp [AV.ok, AV.within]
    | some y => exact (okL_iff _ _).1 ht y (List.mem_of_getElem? hx)
  | const v => simp [aeval, AV.ok, AV.within]
  | global g => simp [aeval, AV.ok, AV.within]
  | func f => simp [aeval, AV.ok, AV.within]

theorem range_ok (hg : Good C G) {f : FuncId} {g : Operand} {ps : Array Tmp} {asg body : Code} {s : St} {o : Out} (h : goRange C R f g ps asg body s = some o) (hl : Holds C G o.log)
    (henter : ∀ g vs s o, R (.enter g vs) s = some o → Holds C G o.log → EnterOK C w0 g vs s o) (hasg : okCode asg = true) (hbody : okCode body = true) (hk : StOK s) : CodeOK C w0 (.rangeFunc g ps asg body) s o := by
  obtain ⟨tm, hh, nx, ora, rs⟩ := s
  obtain ⟨hk1, hk2⟩ := hk
  simp only at hk1 hk2
  unfold goRange at h
  simp only at h
  split at h
  · rename_i q hq
    obtain ⟨gf, us, vs⟩ := q
    split at h
    · rename_i hb0
      have hfn : ∃ fn, C.P.funcs[gf]? = some fn ∧ fn.body.isSome = true := by
        split at hb0
        · rename_i fn hfn
          rw [listGet_eq, Array.getElem?_toList] at hfn
          exact ⟨fn, hfn, hb0⟩
        · cases hb0
      obtain ⟨fn0, hfn, hb⟩ := hfn
      have hnone : fn0.body.isNone = false := by cases hbb : fn0.body <;> simp_all
      have hcf : ∀ args w, (callFunc gf args).run C.P w = .ok (.enter gf args) w := fun args w => by
        simp only [callFunc, Sem.run_bind, run_program, Result.andThen_ok, hfn, hg.names gf fn0 hfn, hnone, Bool.false_eq_true, if_false, Sem.run_pure]
      have hoks := (funOf_spec hq ⟨id, fun _ => ⟨0, noVal⟩⟩).2 nx (aeval_ok hk1 g)
      have hres : ∀ ρ l w, (resolve (act ρ rs.fr tm).eval (rangeCall g l) 0).run C.P w = .ok { target := .fn (.func gf) (AV.denL ρ vs).toArray, args := (AV.denL ρ us).toArray ++ #[.func (.yield l) #[] #[]] } w := fun ρ l w => by
        have hge : (act ρ rs.fr tm).eval g = .func (.func gf) (AV.denL ρ us).toArray (AV.denL ρ vs).toArray := by rw [act_eval]; exact (funOf_spec hq ρ).1
        simp only [resolve, rangeCall, hge, Deferred.ofValue, Sem.run_pure]
        simp [Act.eval]
      split at h
      · rename_i hrn
        rw [withNat_eq] at h
        obtain ⟨a1, a2, a3, a4, a5⟩ := rangeRun_ok (w0 := w0) h hl henter hasg hbody (okL_mono (by omega) _ hk1) (by
          simp only [frOK, Bool.and_eq_true, List.all_eq_true] at hk2 ⊢
          refine ⟨trivial, fun d hd => ?_⟩
          rcases List.mem_cons.1 hd with rfl | hd
          · simp [Nat.blt_eq]
          · have := blt_lt (hk2.2 d hd); simp [Nat.blt_eq]; omega) (okL_mono (by omega) _ hoks.1) (okL_mono (by omega) _ hoks.2)
        refine ⟨a1, a2, ⟨by simp only; omega, by rw [a4, hrn]⟩, fun ρ w Q hr hbw hE => ?_⟩
        have hfe : fenceOf ρ rs.fr = fenceR none := by unfold fenceOf; rw [hrn]; rfl
        simp only [hfe]
        refine wpIn_rangeFunc fun fn _ => ⟨_, _, _, _, _, gf, (AV.denL ρ us).toArray ++ #[.func (.yield (w.heap.size + 1)) #[] #[]] ++ (AV.denL ρ vs).toArray, (w.alloc (.deferred (some []))).alloc (.loop { state := .ready, pending := none, fn := fn, tmps := (act ρ rs.fr tm).tmps, params := ps, assign := asg, body := body, defers := w.heap.size }), run_enterLoop_outer fn _ ps asg body, hres ρ _ _, fun _ _ => trivial, ?_, fun h => (by cases h), ?_⟩
        · simp only [invoke]
          exact hcf _ _
        · obtain ⟨r1, p1⟩ := rep_newB hr hbw.size ⟨[], none, .dfr⟩ rfl (.deferred (some [])) 0 rfl
          have := a5 _ _ fn w.heap.size none Q (w.heap.size + 1) (World.size_alloc w _).symm r1 (below_of_post hr p1 hbw) (fun ρ' w' r2 p2 => hE ρ' w' r2 ((p1.trans hr r1 p2).low_of fun n h1 h2 => by simp only [Nat.lt_min]; simp only at h1 h2; omega))
          have ag : ∀ n, n < nx → (ρ.with nx w.heap.size 0).σ n = ρ.σ n ∧ (ρ.with nx w.heap.size 0).kk n = ρ.kk n := fun n hn => Env.with_agree _ _ _ _ _ (by omega)
          simp only [denL_agree ag _ hoks.1, denL_agree ag _ hoks.2, denL_agree ag _ hk1] at this
          have hact : act (ρ.with nx w.heap.size 0) ⟨none, nx :: rs.fr.marks⟩ tm = { act ρ rs.fr tm with defers := [{ target := .collected w.heap.size, args := #[] }] ++ (act ρ rs.fr tm).defers } := by
            have hm : (rs.fr.marks.map fun d => ({ target := .collected ((ρ.with nx w.heap.size 0).σ d), args := #[] } : Deferred)) = rs.fr.marks.map fun d => { target := .collected (ρ.σ d), args := #[] } := marks_eq (nx := nx) (fun n hn => (ag n hn).1) hk2
            unfold act
            simp only [List.map_cons, hm, Env.with_σ, denL_agree ag _ hk1, List.singleton_append]
          rw [hact] at this
          exact (callsIn_wide (n := 0)).2 this
      · rename_i l0 hrn
        split at h
        · rename_i cs0 on0 r0 hrec0
          obtain ⟨a1, a2, a3, a4, a5⟩ := rangeRun_ok (w0 := w0) h hl henter hasg hbody hk1 hk2 hoks.1 hoks.2
          refine ⟨a1, a2, ⟨a3, by rw [a4]⟩, fun ρ w Q hr hbw hE => ?_⟩
          have hfe : fenceOf ρ rs.fr = fenceR (some (ρ.σ l0)) := by unfold fenceOf; rw [hrn]; rfl
          have hblk := hr.block l0 _ hrec0
          simp only [BlockOK] at hblk
          obtain ⟨-, -, fn', D', hobj⟩ := hblk
          simp only [hfe]
          have hin : ∀ fn, (Instr.enterLoop fn (act ρ rs.fr tm).tmps ps asg body (some (ρ.σ l0))).run C.P w =
              .ok (w.heap.size, []) (w.alloc (.loop { state := .ready, pending := none, fn := fn, tmps := (act ρ rs.fr tm).tmps, params := ps, assign := asg, body := body, defers := D' })) := fun fn => by
            unfold Instr.enterLoop
            simp only [Sem.run_bind, run_getLoop hobj, run_newObj_alloc, Result.andThen, Sem.run_pure]
          refine wpIn_rangeFunc fun fn _ => ⟨_, _, _, _, _, gf, (AV.denL ρ us).toArray ++ #[.func (.yield w.heap.size) #[] #[]] ++ (AV.denL ρ vs).toArray, w.alloc (.loop { state := .ready, pending := none, fn := fn, tmps := (act ρ rs.fr tm).tmps, params := ps, assign := asg, body := body, defers := D' }), hin fn, hres ρ _ _, fun _ _ => trivial, ?_, fun h => (by cases h), ?_⟩
          · simp only [invoke]
            exact hcf _ _
          · have := a5 _ _ fn D' (some (ρ.σ l0)) Q w.heap.size rfl hr hbw (fun ρ' w' r2 p2 => hE ρ' w' r2 p2)
            exact (callsIn_wide (n := 0)).2 this
        · cases h
    · cases h
  · cases h

theorem fold_den (ρ : Env) (ps : List Tmp) : ∀ (args : List AV) (cs : List AV), ((ps.zip (AV.denL ρ args)).foldl (fun tmps (p : Tmp × Value) => tmps.setIfInBounds p.1 p.2) (AV.denL ρ cs).toArray) = (AV.denL ρ ((ps.zip args).foldl (fun tm p => tm.set p.1 p.2) cs)).toArray := by
  induction ps with
  | nil => intro args cs; rfl
  | cons p ps ih =>
    intro args cs
    cases args with
    | nil => simp [AV.denL]
    | cons x args =>
      simp only [AV.denL, List.zip_cons_cons, List.foldl_cons]
      rw [← ih args (cs.set p x)]
      congr 1
      apply Array.ext'
      simp [denL_map, List.map_set]

theorem yieldOf_spec {tm : List AV} {c : Call} {l : Nat} {args : List AV} (h : yieldOf tm c = some (l, args)) : ∃ x, c.callee = .value x ∧ aeval tm x = .yld l ∧ args = c.args.toList.map (aeval tm) := by
  unfold yieldOf at h
  split at h
  · rename_i x hc
    split at h
    · rename_i l' hx
      cases h
      exact ⟨x, hc, hx, rfl⟩
    · cases h
  · cases h

theorem yield_ok {p : Oper} {c : Call} (hp : p.op = .call c) {s : St} {l : Nat} {args : List AV} {o : Out} (hy : yieldOf s.tmps c = some (l, args)) (h : goYield R l args s = some o) (hl : Holds C G o.log)
    (hcode : ∀ f c s o, R (.code f c) s = some o → Holds C G o.log → okCode c = true → StOK s → CodeOK C w0 c s o) (hk : StOK s) : OpOK C w0 p s o := by
  obtain ⟨tm, hh, nx, ora, rs⟩ := s
  obtain ⟨hk1, hk2⟩ := hk
  simp only at hk1 hk2 hy
  obtain ⟨x, hcx, hxl, rfl⟩ := yieldOf_spec hy
  have hlx : l < nx := by
    have := aeval_ok hk1 x
    rw [hxl] at this
    exact blt_lt this
  unfold goYield at h
  simp only at h
  split at h
  · rename_i cs on r hrec
    split at h
    · rename_i hst hlen
      simp only [Bool.and_eq_true] at hlen
      obtain ⟨⟨hlen, hasg⟩, hbody⟩ := hlen
      rw [setMany_eq] at h
      split at h
      rotate_left
      · cases h
      rename_i hok1
      unfold yieldMid at h
      split at h
      · rename_i tm2 h2 nx2 ora2 rs2 l2 c2 k2 hr1
        split at h
        · rename_i cs2 on2 r2 hrec2
          split at h
          · rename_i hst2
            rw [hputK_eq] at h
            unfold yieldEnd at h
            split at h
            · rename_i x3 tm3 h3 nx3 ora3 rs3 l3 c3 k3 hr2
              split at h
              · rename_i cs3 on3 r3 j b hrec3 hjump
                split at h
                · rename_i hst3
                  rw [hputK_eq] at h
                  simp only [Option.some.injEq] at h
                  subst h
                  have hl3 : Holds C G ⟨c3, k3⟩ := hl.right
                  have hl2 : Holds C G ⟨c2, k2⟩ := hl.left
                  obtain ⟨a1, a2, a3, a4⟩ := hcode _ _ _ _ hr1 hl2 hasg ⟨hok1, by simp only [frOK, Bool.and_eq_true]; exact ⟨by simpa [Nat.blt_eq] using hlx, rfl⟩⟩
                  obtain ⟨b1, b2, b3, b4⟩ := hcode _ _ _ _ hr2 hl3 hbody a2
                  simp only at a2 a3 a4 b2 b3 b4
                  refine ⟨.pure (.bool b), rfl, by simp [AV.ok, AV.within], rfl, ⟨Nat.le_trans a3.1 b3.1, rfl⟩, fun rd ρ a w K Q he hr hb hE => wpIn_op (by rw [hp]; rfl) ?_⟩
                  have hblk := hr.block l _ hrec
                  simp only [BlockOK] at hblk
                  obtain ⟨-, -, fn, D, hobj⟩ := hblk
                  have hxe : a.eval x = .func (.yield (ρ.σ l)) #[] #[] := by
                    rw [he x (by simp [hp, Op.operands, Call.operands, hcx]), hxl]; rfl
                  have hargs : c.args.map a.eval = (AV.denL ρ (c.args.toList.map (aeval tm))).toArray := map_den_list ρ tm c.args (fun y hy => he y (by simp [hp, Op.operands, Call.operands]; exact .inr (by simpa using hy)))
                  have hsz : (AV.denL ρ (c.args.toList.map (aeval tm))).toArray.size = r.ps.size := by
                    rw [List.size_toArray, denL_length]; exact Nat.eq_of_beq_eq_true hlen
                  have hy1 := run_yield (P := C.P) hobj hsz
                  have hrun : (execOp a.eval p).run C.P w = .ok (.round (ρ.σ l) fn ((AV.denL ρ ((r.ps.toList.zip (c.args.toList.map (aeval tm))).foldl (fun tm p => tm.set p.1 p.2) cs)).toArray) r.asg r.body) w := by
                    have e1 : execOp a.eval p = (do let d ← resolve a.eval c p.type; invoke d.target d.args : Sem Next) := by unfold execOp; rw [hp]
                    rw [e1]
                    simp only [resolve, hcx, hxe, Deferred.ofValue, Sem.run_bind, Sem.run_pure, Result.andThen_ok, invoke, hargs]
                    rw [← fold_den]
                    have e2 : (r.ps.zip (AV.denL ρ (c.args.toList.map (aeval tm))).toArray).foldl (fun tmps (t, a) => tmps.setIfInBounds t a) (AV.denL ρ cs).toArray = (r.ps.toList.zip (AV.denL ρ (c.args.toList.map (aeval tm)))).foldl (fun tmps (p : Tmp × Value) => tmps.setIfInBounds p.1 p.2) (AV.denL ρ cs).toArray := by
                      rw [← Array.foldl_toList]
                      simp
                    rw [← e2]
                    simpa using hy1
                  rw [hrun, Oper.uponIn_round]
                  refine ⟨fun h => (by cases h), roundIn_of_wpIn trivial ?_⟩
                  have hasg' := a4 ρ w (Exit.then (fun a₁ w₁ => ∃ w₂, (Instr.beginRound (ρ.σ l)).run C.P w₁ = .ok () w₂ ∧ r.body.wpIn (fenceR (some (ρ.σ l))) 0 C.P (roundPost C.P (ρ.σ l) fun
                      | .returned v, w'' => K (a.put p.dst v) w''
                      | .panicked chain, w'' => Q (.panic chain) a w''
                      | .outgrown, _ => LetsOut Q) a₁ w₂) (fun _ _ _ => False)) hr hb (fun ρ1 w1 r1 p1 => ?_)
                  · exact hasg'
                  have hb1 := below_of_post hr p1 hb
                  have hσ1 : ρ1.σ l = ρ.σ l := p1.σ_old l hlx
                  have hblk2 := r1.block l _ hrec2
                  simp only [BlockOK, hst2, RState.state, RState.pending] at hblk2
                  obtain ⟨o1, o2, fn2, D2, hobj2⟩ := hblk2
                  rw [hσ1] at hobj2
                  have hlt2 := (Array.getElem?_eq_some_iff.1 hobj2).1
                  refine ⟨_, run_beginRound hobj2 rfl, ?_⟩
                  obtain ⟨r2', p2'⟩ := rep_putB r1 hrec2 ⟨cs2, on2, .loop ⟨r2.f, r2.ps, r2.asg, r2.body, .busy⟩⟩ (r1.scope l _ hrec2).2 (w1.putObj (ρ.σ l) (.loop { state := .busy, pending := none, fn := fn2, tmps := (AV.denL ρ1 cs2).toArray, params := r2.ps, assign := r2.asg, body := r2.body, defers := D2 })) rfl rfl rfl (by simp) (fun k hk => World.putObj_heap_other (by rw [hσ1] at hk; exact hk))
                    ⟨o1, o2, fn2, D2, by rw [hσ1]; exact World.putObj_heap_same hlt2⟩
                  have hfe : fenceOf ρ1 rs2.fr = fenceR (some (ρ.σ l)) := by
                    unfold fenceOf
                    rw [a3.2, ← hσ1]; rfl
                  have hbod := b4 ρ1 _ (roundPost C.P (ρ.σ l) fun
                      | .returned v, w'' => K (a.put p.dst v) w''
                      | .panicked chain, w'' => Q (.panic chain) a w''
                      | .outgrown, _ => LetsOut Q) r2' (below_of_post r1 p2' hb1) (fun ρ3 w3 r3' p3' => ?_)
                  · rw [hfe] at hbod; exact hbod
                  have hlx2 : l < nx2 := Nat.lt_of_lt_of_le hlx a3.1
                  have hσ3 : ρ3.σ l = ρ.σ l := (p3'.σ_old l hlx2).trans hσ1
                  have hblk3 := r3'.block l _ hrec3
                  simp only [BlockOK, hst3, RState.state, RState.pending] at hblk3
                  obtain ⟨q1, q2, fn3, D3, hobj3⟩ := hblk3
                  rw [hσ3] at hobj3
                  have hlt3 := (Array.getElem?_eq_some_iff.1 hobj3).1
                  have fin : ∀ (jump : Option Code), j.state = (if jump.isNone then .ready else .done) → j.pending = jump → b = jump.isNone →
                      ∃ v w', (Instr.endRound (ρ.σ l) jump).run C.P w3 = .ok v w' ∧ K (a.put p.dst v) w' := fun jump h1 h2 h3 => by
                    refine ⟨_, _, run_endRound jump hobj3, ?_⟩
                    obtain ⟨r4, p4⟩ := rep_putB r3' hrec3 ⟨cs3, on3, .loop ⟨r3.f, r3.ps, r3.asg, r3.body, j⟩⟩ (r3'.scope l _ hrec3).2 (w3.putObj (ρ.σ l) (.loop { state := if jump.isNone then .ready else .done, pending := jump, fn := fn3, tmps := (AV.denL ρ3 cs3).toArray, params := r3.ps, assign := r3.asg, body := r3.body, defers := D3 })) rfl rfl rfl (by simp) (fun k hk => World.putObj_heap_other (by rw [hσ3] at hk; exact hk))
                      ⟨q1, q2, fn3, D3, by rw [hσ3, h1, h2]; exact World.putObj_heap_same hlt3⟩
                    have pp := ((p1.trans hr r1 p2').trans hr r2' p3').trans hr r3' p4
                    have := hE ρ3 _ r4 (pp.low_of fun n h1 h2 => by simp only [Nat.lt_min] at h1 ⊢; omega)
                    subst h3
                    simp only [AV.den] at this
                    exact this
                  cases x3 with
                  | normal =>
                    simp only [jumpOf, Option.some.injEq, Prod.mk.injEq] at hjump
                    obtain ⟨rfl, rfl⟩ := hjump
                    exact fin none rfl rfl rfl
                  | ret =>
                    simp only [jumpOf, Option.some.injEq, Prod.mk.injEq] at hjump
                    obtain ⟨rfl, rfl⟩ := hjump
                    exact fin (some .ret) rfl rfl rfl
                  | exit id =>
                    simp only [jumpOf, Option.some.injEq, Prod.mk.injEq] at hjump
                    obtain ⟨rfl, rfl⟩ := hjump
                    exact fin (some (.exit id)) rfl rfl rfl
                  | val v => simp [jumpOf] at hjump
                · cases h
              · cases h
            · cases h
          · cases h
        · cases h
      · cases h
    · cases h
  · cases h
end
end Go.Ev
