/- Running the program's functions on values that are known in part: loops by induction. -/
import Derived.Test.YtngjoconcgakpaaDoorEVU
set_option linter.unusedVariables false
set_option linter.unusedSimpArgs false
set_option linter.unusedSectionVars false
set_option linter.unnecessarySimpa false
namespace Go.Ev
open Go.RowKit

mutual
/-- Other names; what is open laid in. -/
def AV.ren (q : Nat → Nat) (a : Nat → AV) : AV → AV
  | .pure v => .pure v
  | .ptr n o => .ptr (q n) o
  | .sl n o l c => .sl (q n) o l c
  | .slx n o l s => .slx (q n) o l s
  | .yld n => .yld (q n)
  | .bsl n o l c => .bsl (q n) o l c
  | .bslx n o l s => .bslx (q n) o l s
  | .bptr n o => .bptr (q n) o
  | .any n => a n
  | .agg xs => .agg (AV.renL q a xs)
  | .tuple xs => .tuple (AV.renL q a xs)
  | .func f xs ys => .func f (AV.renL q a xs) (AV.renL q a ys)
def AV.renL (q : Nat → Nat) (a : Nat → AV) : List AV → List AV
  | [] => []
  | x :: xs => x.ren q a :: AV.renL q a xs
end

mutual
theorem ren_den {ρ ρ' : Env} {q : Nat → Nat} {p : Nat → Bool} {a : Nat → AV} (h : ∀ n, p n = true → ρ'.σ n = ρ.σ (q n) ∧ (ρ'.kk n).cap = (ρ.kk (q n)).cap ∧ (ρ'.kk n).any.1 = (a n).den ρ) : ∀ x : AV, x.within p = true → (x.ren q a).den ρ = x.den ρ'
  | .pure v, _ => by simp [AV.den, AV.ren]
  | .ptr n o, k => by simp [AV.den, AV.ren, h n (by simpa [AV.within] using k)]
  | .sl n o l c, k => by simp [AV.den, AV.ren, h n (by simpa [AV.within] using k)]
  | .slx n o l c, k => by simp [AV.den, AV.ren, h n (by simpa [AV.within] using k)]
  | .yld n, k => by simp [AV.den, AV.ren, h n (by simpa [AV.within] using k)]
  | .bsl n o l c, k => by simp [AV.den, AV.ren, h n (by simpa [AV.within] using k)]
  | .bslx n o l c, k => by simp [AV.den, AV.ren, h n (by simpa [AV.within] using k)]
  | .bptr n o, k => by simp [AV.den, AV.ren, h n (by simpa [AV.within] using k)]
  | .any n, k => by simp [AV.den, AV.ren, h n (by simpa [AV.within] using k)]
  | .agg xs, k => by
    have k' : AV.withinL p xs = true := by simpa [AV.within] using k
    simp [AV.den, AV.ren, renL_den h xs k']
  | .tuple xs, k => by
    have k' : AV.withinL p xs = true := by simpa [AV.within] using k
    simp [AV.den, AV.ren, renL_den h xs k']
  | .func f xs ys, k => by
    have k' : AV.withinL p xs = true ∧ AV.withinL p ys = true := by simpa [AV.within] using k
    simp [AV.den, AV.ren, renL_den h xs k'.1, renL_den h ys k'.2]
theorem renL_den {ρ ρ' : Env} {q : Nat → Nat} {p : Nat → Bool} {a : Nat → AV} (h : ∀ n, p n = true → ρ'.σ n = ρ.σ (q n) ∧ (ρ'.kk n).cap = (ρ.kk (q n)).cap ∧ (ρ'.kk n).any.1 = (a n).den ρ) : ∀ xs : List AV, AV.withinL p xs = true → AV.denL ρ (AV.renL q a xs) = AV.denL ρ' xs
  | [], _ => by simp [AV.denL, AV.renL]
  | x :: xs, k => by
    have k' : x.within p = true ∧ AV.withinL p xs = true := by simpa [AV.withinL] using k
    simp [AV.denL, AV.renL, ren_den h x k'.1, renL_den h xs k'.2]
end

def single : AV → Bool
  | .pure (.agg _) => false
  | .agg _ => false
  | _ => true

theorem single_den (ρ : Env) {x : AV} (h : single x = true) : (x.den ρ).cells = #[x.den ρ] := by
  cases x with
  | pure v => cases v <;> simp_all [single, AV.den, Value.cells]
  | agg xs => simp [single] at h
  | any n => simp only [AV.den]; exact (ρ.kk n).any.2
  | _ => simp [AV.den, Value.cells]

noncomputable def valOf (v : Value) : { v : Value // v.cells = #[v] } := @dite _ (v.cells = #[v]) (Classical.propDecidable _) (fun h => ⟨v, h⟩) (fun _ => noVal)
theorem valOf_eq {v : Value} (h : v.cells = #[v]) : (valOf v).1 = v := by unfold valOf; rw [dif_pos h]

/-- What is left of a heap behind a round: blocks with the names from base on renamed. -/
def Sub (base nx : Nat) (q : Nat → Nat) (a : Nat → AV) (h1 h2 : AHeap) : Prop :=
  (∀ n b, hget h2 n = some b → hget h1 (q n) = some ⟨AV.renL q a b.cells, b.opn, b.kind⟩ ∧ n < nx ∧ AV.okL nx b.cells = true) ∧
  (∀ n m b c, hget h2 n = some b → hget h2 m = some c → q n = q m → n = m) ∧ (∀ n, n < base → q n = n ∧ a n = .any n) ∧ (∀ n, base ≤ n → n < nx → single (a n) = true)
def Keeps (low base : Nat) (h h2 : AHeap) : Prop := ∀ n, n < low → n < base → hget h2 n = hget h n

/-- The names behind a round. -/
noncomputable def Env.behind (base nx : Nat) (q : Nat → Nat) (a : Nat → AV) (ρ ρ1 : Env) : Env := ⟨fun n => if n < base ∨ nx ≤ n then ρ.σ n else ρ1.σ (q n), fun n => if n < base ∨ nx ≤ n then ρ.kk n else ⟨(ρ1.kk (q n)).cap, valOf ((a n).den ρ1)⟩⟩

theorem behind_ok {base nx nx1 l : Nat} {q : Nat → Nat} {a : Nat → AV} {ρ ρ1 : Env} {h h1 : AHeap} {w w1 : World} (hle : base ≤ nx) (hq : ∀ n, n < base → q n = n ∧ a n = .any n) (ha : ∀ n, base ≤ n → n < nx → single (a n) = true) (p : Post ρ ρ1 h h1 nx nx1 l w w1) :
    ∀ n, n < nx → (Env.behind base nx q a ρ ρ1).σ n = ρ1.σ (q n) ∧ ((Env.behind base nx q a ρ ρ1).kk n).cap = (ρ1.kk (q n)).cap ∧ ((Env.behind base nx q a ρ ρ1).kk n).any.1 = (a n).den ρ1 := by
  intro n hn
  unfold Env.behind
  by_cases hb : n < base
  · have hp := p.agree n (.inl hn)
    simp only [hb, true_or, if_true, (hq n hb).1, (hq n hb).2, AV.den]
    exact ⟨hp.1.symm, by rw [hp.2], by rw [hp.2]⟩
  · have : ¬ (n < base ∨ nx ≤ n) := by omega
    simp only [this, if_false]
    exact ⟨trivial, trivial, valOf_eq (single_den ρ1 (ha n (by omega) hn))⟩

theorem back {lo base : Nat} {q : Nat → Nat} {a : Nat → AV} {ρ ρ1 : Env} {h h1 h2 : AHeap} {nx nx1 l low : Nat} {w w1 : World} (hle : base ≤ nx) (r1 : Rep lo ρ1 h1 nx1 w1) (p : Post ρ ρ1 h h1 nx nx1 l w w1) (hs : Sub base nx q a h1 h2) (hk : Keeps low base h h2) :
    Rep lo (Env.behind base nx q a ρ ρ1) h2 nx w1 ∧ Post ρ (Env.behind base nx q a ρ ρ1) h h2 base nx low w w1 := by
  obtain ⟨hs1, hs2, hq, hqa⟩ := hs
  have ag := behind_ok hle hq hqa p
  have agp := fun n (hn : Nat.blt n nx = true) => ag n (blt_lt hn)
  refine ⟨⟨fun n b hn => ?_, fun n m b c hn hm e => ?_, fun n b hn => (hs1 n b hn).2, fun n b hn => ?_⟩, ⟨fun n hn => ?_, hle, p.os, p.tape, p.output, p.size, p.frame, fun n b hn => ?_, hk⟩⟩
  · obtain ⟨a1, a2, a3⟩ := hs1 n b hn
    have := r1.block (q n) _ a1
    have hc : AV.denL ρ1 (AV.renL q a b.cells) = AV.denL (Env.behind base nx q a ρ ρ1) b.cells := renL_den agp b.cells a3
    unfold BlockOK at this ⊢
    rw [(ag n a2).1, (ag n a2).2.1, ← hc]
    exact this
  · obtain ⟨a1, a2, -⟩ := hs1 n b hn
    obtain ⟨b1, b2, -⟩ := hs1 m c hm
    rw [(ag n a2).1, (ag m b2).1] at e
    exact hs2 n m b c hn hm (r1.inj _ _ _ _ a1 b1 e)
  · obtain ⟨a1, a2, -⟩ := hs1 n b hn
    rw [(ag n a2).1]; exact r1.above _ _ a1
  · unfold Env.behind
    simp only [hn, if_true]
    exact ⟨trivial, trivial⟩
  · obtain ⟨a1, a2, -⟩ := hs1 n b hn
    rw [(ag n a2).1]
    rcases p.fresh _ _ a1 with ⟨m, c, hm, e⟩ | h3
    · exact .inl ⟨m, c, hm, e⟩
    · exact .inr h3

/-- Two stretches, one behind the other, from the same names on. -/
theorem Post.transB {ρ ρ' ρ'' : Env} {h h' h'' : AHeap} {base nx l l' : Nat} {w w' w'' : World} (p : Post ρ ρ' h h' base nx l w w') (q : Post ρ' ρ'' h' h'' base nx l' w' w'') : Post ρ ρ'' h h'' base nx (Nat.min l l') w w'' := by
  have s1 := p.size
  have s2 := q.size
  refine ⟨fun n hn => ?_, p.le, q.os.trans p.os, q.tape.trans p.tape, q.output.trans p.output, Nat.le_trans p.size q.size, fun k hk hne => ?_, fun n b hn => ?_, fun n hl hx => ?_⟩
  · have a := p.agree n hn
    have b := q.agree n hn
    exact ⟨b.1.trans a.1, b.2.trans a.2⟩
  · rw [q.frame k (by omega) (fun n b hn e => ?_), p.frame k hk hne]
    rcases p.fresh n b hn with ⟨m, c, hm, em⟩ | hf
    · exact hne m c hm (em.symm.trans e)
    · omega
  · rcases q.fresh n b hn with ⟨m, c, hm, em⟩ | hf
    · rcases p.fresh m c hm with ⟨k, d, hk, ek⟩ | hf
      · exact .inl ⟨k, d, hk, em.trans ek⟩
      · right; omega
    · right; omega
  · have : Nat.min l l' ≤ l := Nat.min_le_left _ _
    have : Nat.min l l' ≤ l' := Nat.min_le_right _ _
    rw [q.keep n (by omega) hx, p.keep n (by omega) hx]

section
variable {C : Ctx} {G : World → Prop}

/-- One round of a loop. -/
structure Round (C : Ctx) (G : World → Prop) {X F : Type} (base nx low : Nat) (fr : AFrame) (ex : AX) (S : X → List AV × AHeap) (T : F → List AV × AHeap) (I : X → Prop) (μ : X → Nat) (K : X → F → Prop) (x : X) (o : Out) : Prop where
  holds : Holds C G o.log
  ok : AV.okL nx (S x).1 = true
  same : o.st.res.fr = fr
  out : (∃ y q a, o.x = .normal ∧ I y ∧ μ y < μ x ∧ o.st.tmps = AV.renL q a (S y).1 ∧ Sub base nx q a o.st.heap (S y).2 ∧ Keeps low base (S x).2 (S y).2 ∧ ∀ fin, K y fin → K x fin) ∨
    (∃ fin q a, o.x = ex ∧ o.st.tmps = AV.renL q a (T fin).1 ∧ Sub base nx q a o.st.heap (T fin).2 ∧ Keeps low base (S x).2 (T fin).2 ∧ AV.okL nx (T fin).1 = true ∧ K x fin)

theorem act_behind {base nx nx1 l : Nat} {q : Nat → Nat} {a : Nat → AV} {ρ ρ1 : Env} {h h1 : AHeap} {w w1 : World} {fr : AFrame} {tm : List AV} (hle : base ≤ nx) (hq : ∀ n, n < base → q n = n ∧ a n = .any n) (hqa : ∀ n, base ≤ n → n < nx → single (a n) = true) (p : Post ρ ρ1 h h1 nx nx1 l w w1) (hfr : frOK base fr = true) (hok : AV.okL nx tm = true) :
    act ρ1 fr (AV.renL q a tm) = act (Env.behind base nx q a ρ ρ1) fr tm := by
  have ag := behind_ok hle hq hqa p
  unfold act
  rw [renL_den (fun n hn => ag n (blt_lt hn)) tm hok]
  congr 1
  apply List.map_congr_left
  intro d hd
  have hdl : d < base := by
    simp only [frOK, Bool.and_eq_true, List.all_eq_true] at hfr
    exact blt_lt (hfr.2 d hd)
  rw [(ag d (by omega)).1, (hq d hdl).1]

theorem loop_ind (hg : Good' C G) {X F : Type} {f : FuncId} {c : Code} {base nx low : Nat} {fr : AFrame} {ex : AX} {S : X → List AV × AHeap} {T : F → List AV × AHeap} {I : X → Prop} {μ : X → Nat} {K : X → F → Prop}
    (hle : base ≤ nx) (hok : okCode c = true) (hfr : frOK base fr = true) (hex : isVal ex = false ∧ ex ≠ .normal)
    (hround : ∀ x, I x → ∃ (n : Nat) (ora : List Bool) (vals : List Value) (o : Out), run C n (.code f c) ⟨(S x).1, (S x).2, nx, ora, ⟨vals, fr⟩⟩ = some o ∧ Round C G base nx low fr ex S T I μ K x o) :
    ∀ x, I x → ∃ fin, K x fin ∧ AV.okL nx (T fin).1 = true ∧ ∃ m, ∀ w0, G w0 → ∀ ρ w Q, Rep w0.heap.size ρ (S x).2 nx w → Below w0.heap.size w0 w →
      (∀ ρ' w', Rep w0.heap.size ρ' (T fin).2 nx w' → Post ρ ρ' (S x).2 (T fin).2 base nx low w w' → Q (exitOf ex) (act ρ' fr (T fin).1) w') →
      Code.roundsIn (fenceOf ρ fr) 0 C.P c Q m (act ρ fr (S x).1) w := by
  intro x hx
  generalize hj : μ x = j
  induction j using Nat.strongRecOn generalizing x with
  | _ j ih =>
    obtain ⟨n, ora, vals, o, hrun, hr⟩ := hround x hx
    have hfr' := frOK_mono hle hfr
    have hcode : ∀ w0, G w0 → CodeOK C w0 c ⟨(S x).1, (S x).2, nx, ora, ⟨vals, fr⟩⟩ o := fun w0 hw0 => sound hg hw0 n _ _ _ hrun hr.holds hok ⟨hr.ok, hfr'⟩
    rcases hr.out with ⟨y, q, a, e1, e2, e3, e4, e5, e6, e7⟩ | ⟨fin, q, a, e1, e2, e3, e4, e45, e5⟩
    · obtain ⟨fin, k1, k3, m, k2⟩ := ih (μ y) (hj ▸ e3) y e2 rfl
      refine ⟨fin, e7 fin k1, k3, m + 1, fun w0 hw0 ρ w Q hrep hb hQ => ?_⟩
      obtain ⟨a1, a2, a3, a4⟩ := hcode w0 hw0
      rw [roundsIn_succ]
      refine a4 ρ w _ hrep hb fun ρ1 w1 r1 p1 => ?_
      rw [e1]
      obtain ⟨r2, p2⟩ := back hle r1 p1 e5 e6
      have hoky : AV.okL nx (S y).1 = true := by
        obtain ⟨_, _, _, _, _, h2⟩ := hround y e2
        exact h2.ok
      have hact : act ρ1 o.st.res.fr o.st.tmps = act (Env.behind base nx q a ρ ρ1) fr (S y).1 := by
        rw [hr.same, e4]
        exact act_behind hle e5.2.2.1 e5.2.2.2 p1 hfr hoky
      have hfe : fenceOf (Env.behind base nx q a ρ ρ1) fr = fenceOf ρ fr := fence_eq (fun n hn => (p2.agree n (.inl hn)).1) hfr rfl
      simp only [exitOf, Exit.then]
      rw [hact, ← hfe]
      exact k2 w0 hw0 _ w1 Q r2 (below_of_post hrep p1 hb) fun ρ' w' r3 p3 => hQ ρ' w' r3 ((p2.transB p3).low_of fun n h1 h2 => by simp only [Nat.lt_min]; omega)
    · refine ⟨fin, e5, e45, 1, fun w0 hw0 ρ w Q hrep hb hQ => ?_⟩
      obtain ⟨a1, a2, a3, a4⟩ := hcode w0 hw0
      rw [roundsIn_succ]
      refine a4 ρ w _ hrep hb fun ρ1 w1 r1 p1 => ?_
      rw [e1, e2]
      obtain ⟨r2, p2⟩ := back hle r1 p1 e3 e4
      have hq := hQ _ w1 r2 p2
      have hact : act ρ1 o.st.res.fr (AV.renL q a (T fin).1) = act (Env.behind base nx q a ρ ρ1) fr (T fin).1 := by
        rw [hr.same]
        exact act_behind hle e3.2.2.1 e3.2.2.2 p1 hfr e45
      rw [hact]
      cases ex with
      | normal => exact absurd rfl hex.2
      | exit id => exact hq
      | ret => exact hq
      | val v => exact absurd hex.1 (by simp [isVal])

/-- A loop's claim, out of its rounds: from a state that is the first of the rounds' but for what is left open. -/
theorem loop_ends (hg : Good' C G) {X F : Type} {f : FuncId} {c : Code} {base nx low : Nat} {fr : AFrame} {ex : AX} {S : X → List AV × AHeap} {T : F → List AV × AHeap} {I : X → Prop} {μ : X → Nat} {K : X → F → Prop}
    (hle : base ≤ nx) (hok : okCode c = true) (hfr : frOK base fr = true) (hex : isVal ex = false ∧ ex ≠ .normal)
    (hround : ∀ x, I x → ∃ (n : Nat) (ora : List Bool) (vals : List Value) (o : Out), run C n (.code f c) ⟨(S x).1, (S x).2, nx, ora, ⟨vals, fr⟩⟩ = some o ∧ Round C G base nx low fr ex S T I μ K x o)
    (x : X) (hx : I x) {tm0 : List AV} {h0 : AHeap} {q : Nat → Nat} {a : Nat → AV} (htm : tm0 = AV.renL q a (S x).1) (hsub : Sub base nx q a h0 (S x).2) (hkeep : Keeps low base h0 (S x).2) :
    ∃ fin, K x fin ∧ ∀ ora ora' vals vals', LoopEnds C G c ⟨tm0, h0, base, ora, ⟨vals, fr⟩⟩ ex ⟨(T fin).1, (T fin).2, nx, ora', ⟨vals', fr⟩⟩ low := by
  obtain ⟨fin, hK, hT, m, hm⟩ := loop_ind hg hle hok hfr hex hround x hx
  have hokx : AV.okL nx (S x).1 = true := by
    obtain ⟨_, _, _, _, _, h2⟩ := hround x hx
    exact h2.ok
  refine ⟨fin, hK, fun ora ora' vals vals' w0 hw0 hst => ⟨hex.1, ⟨hT, frOK_mono hle hfr⟩, ⟨hle, rfl⟩, fun ρ w Q hr hb hE => wpIn_loop_rounds m ?_⟩⟩
  have hr' : Rep w0.heap.size ρ h0 nx w := ⟨hr.block, hr.inj, fun n b hn => ⟨Nat.lt_of_lt_of_le (hr.scope n b hn).1 hle, okL_mono hle _ (hr.scope n b hn).2⟩, hr.above⟩
  have p0 : Post ρ ρ h0 h0 nx nx nx w w := Post.refl hr' _
  obtain ⟨r2, p2⟩ := back hle hr' p0 hsub hkeep
  have hact : act ρ fr tm0 = act (Env.behind base nx q a ρ ρ) fr (S x).1 := by
    rw [htm]
    exact act_behind hle hsub.2.2.1 hsub.2.2.2 p0 hfr hokx
  have hfe : fenceOf (Env.behind base nx q a ρ ρ) fr = fenceOf ρ fr := fence_eq (fun n hn => (p2.agree n (.inl hn)).1) hfr rfl
  simp only
  rw [hact, ← hfe]
  exact hm w0 hw0 _ w Q r2 hb fun ρ' w' r p => hE ρ' w' r ((p2.transB p).low_of fun n h1 h2 => by simp only [Nat.lt_min]; simp only at h1 h2; omega)
end
end Go.Ev
