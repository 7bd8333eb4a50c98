/- Running the program's functions on values that are known in part: what a world must hold; what a step may turn. -/
import Derived.Test.YtngjoconcgakpaaDoorEVC
import Derived.Laws.CopyRow
import Derived.Laws.Cells
import Derived.Laws.Tables
import Derived.Laws.Entries
set_option linter.unusedVariables false
set_option linter.unusedSimpArgs false
set_option linter.unusedSectionVars false
set_option linter.unnecessarySimpa false
namespace Go.Ev
open Go.RowKit

def RState.state : RState → LoopState
  | .ready => .ready
  | .busy => .busy
  | .ret => .done
  | .exit _ => .done
def RState.pending : RState → Option Code
  | .ready => none
  | .busy => none
  | .ret => some .ret
  | .exit id => some (.exit id)

/-- A named block lies as it is told. -/
def BlockOK (ρ : Env) (b : ABlock) (cap : Nat) (o : Option Obj) : Prop := match b.kind with
  | .cells => ∃ arr e rest, o = some (.cells arr e (0, 0)) ∧ arr.toList = AV.denL ρ b.cells ++ rest ∧ (match b.opn with | none => rest = [] | some k => arr.size = cap * k)
  | .big L => ∃ arr e rest, o = some (.cells arr e (0, 0)) ∧ arr.toList = L ++ rest ∧ (match b.opn with | none => rest = [] | some k => arr.size = cap * k)
  | .dfr => o = some (.deferred (some []))
  | .loop r => okCode r.asg = true ∧ okCode r.body = true ∧ ∃ fn D, o = some (.loop { state := r.st.state, pending := r.st.pending, fn := fn, tmps := (AV.denL ρ b.cells).toArray, params := r.ps, assign := r.asg, body := r.body, defers := D })

theorem BlockOK.some {ρ : Env} {b : ABlock} {cap : Nat} {o : Option Obj} (h : BlockOK ρ b cap o) : ∃ x, o = some x := by
  unfold BlockOK at h
  split at h
  · obtain ⟨arr, e, rest, h1, -⟩ := h; exact ⟨_, h1⟩
  · obtain ⟨arr, e, rest, h1, -⟩ := h; exact ⟨_, h1⟩
  · exact ⟨_, h⟩
  · obtain ⟨-, -, fn, dd, h1⟩ := h; exact ⟨_, h1⟩

theorem BlockOK.agree {ρ ρ' : Env} {b : ABlock} {cap cap' : Nat} {o o' : Option Obj} (h : BlockOK ρ b cap o) (hc : AV.denL ρ' b.cells = AV.denL ρ b.cells) (hk : cap' = cap) (ho : o' = o) : BlockOK ρ' b cap' o' := by
  unfold BlockOK at h ⊢
  rw [hc, hk, ho]
  exact h

/-- The world holds the named blocks; they are apart, and lie from lo on. -/
structure Rep (lo : Nat) (ρ : Env) (h : AHeap) (nxt : Nat) (w : World) : Prop where
  block : ∀ n b, hget h n = some b → BlockOK ρ b ((ρ.kk n).cap) w.heap[ρ.σ n]?
  inj : ∀ n m b c, hget h n = some b → hget h m = some c → ρ.σ n = ρ.σ m → n = m
  scope : ∀ n b, hget h n = some b → n < nxt ∧ AV.okL nxt b.cells = true
  above : ∀ n b, hget h n = some b → lo ≤ ρ.σ n

structure Post (ρ ρ' : Env) (h h' : AHeap) (nxt nxt' low : Nat) (w w' : World) : Prop where
  agree : ∀ n, n < nxt ∨ nxt' ≤ n → ρ'.σ n = ρ.σ n ∧ ρ'.kk n = ρ.kk n
  le : nxt ≤ nxt'
  os : w'.os = w.os
  tape : w'.tape = w.tape
  output : w'.output = w.output
  size : w.heap.size ≤ w'.heap.size
  frame : ∀ k, k < w.heap.size → (∀ n b, hget h n = some b → ρ.σ n ≠ k) → w'.heap[k]? = w.heap[k]?
  fresh : ∀ n b, hget h' n = some b → (∃ m c, hget h m = some c ∧ ρ'.σ n = ρ.σ m) ∨ w.heap.size ≤ ρ'.σ n
  keep : ∀ n, n < low → n < nxt → hget h' n = hget h n

theorem Rep.cells {lo : Nat} {ρ : Env} {h : AHeap} {nxt : Nat} {w : World} (r : Rep lo ρ h nxt w) {n : Nat} {b : ABlock} (hn : hget h n = some b) (hk : b.kind = .cells) :
    ∃ arr e rest, w.heap[ρ.σ n]? = some (.cells arr e (0, 0)) ∧ arr.toList = AV.denL ρ b.cells ++ rest ∧ (match b.opn with | none => rest = [] | some k => arr.size = (ρ.kk n).cap * k) := by
  have := r.block n b hn
  unfold BlockOK at this
  rw [hk] at this
  exact this

theorem Rep.lt {lo : Nat} {ρ : Env} {h : AHeap} {nxt : Nat} {w : World} (r : Rep lo ρ h nxt w) {n : Nat} {b : ABlock} (hn : hget h n = some b) : ρ.σ n < w.heap.size := by
  obtain ⟨x, hb⟩ := (r.block n b hn).some
  rcases Nat.lt_or_ge (ρ.σ n) w.heap.size with k | k
  · exact k
  · simp [Array.getElem?_eq_none k] at hb

theorem Post.refl {lo : Nat} {ρ : Env} {h : AHeap} {nxt : Nat} {w : World} (_r : Rep lo ρ h nxt w) (low : Nat) : Post ρ ρ h h nxt nxt low w w :=
  ⟨fun _ _ => ⟨rfl, rfl⟩, Nat.le_refl _, rfl, rfl, rfl, Nat.le_refl _, fun _ _ _ => rfl, fun n b hn => .inl ⟨n, b, hn, rfl⟩, fun _ _ _ => rfl⟩

theorem Post.trans {ρ ρ' ρ'' : Env} {h h' h'' : AHeap} {nxt nxt' nxt'' l l' : Nat} {w w' w'' : World} {lo : Nat} (_r : Rep lo ρ h nxt w) (_r' : Rep lo ρ' h' nxt' w')
    (p : Post ρ ρ' h h' nxt nxt' l w w') (q : Post ρ' ρ'' h' h'' nxt' nxt'' l' w' w'') : Post ρ ρ'' h h'' nxt nxt'' (Nat.min l l') w w'' := by
  have le1 := p.le
  have le2 := q.le
  have s1 := p.size
  have s2 := q.size
  refine ⟨fun n hn => ?_, Nat.le_trans p.le q.le, q.os.trans p.os, q.tape.trans p.tape, q.output.trans p.output, Nat.le_trans p.size q.size, fun k hk hne => ?_, fun n b hn => ?_, fun n hl hx => ?_⟩
  · have a := p.agree n (by omega)
    have b := q.agree n (by omega)
    exact ⟨b.1.trans a.1, b.2.trans a.2⟩
  · rw [q.frame k (by omega) (fun n b hn e => ?_), p.frame k hk hne]
    rcases p.fresh n b hn with ⟨m, c, hm, em⟩ | hf
    · exact hne m c hm (em.symm.trans e)
    · omega
  · rcases q.fresh n b hn with ⟨m, c, hm, em⟩ | hf
    · rcases p.fresh m c hm with ⟨k, d, hk, ek⟩ | hf
      · exact .inl ⟨k, d, hk, em.trans ek⟩
      · right; omega
    · right; omega
  · have : Nat.min l l' ≤ l := Nat.min_le_left _ _
    have : Nat.min l l' ≤ l' := Nat.min_le_right _ _
    rw [q.keep n (by omega) (by omega), p.keep n (by omega) hx]

theorem Post.low_le {ρ ρ' : Env} {h h' : AHeap} {nxt nxt' l l' : Nat} {w w' : World} (p : Post ρ ρ' h h' nxt nxt' l w w') (hl : l' ≤ l) : Post ρ ρ' h h' nxt nxt' l' w w' :=
  { p with keep := fun n hn hx => p.keep n (by omega) hx }

theorem Post.below {lo : Nat} {ρ ρ' : Env} {h h' : AHeap} {nxt nxt' l : Nat} {w w' : World} (r : Rep lo ρ h nxt w) (p : Post ρ ρ' h h' nxt nxt' l w w') (hlo : lo ≤ w.heap.size) : Below lo w w' :=
  ⟨p.os, p.tape, p.output, p.size, fun k hk => p.frame k (by omega) (fun n b hn e => by have := r.above n b hn; omega)⟩

theorem Post.den {ρ ρ' : Env} {h h' : AHeap} {nxt nxt' l : Nat} {w w' : World} (p : Post ρ ρ' h h' nxt nxt' l w w') {x : AV} (hx : x.ok nxt = true) : x.den ρ' = x.den ρ :=
  den_agree (fun n hn => p.agree n (.inl hn)) x hx
theorem Post.denL {ρ ρ' : Env} {h h' : AHeap} {nxt nxt' l : Nat} {w w' : World} (p : Post ρ ρ' h h' nxt nxt' l w w') {xs : List AV} (hx : AV.okL nxt xs = true) : AV.denL ρ' xs = AV.denL ρ xs :=
  denL_agree (fun n hn => p.agree n (.inl hn)) xs hx

/-- The names' blocks with a new one. -/
def Env.with (ρ : Env) (n b k : Nat) : Env := ⟨fun m => if m = n then b else ρ.σ m, fun m => if m = n then ⟨k, noVal⟩ else ρ.kk m⟩

theorem Env.with_agree (ρ : Env) (n b k m : Nat) (h : m ≠ n) : (ρ.with n b k).σ m = ρ.σ m ∧ (ρ.with n b k).kk m = ρ.kk m := by simp [Env.with, h]
theorem Env.with_σ (ρ : Env) (n b k : Nat) : (ρ.with n b k).σ n = b := by simp [Env.with]
theorem Env.with_κ (ρ : Env) (n b k : Nat) : ((ρ.with n b k).kk n).cap = k := by simp [Env.with]

theorem heap_push_old (w : World) (o : Obj) (k : Nat) (h : k < w.heap.size) : ({ w with heap := w.heap.push o } : World).heap[k]? = w.heap[k]? := by
  show (w.heap.push o)[k]? = _
  rw [Array.getElem?_push, if_neg (by omega)]

/-- A new block, of whatever kind. -/
theorem rep_newB {lo : Nat} {ρ : Env} {h : AHeap} {nxt : Nat} {w : World} (r : Rep lo ρ h nxt w) (hlo : lo ≤ w.heap.size) (blk : ABlock) (hok : AV.okL nxt blk.cells = true) (o : Obj) (cap : Nat)
    (hB : BlockOK (ρ.with nxt w.heap.size cap) blk cap (some o)) :
    Rep lo (ρ.with nxt w.heap.size cap) ((nxt, blk) :: h) (nxt + 1) { w with heap := w.heap.push o } ∧
    Post ρ (ρ.with nxt w.heap.size cap) h ((nxt, blk) :: h) nxt (nxt + 1) nxt w { w with heap := w.heap.push o } := by
  have ag : ∀ n, n < nxt → (ρ.with nxt w.heap.size cap).σ n = ρ.σ n ∧ (ρ.with nxt w.heap.size cap).kk n = ρ.kk n := fun n hn => Env.with_agree _ _ _ _ _ (by omega)
  have hx : ∀ n b, hget h n = some b → n < nxt := fun n b hn => (r.scope n b hn).1
  refine ⟨⟨fun n b hn => ?_, fun n m b c hn hm e => ?_, fun n b hn => ?_, fun n b hn => ?_⟩, ⟨fun n hn => Env.with_agree _ _ _ _ _ (by omega), by omega, rfl, rfl, rfl, by simp, fun k hk _ => heap_push_old _ _ _ hk, fun n b hn => ?_, fun n hl _ => ?_⟩⟩
  · rw [hget_cons] at hn
    split at hn
    · rename_i e'; subst e'
      cases hn
      refine hB.agree rfl (Env.with_κ _ _ _ _) ?_
      rw [Env.with_σ]; simp
    · have lt := hx n b hn
      refine (r.block n b hn).agree (denL_agree ag b.cells (r.scope n b hn).2) (congrArg Kap.cap (ag n lt).2) ?_
      rw [(ag n lt).1, heap_push_old _ _ _ (r.lt hn)]
  · rw [hget_cons] at hn hm
    split at hn <;> split at hm
    · omega
    · rename_i e1 _; subst e1
      rw [Env.with_σ, (ag m (hx m c hm)).1] at e
      have := r.lt hm; omega
    · rename_i _ e1; subst e1
      rw [Env.with_σ, (ag n (hx n b hn)).1] at e
      have := r.lt hn; omega
    · rw [(ag m (hx m c hm)).1, (ag n (hx n b hn)).1] at e
      exact r.inj n m b c hn hm e
  · rw [hget_cons] at hn
    split at hn
    · rename_i e'; subst e'
      cases hn
      exact ⟨by omega, okL_mono (by omega) _ hok⟩
    · have := r.scope n b hn
      exact ⟨by omega, okL_mono (by omega) _ this.2⟩
  · rw [hget_cons] at hn
    split at hn
    · rename_i e'; subst e'
      rw [Env.with_σ]; exact hlo
    · rw [(ag n (hx n b hn)).1]; exact r.above n b hn
  · rw [hget_cons] at hn
    split at hn
    · rename_i e'; subst e'
      right; rw [Env.with_σ]; exact Nat.le_refl _
    · exact .inl ⟨n, b, hn, (ag n (hx n b hn)).1⟩
  · rw [hget_cons]
    split
    · omega
    · rfl


/-- A new block. -/
theorem rep_new {lo : Nat} {ρ : Env} {h : AHeap} {nxt : Nat} {w : World} (r : Rep lo ρ h nxt w) (hlo : lo ≤ w.heap.size) (cells : List AV) (hok : AV.okL nxt cells = true)
    (arr : Array Value) (e : TypeId) (rest : List Value) (opn : Option Nat) (cap : Nat) (harr : arr.toList = AV.denL ρ cells ++ rest) (ho : match opn with | none => rest = [] | some k => arr.size = cap * k) :
    Rep lo (ρ.with nxt w.heap.size cap) ((nxt, ⟨cells, opn, .cells⟩) :: h) (nxt + 1) { w with heap := w.heap.push (.cells arr e) } ∧
    Post ρ (ρ.with nxt w.heap.size cap) h ((nxt, ⟨cells, opn, .cells⟩) :: h) nxt (nxt + 1) nxt w { w with heap := w.heap.push (.cells arr e) } := by
  have ag : ∀ n, n < nxt → (ρ.with nxt w.heap.size cap).σ n = ρ.σ n ∧ (ρ.with nxt w.heap.size cap).kk n = ρ.kk n := fun n hn => Env.with_agree _ _ _ _ _ (by omega)
  exact rep_newB r hlo ⟨cells, opn, .cells⟩ hok _ cap ⟨arr, e, rest, rfl, by rw [harr, denL_agree ag cells hok], ho⟩

/-- A block turned, of whatever kind. -/
theorem rep_putB {lo : Nat} {ρ : Env} {h : AHeap} {nxt : Nat} {w : World} (r : Rep lo ρ h nxt w) {n : Nat} {b : ABlock} (hn : hget h n = some b) (blk : ABlock) (hok : AV.okL nxt blk.cells = true)
    (w' : World) (hos : w'.os = w.os) (htape : w'.tape = w.tape) (hout : w'.output = w.output) (hsz : w'.heap.size = w.heap.size) (hfr : ∀ k, k ≠ ρ.σ n → w'.heap[k]? = w.heap[k]?)
    (hB : BlockOK ρ blk ((ρ.kk n).cap) w'.heap[ρ.σ n]?) :
    Rep lo ρ (hput h n blk) nxt w' ∧ Post ρ ρ h (hput h n blk) nxt nxt n w w' := by
  refine ⟨⟨fun m c hm => ?_, fun m k c d hm hk e => ?_, fun m c hm => ?_, fun m c hm => ?_⟩, ⟨fun _ _ => ⟨rfl, rfl⟩, Nat.le_refl _, hos, htape, hout, by omega, fun k _ hne => hfr k (fun e => hne n b hn e.symm), fun m c hm => ?_, fun m hl _ => ?_⟩⟩
  · rw [hget_put] at hm
    split at hm
    · rename_i e'; subst e'
      cases hm
      exact hB
    · rename_i hne
      exact (r.block m c hm).agree rfl rfl (hfr _ (fun e => hne (r.inj n m b c hn hm e.symm)))
  · have hm' : ∃ c', hget h m = some c' := by
      rw [hget_put] at hm; split at hm
      · rename_i e'; exact ⟨b, e' ▸ hn⟩
      · exact ⟨c, hm⟩
    have hk' : ∃ c', hget h k = some c' := by
      rw [hget_put] at hk; split at hk
      · rename_i e'; exact ⟨b, e' ▸ hn⟩
      · exact ⟨d, hk⟩
    obtain ⟨c', hc'⟩ := hm'
    obtain ⟨d', hd'⟩ := hk'
    exact r.inj m k c' d' hc' hd' e
  · rw [hget_put] at hm
    split at hm
    · rename_i e'; subst e'
      cases hm
      exact ⟨(r.scope n b hn).1, hok⟩
    · exact r.scope m c hm
  · rw [hget_put] at hm
    split at hm
    · rename_i e'; subst e'; exact r.above n b hn
    · exact r.above m c hm
  · rw [hget_put] at hm
    split at hm
    · rename_i e'; subst e'; exact .inl ⟨n, b, hn, rfl⟩
    · exact .inl ⟨m, c, hm, rfl⟩
  · rw [hget_put, if_neg (by omega)]

/-- A block written anew. -/
theorem rep_put {lo : Nat} {ρ : Env} {h : AHeap} {nxt : Nat} {w : World} (r : Rep lo ρ h nxt w) {n : Nat} {b : ABlock} (hn : hget h n = some b) (cells : List AV) (hok : AV.okL nxt cells = true)
    (w' : World) (hos : w'.os = w.os) (htape : w'.tape = w.tape) (hout : w'.output = w.output) (hsz : w'.heap.size = w.heap.size) (hfr : ∀ k, k ≠ ρ.σ n → w'.heap[k]? = w.heap[k]?)
    (arr' : Array Value) (e : TypeId) (rest : List Value) (hnew : w'.heap[ρ.σ n]? = some (.cells arr' e (0, 0))) (harr : arr'.toList = AV.denL ρ cells ++ rest) (ho : match b.opn with | none => rest = [] | some k => arr'.size = (ρ.kk n).cap * k) :
    Rep lo ρ (hput h n ⟨cells, b.opn, .cells⟩) nxt w' ∧ Post ρ ρ h (hput h n ⟨cells, b.opn, .cells⟩) nxt nxt n w w' :=
  rep_putB r hn ⟨cells, b.opn, .cells⟩ hok w' hos htape hout hsz hfr ⟨arr', e, rest, hnew, harr, ho⟩

/-- A world that has only grown. -/
theorem rep_below {lo : Nat} {ρ : Env} {h : AHeap} {nxt : Nat} {w w' : World} (r : Rep lo ρ h nxt w) (hb : Below w.heap.size w w') (low : Nat) : Rep lo ρ h nxt w' ∧ Post ρ ρ h h nxt nxt low w w' := by
  refine ⟨⟨fun n b hn => ?_, r.inj, r.scope, r.above⟩, ⟨fun _ _ => ⟨rfl, rfl⟩, Nat.le_refl _, hb.os, hb.tape, hb.output, hb.size, fun k hk _ => hb.block k hk, fun n b hn => .inl ⟨n, b, hn, rfl⟩, fun _ _ _ => rfl⟩⟩
  exact (r.block n b hn).agree rfl rfl (hb.block _ (r.lt hn))

/-- Some names forgotten. -/
theorem rep_forget {lo : Nat} {ρ : Env} {h h' : AHeap} {nxt : Nat} {w : World} (r : Rep lo ρ h nxt w) (hs : ∀ n b, hget h' n = some b → hget h n = some b) : Rep lo ρ h' nxt w :=
  ⟨fun n b hn => r.block n b (hs n b hn), fun n m b c hn hm e => r.inj n m b c (hs n b hn) (hs m c hm) e, fun n b hn => r.scope n b (hs n b hn), fun n b hn => r.above n b (hs n b hn)⟩


/-- A name dropped, its block turned as one likes. -/
theorem rep_drop {lo : Nat} {ρ : Env} {h : AHeap} {nxt : Nat} {w : World} (r : Rep lo ρ h nxt w) {n : Nat} {b : ABlock} (hn : hget h n = some b)
    (w' : World) (hos : w'.os = w.os) (htape : w'.tape = w.tape) (hout : w'.output = w.output) (hsz : w'.heap.size = w.heap.size) (hfr : ∀ k, k ≠ ρ.σ n → w'.heap[k]? = w.heap[k]?) :
    Rep lo ρ (hdel h n) nxt w' ∧ Post ρ ρ h (hdel h n) nxt nxt n w w' := by
  have hd : ∀ m c, hget (hdel h n) m = some c → m ≠ n ∧ hget h m = some c := fun m c hm => by
    rw [hget_del] at hm
    split at hm
    · cases hm
    · rename_i e; exact ⟨fun k => e k.symm, hm⟩
  refine ⟨⟨fun m c hm => ?_, fun m k c d hm hk e => r.inj m k c d (hd m c hm).2 (hd k d hk).2 e, fun m c hm => r.scope m c (hd m c hm).2, fun m c hm => r.above m c (hd m c hm).2⟩,
    ⟨fun _ _ => ⟨rfl, rfl⟩, Nat.le_refl _, hos, htape, hout, by omega, fun k _ hne => hfr k (fun e => hne n b hn e.symm), fun m c hm => .inl ⟨m, c, (hd m c hm).2, rfl⟩, fun m hl _ => ?_⟩⟩
  · exact (r.block m c (hd m c hm).2).agree rfl rfl (hfr _ (fun e => (hd m c hm).1 (r.inj m n c b (hd m c hm).2 hn e)))
  · rw [hget_del, if_neg (by omega)]

end Go.Ev
