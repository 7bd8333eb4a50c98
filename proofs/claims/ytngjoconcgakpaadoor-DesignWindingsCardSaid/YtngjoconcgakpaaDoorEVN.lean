/- Running the program's functions on values that are known in part: one operation more, in whatever order. -/
import Derived.Test.YtngjoconcgakpaaDoorEVM
set_option linter.unusedVariables false
set_option linter.unusedSimpArgs false
set_option linter.unusedSectionVars false
set_option linter.unnecessarySimpa false
namespace Go.Ev
open Go.RowKit

section
variable {C : Ctx} {w0 : World} {ops : Array Oper} {base : Nat} {h0 : AHeap} {tm0 : List AV} {L : List Item} {ρ0 : Env} {ws : World} {ds : List Deferred}

/-- The names that an operation has made lie apart from those of every other one. -/
theorem ranges (hc : Chain C w0 ops base h0 tm0 L) (hlen : L.length ≤ ops.size) {i j : Nat} {it jt : Item} (hi : L[i]? = some it) (hj : L[j]? = some jt) (hlt : j < i) : jt.nx' ≤ it.nx := by
  have hil := (List.getElem?_eq_some_iff.1 hi).1
  have hjl := (List.getElem?_eq_some_iff.1 hj).1
  have hp : ops[i]? = some ops[i] := by simp
  obtain ⟨-, h2, -⟩ := hc.item i it _ hi hp
  have hm := nxAt_mono hc hlen (i := j + 1) (j := i) (by omega) (by omega)
  simp only [nxAt, hj] at hm
  omega

theorem base_le (hc : Chain C w0 ops base h0 tm0 L) (hlen : L.length ≤ ops.size) {i : Nat} {it : Item} (hi : L[i]? = some it) : base ≤ it.nx ∧ it.nx ≤ it.nx' ∧ it.nx' ≤ nxAt base L L.length := by
  have hil := (List.getElem?_eq_some_iff.1 hi).1
  have hp : ops[i]? = some ops[i] := by simp
  obtain ⟨-, h2, h3, -⟩ := hc.item i it _ hi hp
  have hm := nxAt_mono hc hlen (i := 0) (j := i) (by omega) (by omega)
  have hm2 := nxAt_mono hc hlen (i := i + 1) (j := L.length) (by omega) (by omega)
  simp only [nxAt, hi] at hm2
  simp only [nxAt] at hm
  omega

variable (hc : Chain C w0 ops base h0 tm0 L) (hlen : L.length ≤ ops.size) (hd : baseOk ops = true)
variable (hs0 : ∀ n b, hget h0 n = some b → n < base ∧ AV.okL base b.cells = true) (ht0 : AV.okL base tm0 = true)
include hc hlen hd

/-- What an operation looks at stands as it was reckoned. -/
theorem slot_stands {D : Nat → Prop} {ρ : Env} {a : Act} {w : World} (hI : Inv w0 ops base h0 tm0 L ρ0 ws ds D ρ a w) {i : Nat} {p : Oper} {it : Item} (hp : ops[i]? = some p) (hit : L[i]? = some it)
    (hdep : ∀ d ∈ depsOf p, D d) (hDi : ¬ D i) {t : Tmp} (ht : t ∈ p.looksAt ops) : a.tmps[t]? = (AV.denL ρ it.tm)[t]? := by
  obtain ⟨h1, -⟩ := hc.item i it p hit hp
  rw [h1, denL_map, List.getElem?_map]
  by_cases hex : ∃ (j : Nat) (q : Oper), ops[j]? = some q ∧ q.dst = some t
  · obtain ⟨j, q, hq, hdq⟩ := hex
    rcases ((baseOk_spec hd hp).2.2.1 j q t hq hdq).1 ht with hja | hia
    rotate_left
    · -- it is written behind this operation
      have hij := (anc_spec hq hia).1
      have hone : ∀ (k : Nat) (r : Oper), ops[k]? = some r → r.dst = some t → k = j := fun k r hr hdr => Classical.byContradiction fun hk => ((baseOk_spec hd hr).2.2.1 j q t hq hdq).2 hk hdr
      have hDj : ¬ D j := fun hDj => hDi (anc_listed hI.closed j q hq (hI.closed j q hq hDj) i hia)
      rw [hI.left t (fun k r hDk hr hdr => hDj (hone k r hr hdr ▸ hDk)), tmAt_keep (fun k r hk hr hdr => by have := hone k r hr hdr; omega), denL_map, List.getElem?_map]
    have hDj := anc_listed hI.closed i p hp hdep j hja
    have hji := (anc_spec hp hja).1
    have hjl : j < L.length := by
      have hil := (List.getElem?_eq_some_iff.1 hit).1
      omega
    have hjt : L[j]? = some L[j] := List.getElem?_eq_getElem hjl
    rcases Nat.lt_or_ge t tm0.length with hlt | hge
    · rw [hI.put j _ q t hDj hjt hq hdq hlt, tmAt_put hjt hq hdq hlt (fun k r hk hr hdr => ?_) hji]
      · rfl
      · exact ((baseOk_spec hd hr).2.2.1 j q t hq hdq).2 hk hdr
    · rw [Array.getElem?_eq_none (by rw [hI.size]; exact hge), List.getElem?_eq_none (by rw [tmAt_length]; exact hge)]; rfl
  · have hno : ∀ (j : Nat) (q : Oper), ops[j]? = some q → q.dst ≠ some t := fun j q hq hdq => hex ⟨j, q, hq, hdq⟩
    rw [hI.left t (fun j q _ hq => hno j q hq), tmAt_keep (fun j q _ hq => hno j q hq), denL_map, List.getElem?_map]

theorem operand_stands {D : Nat → Prop} {ρ : Env} {a : Act} {w : World} (hI : Inv w0 ops base h0 tm0 L ρ0 ws ds D ρ a w) {i : Nat} {p : Oper} {it : Item} (hp : ops[i]? = some p) (hit : L[i]? = some it)
    (hdep : ∀ d ∈ depsOf p, D d) (hDi : ¬ D i) : ∀ x ∈ p.op.operands, a.eval x = (aeval it.tm x).den ρ := by
  intro x hx
  cases x with
  | tmp t =>
    have ht : t ∈ p.looksAt ops := by
      unfold Oper.looksAt
      exact List.mem_append_left _ (List.mem_filterMap.2 ⟨.tmp t, by simpa using hx, rfl⟩)
    have := slot_stands hc hlen hd hI hp hit hdep hDi ht
    simp only [Act.eval, aeval, getD_den]
    rw [Array.getD_eq_getD_getElem?, this, List.getD_eq_getElem?_getD]
  | const v => simp [Act.eval, aeval, AV.den]
  | global g => simp [Act.eval, aeval, AV.den]
  | func f => simp [Act.eval, aeval, AV.den]

theorem guard_stands {D : Nat → Prop} {ρ : Env} {a : Act} {w : World} (hI : Inv w0 ops base h0 tm0 L ρ0 ws ds D ρ a w) {i : Nat} {p : Oper} {it : Item} (hp : ops[i]? = some p) (hit : L[i]? = some it)
    (hdep : ∀ d ∈ depsOf p, D d) (hDi : ¬ D i) : GuardSees ops p a.tmps ρ it.tm := by
  intro j want t hg hdt
  refine slot_stands hc hlen hd hI hp hit hdep hDi ?_
  unfold Oper.looksAt
  refine List.mem_append_right _ ?_
  rw [hg]
  simp only
  rw [hdt]
  simp

omit hc hlen in
/-- An operation that is not wanted. -/
theorem inv_off {D : Nat → Prop} {ρ : Env} {a : Act} {w : World} (hI : Inv w0 ops base h0 tm0 L ρ0 ws ds D ρ a w) {i : Nat} {p : Oper} {it : Item} (hp : ops[i]? = some p) (hit : L[i]? = some it)
    (hdep : ∀ d ∈ depsOf p, D d) (hDi : ¬ D i) (hv : it.v = .pure undef) (hm : it.made = []) : Inv w0 ops base h0 tm0 L ρ0 ws ds (fun j => D j ∨ j = i) ρ (a.put p.dst undef) w := by
  have hth : ∀ n b, There h0 L (fun j => D j ∨ j = i) n b → There h0 L D n b := fun n b h => by
    rcases h with h | ⟨j, jt, hj | hj, h1, h2⟩
    · exact .inl h
    · exact .inr ⟨j, jt, hj, h1, h2⟩
    · subst hj; rw [hit] at h1; cases h1; rw [hm] at h2; simp [hget] at h2
  refine { hI with closed := ?_, defers := ?_, size := ?_, put := ?_, left := ?_, block := fun n b h => hI.block n b (hth n b h), inj := fun n m b c h k => hI.inj n m b c (hth n b h) (hth m c k), above := fun n b h => hI.above n b (hth n b h), made := ?_ }
  · intro k q hq hk d hdm
    rcases hk with hk | rfl
    · exact .inl (hI.closed k q hq hk d hdm)
    · rw [hp] at hq; cases hq; exact .inl (hdep d hdm)
  · cases hdst : p.dst <;> simp [Act.put, hI.defers]
  · cases hdst : p.dst <;> simp [Act.put, hI.size]
  · intro j jt q t hj h1 h2 h3 h4
    by_cases hji : j = i
    · subst hji
      rw [hit] at h1; cases h1
      rw [hp] at h2; cases h2
      simp only [Act.put, h3, hv, AV.den]
      rw [Array.getElem?_setIfInBounds, if_pos rfl, if_pos (by rw [hI.size]; exact h4)]
    · have hj' : D j := hj.resolve_right hji
      have hne : p.dst ≠ some t := ((baseOk_spec hd hp).2.2.1 j q t h2 h3).2 (fun e => hji e.symm)
      have := hI.put j jt q t hj' h1 h2 h3 h4
      cases hdst : p.dst with
      | none => simpa [Act.put] using this
      | some d =>
        simp only [Act.put]
        rw [Array.getElem?_setIfInBounds, if_neg (fun e => hne (by rw [hdst, e]))]; exact this
  · intro t ht
    have hne : p.dst ≠ some t := ht i p (.inr rfl) hp
    have := hI.left t (fun j q hj hq => ht j q (.inl hj) hq)
    cases hdst : p.dst with
    | none => simpa [Act.put] using this
    | some d =>
      simp only [Act.put]
      rw [Array.getElem?_setIfInBounds, if_neg (fun e => hne (by rw [hdst, e]))]; exact this
  · intro j jt n b hj h1 h2
    rcases hj with hj | rfl
    · exact hI.made j jt n b hj h1 h2
    · rw [hit] at h1; cases h1; rw [hm] at h2; simp [hget] at h2

include hs0 ht0
/-- An operation that is carried out. -/
theorem inv_on {D : Nat → Prop} {ρ : Env} {a : Act} {w : World} (hI : Inv w0 ops base h0 tm0 L ρ0 ws ds D ρ a w) {i : Nat} {p : Oper} {it : Item} (hp : ops[i]? = some p) (hit : L[i]? = some it)
    (hdep : ∀ d ∈ depsOf p, D d) (hDi : ¬ D i) {s : St} {o : Out} (hsh : s.heap = seenBy ((L.take i).map Item.seen) (depsOf p) ++ h0) (hsn : s.nxt = it.nx) (hon : o.st.nxt = it.nx') (hmade : it.made = hfrom o.st.heap it.nx) (hlow : it.nx ≤ o.low) :
    Rep w0.heap.size ρ s.heap s.nxt w ∧
    ∀ ρ' w', Rep w0.heap.size ρ' o.st.heap o.st.nxt w' → Post ρ ρ' s.heap o.st.heap s.nxt o.st.nxt o.low w w' →
      Inv w0 ops base h0 tm0 L ρ0 ws ds (fun j => D j ∨ j = i) ρ' (a.put p.dst (it.v.den ρ')) w' := by
  obtain ⟨b1, b2, b3⟩ := base_le hc hlen hit
  -- what is seen is there
  have hsee : ∀ n b, hget s.heap n = some b → There h0 L D n b ∧ n < it.nx ∧ AV.okL it.nx b.cells = true := by
    intro n b hn
    rw [hsh, hget_append] at hn
    cases hm : hget (seenBy ((L.take i).map Item.seen) (depsOf p)) n with
    | some c =>
      rw [hm] at hn; cases hn
      obtain ⟨j, jt, hji, hDj, hjt, hb⟩ := mine_there hc hlen hd hI.closed hp (List.getElem?_eq_some_iff.1 hit).1 hdep hm
      obtain ⟨m1, m2, m3, m4⟩ := hI.made j jt n b hDj hjt hb
      have hr := ranges hc hlen hit hjt hji
      exact ⟨.inr ⟨j, jt, hDj, hjt, hb⟩, by omega, okL_mono hr _ m3⟩
    | none =>
      rw [hm] at hn
      obtain ⟨q1, q2⟩ := hs0 n b hn
      exact ⟨.inl hn, by omega, okL_mono b1 _ q2⟩
  have hRep : Rep w0.heap.size ρ s.heap s.nxt w := by
    refine ⟨fun n b hn => hI.block n b (hsee n b hn).1, fun n m b c hn hm => hI.inj n m b c (hsee n b hn).1 (hsee m c hm).1, fun n b hn => ?_, fun n b hn => hI.above n b (hsee n b hn).1⟩
    rw [hsn]; exact (hsee n b hn).2
  refine ⟨hRep, fun ρ' w' hr' hp' => ?_⟩
  have hle := hp'.le
  -- a name is away from those that the operation has made
  have hag : ∀ n, ¬ (it.nx ≤ n ∧ n < it.nx') → ρ'.σ n = ρ.σ n ∧ ρ'.kk n = ρ.kk n := fun n hn => hp'.agree n (by rw [hsn, hon]; omega)
  have haway : ∀ n b, There h0 L D n b → ¬ (it.nx ≤ n ∧ n < it.nx') := by
    intro n b hn
    rcases hn with hn | ⟨j, jt, hDj, hjt, hb⟩
    · have := (hs0 n b hn).1; omega
    · obtain ⟨m1, m2, -, -⟩ := hI.made j jt n b hDj hjt hb
      rcases Nat.lt_trichotomy j i with h | h | h
      · have := ranges hc hlen hit hjt h; omega
      · subst h; exact absurd hDj hDi
      · have := ranges hc hlen hjt hit h; omega
  -- what is handed on by what has been carried out names nothing that this operation has made
  have hnames : ∀ j jt, D j → L[j]? = some jt → ∀ q, ops[j]? = some q → ∀ n, mayName base jt.nx (seenBy ((L.take j).map Item.seen) (depsOf q)) n = true → n < jt.nx' → ¬ (it.nx ≤ n ∧ n < it.nx') := by
    intro j jt hDj hjt q hq n hn hnlt
    have hji : j ≠ i := fun e => hDi (e ▸ hDj)
    unfold mayName at hn
    split at hn
    · rename_i e; have := blt_lt e; omega
    · split at hn
      · rename_i e
        have e := ble_le e
        rcases Nat.lt_or_gt_of_ne hji with h | h
        · have := ranges hc hlen hit hjt h; omega
        · have := ranges hc hlen hjt hit h; omega
      · split at hn
        · rename_i b hb
          obtain ⟨k, kt, -, hDk, hkt, hkb⟩ := mine_there hc hlen hd hI.closed hq (List.getElem?_eq_some_iff.1 hjt).1 (hI.closed j q hq hDj) hb
          exact haway n b (.inr ⟨k, kt, hDk, hkt, hkb⟩)
        · cases hn
  have hval : ∀ j jt, D j → L[j]? = some jt → jt.v.den ρ' = jt.v.den ρ := by
    intro j jt hDj hjt
    have hjl := (List.getElem?_eq_some_iff.1 hjt).1
    have hq : ops[j]? = some ops[j] := by simp
    obtain ⟨-, -, -, h4, h5⟩ := hc.item j jt _ hjt hq
    rcases h5 with ⟨-, h5, -⟩ | ⟨-, h5, -⟩ | ⟨-, -, h5, -⟩
    rotate_left 2
    · rw [h5]; simp [AV.den]
    · rw [h5]; simp [AV.den]
    · refine den_within (p := fun n => mayName base jt.nx (seenBy ((L.take j).map Item.seen) (depsOf ops[j])) n && Nat.blt n jt.nx') (fun n hn => ?_) _ ?_
      · simp only [Bool.and_eq_true] at hn
        exact hag n (hnames j jt hDj hjt _ hq n hn.1 (blt_lt hn.2))
      · exact within_and _ h5 h4
  have hcells : ∀ n b, There h0 L D n b → AV.denL ρ' b.cells = AV.denL ρ b.cells := by
    intro n b hn
    rcases hn with hn | ⟨j, jt, hDj, hjt, hb⟩
    · exact denL_agree (m := base) (fun k hk => hag k (by omega)) _ (hs0 n b hn).2
    · have hjl := (List.getElem?_eq_some_iff.1 hjt).1
      have hq : ops[j]? = some ops[j] := by simp
      obtain ⟨-, -, -, -, h5⟩ := hc.item j jt _ hjt hq
      obtain ⟨-, -, m3, -⟩ := hI.made j jt n b hDj hjt hb
      rcases h5 with ⟨-, -, h5, -⟩ | ⟨-, -, h5, -⟩ | ⟨-, -, -, h5, -⟩
      rotate_left 2
      · rw [h5] at hb; simp [hget] at hb
      · rw [h5] at hb; simp [hget] at hb
      · refine denL_within (p := fun n => mayName base jt.nx (seenBy ((L.take j).map Item.seen) (depsOf ops[j])) n && Nat.blt n jt.nx') (fun n hn => ?_) _ ?_
        · simp only [Bool.and_eq_true] at hn
          exact hag n (hnames j jt hDj hjt _ hq n hn.1 (blt_lt hn.2))
        · exact withinL_and _ (heapWithin_get h5 hb) m3
  -- the blocks are each of one kind
  have hfun : ∀ n b c, There h0 L D n b → There h0 L D n c → b = c := by
    intro n b c hn hm
    rcases hn with hn | ⟨j, jt, hDj, hjt, hb⟩ <;> rcases hm with hm | ⟨k, kt, hDk, hkt, hcc⟩
    · rw [hn] at hm; cases hm; rfl
    · have := (hs0 n b hn).1
      have := hI.made k kt n c hDk hkt hcc
      have := base_le hc hlen hkt
      omega
    · have := (hs0 n c hm).1
      have := hI.made j jt n b hDj hjt hb
      have := base_le hc hlen hjt
      omega
    · have m1 := hI.made j jt n b hDj hjt hb
      have m2 := hI.made k kt n c hDk hkt hcc
      rcases Nat.lt_trichotomy j k with h | h | h
      · have := ranges hc hlen hkt hjt h; omega
      · subst h; rw [hjt] at hkt; cases hkt; rw [hb] at hcc; cases hcc; rfl
      · have := ranges hc hlen hjt hkt h; omega
  have hlt : ∀ n b, There h0 L D n b → ρ.σ n < w.heap.size := by
    intro n b hn
    obtain ⟨x, h1⟩ := (hI.block n b hn).some
    rcases Nat.lt_or_ge (ρ.σ n) w.heap.size with k | k
    · exact k
    · simp [Array.getElem?_eq_none k] at h1
  -- what the operation has made
  have hnew : ∀ n b, hget it.made n = some b → it.nx ≤ n ∧ n < it.nx' ∧ AV.okL it.nx' b.cells = true ∧ hget o.st.heap n = some b ∧ w.heap.size ≤ ρ'.σ n := by
    intro n b hn
    rw [hmade, hget_from] at hn
    split at hn
    · cases hn
    · rename_i hge
      obtain ⟨s1, s2⟩ := hr'.scope n b hn
      rw [hon] at s1 s2
      refine ⟨by omega, s1, s2, hn, ?_⟩
      rcases hp'.fresh n b hn with ⟨m, c, hm, em⟩ | hf
      · have hmlt := (hsee m c hm).2.1
        have hk := hp'.keep m (by omega) (by rw [hsn]; exact hmlt)
        rw [hm] at hk
        have hσ := (hp'.agree m (.inl (by rw [hsn]; exact hmlt))).1
        have := hr'.inj n m b c hn hk (by rw [em, hσ])
        omega
      · exact hf
  have hth : ∀ n b, There h0 L (fun j => D j ∨ j = i) n b → There h0 L D n b ∨ hget it.made n = some b := fun n b h => by
    rcases h with h | ⟨j, jt, hj | hj, h1, h2⟩
    · exact .inl (.inl h)
    · exact .inl (.inr ⟨j, jt, hj, h1, h2⟩)
    · subst hj; rw [hit] at h1; cases h1; exact .inr h2
  have hbel : Below w0.heap.size w w' := hp'.below hRep hI.below.size
  refine ⟨?_, ?_, ?_, ?_, ?_, ?_, ?_, ?_, ?_, ?_, hp'.os.trans hI.os, hp'.tape.trans hI.tape, hp'.output.trans hI.output, Nat.le_trans hI.wsize hp'.size, ?_, hI.below.trans hbel⟩
  · intro k q hq hk d hdm
    rcases hk with hk | rfl
    · exact .inl (hI.closed k q hq hk d hdm)
    · rw [hp] at hq; cases hq; exact .inl (hdep d hdm)
  · cases hdst : p.dst <;> simp [Act.put, hI.defers]
  · cases hdst : p.dst <;> simp [Act.put, hI.size]
  · intro j jt q t hj h1 h2 h3 h4
    by_cases hji : j = i
    · subst hji
      rw [hit] at h1; cases h1
      rw [hp] at h2; cases h2
      simp only [Act.put, h3]
      rw [Array.getElem?_setIfInBounds, if_pos rfl, if_pos (by rw [hI.size]; exact h4)]
    · have hj' : D j := hj.resolve_right hji
      have hne : p.dst ≠ some t := ((baseOk_spec hd hp).2.2.1 j q t h2 h3).2 (fun e => hji e.symm)
      have := hI.put j jt q t hj' h1 h2 h3 h4
      rw [hval j jt hj' h1]
      cases hdst : p.dst with
      | none => simpa [Act.put] using this
      | some d =>
        simp only [Act.put]
        rw [Array.getElem?_setIfInBounds, if_neg (fun e => hne (by rw [hdst, e]))]; exact this
  · intro t ht
    have hne : p.dst ≠ some t := ht i p (.inr rfl) hp
    have := hI.left t (fun j q hj hq => ht j q (.inl hj) hq)
    rw [denL_agree (m := base) (ρ := ρ) (fun k hk => hag k (by omega)) tm0 ht0]
    cases hdst : p.dst with
    | none => simpa [Act.put] using this
    | some d =>
      simp only [Act.put]
      rw [Array.getElem?_setIfInBounds, if_neg (fun e => hne (by rw [hdst, e]))]; exact this
  · intro n b hn
    rcases hth n b hn with hn | hn
    · obtain ⟨g1, g2⟩ := hag n (haway n b hn)
      cases hs : hget s.heap n with
      | some c =>
        have hk := hp'.keep n (by have := (hsee n c hs).2.1; omega) (by rw [hsn]; exact (hsee n c hs).2.1)
        rw [hs] at hk
        have hbc := hfun n b c hn (hsee n c hs).1
        subst hbc
        exact hr'.block n b hk
      | none =>
        refine (hI.block n b hn).agree (hcells n b hn) (congrArg Kap.cap g2) ?_
        rw [g1]
        refine hp'.frame _ (hlt n b hn) (fun m c hm em => ?_)
        have := hI.inj m n c b (hsee m c hm).1 hn em
        subst this; rw [hs] at hm; cases hm
    · exact hr'.block n b (hnew n b hn).2.2.2.1
  · intro n m b c hn hm e
    rcases hth n b hn with hn | hn <;> rcases hth m c hm with hm | hm
    · rw [(hag n (haway n b hn)).1, (hag m (haway m c hm)).1] at e
      exact hI.inj n m b c hn hm e
    · have h1 := hlt n b hn
      have h2 := (hnew m c hm).2.2.2.2
      rw [(hag n (haway n b hn)).1] at e
      omega
    · have h1 := hlt m c hm
      have h2 := (hnew n b hn).2.2.2.2
      rw [(hag m (haway m c hm)).1] at e
      omega
    · exact hr'.inj n m b c (hnew n b hn).2.2.2.1 (hnew m c hm).2.2.2.1 e
  · intro n b hn
    rcases hth n b hn with hn | hn
    · rw [(hag n (haway n b hn)).1]; exact hI.above n b hn
    · exact hr'.above n b (hnew n b hn).2.2.2.1
  · intro j jt n b hj h1 h2
    rcases hj with hj | rfl
    · have hn : There h0 L D n b := .inr ⟨j, jt, hj, h1, h2⟩
      rw [(hag n (haway n b hn)).1]
      exact hI.made j jt n b hj h1 h2
    · rw [hit] at h1; cases h1
      obtain ⟨m1, m2, m3, -, m5⟩ := hnew n b h2
      exact ⟨m1, m2, m3, Nat.le_trans hI.wsize m5⟩
  · intro n hn
    obtain ⟨g1, g2⟩ := hag n (by omega)
    obtain ⟨k1, k2⟩ := hI.agree n hn
    exact ⟨g1.trans k1, g2.trans k2⟩
  · intro k hk hne
    rw [hp'.frame k (Nat.lt_of_lt_of_le hk hI.wsize) (fun n b hn em => ?_)]
    · exact hI.frame k hk hne
    · rcases (hsee n b hn).1 with h | ⟨j, jt, hDj, hjt, hb⟩
      · have := (hI.agree n (.inl (hs0 n b h).1)).1
        exact hne n b h (by rw [← this]; exact em)
      · have := (hI.made j jt n b hDj hjt hb).2.2.2
        omega

end
end Go.Ev
