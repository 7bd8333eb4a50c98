/- Running the program's functions on values that are known in part: append. -/
import Derived.Test.YtngjoconcgakpaaDoorEVG
import Derived.Laws.AppendOwn
set_option linter.unusedVariables false
set_option linter.unusedSimpArgs false
set_option linter.unusedSectionVars false
set_option linter.unnecessarySimpa false
namespace Go.Ev
open Go.RowKit

section
variable {P : Program} (w : World)

/-- What is appended: so many elements, their cells. -/
structure Gives (P : Program) (size : Nat) (y : Value) (n : Nat) (news : List Value) (w : World) : Prop where
  len : (Builtin.lenOf y).run P w = .ok n w
  cells : (Builtin.firstCells size n y).run P w = .ok news.toArray w
  cells' : (Builtin.firstCells size n y).run P w.drew = .ok news.toArray w.drew

theorem listLike_spec {d : TypeDesc} (h : listLike d = true) : (∃ e, d = .slice e) ∨ d = .string := by
  unfold listLike at h
  split at h
  · exact .inl ⟨_, rfl⟩
  · exact .inr rfl
  · cases h

theorem app_nil (t u ty e : TypeId) (du : TypeDesc) (i : TypeInfo) (z : Value) (ht : P.underlying t = some (.slice e)) (hu : P.underlying u = some du) (hdu : listLike du = true) (hi : P.info? e = some i) (hz : i.zero = some z)
    (y : Value) (n : Nat) (news : List Value) (hy : Gives P i.size y n news w)
    (h0 : 0 < n) (h63 : (n : Int) ≤ 9223372036854775807) (h48 : n * i.bytes ≤ 281474976710656) :
    (Builtin.append_ #[t, u] ty #[.slice none 0 0, y]).run P w =
      .ok (.slice (some ⟨w.heap.size, 0, none⟩) n (grownCap w n 0 e)) (w.drew.alloc (.cells (news.toArray ++ Builtin.zeroCells z.cells (grownCap w n 0 e - n)) e)) := by
  have hn : n ≠ 0 := by omega
  have h63' : ¬ (9223372036854775807 < (n : Int)) := by omega
  have h48' : ¬ (281474976710656 < Builtin.nextslicecap n 0 * i.bytes) := by rw [nextslicecap_zero h0]; omega
  have hf := hy.cells'
  have hl := hy.len
  rcases listLike_spec hdu with ⟨e', rfl⟩ | rfl <;> first
    | simp [Builtin.append_, run_underlying ht, run_underlying hu, sizeOf, typeInfo, zeroValue, hi, hz, hl, hn, h63', h48', Question.forced, run_firstCells_none, hf, newRow, grownCap]

theorem app_grow (t u ty e : TypeId) (du : TypeDesc) (i : TypeInfo) (z : Value) (ht : P.underlying t = some (.slice e)) (hu : P.underlying u = some du) (hdu : listLike du = true) (hi : P.info? e = some i) (hz : i.zero = some z)
    (b : Addr) (sLen sCap : Nat) (olds : List Value) (hlo : olds.length = sLen * i.size) (holds : ∀ j v, olds[j]? = some v → w.cell? (b.add j) = some v)
    (y : Value) (n : Nat) (news : List Value) (hy : Gives P i.size y n news w)
    (hg : sCap < sLen + n) (h63 : ((sLen + n : Nat) : Int) ≤ 9223372036854775807) (hfit : Builtin.nextslicecap (sLen + n) sCap * i.bytes ≤ 281474976710656) :
    (Builtin.append_ #[t, u] ty #[.slice (some b) sLen sCap, y]).run P w =
      .ok (.slice (some ⟨w.heap.size, 0, none⟩) (sLen + n) (grownCap w (sLen + n) sCap e))
        (w.drew.alloc (.cells (olds.toArray ++ news.toArray ++ Builtin.zeroCells z.cells (grownCap w (sLen + n) sCap e - (sLen + n))) e)) := by
  have hn : ¬ (sLen + n ≤ sCap) := by omega
  have h63' : ¬ (9223372036854775807 < ((sLen : Int) + (n : Int))) := by omega
  have h48' : ¬ (281474976710656 < Builtin.nextslicecap (sLen + n) sCap * i.bytes) := by omega
  have hf := hy.cells'
  have hl := hy.len
  have hfo := run_firstCells_some (P := P) w.drew i.size sLen b sLen sCap olds hlo (by simpa using holds)
  have key : ∀ (x y z : Array Value), x ++ (y ++ z) = x ++ y ++ z := fun x y z => by rw [Array.append_assoc]
  rcases listLike_spec hdu with ⟨e', rfl⟩ | rfl <;> first
    | (simp [Builtin.append_, run_underlying ht, run_underlying hu, sizeOf, typeInfo, zeroValue, hi, hz, hl, hn, h63', h48', Question.forced, hf, hfo, newRow, grownCap]; done)
    | (simp [Builtin.append_, run_underlying ht, run_underlying hu, sizeOf, typeInfo, zeroValue, hi, hz, hl, hn, h63', h48', Question.forced, hf, hfo, newRow, grownCap]
       congr 2
       apply Array.ext'
       simp [List.append_assoc])

theorem app_room (t u ty e : TypeId) (du : TypeDesc) (i : TypeInfo) (ht : P.underlying t = some (.slice e)) (hu : P.underlying u = some du) (hdu : listLike du = true) (hi : P.info? e = some i)
    (g off sLen sCap : Nat) (cur : Array Value) (eb : TypeId) (hg : w.heap[g]? = some (.cells cur eb (0, 0)))
    (y : Value) (m : Nat) (news : List Value) (hy : Gives P i.size y m news w) (h1 : ∀ u ∈ news, u.oneCell' = true)
    (hroom : sLen + m ≤ sCap) (hfit : off + sLen * i.size + news.length ≤ cur.size) :
    (Builtin.append_ #[t, u] ty #[.slice (some ⟨g, off, none⟩) sLen sCap, y]).run P w =
      .ok (.slice (some ⟨g, off, none⟩) (sLen + m) sCap) (w.setRow g (cur.toList.take (off + sLen * i.size) ++ news ++ cur.toList.drop (off + sLen * i.size + news.length)).toArray) := by
  have hst := run_storeCells_at P g (off + sLen * i.size) eb news 0 cur w hg (by simpa using hfit) h1
  simp only [Nat.add_zero] at hst
  have hf := hy.cells
  have hl := hy.len
  have hadd : (⟨g, off, none⟩ : Addr).add (sLen * i.size) = ⟨g, off + sLen * i.size, none⟩ := by unfold Addr.add; split <;> simp_all
  rcases listLike_spec hdu with ⟨e', rfl⟩ | rfl <;> first
    | simp [Builtin.append_, run_underlying ht, run_underlying hu, sizeOf, typeInfo, hi, hl, hroom, hf, hadd, hst]
end

/-- A new block for what was there and what is appended; some names forgotten. -/
theorem rep_app {lo : Nat} {ρ : Env} {h h' : AHeap} {nxt : Nat} {w : World} (r : Rep lo ρ h nxt w) (hlo : lo ≤ w.heap.size) (hs : ∀ n b, hget h' n = some b → hget h n = some b) {low : Nat} (hk : ∀ n, n < low → n < nxt → hget h' n = hget h n)
    (cells : List AV) (hok : AV.okL nxt cells = true) (arr : Array Value) (e : TypeId) (rest : List Value) (k cap : Nat) (harr : arr.toList = AV.denL ρ cells ++ rest) (ho : arr.size = cap * k) :
    Rep lo (ρ.with nxt w.heap.size cap) ((nxt, ⟨cells, some k, .cells⟩) :: h') (nxt + 1) (w.drew.alloc (.cells arr e)) ∧
    Post ρ (ρ.with nxt w.heap.size cap) h ((nxt, ⟨cells, some k, .cells⟩) :: h') nxt (nxt + 1) (Nat.min low nxt) w (w.drew.alloc (.cells arr e)) := by
  have r' := rep_forget r hs
  have r2 : Rep lo ρ h' nxt w.drew := ⟨r'.block, r'.inj, r'.scope, r'.above⟩
  obtain ⟨a, p⟩ := rep_new r2 hlo cells hok arr e rest (some k) cap harr ho
  refine ⟨a, p.agree, p.le, p.os, p.tape, p.output, p.size, fun j hj _ => heap_push_old w.drew _ j hj, fun n b hn => ?_, fun n hl hx => ?_⟩
  · rcases p.fresh n b hn with ⟨m, c, hm, e1⟩ | h2
    · exact .inl ⟨m, c, hs m c hm, e1⟩
    · exact .inr h2
  · simp only [Nat.lt_min] at hl
    rw [hget_cons, if_neg (by omega)]
    exact hk n hl.1 hx

/-- A block under a new name, its rest written. -/
theorem rep_over {lo : Nat} {ρ : Env} {h : AHeap} {nxt : Nat} {w : World} (r : Rep lo ρ h nxt w) {n : Nat} {b : ABlock} (hn : hget h n = some b) (cells : List AV) (hok : AV.okL nxt cells = true) (k : Nat)
    (w' : World) (hos : w'.os = w.os) (htape : w'.tape = w.tape) (hout : w'.output = w.output) (hsz : w'.heap.size = w.heap.size) (hfr : ∀ j, j ≠ ρ.σ n → w'.heap[j]? = w.heap[j]?)
    (arr' : Array Value) (e : TypeId) (rest : List Value) (hnew : w'.heap[ρ.σ n]? = some (.cells arr' e (0, 0))) (harr : arr'.toList = AV.denL ρ cells ++ rest) (ho : arr'.size = (ρ.kk n).cap * k) :
    Rep lo (ρ.with nxt (ρ.σ n) ((ρ.kk n).cap)) ((nxt, ⟨cells, some k, .cells⟩) :: hdel h n) (nxt + 1) w' ∧
    Post ρ (ρ.with nxt (ρ.σ n) ((ρ.kk n).cap)) h ((nxt, ⟨cells, some k, .cells⟩) :: hdel h n) nxt (nxt + 1) (Nat.min n nxt) w w' := by
  have hd : ∀ m c, hget (hdel h n) m = some c → m ≠ n ∧ hget h m = some c := fun m c hm => by
    rw [hget_del] at hm
    split at hm
    · cases hm
    · rename_i e; exact ⟨fun k => e k.symm, hm⟩
  have hx : ∀ m c, hget h m = some c → m < nxt := fun m c hm => (r.scope m c hm).1
  have ag : ∀ m, m < nxt → (ρ.with nxt (ρ.σ n) ((ρ.kk n).cap)).σ m = ρ.σ m ∧ (ρ.with nxt (ρ.σ n) ((ρ.kk n).cap)).kk m = ρ.kk m := fun m hm => Env.with_agree _ _ _ _ _ (by omega)
  refine ⟨⟨fun m c hm => ?_, fun m j c d hm hj e1 => ?_, fun m c hm => ?_, fun m c hm => ?_⟩, ⟨fun m hm => Env.with_agree _ _ _ _ _ (by omega), by omega, hos, htape, hout, by omega, fun j _ hne => hfr j (fun e => hne n b hn e.symm), fun m c hm => ?_, fun m hl hlt => ?_⟩⟩
  · rw [hget_cons] at hm
    split at hm
    · rename_i e'; subst e'
      cases hm
      refine ⟨arr', e, rest, by rw [Env.with_σ]; exact hnew, ?_, ?_⟩
      · rw [harr, denL_agree ag cells hok]
      · simpa [Env.with_κ] using ho
    · obtain ⟨h1, h2⟩ := hd m c hm
      have lt := hx m c h2
      refine (r.block m c h2).agree (denL_agree ag c.cells (r.scope m c h2).2) (congrArg Kap.cap (ag m lt).2) ?_
      rw [(ag m lt).1]
      exact hfr _ (fun e => h1 (r.inj m n c b h2 hn e))
  · rw [hget_cons] at hm hj
    split at hm <;> split at hj
    · omega
    · rename_i e2 _; subst e2
      obtain ⟨h1, h2⟩ := hd j d hj
      rw [Env.with_σ, (ag j (hx j d h2)).1] at e1
      exact absurd (r.inj j n d b h2 hn e1.symm) h1
    · rename_i _ e2; subst e2
      obtain ⟨h1, h2⟩ := hd m c hm
      rw [Env.with_σ, (ag m (hx m c h2)).1] at e1
      exact absurd (r.inj m n c b h2 hn e1) h1
    · obtain ⟨-, h1⟩ := hd m c hm
      obtain ⟨-, h2⟩ := hd j d hj
      rw [(ag m (hx m c h1)).1, (ag j (hx j d h2)).1] at e1
      exact r.inj m j c d h1 h2 e1
  · rw [hget_cons] at hm
    split at hm
    · rename_i e'; subst e'
      cases hm
      exact ⟨by omega, okL_mono (by omega) _ hok⟩
    · have := r.scope m c (hd m c hm).2
      exact ⟨by omega, okL_mono (by omega) _ this.2⟩
  · rw [hget_cons] at hm
    split at hm
    · rename_i e'; subst e'
      rw [Env.with_σ]; exact r.above n b hn
    · rw [(ag m (hx m c (hd m c hm).2)).1]; exact r.above m c (hd m c hm).2
  · rw [hget_cons] at hm
    split at hm
    · rename_i e'; subst e'
      exact .inl ⟨n, b, hn, by rw [Env.with_σ]⟩
    · exact .inl ⟨m, c, (hd m c hm).2, (ag m (hx m c (hd m c hm).2)).1⟩
  · simp only [Nat.lt_min] at hl
    rw [hget_cons, if_neg (by omega), hget_del, if_neg (by omega)]

section
variable {P : Program} {lo : Nat} {ρ : Env} {s : St} {r : Res} {w : World}

theorem appTo_sound (hr : Rep lo ρ s.heap s.nxt w) (hlo : lo ≤ w.heap.size) {t u ty e : TypeId} {du : TypeDesc} {i : TypeInfo} {z : Value} (ht : P.underlying t = some (.slice e)) (hu : P.underlying u = some du) (hdu : listLike du = true)
    (hi : P.info? e = some i) (hz : i.zero = some z) (hzs : z.cells.size = i.size) {x : AV} {yv : Value} {ys : List AV} {n : Nat} (hy : Gives P i.size yv n (AV.denL ρ ys) w) (hys : ys.length = n * i.size)
    (h : appTo s i.size i.bytes x ys n = some r) :
    ∃ ρ' w', (Builtin.append_ #[t, u] ty #[x.den ρ, yv]).run P w = .ok (r.1.den ρ') w' ∧ Rep lo ρ' r.2.1 r.2.2.1 w' ∧ Post ρ ρ' s.heap r.2.1 s.nxt r.2.2.1 r.2.2.2 w w' := by
  unfold appTo at h
  split at h
  rotate_left
  · cases h
  rename_i hok
  simp only [Bool.and_eq_true, List.all_eq_true] at hok
  obtain ⟨hok, hone⟩ := hok
  have hzl : ∀ k, (Builtin.zeroCells z.cells k).size = k * i.size := fun k => by rw [size_zeroCells, hzs]
  split at h
  · -- nil
    rename_i l c
    split at h
    · split at h
      · simp only [quiet, Option.some.injEq] at h
        subst h
        refine ⟨ρ, w, ?_, hr, Post.refl hr _⟩
        simp only [AV.den]
        have hl := hy.len
        have hc := hy.cells
        rcases listLike_spec hdu with ⟨e', rfl⟩ | rfl <;> simp [Builtin.append_, run_underlying ht, run_underlying hu, sizeOf, typeInfo, hi, hl, hc]
      · rename_i m
        split at h
        · rename_i hb
          simp only [Bool.and_eq_true] at hb
          have b1 := ble_le hb.1
          have b2 := ble_le hb.2
          rw [spine_eq] at h
          simp only [appGrow, Option.some.injEq] at h
          subst h
          obtain ⟨r1, p1⟩ := rep_app hr hlo (h' := s.heap) (fun _ _ h => h) (low := s.nxt) (fun _ _ _ => rfl) ys hok (((AV.denL ρ ys).toArray ++ Builtin.zeroCells z.cells (grownCap w (m + 1) 0 e - (m + 1)))) e
            (Builtin.zeroCells z.cells (grownCap w (m + 1) 0 e - (m + 1))).toList i.size (grownCap w (m + 1) 0 e) (by simp) (by
              have := grownCap_ge w (m + 1) 0 e
              rw [Array.size_append, hzl, List.size_toArray, denL_length, hys, ← Nat.add_mul]
              congr 1; omega)
          refine ⟨_, _, ?_, r1, p1⟩
          have := app_nil w t u ty e du i z ht hu hdu hi hz yv (m + 1) _ hy (by omega) (by omega) (by omega)
          simp only [AV.den, Env.with_σ, Env.with_κ, Nat.sub_zero]
          exact this
        · cases h
    · cases h
  · -- a slice whose capacity is known
    rename_i b off len cap
    split at h
    rotate_left
    · cases h
    rename_i blk hcl
    obtain ⟨hb, hbk⟩ := hcells_get hcl
    obtain ⟨arr, eb, rest, h1, h2, h3⟩ := hr.cells hb hbk
    have hal : arr.size = blk.cells.length + rest.length := by rw [← Array.length_toList, h2, List.length_append, denL_length]
    split at h
    · rename_i hroom
      have hroom := ble_le hroom
      split at h
      · rename_i cs hp
        rw [spine_eq, hputK_eq] at h
        simp only [Option.some.injEq] at h
        subst h
        obtain ⟨hfit, hcs⟩ := patch_spec hp
        have hrun := app_room w t u ty e du i ht hu hdu hi (ρ.σ b) off len cap arr eb h1 yv n _ hy (fun v hv => by
          rw [denL_map, List.mem_map] at hv
          obtain ⟨y, hym, rfl⟩ := hv
          exact oneCell_den ρ (hone y hym)) hroom (by rw [denL_length]; omega)
        have hnew : (arr.toList.take (off + len * i.size) ++ AV.denL ρ ys ++ arr.toList.drop (off + len * i.size + (AV.denL ρ ys).length)) = AV.denL ρ cs ++ rest := by
          rw [hcs, h2, denL_append, denL_append, denL_length, List.take_append_of_le_length (by rw [denL_length]; omega), List.drop_append_of_le_length (by rw [denL_length]; omega)]
          simp [denL_map, List.append_assoc]
        rw [hnew] at hrun
        obtain ⟨r1, p1⟩ := rep_put hr hb cs (by
          rw [hcs]
          have hcb := (hr.scope b blk hb).2
          rw [okL_iff] at hcb hok ⊢
          intro y hyy
          simp only [List.mem_append] at hyy
          rcases hyy with (hyy | hyy) | hyy
          · exact hcb y (List.mem_of_mem_take hyy)
          · exact hok y hyy
          · exact hcb y (List.mem_of_mem_drop hyy)) (w.setRow (ρ.σ b) (AV.denL ρ cs ++ rest).toArray) rfl rfl rfl (by simp) (fun k hk => setRow_other w _ k _ hk) (AV.denL ρ cs ++ rest).toArray eb rest (setRow_heap w _ arr _ eb _ h1) (by simp) (by
          have hcl : cs.length = blk.cells.length := by rw [hcs]; simp; omega
          revert h3
          cases blk.opn with
          | none => exact id
          | some k => intro h3; simp only [List.size_toArray, List.length_append, denL_length, hcl]; omega)
        exact ⟨ρ, _, by simpa only [AV.den] using hrun, r1, p1.low_le (Nat.min_le_left _ _)⟩
      · cases h
    · rename_i hroom
      have hroom : ¬ (len + n ≤ cap) := fun h => by rw [Nat.ble_eq_true_of_le h] at hroom; cases hroom
      split at h
      · rename_i old hcut hb2
        simp only [Bool.and_eq_true] at hb2
        have b1 := ble_le hb2.1
        have b2 := ble_le hb2.2
        obtain ⟨hl, hyc⟩ := cut_spec hcut
        rw [spine_eq] at h
        simp only [appGrow, Option.some.injEq] at h
        subst h
        have hokold : AV.okL s.nxt (old ++ ys) = true := by
          have hcb := (hr.scope b blk hb).2
          rw [okL_iff] at hcb hok ⊢
          intro y hyy
          rcases List.mem_append.1 hyy with hyy | hyy
          · obtain ⟨j, hj, rfl⟩ := List.mem_iff_getElem.1 hyy
            have := hyc j (by omega)
            rw [List.getElem?_eq_getElem hj] at this
            exact hcb _ (List.mem_of_getElem? this.symm)
          · exact hok y hyy
        obtain ⟨r1, p1⟩ := rep_app hr hlo (h' := s.heap) (fun _ _ h => h) (low := s.nxt) (fun _ _ _ => rfl) (old ++ ys) hokold ((AV.denL ρ old).toArray ++ (AV.denL ρ ys).toArray ++ Builtin.zeroCells z.cells (grownCap w (len + n) cap e - (len + n))) e
          (Builtin.zeroCells z.cells (grownCap w (len + n) cap e - (len + n))).toList i.size (grownCap w (len + n) cap e) (by simp [denL_append]) (by
            have := grownCap_ge w (len + n) cap e
            rw [Array.size_append, Array.size_append, hzl, List.size_toArray, List.size_toArray, denL_length, denL_length, hys, hl, ← Nat.add_mul, ← Nat.add_mul]
            congr 1; omega)
        refine ⟨_, _, ?_, r1, p1⟩
        have := app_grow w t u ty e du i z ht hu hdu hi hz ⟨ρ.σ b, off, none⟩ len cap (AV.denL ρ old) (by rw [denL_length, hl]) (fun j v hj => by
          rw [denL_map, List.getElem?_map] at hj
          cases hx : old[j]? with
          | none => simp [hx] at hj
          | some q =>
            simp [hx] at hj; subst hj; rw [add_plain]
            have hj' : j < old.length := (List.getElem?_eq_some_iff.1 hx).1
            rw [hyc j (by omega)] at hx
            exact cell_of_block hr hcl hx) yv n _ hy (by omega) (by omega) (growslice_fits (by omega) b1)
        simp only [AV.den, Env.with_σ, Env.with_κ, Nat.sub_zero]
        exact this
      · cases h
  · -- a slice that has grown
    rename_i b off len sub
    split at h
    rotate_left
    · cases h
    rename_i cs k kd hcl
    split at h
    rotate_left
    · cases h
    rename_i old hcut hb2
    simp only [Bool.and_eq_true] at hb2
    obtain ⟨⟨hb1, hb3⟩, hks⟩ := hb2
    have b1 := ble_le hb1
    have b2 := ble_le hb3
    have hks := Nat.eq_of_beq_eq_true hks
    subst hks
    obtain ⟨hb, hbk⟩ := hcells_get hcl
    obtain ⟨arr, eb, rest, h1, h2, h3⟩ := hr.cells hb hbk
    simp only at h2 h3
    obtain ⟨hl, hyc⟩ := cut_spec hcut
    rw [spine_eq] at h
    simp only [appGrow, Option.some.injEq] at h
    subst h
    have hlen0 : len * i.size ≤ cs.length := by
      rcases Nat.lt_or_ge cs.length (len * i.size) with h | h
      · have := hyc cs.length h
        rw [List.getElem?_eq_getElem (by omega), Nat.zero_add, List.getElem?_eq_none (Nat.le_refl _)] at this
        cases this
      · exact h
    have hold : old = cs.take (len * i.size) := by
      apply List.ext_getElem?
      intro j
      rcases Nat.lt_or_ge j (len * i.size) with hj | hj
      · rw [hyc j hj, Nat.zero_add, List.getElem?_take, if_pos hj]
      · rw [List.getElem?_eq_none (by omega), List.getElem?_eq_none (by rw [List.length_take]; omega)]
    have hokold : AV.okL s.nxt (old ++ ys) = true := by
      have hcb := (hr.scope b _ hb).2
      rw [okL_iff] at hcb hok ⊢
      intro y hyy
      rcases List.mem_append.1 hyy with hyy | hyy
      · rw [hold] at hyy; exact hcb y (List.mem_of_mem_take hyy)
      · exact hok y hyy
    by_cases hroom : len + n ≤ (ρ.kk b).cap
    · have hfit : len * i.size + n * i.size ≤ arr.size := by rw [h3, ← Nat.add_mul]; exact Nat.mul_le_mul_right _ hroom
      have hrun := app_room w t u ty e du i ht hu hdu hi (ρ.σ b) 0 len ((ρ.kk b).cap) arr eb h1 yv n _ hy (fun v hv => by
        rw [denL_map, List.mem_map] at hv
        obtain ⟨y, hym, rfl⟩ := hv
        exact oneCell_den ρ (hone y hym)) hroom (by rw [denL_length, hys]; omega)
      obtain ⟨r1, p1⟩ := rep_over hr hb (old ++ ys) hokold i.size (w.setRow (ρ.σ b) (arr.toList.take (0 + len * i.size) ++ AV.denL ρ ys ++ arr.toList.drop (0 + len * i.size + (AV.denL ρ ys).length)).toArray) rfl rfl rfl (by simp) (fun k hk => setRow_other w _ k _ hk) (arr.toList.take (0 + len * i.size) ++ AV.denL ρ ys ++ arr.toList.drop (0 + len * i.size + (AV.denL ρ ys).length)).toArray eb (arr.toList.drop (0 + len * i.size + (AV.denL ρ ys).length)) (setRow_heap w _ arr _ eb _ h1) (by
        simp only [Nat.zero_add]
        rw [denL_append, hold, h2, List.take_append_of_le_length (by rw [denL_length]; omega)]
        simp [denL_map, List.map_take]) (by
        simp only [List.size_toArray, List.length_append, List.length_take, List.length_drop, denL_length, hys, Array.length_toList, Nat.zero_add]
        omega)
      refine ⟨_, _, ?_, r1, p1⟩
      simp only [AV.den, Env.with_σ, Env.with_κ, Nat.sub_zero]
      exact hrun
    · obtain ⟨r1, p1⟩ := rep_app hr hlo (h' := hdel s.heap b) (fun m c hm => by rw [hget_del] at hm; split at hm; cases hm; exact hm) (low := b) (fun m hm _ => by rw [hget_del, if_neg (by omega)]) (old ++ ys) hokold ((AV.denL ρ old).toArray ++ (AV.denL ρ ys).toArray ++ Builtin.zeroCells z.cells (grownCap w (len + n) ((ρ.kk b).cap) e - (len + n))) e
        (Builtin.zeroCells z.cells (grownCap w (len + n) ((ρ.kk b).cap) e - (len + n))).toList i.size (grownCap w (len + n) ((ρ.kk b).cap) e) (by simp [denL_append]) (by
          have := grownCap_ge w (len + n) ((ρ.kk b).cap) e
          rw [Array.size_append, Array.size_append, hzl, List.size_toArray, List.size_toArray, denL_length, denL_length, hys, hl, ← Nat.add_mul, ← Nat.add_mul]
          congr 1; omega)
      refine ⟨_, _, ?_, r1, p1⟩
      have := app_grow w t u ty e du i z ht hu hdu hi hz ⟨ρ.σ b, 0, none⟩ len ((ρ.kk b).cap) (AV.denL ρ old) (by rw [denL_length, hl]) (fun j v hj => by
        rw [denL_map, List.getElem?_map] at hj
        cases hx : old[j]? with
        | none => simp [hx] at hj
        | some q =>
          simp [hx] at hj; subst hj; rw [add_plain]
          have hj' : j < old.length := (List.getElem?_eq_some_iff.1 hx).1
          rw [hyc j (by omega)] at hx
          exact cell_of_block hr hcl hx) yv n _ hy (by omega) (by omega) (growslice_fits (by omega) b1)
      simp only [AV.den, Env.with_σ, Env.with_κ, Nat.sub_zero]
      exact this
  · cases h
end
end Go.Ev
