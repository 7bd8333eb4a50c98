import Derived.Test.YtmohaohdbklkeaaTA
import Derived.Laws.AppendOwn
import Derived.Laws.BytesString
import Derived.OrdersIn
import Derived.LoopNIn
import Derived.TacticsIn
import Derived.RangeFuncRecord
set_option linter.unusedVariables false
set_option linter.unusedSimpArgs false
set_option linter.unusedSectionVars false
set_option linter.unnecessarySimpa false
/- Running the program's functions on values that are known in part: append. -/
namespace Go.Ev
open Go.RowKit
section
variable {P : Program} (w : World)
/-- What is appended: so many elements, their cells. -/
structure Gives (P : Program) (size : Nat) (y : Value) (n : Nat) (news : List Value) (w : World) : Prop where
  len : (Builtin.lenOf y).run P w = .ok n w
  cells : (Builtin.firstCells size n y).run P w = .ok news.toArray w
  cells' : (Builtin.firstCells size n y).run P w.drew = .ok news.toArray w.drew
theorem listLike_spec {d : TypeDesc} (h : listLike d = true) : (∃ e, d = .slice e) ∨ d = .string := by
  unfold listLike at h
  split at h
  · exact .inl ⟨_, rfl⟩
  · exact .inr rfl
  · cases h
theorem app_nil (t u ty e : TypeId) (du : TypeDesc) (i : TypeInfo) (z : Value) (ht : P.underlying t = some (.slice e)) (hu : P.underlying u = some du) (hdu : listLike du = true) (hi : P.info? e = some i) (hz : i.zero = some z)
    (y : Value) (n : Nat) (news : List Value) (hy : Gives P i.size y n news w)
    (h0 : 0 < n) (h63 : (n : Int) ≤ 9223372036854775807) (h48 : n * i.bytes ≤ 281474976710656) :
    (Builtin.append_ #[t, u] ty #[.slice none 0 0, y]).run P w =
      .ok (.slice (some ⟨w.heap.size, 0, none⟩) n (grownCap w n 0 e)) (w.drew.alloc (.cells (news.toArray ++ Builtin.zeroCells z.cells (grownCap w n 0 e - n)) e)) := by
  have hn : n ≠ 0 := by omega
  have h63' : ¬ (9223372036854775807 < (n : Int)) := by omega
  have h48' : ¬ (281474976710656 < Builtin.nextslicecap n 0 * i.bytes) := by rw [nextslicecap_zero h0]; omega
  have hf := hy.cells'
  have hl := hy.len
  rcases listLike_spec hdu with ⟨e', rfl⟩ | rfl <;> first
    | simp [Builtin.append_, run_underlying ht, run_underlying hu, sizeOf, typeInfo, zeroValue, hi, hz, hl, hn, h63', h48', Question.forced, run_firstCells_none, hf, newRow, grownCap]
theorem app_grow (t u ty e : TypeId) (du : TypeDesc) (i : TypeInfo) (z : Value) (ht : P.underlying t = some (.slice e)) (hu : P.underlying u = some du) (hdu : listLike du = true) (hi : P.info? e = some i) (hz : i.zero = some z)
    (b : Addr) (sLen sCap : Nat) (olds : List Value) (hlo : olds.length = sLen * i.size) (holds : ∀ j v, olds[j]? = some v → w.cell? (b.add j) = some v)
    (y : Value) (n : Nat) (news : List Value) (hy : Gives P i.size y n news w)
    (hg : sCap < sLen + n) (h63 : ((sLen + n : Nat) : Int) ≤ 9223372036854775807) (hfit : Builtin.nextslicecap (sLen + n) sCap * i.bytes ≤ 281474976710656) :
    (Builtin.append_ #[t, u] ty #[.slice (some b) sLen sCap, y]).run P w =
      .ok (.slice (some ⟨w.heap.size, 0, none⟩) (sLen + n) (grownCap w (sLen + n) sCap e))
        (w.drew.alloc (.cells (olds.toArray ++ news.toArray ++ Builtin.zeroCells z.cells (grownCap w (sLen + n) sCap e - (sLen + n))) e)) := by
  have hn : ¬ (sLen + n ≤ sCap) := by omega
  have h63' : ¬ (9223372036854775807 < ((sLen : Int) + (n : Int))) := by omega
  have h48' : ¬ (281474976710656 < Builtin.nextslicecap (sLen + n) sCap * i.bytes) := by omega
  have hf := hy.cells'
  have hl := hy.len
  have hfo := run_firstCells_some (P := P) w.drew i.size sLen b sLen sCap olds hlo (by simpa using holds)
  have key : ∀ (x y z : Array Value), x ++ (y ++ z) = x ++ y ++ z := fun x y z => by rw [Array.append_assoc]
  rcases listLike_spec hdu with ⟨e', rfl⟩ | rfl <;> first
    | (simp [Builtin.append_, run_underlying ht, run_underlying hu, sizeOf, typeInfo, zeroValue, hi, hz, hl, hn, h63', h48', Question.forced, hf, hfo, newRow, grownCap]; done)
    | (simp [Builtin.append_, run_underlying ht, run_underlying hu, sizeOf, typeInfo, zeroValue, hi, hz, hl, hn, h63', h48', Question.forced, hf, hfo, newRow, grownCap]
       congr 2
       apply Array.ext'
       simp [List.append_assoc])
theorem app_room (t u ty e : TypeId) (du : TypeDesc) (i : TypeInfo) (ht : P.underlying t = some (.slice e)) (hu : P.underlying u = some du) (hdu : listLike du = true) (hi : P.info? e = some i)
    (g off sLen sCap : Nat) (cur : Array Value) (eb : TypeId) (hg : w.heap[g]? = some (.cells cur eb (0, 0)))
    (y : Value) (m : Nat) (news : List Value) (hy : Gives P i.size y m news w) (h1 : ∀ u ∈ news, u.oneCell' = true)
    (hroom : sLen + m ≤ sCap) (hfit : off + sLen * i.size + news.length ≤ cur.size) :
    (Builtin.append_ #[t, u] ty #[.slice (some ⟨g, off, none⟩) sLen sCap, y]).run P w =
      .ok (.slice (some ⟨g, off, none⟩) (sLen + m) sCap) (w.setRow g (cur.toList.take (off + sLen * i.size) ++ news ++ cur.toList.drop (off + sLen * i.size + news.length)).toArray) := by
  have hst := run_storeCells_at P g (off + sLen * i.size) eb news 0 cur w hg (by simpa using hfit) h1
  simp only [Nat.add_zero] at hst
  have hf := hy.cells
  have hl := hy.len
  have hadd : (⟨g, off, none⟩ : Addr).add (sLen * i.size) = ⟨g, off + sLen * i.size, none⟩ := by unfold Addr.add; split <;> simp_all
  rcases listLike_spec hdu with ⟨e', rfl⟩ | rfl <;> first
    | simp [Builtin.append_, run_underlying ht, run_underlying hu, sizeOf, typeInfo, hi, hl, hroom, hf, hadd, hst]
end
/-- A new block, of whatever kind, with some names forgotten. -/
theorem rep_appX {lo : Nat} {ρ : Env} {h h' : AHeap} {nxt : Nat} {w : World} (r : Rep lo ρ h nxt w) (hlo : lo ≤ w.heap.size) (hs : ∀ n b, hget h' n = some b → hget h n = some b) {low : Nat} (hk : ∀ n, n < low → n < nxt → hget h' n = hget h n)
    (blk : ABlock) (hok : AV.okL nxt blk.cells = true) (o : Obj) (cap : Nat)
    (hB : ∀ A' w', Keep (FreeH ρ h') w A' w' → BlockOK A' w' (ρ.with nxt w.heap.size cap) blk ⟨cap, noVal, noDV⟩ (some o)) :
    Rep lo (ρ.with nxt w.heap.size cap) ((nxt, blk) :: h') (nxt + 1) (w.drew.alloc o) ∧
    Post ρ (ρ.with nxt w.heap.size cap) h ((nxt, blk) :: h') nxt (nxt + 1) (Nat.min low nxt) w (w.drew.alloc o) := by
  have r' := rep_forget r hs
  have kd : ∀ A, Keep A w A w.drew := fun A k _ ha => ⟨rfl, ha⟩
  have r2 : Rep lo ρ h' nxt w.drew := ⟨fun n b hn => (r'.block n b hn).keep (kd _) rfl rfl fun _ => rfl, r'.inj, r'.scope, r'.above, r'.base, r'.reach⟩
  obtain ⟨a, p⟩ := rep_newB r2 hlo blk hok o cap fun A' w' hA => hB A' w' fun k hk ha => hA k hk ha
  have m1 : Nat.min low nxt ≤ low := Nat.min_le_left _ _
  have m2 : Nat.min low nxt ≤ nxt := Nat.min_le_right _ _
  refine ⟨a, p.agree, p.area, p.le, p.os, p.tape, p.output, p.size, fun j hj _ => heap_push_old w.drew _ j hj, fun n b hn hb => ?_, fun n hl hx => ?_⟩
  · rcases p.fresh n b hn hb with ⟨m, c, hm, hc, e1, e2⟩ | h2
    · exact .inl ⟨m, c, hs m c hm, hc, e1, by omega⟩
    · exact .inr h2
  · simp only [Nat.lt_min] at hl
    rw [hget_cons, if_neg (by omega)]
    exact hk n hl.1 hx
/-- A new block for what was there and what is appended; some names forgotten. -/
theorem rep_app {lo : Nat} {ρ : Env} {h h' : AHeap} {nxt : Nat} {w : World} (r : Rep lo ρ h nxt w) (hlo : lo ≤ w.heap.size) (hs : ∀ n b, hget h' n = some b → hget h n = some b) {low : Nat} (hk : ∀ n, n < low → n < nxt → hget h' n = hget h n)
    (cells : List AV) (hok : AV.okL nxt cells = true) (arr : Array Value) (e : TypeId) (rest : List Value) (k cap : Nat) (harr : arr.toList = AV.denL ρ cells ++ rest) (ho : arr.size = cap * k) :
    Rep lo (ρ.with nxt w.heap.size cap) ((nxt, ⟨cells, some k, .cells⟩) :: h') (nxt + 1) (w.drew.alloc (.cells arr e)) ∧
    Post ρ (ρ.with nxt w.heap.size cap) h ((nxt, ⟨cells, some k, .cells⟩) :: h') nxt (nxt + 1) (Nat.min low nxt) w (w.drew.alloc (.cells arr e)) := by
  have ag : ∀ n, n < nxt → (ρ.with nxt w.heap.size cap).σ n = ρ.σ n ∧ (ρ.with nxt w.heap.size cap).kk n = ρ.kk n := fun n hn => Env.with_agree _ _ _ _ _ (by omega)
  exact rep_appX r hlo hs hk ⟨cells, some k, .cells⟩ hok (.cells arr e) cap fun _ _ _ => ⟨arr, e, rest, rfl, by rw [harr, denL_agree ag cells hok], ho⟩
/-- A block under a new name, of whatever kind, turned as one likes. -/
theorem rep_overX {lo : Nat} {ρ : Env} {h : AHeap} {nxt : Nat} {w : World} (r : Rep lo ρ h nxt w) {n : Nat} {b : ABlock} (hn : hget h n = some b) (hbm : b.mem = true) (blk : ABlock) (hblk : blk.mem = true) (hok : AV.okL nxt blk.cells = true) (cap : Nat)
    (w' : World) (hos : w'.os = w.os) (htape : w'.tape = w.tape) (hout : w'.output = w.output) (hsz : w'.heap.size = w.heap.size) (hfr : ∀ j, j ≠ ρ.σ n → w'.heap[j]? = w.heap[j]?)
    (hB : ∀ A', Keep (FreeH ρ h) w A' w' → BlockOK A' w' (ρ.with nxt (ρ.σ n) cap) blk ⟨cap, noVal, noDV⟩ w'.heap[ρ.σ n]?) :
    Rep lo (ρ.with nxt (ρ.σ n) cap) ((nxt, blk) :: hdel h n) (nxt + 1) w' ∧
    Post ρ (ρ.with nxt (ρ.σ n) cap) h ((nxt, blk) :: hdel h n) nxt (nxt + 1) (Nat.min n nxt) w w' := by
  have hd := @hdel_sub h n
  have hx : ∀ m c, hget h m = some c → m < nxt := fun m c hm => (r.scope m c hm).1
  have ag : ∀ m, m < nxt → (ρ.with nxt (ρ.σ n) cap).σ m = ρ.σ m ∧ (ρ.with nxt (ρ.σ n) cap).kk m = ρ.kk m := fun m hm => Env.with_agree _ _ _ _ _ (by omega)
  have m1 : Nat.min n nxt ≤ n := Nat.min_le_left _ _
  have m2 : Nat.min n nxt ≤ nxt := Nat.min_le_right _ _
  have hp : Post ρ (ρ.with nxt (ρ.σ n) cap) h ((nxt, blk) :: hdel h n) nxt (nxt + 1) (Nat.min n nxt) w w' := by
    refine ⟨fun m hm => Env.with_agree _ _ _ _ _ (by omega), ⟨rfl, rfl⟩, by omega, hos, htape, hout, by omega, fun j _ hne => hfr j (fun e => hne n b hn hbm m1 e.symm), fun m c hm hc => ?_, fun m hl hlt => ?_⟩
    · rw [hget_cons] at hm
      split at hm
      · rename_i e'; subst e'
        exact .inl ⟨n, b, hn, hbm, by rw [Env.with_σ], .inr m1⟩
      · exact .inl ⟨m, c, (hd m c hm).2, hc, (ag m (hx m c (hd m c hm).2)).1, .inl rfl⟩
    · simp only [Nat.lt_min] at hl
      rw [hget_cons, if_neg (by omega), hget_del, if_neg (by omega)]
  refine ⟨⟨fun m c hm => ?_, fun m j c d hm hj hc hdd e1 => ?_, fun m c hm => ?_, fun m c hm hc => ?_, Nat.le_trans r.base hp.size, fun m c hm hc => ?_⟩, hp⟩
  rotate_right
  · rw [hget_cons] at hm
    split at hm
    · rename_i e'; subst e'
      rw [Env.with_σ]; exact r.reach n b hn hbm
    · rw [(ag m (hx m c (hd m c hm).2)).1]; exact r.reach m c (hd m c hm).2 hc
  · rw [hget_cons] at hm
    split at hm
    · rename_i e'; subst e'
      cases hm
      rw [Env.with_σ, Env.with_kk]
      exact hB _ hp.free
    · obtain ⟨h1, h2⟩ := hd m c hm
      have lt := hx m c h2
      refine (r.block m c h2).keep hp.free (denL_agree ag c.cells (r.scope m c h2).2) (ag m lt).2 fun hc => ?_
      rw [(ag m lt).1]
      exact hfr _ (fun e => h1 (r.inj m n c b h2 hn hc hbm e))
  · rw [hget_cons] at hm hj
    split at hm <;> split at hj
    · omega
    · rename_i e2 _; subst e2
      obtain ⟨h1, h2⟩ := hd j d hj
      rw [Env.with_σ, (ag j (hx j d h2)).1] at e1
      exact absurd (r.inj j n d b h2 hn hdd hbm e1.symm) h1
    · rename_i _ e2; subst e2
      obtain ⟨h1, h2⟩ := hd m c hm
      rw [Env.with_σ, (ag m (hx m c h2)).1] at e1
      exact absurd (r.inj m n c b h2 hn hc hbm e1) h1
    · obtain ⟨-, h1⟩ := hd m c hm
      obtain ⟨-, h2⟩ := hd j d hj
      rw [(ag m (hx m c h1)).1, (ag j (hx j d h2)).1] at e1
      exact r.inj m j c d h1 h2 hc hdd e1
  · rw [hget_cons] at hm
    split at hm
    · rename_i e'; subst e'
      cases hm
      exact ⟨by omega, okL_mono (by omega) _ hok⟩
    · have := r.scope m c (hd m c hm).2
      exact ⟨by omega, okL_mono (by omega) _ this.2⟩
  · rw [hget_cons] at hm
    split at hm
    · rename_i e'; subst e'
      rw [Env.with_σ]; exact r.above n b hn hbm
    · rw [(ag m (hx m c (hd m c hm).2)).1]; exact r.above m c (hd m c hm).2 hc
/-- A block under a new name, its rest written. -/
theorem rep_over {lo : Nat} {ρ : Env} {h : AHeap} {nxt : Nat} {w : World} (r : Rep lo ρ h nxt w) {n : Nat} {b : ABlock} (hn : hget h n = some b) (hbm : b.mem = true) (cells : List AV) (hok : AV.okL nxt cells = true) (k : Nat)
    (w' : World) (hos : w'.os = w.os) (htape : w'.tape = w.tape) (hout : w'.output = w.output) (hsz : w'.heap.size = w.heap.size) (hfr : ∀ j, j ≠ ρ.σ n → w'.heap[j]? = w.heap[j]?)
    (arr' : Array Value) (e : TypeId) (rest : List Value) (hnew : w'.heap[ρ.σ n]? = some (.cells arr' e (0, 0))) (harr : arr'.toList = AV.denL ρ cells ++ rest) (ho : arr'.size = (ρ.kk n).cap * k) :
    Rep lo (ρ.with nxt (ρ.σ n) ((ρ.kk n).cap)) ((nxt, ⟨cells, some k, .cells⟩) :: hdel h n) (nxt + 1) w' ∧
    Post ρ (ρ.with nxt (ρ.σ n) ((ρ.kk n).cap)) h ((nxt, ⟨cells, some k, .cells⟩) :: hdel h n) nxt (nxt + 1) (Nat.min n nxt) w w' := by
  have ag : ∀ m, m < nxt → (ρ.with nxt (ρ.σ n) ((ρ.kk n).cap)).σ m = ρ.σ m ∧ (ρ.with nxt (ρ.σ n) ((ρ.kk n).cap)).kk m = ρ.kk m := fun m hm => Env.with_agree _ _ _ _ _ (by omega)
  exact rep_overX r hn hbm ⟨cells, some k, .cells⟩ rfl hok _ w' hos htape hout hsz hfr fun _ _ => ⟨arr', e, rest, hnew, by rw [harr, denL_agree ag cells hok], ho⟩
section
variable {P : Program} {lo : Nat} {ρ : Env} {s : St} {r : Res} {w : World}
theorem appTo_sound (hr : Rep lo ρ s.heap s.nxt w) (hlo : lo ≤ w.heap.size) {t u ty e : TypeId} {du : TypeDesc} {i : TypeInfo} {z : Value} (ht : P.underlying t = some (.slice e)) (hu : P.underlying u = some du) (hdu : listLike du = true)
    (hi : P.info? e = some i) (hz : i.zero = some z) (hzs : z.cells.size = i.size) {x : AV} {yv : Value} {ys : List AV} {n : Nat} (hy : Gives P i.size yv n (AV.denL ρ ys) w) (hys : ys.length = n * i.size)
    (h : appTo s i.size i.bytes x ys n = some r) :
    ∃ ρ' w', (Builtin.append_ #[t, u] ty #[x.den ρ, yv]).run P w = .ok (r.1.den ρ') w' ∧ Rep lo ρ' r.2.1 r.2.2.1 w' ∧ Post ρ ρ' s.heap r.2.1 s.nxt r.2.2.1 r.2.2.2 w w' := by
  unfold appTo at h
  split at h
  rotate_left
  · cases h
  rename_i hok
  simp only [Bool.and_eq_true, List.all_eq_true] at hok
  obtain ⟨hok, hone⟩ := hok
  have hzl : ∀ k, (Builtin.zeroCells z.cells k).size = k * i.size := fun k => by rw [size_zeroCells, hzs]
  split at h
  · -- nil
    rename_i l c
    split at h
    · split at h
      · simp only [quiet, Option.some.injEq] at h
        subst h
        refine ⟨ρ, w, ?_, hr, Post.refl hr _⟩
        simp only [AV.den]
        have hl := hy.len
        have hc := hy.cells
        rcases listLike_spec hdu with ⟨e', rfl⟩ | rfl <;> simp [Builtin.append_, run_underlying ht, run_underlying hu, sizeOf, typeInfo, hi, hl, hc]
      · rename_i m
        split at h
        · rename_i hb
          simp only [Bool.and_eq_true] at hb
          have b1 := ble_le hb.1
          have b2 := ble_le hb.2
          rw [spine_eq] at h
          simp only [appGrow, Option.some.injEq] at h
          subst h
          obtain ⟨r1, p1⟩ := rep_app hr hlo (h' := s.heap) (fun _ _ h => h) (low := s.nxt) (fun _ _ _ => rfl) ys hok (((AV.denL ρ ys).toArray ++ Builtin.zeroCells z.cells (grownCap w (m + 1) 0 e - (m + 1)))) e
            (Builtin.zeroCells z.cells (grownCap w (m + 1) 0 e - (m + 1))).toList i.size (grownCap w (m + 1) 0 e) (by simp) (by
              have := grownCap_ge w (m + 1) 0 e
              rw [Array.size_append, hzl, List.size_toArray, denL_length, hys, ← Nat.add_mul]
              congr 1; omega)
          refine ⟨_, _, ?_, r1, p1⟩
          have := app_nil w t u ty e du i z ht hu hdu hi hz yv (m + 1) _ hy (by omega) (by omega) (by omega)
          simp only [AV.den, Env.with_σ, Env.with_κ, Nat.sub_zero]
          exact this
        · cases h
    · cases h
  · -- a slice whose capacity is known
    rename_i b off len cap
    split at h
    rotate_left
    · cases h
    rename_i blk hcl
    obtain ⟨hb, hbk⟩ := hcells_get hcl
    obtain ⟨arr, eb, rest, h1, h2, h3⟩ := hr.cells hb hbk
    have hal : arr.size = blk.cells.length + rest.length := by rw [← Array.length_toList, h2, List.length_append, denL_length]
    split at h
    · rename_i hroom
      have hroom := ble_le hroom
      split at h
      · rename_i cs hp
        rw [spine_eq, hputK_eq] at h
        simp only [Option.some.injEq] at h
        subst h
        obtain ⟨hfit, hcs⟩ := patch_spec hp
        have hrun := app_room w t u ty e du i ht hu hdu hi (ρ.σ b) off len cap arr eb h1 yv n _ hy (fun v hv => by
          rw [denL_map, List.mem_map] at hv
          obtain ⟨y, hym, rfl⟩ := hv
          exact oneCell_den ρ (hone y hym)) hroom (by rw [denL_length]; omega)
        have hnew : (arr.toList.take (off + len * i.size) ++ AV.denL ρ ys ++ arr.toList.drop (off + len * i.size + (AV.denL ρ ys).length)) = AV.denL ρ cs ++ rest := by
          rw [hcs, h2, denL_append, denL_append, denL_length, List.take_append_of_le_length (by rw [denL_length]; omega), List.drop_append_of_le_length (by rw [denL_length]; omega)]
          simp [denL_map, List.append_assoc]
        rw [hnew] at hrun
        obtain ⟨r1, p1⟩ := rep_put hr hb (mem_cells hbk) cs (by
          rw [hcs]
          have hcb := (hr.scope b blk hb).2
          rw [okL_iff] at hcb hok ⊢
          intro y hyy
          simp only [List.mem_append] at hyy
          rcases hyy with (hyy | hyy) | hyy
          · exact hcb y (List.mem_of_mem_take hyy)
          · exact hok y hyy
          · exact hcb y (List.mem_of_mem_drop hyy)) (w.setRow (ρ.σ b) (AV.denL ρ cs ++ rest).toArray) rfl rfl rfl (by simp) (fun k hk => setRow_other w _ k _ hk) (AV.denL ρ cs ++ rest).toArray eb rest (setRow_heap w _ arr _ eb _ h1) (by simp) (by
          have hcl : cs.length = blk.cells.length := by rw [hcs]; simp; omega
          revert h3
          cases blk.opn with
          | none => exact id
          | some k => intro h3; simp only [List.size_toArray, List.length_append, denL_length, hcl]; omega)
        exact ⟨ρ, _, by simpa only [AV.den] using hrun, r1, p1.low_le (Nat.min_le_left _ _)⟩
      · cases h
    · rename_i hroom
      have hroom : ¬ (len + n ≤ cap) := fun h => by rw [Nat.ble_eq_true_of_le h] at hroom; cases hroom
      split at h
      · rename_i old hcut hb2
        simp only [Bool.and_eq_true] at hb2
        have b1 := ble_le hb2.1
        have b2 := ble_le hb2.2
        obtain ⟨hl, hyc⟩ := cut_spec hcut
        rw [spine_eq] at h
        simp only [appGrow, Option.some.injEq] at h
        subst h
        have hokold : AV.okL s.nxt (old ++ ys) = true := by
          have hcb := (hr.scope b blk hb).2
          rw [okL_iff] at hcb hok ⊢
          intro y hyy
          rcases List.mem_append.1 hyy with hyy | hyy
          · obtain ⟨j, hj, rfl⟩ := List.mem_iff_getElem.1 hyy
            have := hyc j (by omega)
            rw [List.getElem?_eq_getElem hj] at this
            exact hcb _ (List.mem_of_getElem? this.symm)
          · exact hok y hyy
        obtain ⟨r1, p1⟩ := rep_app hr hlo (h' := s.heap) (fun _ _ h => h) (low := s.nxt) (fun _ _ _ => rfl) (old ++ ys) hokold ((AV.denL ρ old).toArray ++ (AV.denL ρ ys).toArray ++ Builtin.zeroCells z.cells (grownCap w (len + n) cap e - (len + n))) e
          (Builtin.zeroCells z.cells (grownCap w (len + n) cap e - (len + n))).toList i.size (grownCap w (len + n) cap e) (by simp [denL_append]) (by
            have := grownCap_ge w (len + n) cap e
            rw [Array.size_append, Array.size_append, hzl, List.size_toArray, List.size_toArray, denL_length, denL_length, hys, hl, ← Nat.add_mul, ← Nat.add_mul]
            congr 1; omega)
        refine ⟨_, _, ?_, r1, p1⟩
        have := app_grow w t u ty e du i z ht hu hdu hi hz ⟨ρ.σ b, off, none⟩ len cap (AV.denL ρ old) (by rw [denL_length, hl]) (fun j v hj => by
          rw [denL_map, List.getElem?_map] at hj
          cases hx : old[j]? with
          | none => simp [hx] at hj
          | some q =>
            simp [hx] at hj; subst hj; rw [add_plain]
            have hj' : j < old.length := (List.getElem?_eq_some_iff.1 hx).1
            rw [hyc j (by omega)] at hx
            exact cell_of_block hr hcl hx) yv n _ hy (by omega) (by omega) (growslice_fits (by omega) b1)
        simp only [AV.den, Env.with_σ, Env.with_κ, Nat.sub_zero]
        exact this
      · cases h
  · -- a slice that has grown
    rename_i b off len sub
    split at h
    rotate_left
    · cases h
    rename_i cs k kd hcl
    split at h
    rotate_left
    · cases h
    rename_i old hcut hb2
    simp only [Bool.and_eq_true] at hb2
    obtain ⟨⟨hb1, hb3⟩, hks⟩ := hb2
    have b1 := ble_le hb1
    have b2 := ble_le hb3
    have hks := Nat.eq_of_beq_eq_true hks
    subst hks
    obtain ⟨hb, hbk⟩ := hcells_get hcl
    obtain ⟨arr, eb, rest, h1, h2, h3⟩ := hr.cells hb hbk
    simp only at h2 h3
    obtain ⟨hl, hyc⟩ := cut_spec hcut
    rw [spine_eq] at h
    simp only [appGrow, Option.some.injEq] at h
    subst h
    have hlen0 : len * i.size ≤ cs.length := by
      rcases Nat.lt_or_ge cs.length (len * i.size) with h | h
      · have := hyc cs.length h
        rw [List.getElem?_eq_getElem (by omega), Nat.zero_add, List.getElem?_eq_none (Nat.le_refl _)] at this
        cases this
      · exact h
    have hold : old = cs.take (len * i.size) := by
      apply List.ext_getElem?
      intro j
      rcases Nat.lt_or_ge j (len * i.size) with hj | hj
      · rw [hyc j hj, Nat.zero_add, List.getElem?_take, if_pos hj]
      · rw [List.getElem?_eq_none (by omega), List.getElem?_eq_none (by rw [List.length_take]; omega)]
    have hokold : AV.okL s.nxt (old ++ ys) = true := by
      have hcb := (hr.scope b _ hb).2
      rw [okL_iff] at hcb hok ⊢
      intro y hyy
      rcases List.mem_append.1 hyy with hyy | hyy
      · rw [hold] at hyy; exact hcb y (List.mem_of_mem_take hyy)
      · exact hok y hyy
    by_cases hroom : len + n ≤ (ρ.kk b).cap
    · have hfit : len * i.size + n * i.size ≤ arr.size := by rw [h3, ← Nat.add_mul]; exact Nat.mul_le_mul_right _ hroom
      have hrun := app_room w t u ty e du i ht hu hdu hi (ρ.σ b) 0 len ((ρ.kk b).cap) arr eb h1 yv n _ hy (fun v hv => by
        rw [denL_map, List.mem_map] at hv
        obtain ⟨y, hym, rfl⟩ := hv
        exact oneCell_den ρ (hone y hym)) hroom (by rw [denL_length, hys]; omega)
      obtain ⟨r1, p1⟩ := rep_over hr hb (mem_cells hbk) (old ++ ys) hokold i.size (w.setRow (ρ.σ b) (arr.toList.take (0 + len * i.size) ++ AV.denL ρ ys ++ arr.toList.drop (0 + len * i.size + (AV.denL ρ ys).length)).toArray) rfl rfl rfl (by simp) (fun k hk => setRow_other w _ k _ hk) (arr.toList.take (0 + len * i.size) ++ AV.denL ρ ys ++ arr.toList.drop (0 + len * i.size + (AV.denL ρ ys).length)).toArray eb (arr.toList.drop (0 + len * i.size + (AV.denL ρ ys).length)) (setRow_heap w _ arr _ eb _ h1) (by
        simp only [Nat.zero_add]
        rw [denL_append, hold, h2, List.take_append_of_le_length (by rw [denL_length]; omega)]
        simp [denL_map, List.map_take]) (by
        simp only [List.size_toArray, List.length_append, List.length_take, List.length_drop, denL_length, hys, Array.length_toList, Nat.zero_add]
        omega)
      refine ⟨_, _, ?_, r1, p1⟩
      simp only [AV.den, Env.with_σ, Env.with_κ, Nat.sub_zero]
      exact hrun
    · obtain ⟨r1, p1⟩ := rep_app hr hlo (h' := hdel s.heap b) (fun m c hm => by rw [hget_del] at hm; split at hm; cases hm; exact hm) (low := b) (fun m hm _ => by rw [hget_del, if_neg (by omega)]) (old ++ ys) hokold ((AV.denL ρ old).toArray ++ (AV.denL ρ ys).toArray ++ Builtin.zeroCells z.cells (grownCap w (len + n) ((ρ.kk b).cap) e - (len + n))) e
        (Builtin.zeroCells z.cells (grownCap w (len + n) ((ρ.kk b).cap) e - (len + n))).toList i.size (grownCap w (len + n) ((ρ.kk b).cap) e) (by simp [denL_append]) (by
          have := grownCap_ge w (len + n) ((ρ.kk b).cap) e
          rw [Array.size_append, Array.size_append, hzl, List.size_toArray, List.size_toArray, denL_length, denL_length, hys, hl, ← Nat.add_mul, ← Nat.add_mul]
          congr 1; omega)
      refine ⟨_, _, ?_, r1, p1⟩
      have := app_grow w t u ty e du i z ht hu hdu hi hz ⟨ρ.σ b, 0, none⟩ len ((ρ.kk b).cap) (AV.denL ρ old) (by rw [denL_length, hl]) (fun j v hj => by
        rw [denL_map, List.getElem?_map] at hj
        cases hx : old[j]? with
        | none => simp [hx] at hj
        | some q =>
          simp [hx] at hj; subst hj; rw [add_plain]
          have hj' : j < old.length := (List.getElem?_eq_some_iff.1 hx).1
          rw [hyc j (by omega)] at hx
          exact cell_of_block hr hcl hx) yv n _ hy (by omega) (by omega) (growslice_fits (by omega) b1)
      simp only [AV.den, Env.with_σ, Env.with_κ, Nat.sub_zero]
      exact this
  · cases h
end
end Go.Ev
/- Running the program's functions on values that are known in part: what is reckoned of an operation is what it does. -/
namespace Go.Ev
open Go.RowKit
section
variable {C : Ctx} {e : Operand → Value} {lo : Nat} {ρ : Env} {s : St} {r : Res} {w : World}
theorem map_den_parts (ρ : Env) (tmps : List AV) (parts : Array (Nat × Operand)) (he : ∀ x ∈ (parts.toList.map (·.2)), e x = (aeval tmps x).den ρ) :
    (parts.map fun p => (p.1, e p.2)).toList = (parts.toList.map fun p => (p.1, aeval tmps p.2)).map fun p => (p.1, p.2.den ρ) := by
  rw [Array.toList_map, List.map_map]
  apply List.map_congr_left
  intro p hp
  simp [he p.2 (List.mem_map_of_mem hp)]
theorem map_den_list (ρ : Env) (tmps : List AV) (xs : Array Operand) (he : ∀ x ∈ xs.toList, e x = (aeval tmps x).den ρ) : xs.map e = (AV.denL ρ (xs.toList.map (aeval tmps))).toArray := by
  apply Array.ext'
  simp only [Array.toList_map, denL_map, List.map_map]
  apply List.map_congr_left
  intro x hx
  simp [he x hx]
theorem operand_map_den (ρ : Env) (tmps : List AV) (x : Option Operand) (he : ∀ y, x = some y → e y = (aeval tmps y).den ρ) : x.map e = (x.map (aeval tmps)).map (AV.den ρ) := by
  cases x with
  | none => rfl
  | some y => simp [he y rfl]
theorem push_all (ns : List Int) : ∀ b : ByteArray, ns.foldl (fun r n => r.push (UInt8.ofNat n.toNat)) b = ⟨b.data ++ (ns.map fun n => UInt8.ofNat n.toNat).toArray⟩ := by
  induction ns with
  | nil => intro b; simp
  | cons n ns ih =>
    intro b
    rw [List.foldl_cons, ih]
    simp [ByteArray.push]
theorem byteList_spec (ρ : Env) : ∀ {ys : List AV} {ns : List Int}, byteList ys = some ns → AV.denL ρ ys = ns.map (Value.int .u8)
  | [], ns, h => by simp [byteList] at h; subst h; rfl
  | x :: xs, ns, h => by
    unfold byteList at h
    split at h
    · split at h
      · rename_i n ms hm
        cases h
        simp [AV.denL, AV.den, byteList_spec ρ hm]
      · cases h
    · cases h
theorem string_sound (hr : Rep lo ρ s.heap s.nxt w) {b off len cap : Nat} (h : opString s b off len = some r) :
    ∃ v, quiet s v = some r ∧ (Conv.bytesToString (.slice (some ⟨ρ.σ b, off, none⟩) len cap)).run C.P w = .ok (v.den ρ) w := by
  unfold opString at h
  split at h
  · rename_i blk hb
    split at h
    · rename_i ys hc
      split at h
      · rename_i ns hn
        refine ⟨_, h, ?_⟩
        obtain ⟨hl, hy⟩ := cut_spec hc
        have hL := run_loadCells_list (P := C.P) w ⟨ρ.σ b, off, none⟩ (AV.denL ρ ys) (fun j u hj => by
          rw [denL_map, List.getElem?_map] at hj
          cases hx : ys[j]? with
          | none => simp [hx] at hj
          | some x =>
            simp [hx] at hj; subst hj; rw [add_plain]
            have hj' : j < ys.length := (List.getElem?_eq_some_iff.1 hx).1
            rw [hy j (by omega)] at hx
            exact cell_of_block hr hb hx)
        rw [denL_length, hl, byteList_spec ρ hn] at hL
        rw [run_bytesToString w _ len cap ns hL, push_all]
        simp [AV.den, bytesOf, ByteArray.empty, ByteArray.emptyWithCapacity, Function.comp_def]
        rfl
      · cases h
    · cases h
  · cases h
theorem newCells_spec (hr : Rep lo ρ s.heap s.nxt w) {P : Program} {size : Nat} {y : AV} {ys : List AV} {n : Nat} (h : newCells s.heap size y = some (ys, n)) : Gives P size (y.den ρ) n (AV.denL ρ ys) w ∧ ys.length = n * size := by
  have blk : ∀ {b off len cap : Nat} {bk : ABlock} {zs : List AV}, hcells s.heap b = some bk → cut bk.cells off (len * size) = some zs → Gives P size (.slice (some ⟨ρ.σ b, off, none⟩) len cap) len (AV.denL ρ zs) w ∧ zs.length = len * size := by
    intro b off len cap bk zs hb hc
    obtain ⟨hl, hy⟩ := cut_spec hc
    have hcell : ∀ j v, (AV.denL ρ zs)[j]? = some v → w.cell? ((⟨ρ.σ b, off, none⟩ : Addr).add j) = some v := fun j v hj => by
      rw [denL_map, List.getElem?_map] at hj
      cases hx : zs[j]? with
      | none => simp [hx] at hj
      | some q =>
        simp [hx] at hj; subst hj; rw [add_plain]
        have hj' : j < zs.length := (List.getElem?_eq_some_iff.1 hx).1
        rw [hy j (by omega)] at hx
        exact cell_of_block hr hb hx
    exact ⟨⟨by simp [Builtin.lenOf], run_firstCells_some w size len _ len cap _ (by rw [denL_length, hl]) hcell, run_firstCells_some w.drew size len _ len cap _ (by rw [denL_length, hl]) (by simpa using hcell)⟩, hl⟩
  unfold newCells at h
  split at h
  · split at h
    · rename_i bk hb
      split at h
      · rename_i zs hc
        cases h
        simp only [AV.den]
        exact blk hb hc
      · cases h
    · cases h
  · split at h
    · rename_i bk hb
      split at h
      · rename_i zs hc
        cases h
        simp only [AV.den]
        exact blk hb hc
      · cases h
    · cases h
  · split at h
    · cases h
      refine ⟨⟨?_, ?_, ?_⟩, by simp⟩ <;> simp [AV.den, Builtin.lenOf, Builtin.firstCells, AV.denL]
    · cases h
  · rename_i st
    split at h
    · rename_i e1
      have e1 := Nat.eq_of_beq_eq_true e1
      cases h
      subst e1
      have hx : ∀ w : World, (Builtin.firstCells 1 st.data.toList.length (.string st)).run P w = .ok (AV.denL ρ (st.data.toList.map (fun b => .pure (.int .u8 b.toNat)))).toArray w := fun w => by
        simp only [Builtin.firstCells, Sem.run_pure, denL_map, List.map_map]
        have : st.extract 0 st.data.toList.length = st := by
          apply ByteArray.ext
          simp [ByteArray.data_extract]
        rw [this]
        congr 1
        apply Array.ext'
        simp [AV.den]
      exact ⟨⟨by simp [AV.den, Builtin.lenOf], hx w, hx w.drew⟩, by simp⟩
    · cases h
  · cases h
theorem opCall_sound {o : Oper} (c : Call) (hop : o.op = .call c) (hr : Rep lo ρ s.heap s.nxt w) (hlo : lo ≤ w.heap.size) (he : ∀ x ∈ o.op.operands, e x = (aeval s.tmps x).den ρ) (h : opCall C s c = some r) :
    Does C.P e o lo ρ s r w := by
  obtain ⟨dst, op, type, pos, after, guard⟩ := o
  simp only at hop
  subst hop
  unfold opCall at h
  split at h
  · rename_i hcal
    unfold opAppend at h
    split at h
    · rename_i x y t u hargs htys
      have ha : c.args = #[x, y] := by rw [← Array.toArray_toList (xs := c.args), hargs]
      have hty : c.argTypes = #[t, u] := by rw [← Array.toArray_toList (xs := c.argTypes), htys]
      have hx := he x (by simp [Op.operands, Call.operands, ha])
      have hyy := he y (by simp [Op.operands, Call.operands, ha])
      split at h
      · rename_i et du hut huu
        split at h
        · rename_i i hdu hi
          split at h
          · rename_i z hz
            split at h
            · rename_i ys n hzs hnc
              obtain ⟨hg, hl⟩ := newCells_spec hr (P := C.P) hnc
              obtain ⟨ρ', w', hrun, r1, p1⟩ := appTo_sound (ty := type) hr hlo (und_of hut) (und_of huu) hdu (info_of hi) hz (Nat.eq_of_beq_eq_true hzs) hg hl h
              refine ⟨ρ', w', .inl ?_, r1, p1⟩
              simp [execOp, resolve, hcal, invoke, builtin, ha, hty, hx, hyy, hrun]
            · cases h
          · cases h
        · cases h
      · cases h
    · cases h
  · unfold opLen at h
    split at h
    · rename_i hcal
      split at h
      · rename_i x t hargs htys
        have ha : c.args = #[x] := by rw [← Array.toArray_toList (xs := c.args), hargs]
        have hy : c.argTypes = #[t] := by rw [← Array.toArray_toList (xs := c.argTypes), htys]
        have hx := he x (by simp [Op.operands, Call.operands, ha])
        split at h
        · rename_i et b off len cap hu hv
          refine does_quiet hr h ?_
          rw [hv] at hx
          simp [execOp, resolve, hcal, invoke, builtin, ha, hy, hx, AV.den, Builtin.len_, run_underlying (und_of hu), goInt]
        · rename_i et b off len cap hu hv
          refine does_quiet hr h ?_
          rw [hv] at hx
          simp [execOp, resolve, hcal, invoke, builtin, ha, hy, hx, AV.den, Builtin.len_, run_underlying (und_of hu), goInt]
        · rename_i et b off len cap hu hv
          refine does_quiet hr h ?_
          rw [hv] at hx
          simp [execOp, resolve, hcal, invoke, builtin, ha, hy, hx, AV.den, Builtin.len_, run_underlying (und_of hu), goInt]
        · rename_i et b off len sub hu hv
          refine does_quiet hr h ?_
          rw [hv] at hx
          simp [execOp, resolve, hcal, invoke, builtin, ha, hy, hx, AV.den, Builtin.len_, run_underlying (und_of hu), goInt]
        · cases h
      · cases h
    · cases h
theorem equal_step {P : Program} {t : TypeId} {X Y : Value} {b : Bool} {w : World} (h : ∀ d, (Op.equalIn (d + 1) t X Y).run P w = .ok b w) : (Op.equal t X Y).run P w = .ok b w := h 9999
theorem run_nilPair {P : Program} {t : TypeId} {d : TypeDesc} (ht : P.underlying t = some d) {x y : AV} (h : nilPair d x y = true) (ρ : Env) (w : World) (a b : Operand) :
    (do eqGuard .eql t a b (x.den ρ) (y.den ρ); binOp .eql t (x.den ρ) (y.den ρ)).run P w = .ok (.bool false) w ∧
    (do eqGuard .neq t a b (x.den ρ) (y.den ρ); binOp .neq t (x.den ρ) (y.den ρ)).run P w = .ok (.bool true) w := by
  have key : ∀ {X Y : Value}, (∀ d, (Op.equalIn (d + 1) t X Y).run P w = .ok false w) → (∀ op, (eqGuard op t a b X Y).run P w = .ok () w) →
      binOp .eql t X Y = (do pure (.bool (← Op.equal t X Y))) → binOp .neq t X Y = (do pure (.bool (!(← Op.equal t X Y)))) →
      (do eqGuard .eql t a b X Y; binOp .eql t X Y).run P w = .ok (.bool false) w ∧ (do eqGuard .neq t a b X Y; binOp .neq t X Y).run P w = .ok (.bool true) w := fun h1 h2 h3 h4 => by
    rw [h3, h4]
    simp only [Sem.run_bind, h2, Result.andThen_ok, equal_step h1, Sem.run_pure, Bool.not_false]
    exact ⟨trivial, trivial⟩
  unfold nilPair at h
  split at h <;> (try (split at h)) <;> first
    | (cases h; done)
    | (simp only [AV.den]
       refine key (fun d => ?_) (fun op => ?_) rfl rfl
       · simp [Op.equalIn, run_underlying ht]
       · cases op <;> simp [eqGuard])
theorem part_of {C : Ctx} {w : World} {ρ : Env} {ft : TypeId} {xs ys : List AV} {off size : Nat} {g : Bool} {v : AV} (hg : aggType C.P ft = some g) (hsz : sizeT C.P ft = some size) (hc : cut xs off (width g size) = some ys) (hwv : whole g ys = some v) : (part ft (AV.denL ρ xs).toArray off).run C.P w = .ok (v.den ρ) w := by
  obtain ⟨hl, hy⟩ := cut_spec hc
  cases g with
  | true =>
    simp only [whole, Option.some.injEq] at hwv
    subst hwv
    simp only [width] at hl hy
    simp only [part, Sem.run_bind, run_isAgg hg, Result.andThen_ok, if_true, run_sizeT hsz, Sem.run_pure, mkAgg_den]
    congr 2
    apply Array.ext'
    apply List.ext_getElem?
    intro j
    simp only [Array.toList_extract, List.extract_eq_take_drop]
    by_cases hj : j < size
    · rw [List.getElem?_take, if_pos (by omega), List.getElem?_drop, denL_map, denL_map, List.getElem?_map, List.getElem?_map, hy j hj]
    · rw [List.getElem?_take, if_neg (by omega), List.getElem?_eq_none (by rw [denL_length]; omega)]
  | false =>
    simp only [width] at hl hy
    match ys, hl, hwv with
    | [y], _, hwv =>
      simp only [whole, Option.some.injEq] at hwv
      subst hwv
      have := hy 0 (by omega)
      simp only [List.getElem?_cons_zero, Nat.add_zero] at this
      simp [part, run_isAgg hg, denL_map, ← this]
theorem own_sound (o : Oper) (hr : Rep lo ρ s.heap s.nxt w) (hlo : lo ≤ w.heap.size) (ht : Tab C.tab w) (he : ∀ x ∈ o.op.operands, e x = (aeval s.tmps x).den ρ) (h : aopOwn C s o = some r) :
    Does C.P e o lo ρ s r w := by
  obtain ⟨dst, op, type, pos, after, guard⟩ := o
  cases op <;> simp only [aopOwn, opAlloc, opBuild, opBuildSlice, opLoad, opStore, opNil, opExtract, opField, opFieldAddr, opIndexAddr, opIndexV, opMakeSlice, opConvert] at h <;> try (cases h; done)
  case move x =>
    exact does_quiet hr h (by simp [execOp, he x (by simp [Op.operands])])
  case assign x =>
    exact does_quiet hr h (by simp [execOp, he x (by simp [Op.operands])])
  case alloc et =>
    split at h
    · rename_i z hz
      refine does_fresh hr hlo h et z.cells (by rw [denL_pure]) ?_
      simp [execOp, Instr.alloc, run_zeroT hz, newVar, run_newRow, with_ptr]
    · cases h
  case box et x =>
    have hx := he x (by simp [Op.operands])
    split at h
    · rename_i hsol
      refine does_fresh hr hlo h et ((aeval s.tmps x).den ρ).cells (by rw [cellsOf_den ρ _ hsol]) ?_
      simp [execOp, Instr.box, newVar, run_newRow, with_ptr, hx]
    · cases h
  case build t parts =>
    split at h
    · rename_i v hv
      obtain ⟨cells, hc, hd⟩ := abuild_spec C.P ρ hv
      refine does_quiet hr h ?_
      have hp := map_den_parts (e := e) ρ s.tmps parts (fun x hx => he x (by simpa [Op.operands] using hx))
      rw [← hp] at hc
      simp [execOp, run_build w t _ cells hc, hd]
    · cases h
  case buildSlice t len parts =>
    split at h
    · rename_i et hu
      split at h
      · rename_i size z hsz hz
        split at h
        · rename_i hb
          simp only [Bool.and_eq_true] at hb
          obtain ⟨hb1, hb2⟩ := hb
          have hb1 := ble_le hb1
          have hb2 := Nat.eq_of_beq_eq_true hb2
          split at h
          · rename_i cs hcs
            refine does_fresh hr hlo h et (AV.denL ρ cs).toArray (by simp) ?_
            have hf := afill_spec ρ hcs
            rw [zeros_den, ← made_cells z.cells len size hb2] at hf
            have hp := map_den_parts (e := e) ρ s.tmps parts (fun x hx => he x (by simpa [Op.operands] using hx))
            rw [← hp] at hf
            have hno : ¬ (len * size > 2 ^ 24) := by omega
            by_cases h0 : len * size = 0
            · have hr0 : Array.range (len * size) = #[] := by rw [h0]; rfl
              rw [hr0] at hf
              simp only [execOp, Instr.buildSlice, Sem.run_bind, run_underlying (und_of hu), Result.andThen_ok, run_sizeT hsz, if_neg hno, if_pos h0, Sem.run_pure, hr0, with_sl, Array.map_empty] at hf ⊢
              simp only [hf, run_newRow, Result.andThen_ok, Sem.run_bind, Sem.run_pure]
            · simp only [execOp, Instr.buildSlice, Sem.run_bind, run_underlying (und_of hu), Result.andThen_ok, run_sizeT hsz, if_neg hno, if_neg h0, run_zeroT hz, Sem.run_pure, hf, run_newRow, with_sl]
          · cases h
        · cases h
      · cases h
    · cases h
  case load t a =>
    split at h
    · rename_i v hv
      obtain ⟨ad, hx, hl⟩ := aload_sound hr ht hv
      refine does_quiet hr h ?_
      simp [execOp, Instr.loadAt, Instr.sureAddr, he a (by simp [Op.operands]), hx, hl]
    · cases h
  case store t a x =>
    split at h
    · rename_i h' low hst
      obtain ⟨ad, w', hx, hl, hr', hp⟩ := astore_sound hr hst
      simp only [Option.some.injEq] at h
      subst h
      refine ⟨ρ, w', .inr ⟨?_, by simp [AV.den]⟩, hr', hp.low_le (Nat.min_le_left _ _)⟩
      simp [execOp, Instr.storeAt, Instr.sureAddr, he a (by simp [Op.operands]), he x (by simp [Op.operands]), hx, hl]
    · cases h
  case nilCheck x =>
    have hx := he x (by simp [Op.operands])
    split at h
    · rename_i b off hv
      refine does_quiet hr h ?_
      rw [hv] at hx
      simp [execOp, hx, AV.den]
    · rename_i f xs ys hv
      refine does_quiet hr h ?_
      rw [hv] at hx
      simp [execOp, hx, AV.den]
    · cases h
  case makeFunc fn xs ys =>
    refine does_quiet hr h ?_
    rw [mkFunc_den]
    simp [execOp, Instr.makeFunc, map_den_list (e := e) ρ s.tmps xs (fun x hx => he x (by simp [Op.operands]; exact .inl (by simpa using hx))), map_den_list (e := e) ρ s.tmps ys (fun x hx => he x (by simp [Op.operands]; exact .inr (by simpa using hx)))]
  case extract x i =>
    have hx := he x (by simp [Op.operands])
    split at h
    · rename_i xs hv
      split at h
      · rename_i v hi
        refine does_quiet hr h ?_
        rw [hv] at hx
        rw [listGet_eq] at hi
        simp [execOp, Instr.extract, hx, AV.den, denL_map, hi]
      · cases h
    · cases h
  case field t x i =>
    have hx := he x (by simp [Op.operands])
    split at h
    · rename_i fs xs hu hv
      split at h
      · rename_i f hf
        rw [listGet_eq] at hf
        have hf : fs[i]? = some f := by simpa using hf
        split at h
        · rename_i g size hg hsz
          split at h
          · rename_i ys hc
            split at h
            · rename_i v hwv
              refine does_quiet hr h ?_
              rw [hv] at hx
              obtain ⟨hl, hy⟩ := cut_spec hc
              have hpart : (part f.type (AV.denL ρ xs).toArray f.offset).run C.P w = .ok (v.den ρ) w := by
                cases g with
                | true =>
                  simp only [whole, Option.some.injEq] at hwv
                  subst hwv
                  simp only [width] at hl hy
                  simp only [part, Sem.run_bind, run_isAgg hg, Result.andThen_ok, if_true, run_sizeT hsz, Sem.run_pure, mkAgg_den]
                  congr 2
                  apply Array.ext'
                  apply List.ext_getElem?
                  intro j
                  simp only [Array.toList_extract, List.extract_eq_take_drop]
                  by_cases hj : j < size
                  · rw [List.getElem?_take, if_pos (by omega), List.getElem?_drop, denL_map, denL_map, List.getElem?_map, List.getElem?_map, hy j hj]
                  · rw [List.getElem?_take, if_neg (by omega), List.getElem?_eq_none (by rw [denL_length]; omega)]
                | false =>
                  simp only [width] at hl hy
                  match ys, hl, hwv with
                  | [y], _, hwv =>
                    simp only [whole, Option.some.injEq] at hwv
                    subst hwv
                    have := hy 0 (by omega)
                    simp only [List.getElem?_cons_zero, Nat.add_zero] at this
                    simp [part, run_isAgg hg, denL_map, ← this]
              simp [execOp, Instr.field, run_underlying (und_of hu), hf, hx, AV.den, asAgg, hpart]
            · cases h
          · cases h
        · cases h
      · cases h
    · cases h
  case fieldAddr t x i =>
    have hx := he x (by simp [Op.operands])
    split at h
    · rename_i fs b off hu hv
      split at h
      · rename_i f hf
        rw [listGet_eq] at hf
        have hf : fs[i]? = some f := by simpa using hf
        split at h
        · rename_i k hsz
          refine does_quiet hr h ?_
          rw [hv] at hx
          simp [execOp, Instr.fieldAt, run_underlying (und_of hu), hf, hx, AV.den, Instr.sureAddr, fieldPlace, run_sizeT hsz, add_plain]
        · cases h
      · cases h
    · cases h
  case indexAddr t x ix =>
    have hx := he x (by simp [Op.operands])
    have hix := he ix (by simp [Op.operands])
    split at h
    · rename_i v hv
      rw [hv] at hix
      split at h
      · rename_i i n et b off hi hu hxv
        obtain ⟨k, rfl⟩ := natOf_spec hi
        split at h
        · rename_i size hsz hlt
          have hlt := blt_lt hlt
          refine does_quiet hr h ?_
          rw [hxv] at hx
          have hb : (0 : Int) ≤ (i : Int) ∧ (i : Int) < (n : Int) := by omega
          simp [execOp, Instr.indexAt, hx, hix, AV.den, asIntOf, run_underlying (und_of hu), Instr.sureAddr, hlt, run_sizeT hsz, add_plain]
        · cases h
      · rename_i i et b off len cap hi hu hxv
        obtain ⟨k, rfl⟩ := natOf_spec hi
        split at h
        · rename_i size hsz hlt
          have hlt := blt_lt hlt
          refine does_quiet hr h ?_
          rw [hxv] at hx
          simp [execOp, Instr.indexAt, hx, hix, AV.den, asIntOf, run_underlying (und_of hu), hlt, run_sizeT hsz, add_plain]
        · cases h
      · rename_i i et b off len sub hi hu hxv
        obtain ⟨k, rfl⟩ := natOf_spec hi
        split at h
        · rename_i size hsz hlt
          have hlt := blt_lt hlt
          refine does_quiet hr h ?_
          rw [hxv] at hx
          simp [execOp, Instr.indexAt, hx, hix, AV.den, asIntOf, run_underlying (und_of hu), hlt, run_sizeT hsz, add_plain]
        · cases h
      · cases h
    · cases h
  case index t x ix =>
    have hx := he x (by simp [Op.operands])
    have hix := he ix (by simp [Op.operands])
    split at h
    · rename_i v hv
      rw [hv] at hix
      split at h
      · rename_i i n et xs hi hu hxv
        obtain ⟨k, rfl⟩ := natOf_spec hi
        split at h
        · rename_i g size hg hsz
          split at h
          · rename_i ys hlt hc
            have hlt := blt_lt hlt
            split at h
            · rename_i v hwv
              refine does_quiet hr h ?_
              rw [hxv] at hx
              have hb : (0 : Int) ≤ (i : Int) ∧ (i : Int) < (n : Int) := by omega
              have hpart := part_of (w := w) (ρ := ρ) hg hsz hc hwv
              simp [execOp, Instr.index, hx, hix, AV.den, asIntOf, run_underlying (und_of hu), hlt, run_sizeT hsz, hpart]
            · cases h
          · cases h
        · cases h
      · cases h
    · cases h
  case slice t x l hh m =>
    have hx := he x (by simp [Op.operands])
    obtain ⟨v, hq, hv⟩ := aslice_sound hr h
    refine does_quiet hr hq ?_
    rw [← hx, ← operand_map_den (e := e) ρ s.tmps l (fun y hy => he y (by subst hy; simp [Op.operands])), ← operand_map_den (e := e) ρ s.tmps hh (fun y hy => he y (by subst hy; simp [Op.operands])),
      ← operand_map_den (e := e) ρ s.tmps m (fun y hy => he y (by subst hy; simp [Op.operands]))] at hv
    simp [execOp, hv]
  case makeSlice t len cap =>
    have h1 := he len (by simp [Op.operands])
    have h2 := he cap (by simp [Op.operands])
    split at h
    · rename_i a b et ha hb hu
      rw [ha] at h1
      rw [hb] at h2
      split at h
      · rename_i l c i hl hc hi
        obtain ⟨k1, rfl⟩ := natOf_spec hl
        obtain ⟨k2, rfl⟩ := natOf_spec hc
        split at h
        · rename_i z hz hb
          simp only [Bool.and_eq_true] at hb
          obtain ⟨⟨hb1, hb2⟩, hb3⟩ := hb
          have hb1 := ble_le hb1
          have hb2 := ble_le hb2
          have hb3 := ble_le hb3
          split at h
          · rename_i hzs
            have hzs := Nat.eq_of_beq_eq_true hzs
            refine does_fresh hr hlo h et ((List.replicate c z.cells.toList).flatten).toArray (by rw [zeros_den]) ?_
            have hbi : (i.bytes : Int) * (c : Int) ≤ 281474976710656 := by
              have h1 : ((i.bytes * c : Nat) : Int) ≤ (140737488355328 : Nat) := Int.ofNat_le.2 hb2
              rw [Int.natCast_mul] at h1
              omega
            have hm := run_make (P := C.P) w t et i z (und_of hu) (info_of hi) hz k1 k2 (l : Int) (c : Int) (by omega) (by omega) hbi (by omega)
            have hmc : madeCells z.cells ((c : Int).toNat * i.size) = ((List.replicate c z.cells.toList).flatten).toArray := by
              rw [← made_cells z.cells c i.size hzs]; rfl
            rw [hmc] at hm
            simp only [AV.den] at h1 h2
            simp only [execOp, h1, h2, Sem.run_bind, hm, Result.andThen_ok, Sem.run_pure, with_sl, Int.toNat_natCast, World.alloc]
          · cases h
        · cases h
      · cases h
    · cases h
  case convert src dst x =>
    have hx := he x (by simp [Op.operands])
    split at h
    · rename_i et hu hd
      split at h
      · rename_i b off len cap hue hv
        obtain ⟨v, hq, hv'⟩ := string_sound (C := C) (cap := cap) hr h
        refine does_quiet hr hq ?_
        rw [hv] at hx
        simp only [execOp, Sem.run_bind, hx, AV.den, run_convert_bytes_string w src dst et _ _ _ (und_of hu) (und_of hue) (und_of hd), hv', Result.andThen_ok, Sem.run_pure]
      · rename_i b off len sub hue hv
        obtain ⟨v, hq, hv'⟩ := string_sound (C := C) (cap := (ρ.kk b).cap - sub) hr h
        refine does_quiet hr hq ?_
        rw [hv] at hx
        simp only [execOp, Sem.run_bind, hx, AV.den, run_convert_bytes_string w src dst et _ _ _ (und_of hu) (und_of hue) (und_of hd), hv', Result.andThen_ok, Sem.run_pure]
      · cases h
    · cases h
  case call c => exact opCall_sound c rfl hr hlo he h
  case binOp op t x y t2 =>
    have hx := he x (by simp [Op.operands])
    have hy := he y (by simp [Op.operands])
    unfold opNilEq at h
    split at h
    · rename_i d hd
      split at h
      · rename_i hn
        obtain ⟨h1, h2⟩ := run_nilPair (und_of hd) hn ρ w x y
        split at h
        · refine does_quiet hr h ?_
          simp only [execOp, hx, hy]
          rw [Sem.run_bind, h1]
          simp [AV.den, Result.andThen]
        · refine does_quiet hr h ?_
          simp only [execOp, hx, hy]
          rw [Sem.run_bind, h2]
          simp [AV.den, Result.andThen]
        · cases h
      · cases h
    · cases h
end
end Go.Ev
/- Running the program's functions on values that are known in part: operations and calls. -/
namespace Go.Ev
open Go.RowKit
section
variable {C : Ctx} {e : Operand → Value} {lo : Nat} {ρ : Env} {s : St} {r : Res} {w : World}
theorem allPure_spec {tmps : List AV} : ∀ {xs : List Operand}, allPure tmps xs = true → ∀ x ∈ xs, ∃ v, aeval tmps x = .pure v
  | [], _, x, hx => by cases hx
  | y :: ys, h, x, hx => by
    unfold allPure at h
    split at h
    · rename_i v hv
      rcases List.mem_cons.1 hx with rfl | hx
      · exact ⟨v, hv⟩
      · exact allPure_spec h x hx
    · cases h
theorem slow_sound (o : Oper) (hsel : ∀ cs b, o.op ≠ .select cs b) (hr : Rep lo ρ s.heap s.nxt w) (hlo : lo ≤ w.heap.size) (ht : Tab C.tab w) (he : ∀ x ∈ o.op.operands, e x = (aeval s.tmps x).den ρ)
    (h : slow C s o = some r) : Does C.P e o lo ρ s r w := by
  unfold slow at h
  split at h
  · rename_i hp
    split at h
    · rename_i v hv
      have hc : execOp e o = execOp (penv s.tmps) o := execOp_congr o hsel (fun x hx => by
        obtain ⟨u, hu⟩ := allPure_spec hp x (by simpa using hx)
        rw [he x hx]
        simp [penv, hu, AV.den])
      exact does_quiet hr h (by rw [hc, still_run hv]; simp [AV.den])
    · exact own_sound o hr hlo ht he h
  · exact own_sound o hr hlo ht he h
theorem fast_sound {op : BinOp} {a b : Int} {v : Value} (h : fastInt op a b = some v) (P : Program) (t : TypeId) (x y : Operand) (w : World) :
    (do eqGuard op t x y (.int .i64 a) (.int .i64 b); binOp op t (.int .i64 a) (.int .i64 b)).run P w = .ok v w := by
  cases op <;> simp [fastInt] at h <;> subst h <;> simp [eqGuard, binOp, Op.intArith, Op.intCmp]
theorem aop_sound (o : Oper) (hr : Rep lo ρ s.heap s.nxt w) (hlo : lo ≤ w.heap.size) (ht : Tab C.tab w) (he : ∀ x ∈ o.op.operands, e x = (aeval s.tmps x).den ρ) (h : aop C s o = some r) :
    Does C.P e o lo ρ s r w := by
  have hown : ∀ o' : Oper, o' = o → aopOwn C s o' = some r → Does C.P e o lo ρ s r w := fun o' ho h => own_sound o hr hlo ht he (ho ▸ h)
  have hslow : ∀ o' : Oper, o' = o → (∀ cs b, o'.op ≠ .select cs b) → slow C s o' = some r → Does C.P e o lo ρ s r w := fun o' ho hs h => slow_sound o (ho ▸ hs) hr hlo ht he (ho ▸ h)
  obtain ⟨dst, op, type, pos, after, guard⟩ := o
  cases op <;> simp only [aop] at h <;> first
    | (cases h; done)
    | exact hown _ rfl (by simpa only [aopOwn] using h)
    | exact hslow _ rfl (by simp) h
    | (unfold unlessPure at h; split at h; (exact hslow _ rfl (by simp) h); exact hown _ rfl (by simpa only [aopOwn] using h))
    | skip
  rename_i op t x y t2
  unfold opBin at h
  split at h
  · rename_i xs ys ha hb
    have hx := he x (by simp [Op.operands])
    have hy := he y (by simp [Op.operands])
    rw [ha] at hx
    rw [hb] at hy
    simp only [AV.den] at hx hy
    unfold opEq at h
    split at h
    · split at h
      · rename_i b hb
        refine does_quiet hr h ?_
        have := (aeqTop_sound hb x y w).1
        simp only [AV.den, execOp, hx, hy]
        rw [Sem.run_bind, this]
        rfl
      · exact hslow _ rfl (by simp) h
    · split at h
      · rename_i b hb
        refine does_quiet hr h ?_
        have := (aeqTop_sound hb x y w).2
        simp only [AV.den, execOp, hx, hy]
        rw [Sem.run_bind, this]
        rfl
      · exact hslow _ rfl (by simp) h
    · exact hslow _ rfl (by simp) h
  · rename_i a b ha hb
    split at h
    · rename_i v hv
      refine does_quiet hr h ?_
      have hx := he x (by simp [Op.operands])
      have hy := he y (by simp [Op.operands])
      rw [ha] at hx
      rw [hb] at hy
      have := fast_sound hv C.P t x y w
      simp only [AV.den] at hx hy ⊢
      simp only [execOp, hx, hy]
      rw [Sem.run_bind, this]
      rfl
    · exact hslow _ rfl (by simp) h
  · exact hslow _ rfl (by simp) h
theorem callee_sound (c : Call) (type : TypeId) {tm : List AV} {g : FuncId} {vs : List AV} (h : callee tm c = some (g, vs)) (he : ∀ x ∈ c.operands, e x = (aeval tm x).den ρ)
    {fn : Func} (hf : C.P.funcs[g]? = some fn) (hn : (fn.name == "runtime.NumGoroutine") = false) (hb : fn.body.isSome = true) :
    (do let d ← resolve e c type; invoke d.target d.args : Sem Next).run C.P w = .ok (.enter g (AV.denL ρ vs).toArray) w := by
  have hargs : c.args.map e = (AV.denL ρ (c.args.toList.map (aeval tm))).toArray := map_den_list ρ tm c.args (fun x hx => he x (by simp [Call.operands]; exact .inr (by simpa using hx)))
  have hnone : fn.body.isNone = false := by cases hbb : fn.body <;> simp_all
  have hcf : ∀ args, (callFunc g args).run C.P w = .ok (.enter g args) w := fun args => by
    simp only [callFunc, Sem.run_bind, run_program, Result.andThen_ok, hf, hn, hnone, Bool.false_eq_true, if_false, Sem.run_pure]
  unfold callee at h
  split at h
  · rename_i x hc
    have hx := he x (by simp [Call.operands, hc])
    split at h
    · rename_i f us vs' hv
      cases h
      rw [hv] at hx
      simp only [AV.den] at hx
      simp only [resolve, hc, hx, Deferred.ofValue, Sem.run_bind, Sem.run_pure, Result.andThen_ok, invoke, hcf, hargs]
      congr 2
      apply Array.ext'
      simp [denL_append, denL_pure]
    · rename_i f us vs' hv
      cases h
      rw [hv] at hx
      simp only [AV.den] at hx
      simp only [resolve, hc, hx, Deferred.ofValue, Sem.run_bind, Sem.run_pure, Result.andThen_ok, invoke, hcf, hargs]
      congr 2
      apply Array.ext'
      simp [denL_append]
    · cases h
  · cases h
end
end Go.Ev
/- Running the program's functions on values that are known in part: what a run says of the program. -/
namespace Go.Ev
open Go.RowKit
/-- What is taken of the program, and of the worlds in which it runs. -/
structure Good (C : Ctx) (G : World → Prop) : Prop where
  mixed : C.P.follows .mixedOrders = true
  names : ∀ (g : FuncId) (fn : Func), C.P.funcs[g]? = some fn → (fn.name == "runtime.NumGoroutine") = false
  code : ∀ (g : FuncId) (fn : Func) (c : Code), C.fine g = true → C.P.funcs[g]? = some fn → fn.body = some c → okCode c = true
  tab : ∀ w, G w → Tab C.tab w
  stable : ∀ w w', G w → Below w.heap.size w w' → G w'
/-- A contract: called with values that are so in depth, it returns one that is so, in what they lie in or in new blocks, and turns nothing. -/
def CallOK (C : Ctx) (G : World → Prop) (g : FuncId) (ds : List D) (r : D) : Prop :=
  ∀ w (A : Nat → Prop) vs, G w → RpL A w ds vs → Calls C.P g vs.toArray w fun e w' => ∃ v, e = .returned v ∧ Rp (fun k => A k ∨ w.heap.size ≤ k) w' r v ∧ Below w.heap.size w w'
def exitOf : AX → Exit
  | .normal => .normal
  | .exit id => .exit id
  | .ret => .ret
  | .val _ => .outgrown
def isVal : AX → Bool
  | .val _ => true
  | _ => false
section
variable (C : Ctx) (G : World → Prop) (w0 : World)
/-- The continuation holds wherever the run may have ended. -/
def Ends (ρ : Env) (s : St) (o : Out) (w : World) (K : Env → World → Prop) : Prop :=
  ∀ ρ' w', Rep w0.heap.size ρ' o.st.heap o.st.nxt w' → Post ρ ρ' s.heap o.st.heap s.nxt o.st.nxt o.low w w' → K ρ' w'
def act (ρ : Env) (fr : AFrame) (tm : List AV) : Act := ⟨(AV.denL ρ tm).toArray, fr.marks.map fun d => { target := .collected (ρ.σ d), args := #[] }⟩
def StOK (s : St) : Prop := AV.okL s.nxt s.tmps = true ∧ frOK s.nxt s.res.fr = true
/-- Everything is let in; a round's frame or not. -/
def fenceR (r : Option Nat) : Fence := { Fence.wide with round := r }
def fenceOf (ρ : Env) (fr : AFrame) : Fence := fenceR (fr.rnd.map ρ.σ)
def CodeOK (c : Code) (s : St) (o : Out) : Prop :=
  isVal o.x = false ∧ StOK o.st ∧ (s.nxt ≤ o.st.nxt ∧ o.st.res.fr.rnd = s.res.fr.rnd) ∧
  ∀ ρ w Q, Rep w0.heap.size ρ s.heap s.nxt w → Below w0.heap.size w0 w → Ends w0 ρ s o w (fun ρ' w' => Q (exitOf o.x) (act ρ' o.st.res.fr o.st.tmps) w') → c.wpIn (fenceOf ρ s.res.fr) 0 C.P Q (act ρ s.res.fr s.tmps) w
def LoopOK (n : Nat) (c : Code) (s : St) (o : Out) : Prop :=
  isVal o.x = false ∧ StOK o.st ∧ (s.nxt ≤ o.st.nxt ∧ o.st.res.fr.rnd = s.res.fr.rnd) ∧
  ∀ ρ w Q, Rep w0.heap.size ρ s.heap s.nxt w → Below w0.heap.size w0 w → Ends w0 ρ s o w (fun ρ' w' => Q (exitOf o.x) (act ρ' o.st.res.fr o.st.tmps) w') → Code.roundsIn (fenceOf ρ s.res.fr) 0 C.P c Q n (act ρ s.res.fr s.tmps) w
def OpsOK (ops : Array Oper) (todo : List Oper) (s : St) (o : Out) : Prop :=
  o.x = .normal ∧ StOK o.st ∧ (s.nxt ≤ o.st.nxt ∧ o.st.res.fr = s.res.fr) ∧
  ∀ k, ops.toList.drop k = todo → ∀ ρ w Q, Rep w0.heap.size ρ s.heap s.nxt w → Below w0.heap.size w0 w → Ends w0 ρ s o w (fun ρ' w' => Q .normal (act ρ' o.st.res.fr o.st.tmps) w') →
    wpOpsIn (fenceOf ρ s.res.fr) 0 C.P ops Q (List.range' k (ops.size - k)) (act ρ s.res.fr s.tmps) w
def OpOK (p : Oper) (s : St) (o : Out) : Prop :=
  ∃ v, o.x = .val v ∧ v.ok o.st.nxt = true ∧ o.st.tmps = s.tmps ∧ (s.nxt ≤ o.st.nxt ∧ o.st.res.fr = s.res.fr) ∧
  ∀ (rd : Option Nat) ρ a w K Q, (∀ x ∈ p.op.operands, a.eval x = (aeval s.tmps x).den ρ) → Rep w0.heap.size ρ s.heap s.nxt w → Below w0.heap.size w0 w →
    Ends w0 ρ s o w (fun ρ' w' => K (a.put p.dst (v.den ρ')) w') → p.wpIn (fenceR rd) 0 C.P a w K Q
def EnterOK (g : FuncId) (vs : List AV) (s : St) (o : Out) : Prop :=
  ∃ v, o.x = .val v ∧ v.ok o.st.nxt = true ∧ (s.nxt ≤ o.st.nxt ∧ o.st.res.fr = s.res.fr) ∧
  ∀ ρ w, Rep w0.heap.size ρ s.heap s.nxt w → Below w0.heap.size w0 w →
    Calls C.P g (AV.denL ρ vs).toArray w fun e w' => ∃ ρ', e = .returned (v.den ρ') ∧ Rep w0.heap.size ρ' o.st.heap o.st.nxt w' ∧ Post ρ ρ' s.heap o.st.heap s.nxt o.st.nxt o.low w w'
end
/-- A loop ends so, in whatever world. -/
def LoopEnds (C : Ctx) (G : World → Prop) (c : Code) (s : St) (x : AX) (t : St) (low : Nat) : Prop := ∀ w0, G w0 → StOK s → CodeOK C w0 (.loop c) s ⟨x, t, low, ⟨[], []⟩⟩
def AskOK (C : Ctx) (G : World → Prop) : Ask → Prop
  | .call g ds r => CallOK C G g ds r
  | .loop c s x t low => LoopEnds C G c s x t low
/-- What a run has asked for holds. -/
def Holds (C : Ctx) (G : World → Prop) (l : Log) : Prop := (∀ p ∈ l.conds, p.1 = p.2) ∧ ∀ q ∈ l.calls, AskOK C G q
theorem behind_eq {low : Nat} {l : List (Bool × Bool)} {k : List Ask} {r : Option Out} {o : Out} (h : behind low l k r = some o) :
    ∃ o1, r = some o1 ∧ o = ⟨o1.x, o1.st, Nat.min low o1.low, ⟨l ++ o1.log.conds, k ++ o1.log.calls⟩⟩ := by
  unfold behind at h
  split at h
  · rename_i x s2 l2 c2 k2
    simp only [Option.some.injEq] at h
    exact ⟨_, rfl, h.symm⟩
  · cases h
theorem Holds.left {C : Ctx} {G : World → Prop} {c c' : List (Bool × Bool)} {k k' : List Ask} (h : Holds C G ⟨c ++ c', k ++ k'⟩) : Holds C G ⟨c, k⟩ :=
  ⟨fun p hp => h.1 p (List.mem_append_left _ hp), fun q hq => h.2 q (List.mem_append_left _ hq)⟩
theorem Holds.right {C : Ctx} {G : World → Prop} {c c' : List (Bool × Bool)} {k k' : List Ask} (h : Holds C G ⟨c ++ c', k ++ k'⟩) : Holds C G ⟨c', k'⟩ :=
  ⟨fun p hp => h.1 p (List.mem_append_right _ hp), fun q hq => h.2 q (List.mem_append_right _ hq)⟩
section
variable {C : Ctx} {G : World → Prop} {w0 : World}
theorem stay_eq {x : AX} {s : St} {o : Out} (h : stay x s = some o) : o = ⟨x, s, s.nxt, ⟨[], []⟩⟩ := by
  obtain ⟨tm, hh, nx, ora, rs⟩ := s
  simp only [stay, Option.some.injEq] at h
  exact h.symm
theorem Ends.stay {ρ : Env} {s : St} {x : AX} {w : World} {K : Env → World → Prop} {l : Log} (hr : Rep w0.heap.size ρ s.heap s.nxt w) (h : Ends w0 ρ s ⟨x, s, s.nxt, l⟩ w K) : K ρ w :=
  h ρ w hr (Post.refl hr _)
/-- Two runs, one behind the other. -/
theorem Ends.trans {ρ : Env} {s : St} {o1 : Out} {o2 : Out} {x : AX} {l : Log} {w : World} {K : Env → World → Prop} (hr : Rep w0.heap.size ρ s.heap s.nxt w) {ρ1 : Env} {w1 : World}
    (hr1 : Rep w0.heap.size ρ1 o1.st.heap o1.st.nxt w1) (hp1 : Post ρ ρ1 s.heap o1.st.heap s.nxt o1.st.nxt o1.low w w1) (h : Ends w0 ρ s ⟨x, o2.st, Nat.min o1.low o2.low, l⟩ w K) : Ends w0 ρ1 o1.st o2 w1 K :=
  fun ρ' w' r p => h ρ' w' r (hp1.trans hr hr1 p)
theorem act_eval (ρ : Env) (fr : AFrame) (tm : List AV) (x : Operand) : (act ρ fr tm).eval x = (aeval tm x).den ρ := aeval_den ρ tm _ x
theorem fence_eq {ρ ρ1 : Env} {nx : Nat} {fr fr1 : AFrame} (hag : ∀ n, n < nx → ρ1.σ n = ρ.σ n) (hf : frOK nx fr = true) (e : fr1.rnd = fr.rnd) : fenceOf ρ1 fr1 = fenceOf ρ fr := by
  unfold fenceOf
  rw [e]
  cases hr : fr.rnd with
  | none => rfl
  | some l =>
    have hl : l < nx := by
      simp only [frOK, hr, Bool.and_eq_true] at hf
      exact blt_lt hf.1
    simp [hag l hl]
theorem marks_eq {ρ ρ1 : Env} {nx : Nat} {fr : AFrame} (hag : ∀ n, n < nx → ρ1.σ n = ρ.σ n) (hf : frOK nx fr = true) :
    (fr.marks.map fun d => ({ target := .collected (ρ1.σ d), args := #[] } : Deferred)) = fr.marks.map fun d => { target := .collected (ρ.σ d), args := #[] } := by
  apply List.map_congr_left
  intro d hd
  simp only [frOK, Bool.and_eq_true, List.all_eq_true] at hf
  rw [hag d (blt_lt (hf.2 d hd))]
theorem frOK_mono {m m' : Nat} (h : m ≤ m') {fr : AFrame} (k : frOK m fr = true) : frOK m' fr = true := by
  simp only [frOK, Bool.and_eq_true, List.all_eq_true] at k ⊢
  refine ⟨?_, fun d hd => ?_⟩
  · revert k
    cases fr.rnd with
    | none => intro _; rfl
    | some l => intro k; have := blt_lt k.1; simp [Nat.blt_eq]; omega
  · have := blt_lt (k.2 d hd); simp [Nat.blt_eq]; omega
theorem Post.low_of {lo : Nat} {ρ ρ' : Env} {h h' : AHeap} {nxt nxt' l l' : Nat} {w w' : World} (r : Rep lo ρ h nxt w) (p : Post ρ ρ' h h' nxt nxt' l w w') (hl : ∀ n, n < l' → n < nxt → n < l) : Post ρ ρ' h h' nxt nxt' l' w w' :=
  { p with
    frame := fun k hk hne => p.frame k hk fun n b hn hb hln => hne n b hn hb (by
      rcases Nat.lt_or_ge n l' with h1 | h1
      · have := hl n h1 (r.scope n b hn).1; omega
      · exact h1)
    fresh := fun n b hn hb => by
      rcases p.fresh n b hn hb with ⟨m, c, hm, hc, em, h3⟩ | hf
      · refine .inl ⟨m, c, hm, hc, em, ?_⟩
        rcases h3 with h3 | h3
        · exact .inl h3
        · rcases Nat.lt_or_ge m l' with h1 | h1
          · have := hl m h1 (r.scope m c hm).1; omega
          · exact .inr h1
      · exact .inr hf
    keep := fun n hn hx => p.keep n (hl n hn hx) hx }
theorem Post.σ_old {ρ ρ' : Env} {h h' : AHeap} {nxt nxt' l : Nat} {w w' : World} (p : Post ρ ρ' h h' nxt nxt' l w w') : ∀ n, n < nxt → ρ'.σ n = ρ.σ n := fun n hn => (p.agree n (.inl hn)).1
theorem wpIn_inv {P : Program} {p : Oper} {a : Act} {w : World} {K : Act → World → Prop} {Q : Exit → Act → World → Prop} {rd : Option Nat} (hd : isDefer p.op = false)
    (h : p.wpIn (fenceR rd) 0 P a w K Q) : p.uponIn (fenceR rd) 0 P a K Q ((execOp a.eval p).run P w) := by
  have h := h.2
  rw [show (fenceR rd).round = rd from rfl, Oper.semAt_eq rd a.eval p (fun c hc => by rw [hc] at hd; cases hd)] at h
  exact h
/-- An operation's wp, whatever the frame. -/
theorem wpIn_op {P : Program} {p : Oper} {a : Act} {w : World} {K : Act → World → Prop} {Q : Exit → Act → World → Prop} {rd : Option Nat} (hd : isDefer p.op = false)
    (h : p.uponIn (fenceR rd) 0 P a K Q ((execOp a.eval p).run P w)) : p.wpIn (fenceR rd) 0 P a w K Q := by
  refine ⟨fun _ _ => trivial, ?_⟩
  rw [show (fenceR rd).round = rd from rfl, Oper.semAt_eq rd a.eval p (fun c hc => by rw [hc] at hd; cases hd)]
  exact h
theorem act_put (ρ ρ' : Env) {nx : Nat} {fr : AFrame} (hf : frOK nx fr = true) (hag : ∀ n, n < nx → ρ'.σ n = ρ.σ n) {tm : List AV} {dst : Option Tmp} {v : AV} (h : AV.denL ρ' tm = AV.denL ρ tm) : (act ρ fr tm).put dst (v.den ρ') = act ρ' fr (setT tm dst v) := by
  cases dst with
  | none => simp only [Act.put, act, setT, h, marks_eq hag hf]
  | some d =>
    simp only [Act.put, act, setT, ← h, marks_eq hag hf]
    congr 1
    apply Array.ext'
    simp [denL_map, List.map_set]
theorem setT_ok {m : Nat} {tm : List AV} {dst : Option Tmp} {v : AV} (h : AV.okL m tm = true) (hv : v.ok m = true) : AV.okL m (setT tm dst v) = true := by
  cases dst with
  | none => exact h
  | some d =>
    rw [okL_iff] at h ⊢
    intro x hx
    rcases List.mem_or_eq_of_mem_set hx with hx | rfl
    · exact h x hx
    · exact hv
theorem below_of_post {ρ ρ' : Env} {h h' : AHeap} {nxt nxt' l : Nat} {w w' : World} (r : Rep w0.heap.size ρ h nxt w) (p : Post ρ ρ' h h' nxt nxt' l w w') (b : Below w0.heap.size w0 w) : Below w0.heap.size w0 w' :=
  b.trans (p.below r b.size)
/-- The guard, as it was reckoned. -/
theorem guard_sound {f : FuncId} {ops : Array Oper} {tm : List AV} {ora ora1 : List Bool} {p : Oper} {b : Bool} {l : List (Bool × Bool)} (h : guardOf C f ops tm ora p = some (b, ora1, l)) (hl : ∀ q ∈ l, q.1 = q.2)
    (ρ : Env) (tmps : Array Value) (ht : ∀ j want t, p.guard = some (j, want) → (ops[j]?).bind (·.dst) = some t → tmps[t]? = (AV.denL ρ tm)[t]?) : Region.wanted p (yielded ops tmps) = b := by
  unfold guardOf at h
  unfold Region.wanted
  split at h
  · rename_i hg
    simp only [Option.some.injEq, Prod.mk.injEq] at h
    rw [hg]; exact h.1
  · rename_i j want hg
    rw [hg]
    simp only
    have hy : yielded ops tmps j = match ((ops[j]?).bind (·.dst)).bind (tmps[·]?) with | some (.bool b) => some b | _ => none := rfl
    rw [listGet_eq, Array.getElem?_toList] at h
    split at h
    · rename_i t hd
      have ht' := ht j want t hg hd
      rw [hd] at hy
      simp only [Option.bind_some] at hy
      rw [ht', denL_map, List.getElem?_map] at hy
      rw [listGet_eq] at h
      split at h
      · rename_i b' hb
        rw [hb] at hy
        simp only [Option.map_some, AV.den] at hy
        rw [hy]
        split at h
        · cases ora with
          | nil => cases h
          | cons q ora2 =>
            simp only [Option.some.injEq, Prod.mk.injEq] at h
            obtain ⟨h1, -, rfl⟩ := h
            have := hl (b', q) (by simp)
            simp only at this
            subst this
            rw [← h1]
            cases b' <;> cases want <;> rfl
        · simp only [Option.some.injEq, Prod.mk.injEq] at h
          rw [← h.1]
          cases b' <;> cases want <;> rfl
      · cases h
      · rename_i hne hna
        simp only [Option.some.injEq, Prod.mk.injEq] at h
        rw [← h.1]
        cases hx : tm[t]? with
        | none => rw [hx] at hy; simp only [Option.map_none] at hy; rw [hy]; rfl
        | some x =>
          rw [hx] at hy
          have : (match (some (x.den ρ) : Option Value) with | some (.bool b) => some b | _ => none) = (none : Option Bool) := by
            cases x with
            | pure v =>
              cases v <;> first
                | rfl
                | exact absurd hx (by rename_i bb; exact fun e => hne bb e)
            | any n => exact absurd hx (hna n)
            | dptr n o =>
              simp only [AV.den, behindOf]
              split
              · rename_i h0
                split at h0
                · cases h0
                · cases h0
              · rfl
            | _ => rfl
          simp only [Option.map_some] at hy
          rw [hy, this]; rfl
    · rename_i hd
      rw [hd] at hy
      simp only [Option.bind_none] at hy
      simp only [Option.some.injEq, Prod.mk.injEq] at h
      rw [hy, ← h.1]; rfl
end
end Go.Ev
/- Running the program's functions on values that are known in part: code, loops, calls. -/
namespace Go.Ev
open Go.RowKit
section
variable {C : Ctx} {G : World → Prop} {w0 : World} {R : Rec} {n : Nat}
theorem skip_ok {s : St} {o : Out} {x : AX} {c : Code} (h : stay x s = some o) (hx : isVal x = false) (hk : StOK s)
    (hc : ∀ (F : Fence) (Q : Exit → Act → World → Prop) a w, Q (exitOf x) a w → c.wpIn F 0 C.P Q a w) : CodeOK C w0 c s o := by
  have := stay_eq h
  subst this
  exact ⟨hx, hk, ⟨Nat.le_refl _, rfl⟩, fun ρ w Q hr _ he => hc _ Q _ _ (he.stay hr)⟩
theorem cond_ok {f : FuncId} {c : Operand} {x y : Code} {s : St} {o : Out} (h : goCond C R f c x y s = some o) (hl : Holds C G o.log)
    (hx : ∀ s o, R (.code f x) s = some o → Holds C G o.log → StOK s → CodeOK C w0 x s o)
    (hy : ∀ s o, R (.code f y) s = some o → Holds C G o.log → StOK s → CodeOK C w0 y s o) (hk : StOK s) : CodeOK C w0 (.cond c x y) s o := by
  obtain ⟨tm, hh, nx, ora, rs⟩ := s
  unfold goCond at h
  simp only at h
  have hpick : ∀ (b : Bool) s o, R (.code f (pickCode b x y)) s = some o → Holds C G o.log → StOK s → CodeOK C w0 (if b then x else y) s o := fun b s o h1 h2 h3 => by
    cases b
    · exact hy s o h1 h2 h3
    · exact hx s o h1 h2 h3
  split at h
  · rename_i b hb
    split at h
    · cases ora with
      | nil => cases h
      | cons q ora =>
        simp only at h
        unfold withCond at h
        split at h
        · rename_i x2 s2 l2 c2 k2 hr
          simp only [Option.some.injEq] at h
          subst h
          have hbq : b = q := hl.1 (b, q) (by simp)
          have hl2 : Holds C G ⟨c2, k2⟩ := ⟨fun p hp => hl.1 p (List.mem_cons_of_mem _ hp), hl.2⟩
          obtain ⟨h1, h2, h3, h4⟩ := hpick q _ _ hr hl2 hk
          refine ⟨h1, h2, h3, fun ρ w Q hr' hb' he => wpIn_cond (t := q) ?_ (h4 ρ w Q hr' hb' he)⟩
          rw [act_eval, hb, ← hbq]; simp [AV.den]
        · cases h
    · obtain ⟨h1, h2, h3, h4⟩ := hpick b _ _ h hl hk
      refine ⟨h1, h2, h3, fun ρ w Q hr' hb' he => wpIn_cond (t := b) ?_ (h4 ρ w Q hr' hb' he)⟩
      rw [act_eval, hb]; simp [AV.den]
  · cases h
theorem seq_ok {f : FuncId} {a b : Code} {s : St} {o : Out} (h : goSeq R f b (R (.code f a) s) = some o) (hl : Holds C G o.log)
    (hx : ∀ s o, R (.code f a) s = some o → Holds C G o.log → StOK s → CodeOK C w0 a s o)
    (hy : ∀ s o, R (.code f b) s = some o → Holds C G o.log → StOK s → CodeOK C w0 b s o) (hk : StOK s) : CodeOK C w0 (.seq a b) s o := by
  unfold goSeq at h
  split at h
  · rename_i s1 l1 c1 k1 hr
    obtain ⟨o2, h2, rfl⟩ := behind_eq h
    obtain ⟨a1, a2, a3, a4⟩ := hx _ _ hr hl.left hk
    obtain ⟨b1, b2, b3, b4⟩ := hy _ _ h2 hl.right a2
    refine ⟨b1, b2, ⟨Nat.le_trans a3.1 b3.1, b3.2.trans a3.2⟩, fun ρ w Q hr' hb' he => wpIn_seq (a4 ρ w _ hr' hb' fun ρ1 w1 r1 p1 => ?_)⟩
    have := b4 ρ1 w1 Q r1 (below_of_post hr' p1 hb') (he.trans hr' r1 p1)
    rw [fence_eq p1.σ_old hk.2 a3.2] at this
    exact this
  · rename_i hne
    obtain ⟨a1, a2, a3, a4⟩ := hx _ _ h hl hk
    refine ⟨a1, a2, a3, fun ρ w Q hr' hb' he => wpIn_seq (a4 ρ w _ hr' hb' fun ρ1 w1 r1 p1 => ?_)⟩
    have hq := he ρ1 w1 r1 p1
    obtain ⟨x, st, low, log⟩ := o
    cases x with
    | normal => exact absurd h (fun e => hne st low log.conds log.calls e)
    | exit id => exact hq
    | ret => exact hq
    | val v => exact hq
theorem block_ok {f : FuncId} {id : Nat} {c : Code} {s : St} {o : Out} (h : goBlock id (R (.code f c) s) = some o) (hl : Holds C G o.log)
    (hx : ∀ s o, R (.code f c) s = some o → Holds C G o.log → StOK s → CodeOK C w0 c s o) (hk : StOK s) : CodeOK C w0 (.block id c) s o := by
  unfold goBlock at h
  split at h
  · rename_i j s1 l1 g1 hr
    split at h
    · rename_i e
      simp only [Option.some.injEq] at h
      subst h
      obtain ⟨a1, a2, a3, a4⟩ := hx _ _ hr hl hk
      refine ⟨rfl, a2, a3, fun ρ w Q hr' hb' he => wpIn_block (a4 ρ w _ hr' hb' fun ρ1 w1 r1 p1 => ?_)⟩
      have := Nat.eq_of_beq_eq_true e
      simp only [exitOf, Exit.inBlock, this, if_true]
      exact he ρ1 w1 r1 p1
    · rename_i e
      simp only [Option.some.injEq] at h
      subst h
      obtain ⟨a1, a2, a3, a4⟩ := hx _ _ hr hl hk
      refine ⟨rfl, a2, a3, fun ρ w Q hr' hb' he => wpIn_block (a4 ρ w _ hr' hb' fun ρ1 w1 r1 p1 => ?_)⟩
      have hne : j ≠ id := by intro k; subst k; simp at e
      simp only [exitOf, Exit.inBlock, hne, if_false]
      exact he ρ1 w1 r1 p1
  · rename_i hne
    obtain ⟨a1, a2, a3, a4⟩ := hx _ _ h hl hk
    refine ⟨a1, a2, a3, fun ρ w Q hr' hb' he => wpIn_block (a4 ρ w _ hr' hb' fun ρ1 w1 r1 p1 => ?_)⟩
    have hq := he ρ1 w1 r1 p1
    obtain ⟨x, st, low, log⟩ := o
    cases x with
    | normal => exact hq
    | exit j => exact absurd h (fun e => hne j st low log e)
    | ret => exact hq
    | val v => exact hq
theorem loop_ok {f : FuncId} {c : Code} {s : St} {o : Out} (h : goLoop R f c (R (.code f c) s) = some o) (hl : Holds C G o.log)
    (hx : ∀ s o, R (.code f c) s = some o → Holds C G o.log → StOK s → CodeOK C w0 c s o)
    (hy : ∀ s o, R (.loop f c) s = some o → Holds C G o.log → StOK s → LoopOK C w0 n c s o) (hk : StOK s) : LoopOK C w0 (n + 1) c s o := by
  unfold goLoop at h
  split at h
  · rename_i s1 l1 c1 k1 hr
    obtain ⟨o2, h2, rfl⟩ := behind_eq h
    obtain ⟨a1, a2, a3, a4⟩ := hx _ _ hr hl.left hk
    obtain ⟨b1, b2, b3, b4⟩ := hy _ _ h2 hl.right a2
    refine ⟨b1, b2, ⟨Nat.le_trans a3.1 b3.1, b3.2.trans a3.2⟩, fun ρ w Q hr' hb' he => ?_⟩
    rw [roundsIn_succ]
    refine a4 ρ w _ hr' hb' fun ρ1 w1 r1 p1 => ?_
    have := b4 ρ1 w1 Q r1 (below_of_post hr' p1 hb') (he.trans hr' r1 p1)
    rw [fence_eq p1.σ_old hk.2 a3.2] at this
    exact this
  · rename_i hne
    obtain ⟨a1, a2, a3, a4⟩ := hx _ _ h hl hk
    refine ⟨a1, a2, a3, fun ρ w Q hr' hb' he => ?_⟩
    rw [roundsIn_succ]
    refine a4 ρ w _ hr' hb' fun ρ1 w1 r1 p1 => ?_
    have hq := he ρ1 w1 r1 p1
    obtain ⟨x, st, low, log⟩ := o
    cases x with
    | normal => exact absurd h (fun e => hne st low log.conds log.calls e)
    | exit id => exact hq
    | ret => exact hq
    | val v => exact hq
theorem drop_cons {α : Type} {xs : List α} {k : Nat} {x : α} {rest : List α} (h : xs.drop k = x :: rest) : xs[k]? = some x ∧ xs.drop (k + 1) = rest ∧ k < xs.length := by
  have hk : k < xs.length := by
    rcases Nat.lt_or_ge k xs.length with h1 | h1
    · exact h1
    · rw [List.drop_eq_nil_of_le h1] at h; cases h
  rw [List.drop_eq_getElem_cons hk] at h
  cases h
  exact ⟨by simp [hk], rfl, hk⟩
theorem ops_ok {f : FuncId} {ops : Array Oper} {todo : List Oper} {s : St} {o : Out} (h : goOps C R f ops todo s = some o) (hl : Holds C G o.log)
    (hop : ∀ p s o, R (.op f p) s = some o → Holds C G o.log → StOK s → OpOK C w0 p s o)
    (hrest : ∀ todo s o, R (.ops f ops todo) s = some o → Holds C G o.log → StOK s → OpsOK C w0 ops todo s o) (hk : StOK s) : OpsOK C w0 ops todo s o := by
  obtain ⟨tm, hh, nx, ora, rs⟩ := s
  unfold goOps at h
  simp only at h
  cases todo with
  | nil =>
    have := stay_eq h
    subst this
    refine ⟨rfl, hk, ⟨Nat.le_refl _, rfl⟩, fun k hkk ρ w Q hr _ he => ?_⟩
    have : ops.size - k = 0 := by
      have := List.drop_eq_nil_iff.1 hkk
      simp at this; omega
    rw [this]
    exact he.stay hr
  | cons p rest =>
    simp only at h
    have hguard : ∀ (b : Bool) ora1 l, guardOf C f ops tm ora p = some (b, ora1, l) → (∀ q ∈ l, q.1 = q.2) → ∀ ρ, Region.wanted p (yielded ops (act ρ rs.fr tm).tmps) = b := fun b ora1 l hg hq ρ =>
      guard_sound hg hq ρ _ (fun j want t _ _ => by simp [act])
    split at h
    · cases h
    · rename_i ora1 l hg
      rw [setTK_eq] at h
      obtain ⟨o2, h2, rfl⟩ := behind_eq h
      have hgl := hl.left (c := l) (k := [])
      obtain ⟨b1, b2, b3, b4⟩ := hrest _ _ _ h2 hl.right ⟨setT_ok hk.1 (by simp [AV.ok, AV.within]), hk.2⟩
      refine ⟨b1, b2, b3, fun k hkk ρ w Q hr hb he => ?_⟩
      obtain ⟨e1, e2, e3⟩ := drop_cons hkk
      have e3' : k < ops.size := by simpa using e3
      rw [show ops.size - k = (ops.size - (k + 1)) + 1 by omega, List.range'_succ, wpOpsIn_cons]
      have ho : ops[k]? = some p := by simpa using e1
      unfold wpOpIn
      simp only [ho, hguard _ _ _ hg hgl.1 ρ, Bool.false_eq_true, if_false]
      have hput : (act ρ rs.fr tm).put p.dst undef = act ρ rs.fr (setT tm p.dst (.pure undef)) := by
        have := act_put ρ ρ (nx := nx) (fr := rs.fr) hk.2 (fun _ _ => rfl) (tm := tm) (dst := p.dst) (v := .pure undef) rfl
        simpa [AV.den] using this
      rw [hput]
      refine ⟨fun _ _ => trivial, ?_⟩
      exact b4 (k + 1) e2 ρ w Q hr hb (fun ρ' w' r' p' => he ρ' w' r' (p'.low_le (Nat.min_le_right _ _)))
    · rename_i ora1 l hg
      unfold goOp1 at h
      split at h
      · rename_i v tm' h1 nx1 ora2 rs1 l1 c1 k1 hr
        rw [setTK_eq] at h
        obtain ⟨o2, h2, rfl⟩ := behind_eq h
        have hgl : ∀ q ∈ l, q.1 = q.2 := fun q hq => hl.1 q (by simp; exact .inl hq)
        have hl1 : Holds C G ⟨c1, k1⟩ := ⟨fun q hq => hl.1 q (by simp; exact .inr (.inl hq)), fun q hq => hl.2 q (by simp; exact .inl hq)⟩
        obtain ⟨v', a1, a2, a3, a4, a5⟩ := hop _ _ _ hr hl1 hk
        cases a1
        simp only at a2 a3 a4
        have hfr : rs1.fr = rs.fr := a4.2
        obtain ⟨b1, b2, b3, b4⟩ := hrest _ _ _ h2 hl.right ⟨setT_ok (okL_mono a4.1 _ hk.1) a2, by show frOK nx1 rs1.fr = true; rw [hfr]; exact frOK_mono a4.1 hk.2⟩
        refine ⟨b1, b2, ⟨Nat.le_trans a4.1 b3.1, b3.2.trans a4.2⟩, fun k hkk ρ w Q hr' hb he => ?_⟩
        obtain ⟨e1, e2, e3⟩ := drop_cons hkk
        have e3' : k < ops.size := by simpa using e3
        rw [show ops.size - k = (ops.size - (k + 1)) + 1 by omega, List.range'_succ, wpOpsIn_cons]
        have ho : ops[k]? = some p := by simpa using e1
        unfold wpOpIn
        simp only [ho, hguard _ _ _ hg hgl ρ, if_true]
        refine a5 _ ρ (act ρ rs.fr tm) w _ Q (fun x _ => act_eval ρ rs.fr tm x) hr' hb fun ρ1 w1 r1 p1 => ?_
        have hput : (act ρ rs.fr tm).put p.dst (v.den ρ1) = act ρ1 rs.fr (setT tm p.dst v) := act_put ρ ρ1 (nx := nx) hk.2 p1.σ_old (p1.denL hk.1)
        show wpOpsIn (fenceOf ρ rs.fr) 0 C.P ops Q _ ((act ρ rs.fr tm).put p.dst (v.den ρ1)) w1
        rw [hput, ← fence_eq p1.σ_old hk.2 (show rs.fr.rnd = rs.fr.rnd from rfl)]
        simp only [hfr] at b4
        exact b4 (k + 1) e2 ρ1 w1 Q r1 (below_of_post hr' p1 hb) (he.trans (o1 := ⟨.val v, ⟨tm', h1, nx1, ora2, rs1⟩, l1, ⟨c1, k1⟩⟩) hr' r1 p1)
      · cases h
theorem plain_ok (hg : Good C G) {p : Oper} {s : St} {o : Out} (hw0 : G w0) (h : goPlain C p s = some o) : OpOK C w0 p s o := by
  obtain ⟨tm, hh, nx, ora, rs⟩ := s
  unfold goPlain at h
  simp only at h
  split at h
  · cases h
  rename_i hdf
  split at h
  · rename_i v h1 nx1 low ha
    rw [withNat_eq, forceV_eq] at h
    split at h
    · rename_i hv
      simp only [Option.some.injEq] at h
      subst h
      simp only [Bool.and_eq_true] at hv
      refine ⟨v, rfl, hv.1, rfl, ⟨ble_le hv.2, rfl⟩, fun rd ρ a w K Q he hr hb hE => wpIn_op hdf ?_⟩
      obtain ⟨ρ', w', hrun, hr', hp'⟩ := aop_sound (e := a.eval) p hr hb.size (hg.tab w (hg.stable w0 w hw0 hb)) he ha
      rcases hrun with hrun | ⟨hrun, hu⟩
      · rw [hrun, Oper.uponIn_value]; exact hE ρ' w' hr' hp'
      · rw [hrun, Oper.uponIn_skip, ← hu]; exact hE ρ' w' hr' hp'
    · cases h
  · cases h
theorem div_ok (hg : Good C G) {p : Oper} {s : St} {o : Out} (hw0 : G w0) (h : goDiv C p s = some o) (hl : Holds C G o.log) : OpOK C w0 p s o := by
  obtain ⟨tm, hh, nx, ora, rs⟩ := s
  unfold goDiv at h
  simp only at h
  split at h
  · rename_i v b hd
    simp only [Option.some.injEq] at h
    subst h
    have hb : b = false := hl.1 (b, false) (by simp)
    refine ⟨.pure v, rfl, by simp [AV.ok, AV.within], rfl, ⟨Nat.le_refl _, rfl⟩, fun rd ρ a w K Q he hr _ hE => wpIn_op ?_ ?_⟩
    · unfold divOf at hd
      split at hd
      · rename_i hop; rw [hop]; rfl
      · rename_i hop; rw [hop]; rfl
      · cases hd
    have hfin : (execOp a.eval p).run C.P w = .ok (.value v) w := by
      unfold divOf at hd
      split at hd
      · rename_i t x y t2 hop
        split at hd
        · rename_i m n hm hn
          simp only [Option.some.injEq, Prod.mk.injEq] at hd
          obtain ⟨rfl, rfl⟩ := hd
          have hn0 : ¬ n = 0 := by simpa using hb
          have hx := he x (by simp [hop, Op.operands])
          have hy := he y (by simp [hop, Op.operands])
          rw [hm] at hx
          rw [hn] at hy
          simp only [AV.den] at hx hy
          obtain ⟨dst, op, type, pos, after, guard⟩ := p
          simp only at hop
          subst hop
          simp only [execOp, hx, hy]
          simp [eqGuard, binOp, Op.intDiv, hn0]
        · cases hd
      · rename_i t x y t2 hop
        split at hd
        · rename_i m n hm hn
          simp only [Option.some.injEq, Prod.mk.injEq] at hd
          obtain ⟨rfl, rfl⟩ := hd
          have hn0 : ¬ n = 0 := by simpa using hb
          have hx := he x (by simp [hop, Op.operands])
          have hy := he y (by simp [hop, Op.operands])
          rw [hm] at hx
          rw [hn] at hy
          simp only [AV.den] at hx hy
          obtain ⟨dst, op, type, pos, after, guard⟩ := p
          simp only at hop
          subst hop
          simp only [execOp, hx, hy]
          simp [eqGuard, binOp, Op.intDiv, hn0]
        · cases hd
      · cases hd
    rw [hfin, Oper.uponIn_value]
    have := hE ρ w hr (Post.refl hr _)
    simpa [AV.den] using this
  · exact plain_ok hg hw0 h
theorem pick_ok (hg : Good C G) {f : FuncId} {p : Oper} {c x y : Operand} (hp : p.op = .pick c x y) {s : St} {o : Out} (hw0 : G w0) (h : goPick C f p c x y s = some o) (hl : Holds C G o.log) : OpOK C w0 p s o := by
  obtain ⟨tm, hh, nx, ora, rs⟩ := s
  have hfin : ∀ (q : Bool) (v : AV) (ora' : List Bool), aeval tm c = .pure (.bool q) → (aeval tm (match q with | true => x | false => y)) = v → v.ok nx = true →
      OpOK C w0 p ⟨tm, hh, nx, ora, rs⟩ ⟨.val v, ⟨tm, hh, nx, ora', rs⟩, nx, ⟨[(q, q)], []⟩⟩ := by
    intro q v ora' hc hv hk
    refine ⟨v, rfl, hk, rfl, ⟨Nat.le_refl _, rfl⟩, fun rd ρ a w K Q he hr _ hE => wpIn_op (by rw [hp]; rfl) ?_⟩
    have h1 := he c (by simp [hp, Op.operands])
    have h2 := he x (by simp [hp, Op.operands])
    have h3 := he y (by simp [hp, Op.operands])
    rw [hc] at h1
    simp only [AV.den] at h1
    have hrun : (execOp a.eval p).run C.P w = .ok (.value (v.den ρ)) w := by
      obtain ⟨dst, op, type, pos, after, guard⟩ := p
      simp only at hp
      subst hp
      simp only [execOp, h1]
      cases q
      · simp only at hv; subst hv
        simp [asBool, h3]
      · simp only at hv; subst hv
        simp [asBool, h2]
    rw [hrun, Oper.uponIn_value]
    exact hE ρ w hr (Post.refl hr _)
  unfold goPick at h
  simp only at h
  split at h
  · exact plain_ok hg hw0 h
  · split at h
    · rename_i b q ora1 hc
      split at h
      · rw [forceV_eq] at h
        split at h
        · rename_i hk
          simp only [Option.some.injEq] at h
          subst h
          have hb : b = true := hl.1 (b, true) (by simp)
          subst hb
          exact hfin true _ _ hc rfl hk
        · cases h
      · rw [forceV_eq] at h
        split at h
        · rename_i hk
          simp only [Option.some.injEq] at h
          subst h
          have hb : b = false := hl.1 (b, false) (by simp)
          subst hb
          exact hfin false _ _ hc rfl hk
        · cases h
    · cases h
theorem outD_eq {tm : List AV} {h : AHeap} {nx : Nat} {ora : List Bool} {rs : Rs} {d : D} {low : Nat} {c : List (Bool × Bool)} {k : List Ask} {o : Out} (e : outD tm h nx ora rs d low c k = some o) :
    o = ⟨.val (avOf nx d).1, ⟨tm, (avOf nx d).2.1 ++ h, (avOf nx d).2.2, ora, rs⟩, low, ⟨c, k⟩⟩ := by
  unfold outD at e
  simp only [withNat_eq, forceV_eq, Option.some.injEq] at e
  exact e.symm
theorem contract_ok (hg : Good C G) {g : FuncId} {vs : List AV} {s : St} {o : Out} (hw0 : G w0) (h : contract g vs s = some o) (hl : Holds C G o.log) : EnterOK C w0 g vs s o := by
  obtain ⟨tm, hh, nx, ora, rs⟩ := s
  obtain ⟨rv, fr⟩ := rs
  unfold contract at h
  simp only at h
  split at h
  · rename_i ds drops c r res hp
    have st := avOf_static nx r
    have core : ∀ {h' : AHeap} {low : Nat} {l : Log}, (∀ ρ w w', Rep w0.heap.size ρ hh nx w → Below w.heap.size w w' → Rep w0.heap.size ρ h' nx w' ∧ Post ρ ρ hh h' nx nx low w w') → low ≤ nx →
        (∀ ρ w w' v, Rep w0.heap.size ρ hh nx w → Rep w0.heap.size ρ h' nx w' → w0.heap.size ≤ w.heap.size → Rp (fun k => FreeH ρ (hdelL hh drops) k ∨ w.heap.size ≤ k) w' r v → Rp (FreeH ρ h') w' r v) → (∀ p ∈ c, p.1 = p.2) → CallOK C G g ds r →
        EnterOK C w0 g vs ⟨tm, hh, nx, ora, ⟨r :: res, fr⟩⟩ ⟨.val (avOf nx r).1, ⟨[], (avOf nx r).2.1 ++ h', (avOf nx r).2.2, ora, ⟨res, fr⟩⟩, low, l⟩ := by
      intro h' low l hrep hlow hrp hcc hcall
      refine ⟨_, rfl, st.2, ⟨st.1, rfl⟩, fun ρ w hr hb => ?_⟩
      refine (hcall w _ _ (hg.stable w0 w hw0 hb) (dOf1L_ok hr hp hcc)).mono fun e w' ⟨v, he, hv, hbw⟩ => ?_
      obtain ⟨r1, p1⟩ := hrep ρ w w' hr hbw
      obtain ⟨ρ', e1, r2, p2⟩ := avOf_ok r r1 (hrp ρ w w' v hr r1 hb.size hv)
      refine ⟨ρ', by rw [e1]; exact he, r2, ?_⟩
      have := p1.trans hr r1 p2
      rwa [min_left' hlow] at this
    split at h
    · rename_i hf
      have := outD_eq h
      subst this
      exact core (fun ρ w w' hr hbw => rep_below hr hbw nx) (Nat.le_refl _) (fun ρ w w' v hr r1 hlo hv => Rp.flat _ hf hv) (fun p hp => hl.1 p hp) (hl.2 _ List.mem_cons_self)
    · have := outD_eq h
      subst this
      exact core (fun ρ w w' hr hbw => rep_dropL hr hbw drops) (lowOf_le drops nx).1 (fun ρ w w' v hr r1 hlo hv => by
        refine Rp.keep ?_ _ hv
        have hr' := rep_forget hr (h' := hdelL hh drops) fun n b hn => (hdelL_sub hn).2
        exact free_later hr') (fun p hp => hl.1 p hp) (hl.2 _ List.mem_cons_self)
  · cases h
def resVar (tmps : Array Value) : ResultVar → Sem Value
  | .tmp t => pure (tmps.getD t undef)
  | .cell a t => do loadVar t (← asAddr (tmps.getD a undef))
theorem results_eq (fn : Func) (tmps : Array Value) : results fn tmps = (do
    let vs ← fn.results.mapM (resVar tmps)
    pure (if h : vs.size = 1 then vs[0] else .tuple vs)) := by
  unfold results
  congr 1
theorem resVar_run {s : St} {ρ : Env} {w : World} (hr : Rep w0.heap.size ρ s.heap s.nxt w) (ht : Tab C.tab w) {r : ResultVar} {v : AV} (h : aresult C s.tmps s.heap r = some v) :
    (resVar (AV.denL ρ s.tmps).toArray r).run C.P w = .ok (v.den ρ) w := by
  have hgd : ∀ t, (AV.denL ρ s.tmps).toArray.getD t undef = (slot s.tmps t).den ρ := fun t => by
    rw [getD_den]; simp [List.getD_eq_getElem?_getD]
  cases r with
  | tmp t =>
    simp only [aresult, Option.some.injEq] at h
    subst h
    simp only [resVar, hgd, Sem.run_pure]
  | cell a t =>
    simp only [aresult] at h
    split at h
    · rename_i b off hs
      obtain ⟨ad, h1, h2⟩ := aload_sound hr ht h
      have : (slot s.tmps a).den ρ = .pointer (some ad) := by rw [hs]; exact h1
      simp only [resVar, hgd, this, asAddr, Sem.run_bind, Sem.run_pure, Result.andThen_ok, h2]
    · cases h
theorem results_run {s : St} {ρ : Env} {w : World} (hr : Rep w0.heap.size ρ s.heap s.nxt w) (ht : Tab C.tab w) : ∀ {rv : List ResultVar} {vs : List AV}, aresults C s.tmps s.heap rv = some vs →
    (rv.mapM (resVar (AV.denL ρ s.tmps).toArray)).run C.P w = .ok (AV.denL ρ vs) w
  | [], vs, h => by simp [aresults] at h; subst h; simp [AV.denL]
  | r :: rs, vs, h => by
    unfold aresults at h
    split at h
    · rename_i v us hv hus
      simp only [Option.some.injEq] at h
      subst h
      have ih := results_run hr ht hus
      have h1 := resVar_run hr ht hv
      rw [List.mapM_cons]
      simp only [Sem.run_bind, h1, Result.andThen_ok, ih, AV.denL, Sem.run_pure]
    · cases h
theorem resultOf_den (ρ : Env) (vs : List AV) : (resultOf vs).den ρ = (if h : (AV.denL ρ vs).toArray.size = 1 then (AV.denL ρ vs).toArray[0] else .tuple (AV.denL ρ vs).toArray) := by
  match vs with
  | [] => simp [resultOf, mkTuple_den, AV.denL]
  | [v] => simp [resultOf, AV.denL]
  | v :: u :: us => simp [resultOf, mkTuple_den, AV.denL]
theorem replicate_den (ρ : Env) (n : Nat) : AV.denL ρ (List.replicate n (.pure undef)) = List.replicate n undef := by
  simp [denL_map, AV.den]
theorem post_hbelow {ρ ρ' : Env} {h h' : AHeap} {nxt nxt' l : Nat} {w w' : World} (p : Post ρ ρ' h h' nxt nxt' l w w') : Post ρ ρ' h (hbelow h' nxt) nxt nxt' l w w' :=
  { p with
    fresh := fun n b hn hm => p.fresh n b (by rw [hget_below] at hn; split at hn; exact hn; cases hn) hm
    keep := fun n hn hx => by rw [hget_below, if_pos hx]; exact p.keep n hn hx }
theorem shutMarks_ok {P : Program} {lo : Nat} {fn : Func} {tmps : Array Value} {R : Ending → World → Prop} {ρ : Env} {nx : Nat} : ∀ {ds : List Nat} {h h' : AHeap} {w : World}, shutMarks ds h = some h' → Rep lo ρ h nx w →
    (∀ w', Rep lo ρ h' nx w' → Post ρ ρ h h' nx nx (lowOf ds nx) w w' → ∃ v, (results fn tmps).run P w' = .ok v w' ∧ R (.returned v) w') →
    LeavesInM Fence.wide 0 P fn tmps R (ds.map fun d => { target := .collected (ρ.σ d), args := #[] }) .returning w
  | [], h, h', w, e, hr, hR => by
    simp only [shutMarks, Option.some.injEq] at e
    subst e
    exact hR w hr (Post.refl hr _)
  | d :: ds, h, h', w, e, hr, hR => by
    unfold shutMarks at e
    split at e
    · rename_i cs on hd
      have hb := hr.block d _ hd
      simp only [BlockOK] at hb
      obtain ⟨r1, p1⟩ := rep_drop hr hd rfl (w.putObj (ρ.σ d) (.deferred none)) rfl rfl rfl (by simp) (fun k hk => World.putObj_heap_other hk)
      refine ⟨by simp, .inl ⟨_, _, rfl, run_takeDeferred hb, ?_⟩⟩
      exact shutMarks_ok e r1 fun w' hw' p2 => hR w' hw' (p1.trans hr r1 p2)
    · cases e
theorem enter_ok (hg : Good C G) {g : FuncId} {vs : List AV} {s : St} {o : Out} (hw0 : G w0) (h : goEnter C R g vs s = some o) (hl : Holds C G o.log)
    (hx : ∀ c s o, R (.code g c) s = some o → Holds C G o.log → okCode c = true → StOK s → CodeOK C w0 c s o) : EnterOK C w0 g vs s o := by
  obtain ⟨tm, hh, nx, ora, rs⟩ := s
  unfold goEnter at h
  simp only at h
  split at h
  · rename_i fn hfine hfn
    rw [listGet_eq, Array.getElem?_toList] at hfn
    split at h
    · rename_i c hbody hok
      rw [spine_eq] at h
      have hcode := hg.code g fn c hfine hfn hbody
      have htm : AV.okL nx (vs ++ List.replicate (fn.ntmps - vs.length) (.pure undef)) = true := by
        rw [okL_iff] at hok ⊢
        intro x hx
        rcases List.mem_append.1 hx with hx | hx
        · exact hok x hx
        · rw [(List.mem_replicate.1 hx).2]; simp [AV.ok, AV.within]
      unfold leave at h
      split at h
      · rename_i x tm2 h2 nx2 ora2 rs2 l2 g2 hr
        have key : ∀ h3, shutMarks rs2.fr.marks h2 = some h3 → isOff x = true → leaveWith C fn.results.toList vs nx rs.fr tm2 h3 nx2 ora2 rs2.vals (Nat.min l2 (lowOf rs2.fr.marks nx2)) g2 = some o → EnterOK C w0 g vs ⟨tm, hh, nx, ora, rs⟩ o := by
          intro h3 hsh hoff h
          unfold leaveWith at h
          split at h
          · rename_i us hres
            have main : ∀ (hfin : AHeap), (∀ ρ ρ' w w', Rep w0.heap.size ρ' h3 nx2 w' → Post ρ ρ' hh h3 nx nx2 (Nat.min l2 (lowOf rs2.fr.marks nx2)) w w' → Rep w0.heap.size ρ' hfin nx2 w' ∧ Post ρ ρ' hh hfin nx nx2 (Nat.min l2 (lowOf rs2.fr.marks nx2)) w w') → Holds C G g2 →
                nx ≤ nx2 ∧ ∀ ρ w, Rep w0.heap.size ρ hh nx w → Below w0.heap.size w0 w → Calls C.P g (AV.denL ρ vs).toArray w fun e w' => ∃ ρ', e = .returned ((resultOf us).den ρ') ∧ Rep w0.heap.size ρ' hfin nx2 w' ∧ Post ρ ρ' hh hfin nx nx2 (Nat.min l2 (lowOf rs2.fr.marks nx2)) w w' := by
              intro hfin hf hlg
              obtain ⟨a1, a2, a3, a4⟩ := hx c _ _ hr hlg hcode ⟨htm, rfl⟩
              refine ⟨a3.1, fun ρ w hr' hb => ?_⟩
              refine (callsIn_wide (n := 0)).1 (callsIn_of_wp_marks hfn hbody trivial ?_)
              have hact : ({ tmps := (AV.denL ρ vs).toArray ++ Array.replicate (fn.ntmps - (AV.denL ρ vs).toArray.size) undef, defers := [] } : Act) = act ρ noFrame (vs ++ List.replicate (fn.ntmps - vs.length) (.pure undef)) := by
                unfold act
                congr 1
                apply Array.ext'
                simp [denL_append, replicate_den, denL_length]
              rw [hact]
              refine a4 ρ w _ hr' hb fun ρ1 w1 r1 p1 => ?_
              have hleave : LeavesInM Fence.wide 0 C.P fn (act ρ1 rs2.fr tm2).tmps (fun e w' => ∃ ρ', e = .returned ((resultOf us).den ρ') ∧ Rep w0.heap.size ρ' hfin nx2 w' ∧ Post ρ ρ' hh hfin nx nx2 (Nat.min l2 (lowOf rs2.fr.marks nx2)) w w') (act ρ1 rs2.fr tm2).defers .returning w1 := by
                refine shutMarks_ok hsh r1 fun w3 r3 p3 => ?_
                have hb3 := below_of_post r1 p3 (below_of_post hr' p1 hb)
                have ht := hg.tab w3 (hg.stable w0 w3 hw0 hb3)
                have hrun := results_run (s := ⟨tm2, h3, nx2, ora2, rs2⟩) r3 ht hres
                have hfull : (results fn (act ρ1 rs2.fr tm2).tmps).run C.P w3 = .ok ((resultOf us).den ρ1) w3 := by
                  rw [results_eq, Array.mapM_eq_mapM_toList]
                  simp only [Sem.run_bind, Sem.run_map, act]
                  simp only at hrun
                  rw [hrun]
                  simp [resultOf_den]
                have p4 := p1.trans hr' r1 p3
                exact ⟨_, hfull, ρ1, rfl, (hf ρ ρ1 w w3 r3 p4).1, (hf ρ ρ1 w w3 r3 p4).2⟩
              cases x with
              | normal => exact hleave
              | ret => exact hleave
              | exit id => simp [isOff] at hoff
              | val v => simp [isOff] at hoff
            split at h
            · rename_i hpure
              simp only [Option.some.injEq] at h
              subst h
              simp only [Bool.and_eq_true] at hpure
              obtain ⟨m1, m2⟩ := main (hbelow h3 nx) (fun ρ ρ' w w' r p => ⟨rep_forget r (fun n b hn => by rw [hget_below] at hn; split at hn; exact hn; cases hn), post_hbelow p⟩) hl
              refine ⟨resultOf us, rfl, ?_, ⟨m1, rfl⟩, m2⟩
              obtain ⟨v, hv, -⟩ := isPure_den (ρ := ⟨id, fun _ => ⟨0, noVal, noDV⟩, fun _ => True, 0⟩) hpure.2
              simp only [hv]; simp [AV.ok, AV.within]
            · split at h
              · rename_i hrok
                simp only [Option.some.injEq] at h
                subst h
                obtain ⟨m1, m2⟩ := main h3 (fun ρ ρ' w w' r p => ⟨r, p⟩) hl
                exact ⟨resultOf us, rfl, hrok, ⟨m1, rfl⟩, m2⟩
              · cases h
          · cases h
        split at h
        · rename_i hoff hm
          exact key h2 (by rw [hm]; rfl) hoff (by rw [hm]; exact h)
        · rename_i m ms hoff hm
          split at h
          · rename_i h3 hsh
            exact key h3 (by rw [hm]; exact hsh) hoff (by rw [hm]; exact h)
          · cases h
        · cases h
      · cases h
    · cases h
  · cases h
theorem callsIn_any {P : Program} {g : FuncId} {args : Array Value} {w : World} {K : Ending → World → Prop} (rd : Option Nat) (h : Calls P g args w K) : CallsIn (fenceR rd) (0 - 1) P g args w K :=
  (callsIn_wide (n := 0)).2 h
theorem call_ok (hg : Good C G) {p : Oper} {c : Call} (hp : p.op = .call c) {s : St} {o : Out} (h : goCall R c s = some o) (hl : Holds C G o.log)
    (hx : ∀ g vs s o, R (.enter g vs) s = some o → Holds C G o.log → EnterOK C w0 g vs s o)
    (hbody : ∀ g vs s o, R (.enter g vs) s = some o → ∃ fn, C.P.funcs[g]? = some fn ∧ fn.body.isSome = true) : OpOK C w0 p s o := by
  obtain ⟨tm, hh, nx, ora, rs⟩ := s
  unfold goCall at h
  simp only at h
  split at h
  · rename_i g vs hcal
    unfold backTo at h
    split at h
    · rename_i x2 tm' h1 nx1 ora1 rs1 l1 g1 hr
      simp only [Option.some.injEq] at h
      subst h
      obtain ⟨v, a1, a2, a3, a4⟩ := hx _ _ _ _ hr hl
      simp only at a1
      subst a1
      obtain ⟨fn, hfn, hb⟩ := hbody _ _ _ _ hr
      refine ⟨v, rfl, a2, rfl, a3, fun rd ρ a w K Q he hr' hbw hE => wpIn_op (by rw [hp]; rfl) ?_⟩
      have hrun := callee_sound (C := C) (e := a.eval) (ρ := ρ) (w := w) c p.type hcal (fun x hx => he x (by rw [hp]; exact hx)) hfn (hg.names g fn hfn) hb
      have : execOp a.eval p = (do let d ← resolve a.eval c p.type; invoke d.target d.args : Sem Next) := by
        unfold execOp; rw [hp]
      rw [this, hrun, Oper.uponIn_enter]
      refine ⟨fun h => (by cases h), ?_⟩
      refine CallsIn.mono (callsIn_any rd (a4 ρ w hr' hbw)) fun e w' ⟨ρ', he', r', p'⟩ => ?_
      subst he'
      exact hE ρ' w' r' p'
    · cases h
  · cases h
end
end Go.Ev
/- Running the program's functions on values that are known in part: a region that draws its order, as it was reckoned. -/
namespace Go.Ev
open Go.RowKit
structure Item where
  tm : List AV
  nx : Nat
  nx' : Nat
  v : AV
  made : AHeap
  seen : AHeap
/-- The temporaries ahead of operation i, where the operations are carried out in their order. -/
def tmAt (ops : Array Oper) (tm0 : List AV) (L : List Item) : Nat → List AV
  | 0 => tm0
  | i + 1 => match L[i]?, ops[i]? with
    | some it, some p => setT (tmAt ops tm0 L i) p.dst it.v
    | _, _ => tmAt ops tm0 L i
def nxAt (base : Nat) (L : List Item) : Nat → Nat
  | 0 => base
  | i + 1 => match L[i]? with
    | some it => it.nx'
    | none => nxAt base L i
def GuardSees (ops : Array Oper) (p : Oper) (tmps : Array Value) (ρ : Env) (tm : List AV) : Prop :=
  ∀ j want t, p.guard = some (j, want) → (ops[j]?).bind (·.dst) = some t → tmps[t]? = (AV.denL ρ tm)[t]?
def ItemFact (C : Ctx) (w0 : World) (ops : Array Oper) (base : Nat) (h0 : AHeap) (p : Oper) (it : Item) (mine : AHeap) : Prop :=
  ((∀ ρ tmps, GuardSees ops p tmps ρ it.tm → Region.wanted p (yielded ops tmps) = false) ∧ it.v = .pure undef ∧ it.made = [] ∧ it.nx' = it.nx ∧ it.seen = []) ∨
  ((∀ ρ tmps, GuardSees ops p tmps ρ it.tm → Region.wanted p (yielded ops tmps) = true) ∧ it.v.within (mayName base it.nx mine) = true ∧ heapWithin (mayName base it.nx mine) it.made = true ∧ it.seen = it.made ++ mine ∧
    ∃ (s : St) (o : Out), s.tmps = it.tm ∧ s.heap = mine ++ h0 ∧ s.nxt = it.nx ∧ o.x = .val it.v ∧ o.st.nxt = it.nx' ∧ it.made = hfrom o.st.heap it.nx ∧ it.nx ≤ o.low ∧ OpOK C w0 p s o) ∨
  (isStore p.op = true ∧ p.dst = none ∧ it.v = .pure undef ∧ it.made = [] ∧ it.nx' = it.nx ∧ it.seen = [])
structure Chain (C : Ctx) (w0 : World) (ops : Array Oper) (base : Nat) (h0 : AHeap) (tm0 : List AV) (L : List Item) : Prop where
  item : ∀ i it p, L[i]? = some it → ops[i]? = some p → it.tm = tmAt ops tm0 L i ∧ it.nx = nxAt base L i ∧ it.nx ≤ it.nx' ∧ it.v.ok it.nx' = true ∧
    ItemFact C w0 ops base h0 p it (seenBy ((L.take i).map Item.seen) (depsOf p))
  store : ∀ (i : Nat) (it : Item) (p : Oper), L[i]? = some it → ops[i]? = some p → isStore p.op = true → it.made = []
theorem tmAt_take {ops : Array Oper} {tm0 : List AV} {L L' : List Item} : ∀ {i : Nat}, i ≤ L.length → tmAt ops tm0 (L ++ L') i = tmAt ops tm0 L i
  | 0, _ => rfl
  | i + 1, h => by
    simp only [tmAt, tmAt_take (L := L) (L' := L') (i := i) (by omega), List.getElem?_append_left (show i < L.length by omega)]
theorem nxAt_take {base : Nat} {L L' : List Item} : ∀ {i : Nat}, i ≤ L.length → nxAt base (L ++ L') i = nxAt base L i
  | 0, _ => rfl
  | i + 1, h => by
    simp only [nxAt, nxAt_take (L := L) (L' := L') (i := i) (by omega), List.getElem?_append_left (show i < L.length by omega)]
theorem chain_snoc {C : Ctx} {w0 : World} {ops : Array Oper} {base : Nat} {h0 : AHeap} {tm0 : List AV} {L : List Item} (hc : Chain C w0 ops base h0 tm0 L) {it : Item} {p : Oper} (hp : ops[L.length]? = some p)
    (h1 : it.tm = tmAt ops tm0 L L.length) (h2 : it.nx = nxAt base L L.length) (h3 : it.nx ≤ it.nx') (h3' : it.v.ok it.nx' = true) (h4 : ItemFact C w0 ops base h0 p it (seenBy (L.map Item.seen) (depsOf p))) (h5 : isStore p.op = true → it.made = []) :
    Chain C w0 ops base h0 tm0 (L ++ [it]) ∧ tmAt ops tm0 (L ++ [it]) (L.length + 1) = setT it.tm p.dst it.v ∧ nxAt base (L ++ [it]) (L.length + 1) = it.nx' := by
  refine ⟨⟨fun i jt q hi hq => ?_, fun i jt q hi hq hs => ?_⟩, ?_, ?_⟩
  rotate_left
  · rcases Nat.lt_or_ge i L.length with hl | hl
    · rw [List.getElem?_append_left hl] at hi
      exact hc.store i jt q hi hq hs
    · have hil : i = L.length := by
        have := (List.getElem?_eq_some_iff.1 hi).1
        simp at this; omega
      subst hil
      simp only [List.getElem?_append_right (Nat.le_refl _), Nat.sub_self, List.getElem?_cons_zero, Option.some.injEq] at hi
      subst hi
      rw [hp] at hq
      cases hq
      exact h5 hs
  rotate_left
  rotate_left
  · rcases Nat.lt_or_ge i L.length with hl | hl
    · rw [List.getElem?_append_left hl] at hi
      rw [tmAt_take (by omega), nxAt_take (by omega), List.take_append_of_le_length (by omega)]
      exact hc.item i jt q hi hq
    · have hil : i = L.length := by
        have := (List.getElem?_eq_some_iff.1 hi).1
        simp at this; omega
      subst hil
      simp only [List.getElem?_append_right (Nat.le_refl _), Nat.sub_self, List.getElem?_cons_zero, Option.some.injEq] at hi
      subst hi
      rw [hp] at hq
      cases hq
      rw [tmAt_take (Nat.le_refl _), nxAt_take (Nat.le_refl _), List.take_left']
      · exact ⟨h1, h2, h3, h3', h4⟩
      · rfl
  · simp only [tmAt, tmAt_take (Nat.le_refl _), List.getElem?_append_right (Nat.le_refl _), Nat.sub_self, List.getElem?_cons_zero, hp, h1]
  · simp only [nxAt, List.getElem?_append_right (Nat.le_refl _), Nat.sub_self, List.getElem?_cons_zero]
def DrawOK (C : Ctx) (w0 : World) (ops : Array Oper) (todo : List Oper) (base : Nat) (seen acc : List AHeap) (s : St) (o : Out) : Prop :=
  ∀ (m : Nat) (L0 : List Item) (tm0 : List AV), m ≤ ops.size → seen = L0.map Item.seen → acc = L0.map Item.made → (ops.toList.take m).drop L0.length = todo → s.tmps = tmAt ops tm0 L0 L0.length → s.nxt = nxAt base L0 L0.length → base ≤ s.nxt →
    Chain C w0 ops base s.heap tm0 L0 → L0.length ≤ m →
    ∃ L, L.length = m ∧ Chain C w0 ops base s.heap tm0 L ∧ o.x = .normal ∧ o.st.tmps = tmAt ops tm0 L m ∧ o.st.heap = (L.map Item.made).flatten ++ s.heap ∧ o.st.nxt = nxAt base L m ∧
      StOK o.st ∧ (s.nxt ≤ o.st.nxt ∧ o.st.res.fr = s.res.fr)
section
variable {C : Ctx} {G : World → Prop} {w0 : World} {R : Rec}
theorem draw_ok {f : FuncId} {ops : Array Oper} {todo : List Oper} {base : Nat} {seen acc : List AHeap} {s : St} {o : Out} (h : goDraw C R f ops todo base seen acc s = some o) (hl : Holds C G o.log)
    (hop : ∀ p s o, R (.op f p) s = some o → Holds C G o.log → StOK s → OpOK C w0 p s o)
    (hrest : ∀ todo seen acc s o, R (.draw f ops todo base seen acc) s = some o → Holds C G o.log → StOK s → DrawOK C w0 ops todo base seen acc s o) (hk : StOK s) :
    DrawOK C w0 ops todo base seen acc s o := by
  obtain ⟨tm, hh, nx, ora, rs⟩ := s
  intro m L0 tm0 hm hseen hacc htodo htm hnx hbase hch hlen
  unfold goDraw at h
  simp only at h htm hnx hbase hch
  cases todo with
  | nil =>
    have := stay_eq h
    subst this
    have hle : m ≤ L0.length := by
      have := List.drop_eq_nil_iff.1 htodo
      simp at this; omega
    have hlen' : L0.length = m := by omega
    exact ⟨L0, hlen', hch, rfl, by rw [← hlen']; exact htm, by rw [hacc], by rw [← hlen']; exact hnx, hk, ⟨Nat.le_refl _, rfl⟩⟩
  | cons p rest =>
    simp only at h
    obtain ⟨e1, e2, e3⟩ := drop_cons htodo
    have hlt : L0.length < m := by simp at e3; omega
    have hpo : ops[L0.length]? = some p := by
      rw [List.getElem?_take, if_pos hlt] at e1
      simpa using e1
    have hguard : ∀ (b : Bool) ora1 l, guardOf C f ops tm ora p = some (b, ora1, l) → (∀ q ∈ l, q.1 = q.2) → ∀ ρ tmps, GuardSees ops p tmps ρ tm → Region.wanted p (yielded ops tmps) = b := fun b ora1 l hg hq ρ tmps hs =>
      guard_sound hg hq ρ tmps hs
    split at h
    · rename_i hst
      split at h
      · rename_i hdn
        obtain ⟨o2, h2, rfl⟩ := behind_eq h
        let it : Item := ⟨tm, nx, nx, .pure undef, [], []⟩
        obtain ⟨c1, c2, c3⟩ := chain_snoc hch (it := it) hpo htm hnx (Nat.le_refl _) (by simp [it, AV.ok, AV.within]) (.inr (.inr ⟨hst, hdn, rfl, rfl, rfl, rfl⟩)) (fun _ => rfl)
        rw [hdn] at c2
        exact hrest _ _ _ _ _ h2 hl.right hk m (L0 ++ [it]) tm0 hm (by simp [hseen, it]) (by simp [hacc, it]) (by simpa using e2) (by simp only [List.length_append, List.length_singleton]; exact c2.symm) (by simp only [List.length_append, List.length_singleton]; exact c3.symm) hbase c1 (by simp; omega)
      · cases h
    rename_i hst
    split at h
    · cases h
    · rename_i ora1 l hg
      rw [setTK_eq] at h
      obtain ⟨o2, h2, rfl⟩ := behind_eq h
      have hgl : ∀ q ∈ l, q.1 = q.2 := fun q hq => hl.1 q (by simp; exact .inl hq)
      let it : Item := ⟨tm, nx, nx, .pure undef, [], []⟩
      obtain ⟨c1, c2, c3⟩ := chain_snoc hch (it := it) hpo htm hnx (Nat.le_refl _) (by simp [it, AV.ok, AV.within]) (.inl ⟨hguard _ _ _ hg hgl, rfl, rfl, rfl, rfl⟩) (fun _ => rfl)
      have := hrest _ _ _ _ _ h2 hl.right ⟨setT_ok hk.1 (by simp [AV.ok, AV.within]), hk.2⟩ m (L0 ++ [it]) tm0 hm (by simp [hseen, it]) (by simp [hacc, it]) (by simpa using e2) (by simp only [List.length_append, List.length_singleton]; exact c2.symm) (by simp only [List.length_append, List.length_singleton]; exact c3.symm) hbase c1 (by simp; omega)
      exact this
    · rename_i ora1 l hg
      unfold goDraw1 at h
      split at h
      · rename_i v tm' h1 nx1 ora2 rs1 l1 k1 q1 hr
        split at h
        · rename_i hchk
          simp only [Bool.and_eq_true] at hchk
          obtain ⟨⟨k1', k2'⟩, k3'⟩ := hchk
          rw [setTK_eq] at h
          obtain ⟨o2, h2, rfl⟩ := behind_eq h
          have hgl : ∀ q ∈ l, q.1 = q.2 := fun q hq => hl.1 q (by simp; exact .inl hq)
          have hl1 : Holds C G ⟨k1, q1⟩ := ⟨fun q hq => hl.1 q (by simp; exact .inr (.inl hq)), fun q hq => hl.2 q (by simp; exact .inl hq)⟩
          have hopk := hop _ _ _ hr hl1 hk
          obtain ⟨v', a1, a2, a3, a4, a5⟩ := id hopk
          cases a1
          simp only at a2 a3 a4
          have hfr : rs1.fr = rs.fr := a4.2
          have a40 := a4.1
          let it : Item := ⟨tm, nx, nx1, v, hfrom h1 nx, hfrom h1 nx ++ seenBy seen (depsOf p)⟩
          obtain ⟨c1, c2, c3⟩ := chain_snoc hch (it := it) hpo htm hnx a40 a2 (.inr (.inl ⟨hguard _ _ _ hg hgl, by rw [← hseen]; exact k2', by rw [← hseen]; exact k3', by rw [← hseen], _, _, rfl, by rw [← hseen], rfl, rfl, rfl, rfl, ble_le k1', hopk⟩)) (fun h => by rw [hst] at h; cases h)
          obtain ⟨L, d1, d2, d3, d4, d5, d6, d7, d8⟩ := hrest _ _ _ _ _ h2 hl.right ⟨setT_ok (okL_mono a40 _ hk.1) a2, by show frOK nx1 rs1.fr = true; rw [hfr]; exact frOK_mono a40 hk.2⟩ m (L0 ++ [it]) tm0 hm (by simp [hseen, it]) (by simp [hacc, it]) (by simpa using e2)
            (by simp only [List.length_append, List.length_singleton]; exact c2.symm) (by simp only [List.length_append, List.length_singleton]; exact c3.symm) (Nat.le_trans hbase a40) c1 (by simp; omega)
          exact ⟨L, d1, d2, d3, d4, d5, d6, d7, ⟨Nat.le_trans a40 d8.1, d8.2.trans hfr⟩⟩
        · cases h
      · cases h
end
/-! ### What comes before -/
def anc (T : List (List Nat)) (i : Nat) : List Nat := T.getD i []
theorem before_spec : ∀ (ops : List Oper) (acc : List (List Nat)), (before ops acc).length = acc.length + ops.length ∧ (before ops acc).take acc.length = acc ∧
    ∀ i p, ops[i]? = some p → (before ops acc)[acc.length + i]? = some ((List.range (acc.length + i)).filter fun j => (depsOf p).any fun d => Nat.beq d j || (((before ops acc).take (acc.length + i)).getD d []).any (Nat.beq j))
  | [], acc => by simp [before]
  | o :: ops, acc => by
    have ih := before_spec ops (acc ++ [(List.range acc.length).filter fun j => (depsOf o).any fun d => Nat.beq d j || (acc.getD d []).any (Nat.beq j)])
    simp only [before]
    obtain ⟨i1, i2, i3⟩ := ih
    generalize hB : before ops (acc ++ [(List.range acc.length).filter fun j => (depsOf o).any fun d => Nat.beq d j || (acc.getD d []).any (Nat.beq j)]) = B at *
    simp only [List.length_append, List.length_singleton] at i1 i2 i3
    have htake : B.take acc.length = acc := by
      have := congrArg (List.take acc.length) i2
      rw [List.take_take, Nat.min_eq_left (by omega), List.take_append_of_le_length (Nat.le_refl _), List.take_length] at this
      exact this
    refine ⟨by simp only [List.length_cons]; omega, htake, fun i p hi => ?_⟩
    cases i with
    | zero =>
      simp only [List.getElem?_cons_zero, Option.some.injEq] at hi
      subst hi
      rw [Nat.add_zero, htake]
      have : B[acc.length]? = (B.take (acc.length + 1))[acc.length]? := by rw [List.getElem?_take, if_pos (by omega)]
      rw [this, i2, List.getElem?_append_right (Nat.le_refl _), Nat.sub_self, List.getElem?_cons_zero]
    | succ i =>
      have := i3 i p (by simpa using hi)
      rw [show acc.length + 1 + i = acc.length + (i + 1) by omega] at this
      exact this
theorem anc_spec {ops : Array Oper} {i : Nat} {p : Oper} (hp : ops[i]? = some p) {j : Nat} (hj : j ∈ anc (before ops.toList []) i) :
    j < i ∧ ∃ d ∈ depsOf p, d = j ∨ (d < i ∧ j ∈ anc (before ops.toList []) d) := by
  obtain ⟨-, -, h3⟩ := before_spec ops.toList []
  have := h3 i p (by simpa using hp)
  simp only [List.length_nil, Nat.zero_add] at this
  unfold anc at hj
  rw [List.getD_eq_getElem?_getD, this, Option.getD_some, List.mem_filter, List.mem_range, List.any_eq_true] at hj
  obtain ⟨h1, d, hd, h2⟩ := hj
  refine ⟨h1, d, hd, ?_⟩
  simp only [Bool.or_eq_true, List.any_eq_true] at h2
  rcases h2 with h2 | ⟨k, hk, h2⟩
  · exact .inl (Nat.eq_of_beq_eq_true h2)
  · right
    have hkj : j = k := Nat.eq_of_beq_eq_true h2
    subst hkj
    rw [List.getD_eq_getElem?_getD, List.getElem?_take] at hk
    split at hk
    · rename_i hdi
      refine ⟨hdi, ?_⟩
      unfold anc
      rw [List.getD_eq_getElem?_getD]; exact hk
    · simp at hk
/-- What comes before an operation has been carried out, if what it hangs on directly has been. -/
theorem anc_listed {ops : Array Oper} {D : Nat → Prop} (hcl : ∀ i p, ops[i]? = some p → D i → ∀ d ∈ depsOf p, D d) : ∀ (i : Nat) (p : Oper), ops[i]? = some p → (∀ d ∈ depsOf p, D d) → ∀ j ∈ anc (before ops.toList []) i, D j := by
  intro i
  induction i using Nat.strongRecOn with
  | _ i ih =>
    intro p hp hd j hj
    obtain ⟨-, d, hdm, hh⟩ := anc_spec hp hj
    rcases hh with rfl | ⟨hlt, hjd⟩
    · exact hd d hdm
    · have hi : i < ops.size := by
        rcases Nat.lt_or_ge i ops.size with h | h
        · exact h
        · simp [Array.getElem?_eq_none h] at hp
      have hq : ops[d]? = some ops[d] := by simp
      exact ih d hlt _ hq (hcl d _ hq (hd d hdm)) j hjd
theorem baseOk_spec {ops : Array Oper} (h : baseOk ops = true) {i : Nat} {p : Oper} (hp : ops[i]? = some p) :
    (∀ d ∈ depsOf p, d < i) ∧ (∀ cs b, p.op ≠ .select cs b) ∧ (∀ j q d, ops[j]? = some q → q.dst = some d → (d ∈ p.looksAt ops → j ∈ anc (before ops.toList []) i ∨ i ∈ anc (before ops.toList []) j) ∧ (i ≠ j → p.dst ≠ some d)) ∧ True := by
  have hi : i < ops.size := by
    rcases Nat.lt_or_ge i ops.size with h | h
    · exact h
    · simp [Array.getElem?_eq_none h] at hp
  unfold baseOk at h
  simp only [List.all_eq_true, List.mem_range] at h
  have h := h i hi
  have hT : ∃ a, (before ops.toList [])[i]? = some a := by
    have := (before_spec ops.toList []).1
    simp only [List.length_nil, Nat.zero_add, Array.length_toList] at this
    exact ⟨_, List.getElem?_eq_getElem (by omega)⟩
  obtain ⟨a, ha⟩ := hT
  rw [hp, ha] at h
  simp only [Bool.and_eq_true, List.all_eq_true, List.mem_range] at h
  obtain ⟨⟨h1, h2⟩, h3⟩ := h
  refine ⟨fun d hd => blt_lt (h1 d hd), fun cs b e => by rw [e] at h2; simp at h2, fun j q d hq hd => ?_, trivial⟩
  have hj : j < ops.size := by
    rcases Nat.lt_or_ge j ops.size with h | h
    · exact h
    · simp [Array.getElem?_eq_none h] at hq
  have h3 := h3 j hj
  rw [hq] at h3
  simp only [hd, Bool.and_eq_true, Bool.or_eq_true, Bool.not_eq_true'] at h3
  obtain ⟨h4, h5⟩ := h3
  refine ⟨fun hu => ?_, fun hne e => ?_⟩
  · rcases h4 with (h4 | h4) | h4
    · have : (p.looksAt ops).any (Nat.beq d) = true := List.any_eq_true.2 ⟨d, hu, by simp⟩
      rw [this] at h4; cases h4
    · obtain ⟨k, hk, hb⟩ := List.any_eq_true.1 h4
      have := Nat.eq_of_beq_eq_true hb
      subst this
      unfold anc
      left
      rw [List.getD_eq_getElem?_getD, ha]; exact hk
    · obtain ⟨k, hk, hb⟩ := List.any_eq_true.1 h4
      have := Nat.eq_of_beq_eq_true hb
      subst this
      exact .inr hk
  · rcases h5 with h5 | h5
    · exact hne (Nat.eq_of_beq_eq_true h5)
    · rw [e] at h5; simp at h5
theorem drawOk_base {ops : Array Oper} (h : drawOk ops = true) : baseOk ops = true := by
  unfold drawOk at h
  simp only [Bool.and_eq_true] at h
  exact h.1
theorem anc_full {ops : Array Oper} {i : Nat} {p : Oper} (hp : ops[i]? = some p) (h : ((before ops.toList []).getD i []).length = i) : ∀ j, j < i → j ∈ anc (before ops.toList []) i := by
  intro j hj
  have hi : i < ops.size := by
    rcases Nat.lt_or_ge i ops.size with h | h
    · exact h
    · simp [Array.getElem?_eq_none h] at hp
  have hT : ∃ a, (before ops.toList [])[i]? = some a := by
    have := (before_spec ops.toList []).1
    simp only [List.length_nil, Nat.zero_add, Array.length_toList] at this
    exact ⟨_, List.getElem?_eq_getElem (by omega)⟩
  obtain ⟨a, ha⟩ := hT
  have hlen : a.length = i := by
    rw [List.getD_eq_getElem?_getD, ha] at h
    exact h
  have hspec := (before_spec ops.toList []).2.2 i p (by simpa using hp)
  simp only [List.length_nil, Nat.zero_add] at hspec
  rw [ha] at hspec
  simp only [Option.some.injEq] at hspec
  unfold anc
  rw [List.getD_eq_getElem?_getD, ha]
  simp only [Option.getD_some]
  rw [hspec] at hlen ⊢
  have hall := List.length_filter_eq_length_iff.1 (hlen.trans (List.length_range (n := i)).symm)
  exact List.mem_filter.2 ⟨List.mem_range.2 hj, hall j (List.mem_range.2 hj)⟩
theorem drawOk_last {ops : Array Oper} (h : drawOk ops = true) {i : Nat} {p : Oper} (hp : ops[i]? = some p) (hge : firstStore ops.toList ≤ i) : ∀ j, j < i → j ∈ anc (before ops.toList []) i := by
  intro j hj
  have hi : i < ops.size := by
    rcases Nat.lt_or_ge i ops.size with h | h
    · exact h
    · simp [Array.getElem?_eq_none h] at hp
  unfold drawOk lastOk at h
  simp only [Bool.and_eq_true, List.all_eq_true, List.mem_range, Bool.or_eq_true] at h
  have hT : ∃ a, (before ops.toList [])[i]? = some a := by
    have := (before_spec ops.toList []).1
    simp only [List.length_nil, Nat.zero_add, Array.length_toList] at this
    exact ⟨_, List.getElem?_eq_getElem (by omega)⟩
  obtain ⟨a, ha⟩ := hT
  have hlen : a.length = i := by
    rcases h.2 i hi with h | h
    · have := blt_lt h; omega
    · rw [List.getD_eq_getElem?_getD, ha] at h
      exact Nat.eq_of_beq_eq_true h
  have hspec := (before_spec ops.toList []).2.2 i p (by simpa using hp)
  simp only [List.length_nil, Nat.zero_add] at hspec
  rw [ha] at hspec
  simp only [Option.some.injEq] at hspec
  unfold anc
  rw [List.getD_eq_getElem?_getD, ha]
  simp only [Option.getD_some]
  rw [hspec] at hlen ⊢
  have hall := List.length_filter_eq_length_iff.1 (hlen.trans (List.length_range (n := i)).symm)
  exact List.mem_filter.2 ⟨List.mem_range.2 hj, hall j (List.mem_range.2 hj)⟩
end Go.Ev
/- Running the program's functions on values that are known in part: a region that draws its order, in every order. -/
namespace Go.Ev
open Go.RowKit
theorem nxAt_mono {C : Ctx} {w0 : World} {ops : Array Oper} {base : Nat} {h0 : AHeap} {tm0 : List AV} {L : List Item} (hc : Chain C w0 ops base h0 tm0 L) (hlen : L.length ≤ ops.size) :
    ∀ {i j : Nat}, i ≤ j → j ≤ L.length → nxAt base L i ≤ nxAt base L j := by
  intro i j hij hj
  induction j with
  | zero => have : i = 0 := by omega
            subst this; exact Nat.le_refl _
  | succ j ih =>
    rcases Nat.lt_or_ge i (j + 1) with h | h
    · have h1 := ih (by omega) (by omega)
      have hl : j < L.length := by omega
      have hit : L[j]? = some L[j] := List.getElem?_eq_getElem hl
      have hp : ops[j]? = some ops[j] := by simp
      obtain ⟨-, h2, h3, -⟩ := hc.item j _ _ hit hp
      simp only [nxAt, hit]
      omega
    · have : i = j + 1 := by omega
      subst this; exact Nat.le_refl _
theorem heapWithin_get {p : Nat → Bool} : ∀ {h : AHeap} {n : Nat} {b : ABlock}, heapWithin p h = true → hget h n = some b → AV.withinL p b.cells = true
  | [], n, b, _, hn => by simp [hget] at hn
  | (k, c) :: h, n, b, hw, hn => by
    simp only [heapWithin, Bool.and_eq_true] at hw
    rw [hget_cons] at hn
    split at hn
    · cases hn; exact hw.1
    · exact heapWithin_get hw.2 hn
theorem fresh_get {a : AHeap} {n : Nat} {b : ABlock} (ha : hget a n = none) : ∀ {h : AHeap}, hget (newIn a h) n = some b → hget h n = some b
  | [], e => by simp [newIn, hget] at e
  | (m, c) :: h, e => by
    rw [hget_cons]
    unfold newIn at e
    split at e
    · rename_i d hd
      have hne : m ≠ n := fun k => by rw [k, ha] at hd; cases hd
      rw [if_neg hne]
      exact fresh_get ha e
    · rw [hget_cons] at e
      by_cases hmn : m = n
      · rw [if_pos hmn] at e ⊢; exact e
      · rw [if_neg hmn] at e ⊢; exact fresh_get ha e
theorem seenBy_get {seen : List AHeap} : ∀ {js : List Nat} {n : Nat} {b : ABlock}, hget (seenBy seen js) n = some b → ∃ j ∈ js, hget (seen.getD j []) n = some b
  | [], n, b, h => by simp [seenBy, hget] at h
  | j :: js, n, b, h => by
    rw [seenBy, hget_append] at h
    cases hj : hget (seen.getD j []) n with
    | some c => rw [hj] at h; cases h; exact ⟨j, List.mem_cons_self, hj⟩
    | none =>
      rw [hj] at h
      obtain ⟨k, hk, hb⟩ := seenBy_get (fresh_get hj h)
      exact ⟨k, List.mem_cons_of_mem _ hk, hb⟩
theorem flatten_get' : ∀ {hs : List AHeap} {n : Nat} {b : ABlock}, hget hs.flatten n = some b → ∃ (j : Nat) (h : AHeap), hs[j]? = some h ∧ hget h n = some b
  | [], n, b, h => by simp [hget] at h
  | x :: xs, n, b, h => by
    rw [List.flatten_cons, hget_append] at h
    cases hx : hget x n with
    | some c => rw [hx] at h; cases h; exact ⟨0, x, rfl, hx⟩
    | none =>
      rw [hx] at h
      obtain ⟨j, y, hj, hb⟩ := flatten_get' h
      exact ⟨j + 1, y, by simpa using hj, hb⟩
/-- A slot that no operation ahead writes holds what it held. -/
theorem tmAt_keep {ops : Array Oper} {tm0 : List AV} {L : List Item} {t : Nat} : ∀ {i : Nat}, (∀ j p, j < i → ops[j]? = some p → p.dst ≠ some t) → (tmAt ops tm0 L i)[t]? = tm0[t]?
  | 0, _ => rfl
  | i + 1, h => by
    have ih := tmAt_keep (ops := ops) (tm0 := tm0) (L := L) (i := i) (fun j p hj => h j p (by omega))
    simp only [tmAt]
    split
    · rename_i it p hit hp
      have hne := h i p (by omega) hp
      unfold setT
      split
      · rename_i d hd
        rw [List.getElem?_set_ne (fun e => hne (by rw [hd, e]))]; exact ih
      · exact ih
    · exact ih
theorem tmAt_length {ops : Array Oper} {tm0 : List AV} {L : List Item} : ∀ {i : Nat}, (tmAt ops tm0 L i).length = tm0.length
  | 0 => rfl
  | i + 1 => by
    have ih := tmAt_length (ops := ops) (tm0 := tm0) (L := L) (i := i)
    simp only [tmAt]
    split
    · unfold setT; split <;> simp [ih]
    · exact ih
/-- A slot that one operation ahead writes, and no other one, holds what it has written. -/
theorem tmAt_put {ops : Array Oper} {tm0 : List AV} {L : List Item} {t j : Nat} {it : Item} {p : Oper} (hit : L[j]? = some it) (hp : ops[j]? = some p) (hd : p.dst = some t) (ht : t < tm0.length)
    (hu : ∀ k q, k ≠ j → ops[k]? = some q → q.dst ≠ some t) : ∀ {i : Nat}, j < i → (tmAt ops tm0 L i)[t]? = some it.v
  | 0, h => by omega
  | i + 1, h => by
    rcases Nat.lt_or_ge j i with hj | hj
    · have ih := tmAt_put hit hp hd ht hu (i := i) hj
      simp only [tmAt]
      split
      · rename_i it' p' hit' hp'
        have hne := hu i p' (by omega) hp'
        unfold setT
        split
        · rename_i d hd'
          rw [List.getElem?_set_ne (fun e => hne (by rw [hd', e]))]; exact ih
        · exact ih
      · exact ih
    · have : i = j := by omega
      subst this
      simp only [tmAt, hit, hp, setT, hd]
      rw [List.getElem?_set_self (by rw [tmAt_length]; exact ht)]
section
variable {C : Ctx} {w0 : World} {ops : Array Oper} {base : Nat} {h0 : AHeap} {tm0 : List AV} {L : List Item}
/-- Which blocks are there when the operations of D have been carried out. -/
def There (h0 : AHeap) (L : List Item) (D : Nat → Prop) (n : Nat) (b : ABlock) : Prop := hget h0 n = some b ∨ ∃ j it, D j ∧ L[j]? = some it ∧ hget it.made n = some b
/-- What holds when the operations of D have been carried out, in whatever order. -/
structure Inv (w0 : World) (ops : Array Oper) (base : Nat) (h0 : AHeap) (tm0 : List AV) (L : List Item) (ρ0 : Env) (ws : World) (ds : List Deferred) (D : Nat → Prop) (ρ : Env) (a : Act) (w : World) : Prop where
  closed : ∀ i p, ops[i]? = some p → D i → ∀ d ∈ depsOf p, D d
  defers : a.defers = ds
  size : a.tmps.size = tm0.length
  put : ∀ j it p t, D j → L[j]? = some it → ops[j]? = some p → p.dst = some t → t < tm0.length → a.tmps[t]? = some (it.v.den ρ)
  left : ∀ t, (∀ j p, D j → ops[j]? = some p → p.dst ≠ some t) → a.tmps[t]? = (AV.denL ρ tm0)[t]?
  block : ∀ n b, There h0 L D n b → BlockOK (Free ρ (There h0 L D)) w ρ b (ρ.kk n) w.heap[ρ.σ n]?
  inj : ∀ n m b c, There h0 L D n b → There h0 L D m c → b.mem = true → c.mem = true → ρ.σ n = ρ.σ m → n = m
  above : ∀ n b, There h0 L D n b → b.mem = true → w0.heap.size ≤ ρ.σ n
  made : ∀ j it n b, D j → L[j]? = some it → hget it.made n = some b → it.nx ≤ n ∧ n < it.nx' ∧ AV.okL it.nx' b.cells = true ∧ (b.mem = true → ws.heap.size ≤ ρ.σ n)
  area : ρ.A = ρ0.A ∧ ρ.L = ρ0.L
  ground : ρ0.L ≤ ws.heap.size
  reach : ∀ n b, There h0 L D n b → b.mem = true → ρ.A (ρ.σ n) ∨ ρ.L ≤ ρ.σ n
  agree : ∀ n, n < base ∨ nxAt base L L.length ≤ n → ρ.σ n = ρ0.σ n ∧ ρ.kk n = ρ0.kk n
  os : w.os = ws.os
  tape : w.tape = ws.tape
  output : w.output = ws.output
  wsize : ws.heap.size ≤ w.heap.size
  frame : ∀ k, k < ws.heap.size → w.heap[k]? = ws.heap[k]?
  below : Below w0.heap.size w0 w
/-- What an operation sees has been made by operations that have been carried out. -/
theorem seen_there (hc : Chain C w0 ops base h0 tm0 L) (hlen : L.length ≤ ops.size) (hd : baseOk ops = true) {D : Nat → Prop} (hcl : ∀ i p, ops[i]? = some p → D i → ∀ d ∈ depsOf p, D d) :
    ∀ (i : Nat) (it : Item), D i → L[i]? = some it → ∀ n b, hget it.seen n = some b → ∃ j jt, j ≤ i ∧ D j ∧ L[j]? = some jt ∧ hget jt.made n = some b := by
  intro i
  induction i using Nat.strongRecOn with
  | _ i ih =>
    intro it hDi hit n b hn
    have hil := (List.getElem?_eq_some_iff.1 hit).1
    have hp : ops[i]? = some ops[i] := by simp
    obtain ⟨-, -, -, -, hf⟩ := hc.item i it _ hit hp
    rcases hf with ⟨-, -, -, -, hs⟩ | ⟨-, -, -, hs, -⟩ | ⟨-, -, -, -, -, hs⟩
    rotate_left 2
    · rw [hs] at hn; simp [hget] at hn
    · rw [hs] at hn; simp [hget] at hn
    · rw [hs, hget_append] at hn
      cases hm : hget it.made n with
      | some c => rw [hm] at hn; cases hn; exact ⟨i, it, Nat.le_refl _, hDi, hit, hm⟩
      | none =>
        rw [hm] at hn
        obtain ⟨d, hdm, hb⟩ := seenBy_get hn
        have hdi := (baseOk_spec hd hp).1 d hdm
        have hdl : d < L.length := by omega
        have hdt : L[d]? = some L[d] := List.getElem?_eq_getElem hdl
        rw [List.getD_eq_getElem?_getD, List.getElem?_map, List.getElem?_take, if_pos hdi, hdt] at hb
        obtain ⟨j, jt, h1, h2⟩ := ih d hdi _ (hcl i _ hp hDi d hdm) hdt n b (by simpa using hb)
        exact ⟨j, jt, by omega, h2⟩
theorem mine_there (hc : Chain C w0 ops base h0 tm0 L) (hlen : L.length ≤ ops.size) (hd : baseOk ops = true) {D : Nat → Prop} (hcl : ∀ i p, ops[i]? = some p → D i → ∀ d ∈ depsOf p, D d)
    {i : Nat} {p : Oper} (hp : ops[i]? = some p) (hil : i < L.length) (hdep : ∀ d ∈ depsOf p, D d) {n : Nat} {b : ABlock} (hn : hget (seenBy ((L.take i).map Item.seen) (depsOf p)) n = some b) :
    ∃ j jt, j < i ∧ D j ∧ L[j]? = some jt ∧ hget jt.made n = some b := by
  obtain ⟨d, hdm, hb⟩ := seenBy_get hn
  have hdi := (baseOk_spec hd hp).1 d hdm
  have hi : i < ops.size := by
    rcases Nat.lt_or_ge i ops.size with h | h
    · exact h
    · simp [Array.getElem?_eq_none h] at hp
  have hdl : d < L.length := by omega
  have hdt : L[d]? = some L[d] := List.getElem?_eq_getElem hdl
  rw [List.getD_eq_getElem?_getD, List.getElem?_map, List.getElem?_take, if_pos hdi, hdt] at hb
  obtain ⟨j, jt, h1, h2⟩ := seen_there hc hlen hd hcl d _ (hdep d hdm) hdt n b (by simpa using hb)
  exact ⟨j, jt, by omega, h2⟩
end
end Go.Ev
/- Running the program's functions on values that are known in part: one operation more, in whatever order. -/
namespace Go.Ev
open Go.RowKit
section
variable {C : Ctx} {w0 : World} {ops : Array Oper} {base : Nat} {h0 : AHeap} {tm0 : List AV} {L : List Item} {ρ0 : Env} {ws : World} {ds : List Deferred}
/-- The names that an operation has made lie apart from those of every other one. -/
theorem ranges (hc : Chain C w0 ops base h0 tm0 L) (hlen : L.length ≤ ops.size) {i j : Nat} {it jt : Item} (hi : L[i]? = some it) (hj : L[j]? = some jt) (hlt : j < i) : jt.nx' ≤ it.nx := by
  have hil := (List.getElem?_eq_some_iff.1 hi).1
  have hjl := (List.getElem?_eq_some_iff.1 hj).1
  have hp : ops[i]? = some ops[i] := by simp
  obtain ⟨-, h2, -⟩ := hc.item i it _ hi hp
  have hm := nxAt_mono hc hlen (i := j + 1) (j := i) (by omega) (by omega)
  simp only [nxAt, hj] at hm
  omega
theorem base_le (hc : Chain C w0 ops base h0 tm0 L) (hlen : L.length ≤ ops.size) {i : Nat} {it : Item} (hi : L[i]? = some it) : base ≤ it.nx ∧ it.nx ≤ it.nx' ∧ it.nx' ≤ nxAt base L L.length := by
  have hil := (List.getElem?_eq_some_iff.1 hi).1
  have hp : ops[i]? = some ops[i] := by simp
  obtain ⟨-, h2, h3, -⟩ := hc.item i it _ hi hp
  have hm := nxAt_mono hc hlen (i := 0) (j := i) (by omega) (by omega)
  have hm2 := nxAt_mono hc hlen (i := i + 1) (j := L.length) (by omega) (by omega)
  simp only [nxAt, hi] at hm2
  simp only [nxAt] at hm
  omega
variable (hc : Chain C w0 ops base h0 tm0 L) (hlen : L.length ≤ ops.size) (hd : baseOk ops = true)
variable (hs0 : ∀ n b, hget h0 n = some b → n < base ∧ AV.okL base b.cells = true) (ht0 : AV.okL base tm0 = true)
include hc hlen hd
/-- What an operation looks at stands as it was reckoned. -/
theorem slot_stands {D : Nat → Prop} {ρ : Env} {a : Act} {w : World} (hI : Inv w0 ops base h0 tm0 L ρ0 ws ds D ρ a w) {i : Nat} {p : Oper} {it : Item} (hp : ops[i]? = some p) (hit : L[i]? = some it)
    (hdep : ∀ d ∈ depsOf p, D d) (hDi : ¬ D i) {t : Tmp} (ht : t ∈ p.looksAt ops) : a.tmps[t]? = (AV.denL ρ it.tm)[t]? := by
  obtain ⟨h1, -⟩ := hc.item i it p hit hp
  rw [h1, denL_map, List.getElem?_map]
  by_cases hex : ∃ (j : Nat) (q : Oper), ops[j]? = some q ∧ q.dst = some t
  · obtain ⟨j, q, hq, hdq⟩ := hex
    rcases ((baseOk_spec hd hp).2.2.1 j q t hq hdq).1 ht with hja | hia
    rotate_left
    · -- it is written behind this operation
      have hij := (anc_spec hq hia).1
      have hone : ∀ (k : Nat) (r : Oper), ops[k]? = some r → r.dst = some t → k = j := fun k r hr hdr => Classical.byContradiction fun hk => ((baseOk_spec hd hr).2.2.1 j q t hq hdq).2 hk hdr
      have hDj : ¬ D j := fun hDj => hDi (anc_listed hI.closed j q hq (hI.closed j q hq hDj) i hia)
      rw [hI.left t (fun k r hDk hr hdr => hDj (hone k r hr hdr ▸ hDk)), tmAt_keep (fun k r hk hr hdr => by have := hone k r hr hdr; omega), denL_map, List.getElem?_map]
    have hDj := anc_listed hI.closed i p hp hdep j hja
    have hji := (anc_spec hp hja).1
    have hjl : j < L.length := by
      have hil := (List.getElem?_eq_some_iff.1 hit).1
      omega
    have hjt : L[j]? = some L[j] := List.getElem?_eq_getElem hjl
    rcases Nat.lt_or_ge t tm0.length with hlt | hge
    · rw [hI.put j _ q t hDj hjt hq hdq hlt, tmAt_put hjt hq hdq hlt (fun k r hk hr hdr => ?_) hji]
      · rfl
      · exact ((baseOk_spec hd hr).2.2.1 j q t hq hdq).2 hk hdr
    · rw [Array.getElem?_eq_none (by rw [hI.size]; exact hge), List.getElem?_eq_none (by rw [tmAt_length]; exact hge)]; rfl
  · have hno : ∀ (j : Nat) (q : Oper), ops[j]? = some q → q.dst ≠ some t := fun j q hq hdq => hex ⟨j, q, hq, hdq⟩
    rw [hI.left t (fun j q _ hq => hno j q hq), tmAt_keep (fun j q _ hq => hno j q hq), denL_map, List.getElem?_map]
theorem operand_stands {D : Nat → Prop} {ρ : Env} {a : Act} {w : World} (hI : Inv w0 ops base h0 tm0 L ρ0 ws ds D ρ a w) {i : Nat} {p : Oper} {it : Item} (hp : ops[i]? = some p) (hit : L[i]? = some it)
    (hdep : ∀ d ∈ depsOf p, D d) (hDi : ¬ D i) : ∀ x ∈ p.op.operands, a.eval x = (aeval it.tm x).den ρ := by
  intro x hx
  cases x with
  | tmp t =>
    have ht : t ∈ p.looksAt ops := by
      unfold Oper.looksAt
      exact List.mem_append_left _ (List.mem_filterMap.2 ⟨.tmp t, by simpa using hx, rfl⟩)
    have := slot_stands hc hlen hd hI hp hit hdep hDi ht
    simp only [Act.eval, aeval, getD_den]
    rw [Array.getD_eq_getD_getElem?, this, List.getD_eq_getElem?_getD]
  | const v => simp [Act.eval, aeval, AV.den]
  | global g => simp [Act.eval, aeval, AV.den]
  | func f => simp [Act.eval, aeval, AV.den]
theorem guard_stands {D : Nat → Prop} {ρ : Env} {a : Act} {w : World} (hI : Inv w0 ops base h0 tm0 L ρ0 ws ds D ρ a w) {i : Nat} {p : Oper} {it : Item} (hp : ops[i]? = some p) (hit : L[i]? = some it)
    (hdep : ∀ d ∈ depsOf p, D d) (hDi : ¬ D i) : GuardSees ops p a.tmps ρ it.tm := by
  intro j want t hg hdt
  refine slot_stands hc hlen hd hI hp hit hdep hDi ?_
  unfold Oper.looksAt
  refine List.mem_append_right _ ?_
  rw [hg]
  simp only
  rw [hdt]
  simp
omit hc hlen in
/-- An operation that is not wanted. -/
theorem inv_off {D : Nat → Prop} {ρ : Env} {a : Act} {w : World} (hI : Inv w0 ops base h0 tm0 L ρ0 ws ds D ρ a w) {i : Nat} {p : Oper} {it : Item} (hp : ops[i]? = some p) (hit : L[i]? = some it)
    (hdep : ∀ d ∈ depsOf p, D d) (hDi : ¬ D i) (hv : it.v = .pure undef) (hm : it.made = []) : Inv w0 ops base h0 tm0 L ρ0 ws ds (fun j => D j ∨ j = i) ρ (a.put p.dst undef) w := by
  have hth : ∀ n b, There h0 L (fun j => D j ∨ j = i) n b → There h0 L D n b := fun n b h => by
    rcases h with h | ⟨j, jt, hj | hj, h1, h2⟩
    · exact .inl h
    · exact .inr ⟨j, jt, hj, h1, h2⟩
    · subst hj; rw [hit] at h1; cases h1; rw [hm] at h2; simp [hget] at h2
  refine { hI with closed := ?_, defers := ?_, size := ?_, put := ?_, left := ?_, block := fun n b h => (hI.block n b (hth n b h)).keep (Keep.wide fun _ _ hf => ⟨hf.1, fun n b h hm => hf.2 n b (hth n b h) hm⟩) rfl rfl fun _ => rfl, inj := fun n m b c h k => hI.inj n m b c (hth n b h) (hth m c k), above := fun n b h => hI.above n b (hth n b h), reach := fun n b h => hI.reach n b (hth n b h), made := ?_ }
  · intro k q hq hk d hdm
    rcases hk with hk | rfl
    · exact .inl (hI.closed k q hq hk d hdm)
    · rw [hp] at hq; cases hq; exact .inl (hdep d hdm)
  · cases hdst : p.dst <;> simp [Act.put, hI.defers]
  · cases hdst : p.dst <;> simp [Act.put, hI.size]
  · intro j jt q t hj h1 h2 h3 h4
    by_cases hji : j = i
    · subst hji
      rw [hit] at h1; cases h1
      rw [hp] at h2; cases h2
      simp only [Act.put, h3, hv, AV.den]
      rw [Array.getElem?_setIfInBounds, if_pos rfl, if_pos (by rw [hI.size]; exact h4)]
    · have hj' : D j := hj.resolve_right hji
      have hne : p.dst ≠ some t := ((baseOk_spec hd hp).2.2.1 j q t h2 h3).2 (fun e => hji e.symm)
      have := hI.put j jt q t hj' h1 h2 h3 h4
      cases hdst : p.dst with
      | none => simpa [Act.put] using this
      | some d =>
        simp only [Act.put]
        rw [Array.getElem?_setIfInBounds, if_neg (fun e => hne (by rw [hdst, e]))]; exact this
  · intro t ht
    have hne : p.dst ≠ some t := ht i p (.inr rfl) hp
    have := hI.left t (fun j q hj hq => ht j q (.inl hj) hq)
    cases hdst : p.dst with
    | none => simpa [Act.put] using this
    | some d =>
      simp only [Act.put]
      rw [Array.getElem?_setIfInBounds, if_neg (fun e => hne (by rw [hdst, e]))]; exact this
  · intro j jt n b hj h1 h2
    rcases hj with hj | rfl
    · exact hI.made j jt n b hj h1 h2
    · rw [hit] at h1; cases h1; rw [hm] at h2; simp [hget] at h2
include hs0 ht0
/-- An operation that is carried out. -/
theorem inv_on {D : Nat → Prop} {ρ : Env} {a : Act} {w : World} (hI : Inv w0 ops base h0 tm0 L ρ0 ws ds D ρ a w) {i : Nat} {p : Oper} {it : Item} (hp : ops[i]? = some p) (hit : L[i]? = some it)
    (hdep : ∀ d ∈ depsOf p, D d) (hDi : ¬ D i) {s : St} {o : Out} (hsh : s.heap = seenBy ((L.take i).map Item.seen) (depsOf p) ++ h0) (hsn : s.nxt = it.nx) (hon : o.st.nxt = it.nx') (hmade : it.made = hfrom o.st.heap it.nx) (hlow : it.nx ≤ o.low) :
    ∃ ρi : Env, (∀ x : AV, x.den ρi = x.den ρ) ∧ Rep w0.heap.size ρi s.heap s.nxt w ∧
    ∀ ρ' w', Rep w0.heap.size ρ' o.st.heap o.st.nxt w' → Post ρi ρ' s.heap o.st.heap s.nxt o.st.nxt o.low w w' →
      ∃ ρ2 : Env, Inv w0 ops base h0 tm0 L ρ0 ws ds (fun j => D j ∨ j = i) ρ2 (a.put p.dst (it.v.den ρ')) w' := by
  obtain ⟨b1, b2, b3⟩ := base_le hc hlen hit
  -- what is seen is there
  have hsee : ∀ n b, hget s.heap n = some b → There h0 L D n b ∧ n < it.nx ∧ AV.okL it.nx b.cells = true := by
    intro n b hn
    rw [hsh, hget_append] at hn
    cases hm : hget (seenBy ((L.take i).map Item.seen) (depsOf p)) n with
    | some c =>
      rw [hm] at hn; cases hn
      obtain ⟨j, jt, hji, hDj, hjt, hb⟩ := mine_there hc hlen hd hI.closed hp (List.getElem?_eq_some_iff.1 hit).1 hdep hm
      obtain ⟨m1, m2, m3, m4⟩ := hI.made j jt n b hDj hjt hb
      have hr := ranges hc hlen hit hjt hji
      exact ⟨.inr ⟨j, jt, hDj, hjt, hb⟩, by omega, okL_mono hr _ m3⟩
    | none =>
      rw [hm] at hn
      obtain ⟨q1, q2⟩ := hs0 n b hn
      exact ⟨.inl hn, by omega, okL_mono b1 _ q2⟩
  -- the blocks are each of one kind
  have hfun' : ∀ n b c, There h0 L D n b → There h0 L D n c → b = c := by
    intro n b c hn hm
    rcases hn with hn | ⟨j, jt, hDj, hjt, hb⟩ <;> rcases hm with hm | ⟨k, kt, hDk, hkt, hcc⟩
    · rw [hn] at hm; cases hm; rfl
    · have := (hs0 n b hn).1
      have := hI.made k kt n c hDk hkt hcc
      have := base_le hc hlen hkt
      omega
    · have := (hs0 n c hm).1
      have := hI.made j jt n b hDj hjt hb
      have := base_le hc hlen hjt
      omega
    · have m1 := hI.made j jt n b hDj hjt hb
      have m2 := hI.made k kt n c hDk hkt hcc
      rcases Nat.lt_trichotomy j k with h | h | h
      · have := ranges hc hlen hkt hjt h; omega
      · subst h; rw [hjt] at hkt; cases hkt; rw [hb] at hcc; cases hcc; rfl
      · have := ranges hc hlen hjt hkt h; omega
  have hlt : ∀ n b, There h0 L D n b → b.mem = true → ρ.σ n < w.heap.size := by
    intro n b hn hm
    obtain ⟨x, h1⟩ := (hI.block n b hn).some hm
    rcases Nat.lt_or_ge (ρ.σ n) w.heap.size with k | k
    · exact k
    · simp [Array.getElem?_eq_none k] at h1
  -- what is seen may be reached, what is not may not
  let ρi : Env := ⟨ρ.σ, ρ.kk, fun k => k < w.heap.size ∧ (ρ.A k ∨ ρ.L ≤ k) ∧ ∀ n b, There h0 L D n b → b.mem = true → ρ.σ n = k → hget s.heap n = some b, w.heap.size⟩
  have hLw : ρ.L ≤ w.heap.size := by rw [hI.area.2]; exact Nat.le_trans hI.ground hI.wsize
  have hfree : Keep (Free ρ (There h0 L D)) w (FreeH ρi s.heap) w := Keep.wide fun k hk hf => ⟨.inl ⟨hk, hf.1, fun n b hn hm e => absurd e (hf.2 n b hn hm)⟩, fun n b hn hm => hf.2 n b (hsee n b hn).1 hm⟩
  have hRep : Rep w0.heap.size ρi s.heap s.nxt w := by
    refine ⟨fun n b hn => (hI.block n b (hsee n b hn).1).keep hfree (denL_env (ρ := ρ) (ρ' := ρi) rfl rfl _) rfl fun _ => rfl, fun n m b c hn hm hb hc => hI.inj n m b c (hsee n b hn).1 (hsee m c hm).1 hb hc, fun n b hn => ?_, fun n b hn hm => hI.above n b (hsee n b hn).1 hm, Nat.le_refl _, fun n b hn hm => ?_⟩
    · rw [hsn]; exact (hsee n b hn).2
    · refine .inl ⟨hlt n b (hsee n b hn).1 hm, hI.reach n b (hsee n b hn).1 hm, fun m c hmt hc e => ?_⟩
      have := hI.inj m n c b hmt (hsee n b hn).1 hc hm e
      subst this
      have hbc := hfun' m c b hmt (hsee m b hn).1
      rw [hbc]; exact hn
  refine ⟨ρi, fun x => den_env (ρ := ρ) (ρ' := ρi) rfl rfl x, hRep, fun ρ' w' hr' hp' => ?_⟩
  have hle := hp'.le
  let ρ2 : Env := ⟨ρ'.σ, ρ'.kk, ρ.A, ρ.L⟩
  have hun : ∀ k, k < w.heap.size → w'.heap[k]? = w.heap[k]? := fun k hk => hp'.frame k hk fun n b hn hb hl => by
    have := (hsee n b hn).2.1; omega
  -- a name is away from those that the operation has made
  have hag : ∀ n, ¬ (it.nx ≤ n ∧ n < it.nx') → ρ'.σ n = ρ.σ n ∧ ρ'.kk n = ρ.kk n := fun n hn => hp'.agree n (by rw [hsn, hon]; omega)
  have haway : ∀ n b, There h0 L D n b → ¬ (it.nx ≤ n ∧ n < it.nx') := by
    intro n b hn
    rcases hn with hn | ⟨j, jt, hDj, hjt, hb⟩
    · have := (hs0 n b hn).1; omega
    · obtain ⟨m1, m2, -, -⟩ := hI.made j jt n b hDj hjt hb
      rcases Nat.lt_trichotomy j i with h | h | h
      · have := ranges hc hlen hit hjt h; omega
      · subst h; exact absurd hDj hDi
      · have := ranges hc hlen hjt hit h; omega
  -- what is handed on by what has been carried out names nothing that this operation has made
  have hnames : ∀ j jt, D j → L[j]? = some jt → ∀ q, ops[j]? = some q → ∀ n, mayName base jt.nx (seenBy ((L.take j).map Item.seen) (depsOf q)) n = true → n < jt.nx' → ¬ (it.nx ≤ n ∧ n < it.nx') := by
    intro j jt hDj hjt q hq n hn hnlt
    have hji : j ≠ i := fun e => hDi (e ▸ hDj)
    unfold mayName at hn
    split at hn
    · rename_i e; have := blt_lt e; omega
    · split at hn
      · rename_i e
        have e := ble_le e
        rcases Nat.lt_or_gt_of_ne hji with h | h
        · have := ranges hc hlen hit hjt h; omega
        · have := ranges hc hlen hjt hit h; omega
      · split at hn
        · rename_i b hb
          obtain ⟨k, kt, -, hDk, hkt, hkb⟩ := mine_there hc hlen hd hI.closed hq (List.getElem?_eq_some_iff.1 hjt).1 (hI.closed j q hq hDj) hb
          exact haway n b (.inr ⟨k, kt, hDk, hkt, hkb⟩)
        · cases hn
  have hval : ∀ j jt, D j → L[j]? = some jt → jt.v.den ρ' = jt.v.den ρ := by
    intro j jt hDj hjt
    have hjl := (List.getElem?_eq_some_iff.1 hjt).1
    have hq : ops[j]? = some ops[j] := by simp
    obtain ⟨-, -, -, h4, h5⟩ := hc.item j jt _ hjt hq
    rcases h5 with ⟨-, h5, -⟩ | ⟨-, h5, -⟩ | ⟨-, -, h5, -⟩
    rotate_left 2
    · rw [h5]; simp [AV.den]
    · rw [h5]; simp [AV.den]
    · refine den_within (p := fun n => mayName base jt.nx (seenBy ((L.take j).map Item.seen) (depsOf ops[j])) n && Nat.blt n jt.nx') (fun n hn => ?_) _ ?_
      · simp only [Bool.and_eq_true] at hn
        exact hag n (hnames j jt hDj hjt _ hq n hn.1 (blt_lt hn.2))
      · exact within_and _ h5 h4
  have hcells : ∀ n b, There h0 L D n b → AV.denL ρ' b.cells = AV.denL ρ b.cells := by
    intro n b hn
    rcases hn with hn | ⟨j, jt, hDj, hjt, hb⟩
    · exact denL_agree (m := base) (fun k hk => hag k (by omega)) _ (hs0 n b hn).2
    · have hjl := (List.getElem?_eq_some_iff.1 hjt).1
      have hq : ops[j]? = some ops[j] := by simp
      obtain ⟨-, -, -, -, h5⟩ := hc.item j jt _ hjt hq
      obtain ⟨-, -, m3, -⟩ := hI.made j jt n b hDj hjt hb
      rcases h5 with ⟨-, -, h5, -⟩ | ⟨-, -, h5, -⟩ | ⟨-, -, -, h5, -⟩
      rotate_left 2
      · rw [h5] at hb; simp [hget] at hb
      · rw [h5] at hb; simp [hget] at hb
      · refine denL_within (p := fun n => mayName base jt.nx (seenBy ((L.take j).map Item.seen) (depsOf ops[j])) n && Nat.blt n jt.nx') (fun n hn => ?_) _ ?_
        · simp only [Bool.and_eq_true] at hn
          exact hag n (hnames j jt hDj hjt _ hq n hn.1 (blt_lt hn.2))
        · exact withinL_and _ (heapWithin_get h5 hb) m3
  -- what the operation has made
  have hnew : ∀ n b, hget it.made n = some b → it.nx ≤ n ∧ n < it.nx' ∧ AV.okL it.nx' b.cells = true ∧ hget o.st.heap n = some b ∧ (b.mem = true → w.heap.size ≤ ρ'.σ n) := by
    intro n b hn
    rw [hmade, hget_from] at hn
    split at hn
    · cases hn
    · rename_i hge
      obtain ⟨s1, s2⟩ := hr'.scope n b hn
      rw [hon] at s1 s2
      refine ⟨by omega, s1, s2, hn, fun hbm => ?_⟩
      rcases hp'.fresh n b hn hbm with ⟨m, c, hm, hcm, em, -⟩ | hf
      · have hmlt := (hsee m c hm).2.1
        have hk := hp'.keep m (by omega) (by rw [hsn]; exact hmlt)
        rw [hm] at hk
        have hσ := (hp'.agree m (.inl (by rw [hsn]; exact hmlt))).1
        have := hr'.inj n m b c hn hk hbm hcm (by rw [em, hσ])
        omega
      · exact hf
  have hth : ∀ n b, There h0 L (fun j => D j ∨ j = i) n b → There h0 L D n b ∨ hget it.made n = some b := fun n b h => by
    rcases h with h | ⟨j, jt, hj | hj, h1, h2⟩
    · exact .inl (.inl h)
    · exact .inl (.inr ⟨j, jt, hj, h1, h2⟩)
    · subst hj; rw [hit] at h1; cases h1; exact .inr h2
  have hbel : Below w0.heap.size w w' := hp'.below hRep hI.below.size
  have hkeep : Keep (Free ρ (There h0 L D)) w (Free ρ2 (There h0 L fun j => D j ∨ j = i)) w' := fun k hk hf => by
    refine ⟨hun k hk, hf.1, fun n b hn hm => ?_⟩
    rcases hth n b hn with hn | hn
    · show ρ'.σ n ≠ k
      rw [(hag n (haway n b hn)).1]; exact hf.2 n b hn hm
    · have := (hnew n b hn).2.2.2.2 hm
      show ρ'.σ n ≠ k
      omega
  have hwide : Keep (FreeH ρ' o.st.heap) w' (Free ρ2 (There h0 L fun j => D j ∨ j = i)) w' := Keep.wide fun k hk hf => by
    obtain ⟨hf1, hf2⟩ := hf
    rw [hp'.area.1, hp'.area.2] at hf1
    rcases hf1 with ⟨g1, g2, g3⟩ | hf1
    · refine ⟨g2, fun n b hn hm => ?_⟩
      show ρ'.σ n ≠ k
      rcases hth n b hn with hn | hn
      · intro e
        have e1 := (hag n (haway n b hn)).1
        have e2 : ρ.σ n = k := by rw [← e, e1]
        have e3 := g3 n b hn hm e2
        have e4 := hp'.keep n (by have := (hsee n b e3).2.1; omega) (by rw [hsn]; exact (hsee n b e3).2.1)
        rw [e3] at e4
        exact hf2 n b e4 hm e
      · exact hf2 n b (hnew n b hn).2.2.2.1 hm
    · have hf1 : w.heap.size ≤ k := hf1
      refine ⟨.inr (Nat.le_trans hLw hf1), fun n b hn hm => ?_⟩
      show ρ'.σ n ≠ k
      rcases hth n b hn with hn | hn
      · rw [(hag n (haway n b hn)).1]
        have := hlt n b hn hm
        omega
      · exact hf2 n b (hnew n b hn).2.2.2.1 hm
  have hden2 : ∀ x : AV, x.den ρ2 = x.den ρ' := fun x => den_env (ρ := ρ') (ρ' := ρ2) rfl rfl x
  have hdenL2 : ∀ xs : List AV, AV.denL ρ2 xs = AV.denL ρ' xs := fun xs => denL_env (ρ := ρ') (ρ' := ρ2) rfl rfl xs
  refine ⟨ρ2, ?_, ?_, ?_, ?_, ?_, ?_, ?_, ?_, ?_, hI.area, hI.ground, ?_, ?_, hp'.os.trans hI.os, hp'.tape.trans hI.tape, hp'.output.trans hI.output, Nat.le_trans hI.wsize hp'.size, ?_, hI.below.trans hbel⟩
  · intro k q hq hk d hdm
    rcases hk with hk | rfl
    · exact .inl (hI.closed k q hq hk d hdm)
    · rw [hp] at hq; cases hq; exact .inl (hdep d hdm)
  · cases hdst : p.dst <;> simp [Act.put, hI.defers]
  · cases hdst : p.dst <;> simp [Act.put, hI.size]
  · intro j jt q t hj h1 h2 h3 h4
    by_cases hji : j = i
    · subst hji
      rw [hit] at h1; cases h1
      rw [hp] at h2; cases h2
      simp only [Act.put, h3]
      rw [Array.getElem?_setIfInBounds, if_pos rfl, if_pos (by rw [hI.size]; exact h4), hden2]
    · have hj' : D j := hj.resolve_right hji
      have hne : p.dst ≠ some t := ((baseOk_spec hd hp).2.2.1 j q t h2 h3).2 (fun e => hji e.symm)
      have := hI.put j jt q t hj' h1 h2 h3 h4
      rw [hden2, hval j jt hj' h1]
      cases hdst : p.dst with
      | none => simpa [Act.put] using this
      | some d =>
        simp only [Act.put]
        rw [Array.getElem?_setIfInBounds, if_neg (fun e => hne (by rw [hdst, e]))]; exact this
  · intro t ht
    have hne : p.dst ≠ some t := ht i p (.inr rfl) hp
    have := hI.left t (fun j q hj hq => ht j q (.inl hj) hq)
    rw [hdenL2, denL_agree (m := base) (ρ := ρ) (fun k hk => hag k (by omega)) tm0 ht0]
    cases hdst : p.dst with
    | none => simpa [Act.put] using this
    | some d =>
      simp only [Act.put]
      rw [Array.getElem?_setIfInBounds, if_neg (fun e => hne (by rw [hdst, e]))]; exact this
  · intro n b hn
    rcases hth n b hn with hn | hn
    · obtain ⟨g1, g2⟩ := hag n (haway n b hn)
      refine (hI.block n b hn).keep hkeep ((hdenL2 _).trans (hcells n b hn)) g2 fun hm => ?_
      show w'.heap[ρ'.σ n]? = _
      rw [g1]
      exact hun _ (hlt n b hn hm)
    · exact (hr'.block n b (hnew n b hn).2.2.2.1).keep hwide (hdenL2 _) rfl fun _ => rfl
  · intro n m b c hn hm hb hc e
    have e : ρ'.σ n = ρ'.σ m := e
    rcases hth n b hn with hn | hn <;> rcases hth m c hm with hm | hm
    · rw [(hag n (haway n b hn)).1, (hag m (haway m c hm)).1] at e
      exact hI.inj n m b c hn hm hb hc e
    · have h1 := hlt n b hn hb
      have h2 := (hnew m c hm).2.2.2.2 hc
      rw [(hag n (haway n b hn)).1] at e
      omega
    · have h1 := hlt m c hm hc
      have h2 := (hnew n b hn).2.2.2.2 hb
      rw [(hag m (haway m c hm)).1] at e
      omega
    · exact hr'.inj n m b c (hnew n b hn).2.2.2.1 (hnew m c hm).2.2.2.1 hb hc e
  · intro n b hn hm
    show w0.heap.size ≤ ρ'.σ n
    rcases hth n b hn with hn | hn
    · rw [(hag n (haway n b hn)).1]; exact hI.above n b hn hm
    · exact hr'.above n b (hnew n b hn).2.2.2.1 hm
  · intro j jt n b hj h1 h2
    show _ ∧ _ ∧ _ ∧ (b.mem = true → ws.heap.size ≤ ρ'.σ n)
    rcases hj with hj | rfl
    · have hn : There h0 L D n b := .inr ⟨j, jt, hj, h1, h2⟩
      rw [(hag n (haway n b hn)).1]
      exact hI.made j jt n b hj h1 h2
    · rw [hit] at h1; cases h1
      obtain ⟨m1, m2, m3, -, m5⟩ := hnew n b h2
      exact ⟨m1, m2, m3, fun hm => Nat.le_trans hI.wsize (m5 hm)⟩
  · intro n b hn hm
    show ρ.A (ρ'.σ n) ∨ ρ.L ≤ ρ'.σ n
    rcases hth n b hn with hn | hn
    · rw [(hag n (haway n b hn)).1]; exact hI.reach n b hn hm
    · have := (hnew n b hn).2.2.2.2 hm
      exact .inr (Nat.le_trans hLw this)
  · intro n hn
    obtain ⟨g1, g2⟩ := hag n (by omega)
    obtain ⟨k1, k2⟩ := hI.agree n hn
    exact ⟨g1.trans k1, g2.trans k2⟩
  · intro k hk
    rw [hun k (Nat.lt_of_lt_of_le hk hI.wsize)]
    exact hI.frame k hk
end
end Go.Ev
/- Running the program's functions on values that are known in part: quiet operations, which may come before or behind a store. -/
namespace Go.Ev
open Go.RowKit
/-- What a quiet operation makes of what it looks at. -/
def qval (op : Op) (e : Operand → Value) : Option Value := match op with
  | .move x => some (e x)
  | .assign x => some (e x)
  | .extract x i => match e x with
    | .tuple vs => vs[i]?
    | _ => none
  | .binOp .mul _ (.const (.int k c)) y _ => match e y with
    | .int k' b => if k = k' then some (.int k (k.wrap (c * b))) else none
    | _ => none
  | _ => none
theorem quiet_bin {op : BinOp} {t u : TypeId} {x y : Operand} (h : quietOp (.binOp op t x y u) = true) : ∃ k c, op = .mul ∧ x = .const (.int k c) := by
  unfold quietOp at h
  split at h <;> simp_all
theorem quiet_wp {P : Program} {rd : Option Nat} {p : Oper} {a : Act} {w : World} {K : Act → World → Prop} {Q : Exit → Act → World → Prop} (hq : quietOp p.op = true) :
    p.wpIn (fenceR rd) 0 P a w K Q → ∃ v, qval p.op a.eval = some v ∧ K (a.put p.dst v) w := by
  intro hwp
  have hdf : isDefer p.op = false := by revert hq; cases p.op <;> simp [quietOp, isDefer]
  replace hwp := wpIn_inv hdf hwp
  revert hwp
  obtain ⟨dst, op, type, pos, after, guard⟩ := p
  cases op <;> simp only [quietOp] at hq <;> try (cases hq; done)
  case move x => intro h; exact ⟨_, rfl, by simpa [execOp, Oper.uponIn] using h⟩
  case assign x => intro h; exact ⟨_, rfl, by simpa [execOp, Oper.uponIn] using h⟩
  case extract x i =>
    intro h
    unfold execOp Instr.extract at h
    simp only at h
    unfold qval
    simp only
    cases hx : a.eval x <;> rw [hx] at h <;> try (simp [Oper.uponIn] at h; done)
    rename_i vs
    simp only at h ⊢
    cases hv : vs[i]? with
    | none => rw [hv] at h; simp [Oper.uponIn] at h
    | some v => rw [hv] at h; exact ⟨v, rfl, by simpa [Oper.uponIn] using h⟩
  case binOp op t x y u =>
    obtain ⟨k, c, rfl, rfl⟩ := quiet_bin hq
    intro h
    unfold execOp at h
    unfold qval
    simp only at h ⊢
    rw [show a.eval (.const (.int k c)) = .int k c from rfl] at h
    generalize a.eval y = Y at h ⊢
    cases Y <;> try (simp [eqGuard, binOp, Oper.uponIn] at h; done)
    rename_i k' b
    by_cases hk : k = k'
    · subst hk
      exact ⟨.int k (k.wrap (c * b)), by simp, by simpa [eqGuard, binOp, Op.intArith, Oper.uponIn] using h⟩
    · simp [eqGuard, binOp, hk, Oper.uponIn] at h
theorem quiet_mk {P : Program} {rd : Option Nat} {p : Oper} {a : Act} {w : World} {K : Act → World → Prop} {Q : Exit → Act → World → Prop} {v : Value} (hq : quietOp p.op = true) (hv : qval p.op a.eval = some v) (hk : K (a.put p.dst v) w) : p.wpIn (fenceR rd) 0 P a w K Q := by
  have hdf : isDefer p.op = false := by revert hq; cases p.op <;> simp [quietOp, isDefer]
  refine wpIn_op hdf ?_
  obtain ⟨dst, op, type, pos, after, guard⟩ := p
  cases op <;> simp only [quietOp] at hq <;> try (cases hq; done)
  case move x => simp only [qval, Option.some.injEq] at hv; subst hv; simpa [execOp, Oper.uponIn] using hk
  case assign x => simp only [qval, Option.some.injEq] at hv; subst hv; simpa [execOp, Oper.uponIn] using hk
  case extract x i =>
    unfold execOp Instr.extract
    unfold qval at hv
    simp only at hv ⊢
    cases hx : a.eval x <;> rw [hx] at hv <;> try (simp at hv; done)
    rename_i vs
    simp only at hv ⊢
    rw [hv]
    simpa [Oper.uponIn] using hk
  case binOp op t x y u =>
    obtain ⟨k, c, rfl, rfl⟩ := quiet_bin hq
    unfold execOp
    unfold qval at hv
    simp only at hv ⊢
    rw [show a.eval (.const (.int k c)) = .int k c from rfl]
    generalize a.eval y = Y at hv ⊢
    cases Y <;> try (simp at hv; done)
    rename_i k' b
    simp only at hv
    split at hv
    · rename_i hkk
      subst hkk
      simp only [Option.some.injEq] at hv
      subst hv
      simpa [eqGuard, binOp, Op.intArith, Oper.uponIn] using hk
    · cases hv
theorem store_mk {P : Program} {rd : Option Nat} {p : Oper} {a b : Act} {w w' : World} {K : Act → World → Prop} {Q : Exit → Act → World → Prop} (hs : isStore p.op = true) (he : ∀ x ∈ p.op.operands, b.eval x = a.eval x) (h : (execOp a.eval p).run P w = .ok .skip w') (hk : K (b.put p.dst undef) w') : p.wpIn (fenceR rd) 0 P b w K Q := by
  have hdf : isDefer p.op = false := by revert hs; cases p.op <;> simp [isStore, isDefer]
  have e : execOp b.eval p = execOp a.eval p := by
    obtain ⟨dst, op, type, pos, after, guard⟩ := p
    cases op <;> simp only [isStore] at hs <;> try (cases hs; done)
    rename_i t x y
    simp only [Op.operands] at he
    simp only [execOp, he x (by simp), he y (by simp)]
  refine wpIn_op hdf ?_
  rw [e, h]
  exact hk
/-- Quiet operations, one after another. -/
def runQ (ops : Array Oper) : List Nat → Act → Option Act
  | [], a => some a
  | i :: is, a => match ops[i]? with
    | some p => match qval p.op a.eval with
      | some v => runQ ops is (a.put p.dst v)
      | none => none
    | none => none
theorem runQ_cons {ops : Array Oper} {i : Nat} {is : List Nat} {a f : Act} (h : runQ ops (i :: is) a = some f) : ∃ p v, ops[i]? = some p ∧ qval p.op a.eval = some v ∧ runQ ops is (a.put p.dst v) = some f := by
  unfold runQ at h
  split at h
  · rename_i p hp
    split at h
    · rename_i v hv
      exact ⟨p, v, hp, hv, h⟩
    · cases h
  · cases h
theorem runQ_mk {ops : Array Oper} {i : Nat} {is : List Nat} {a : Act} {p : Oper} {v : Value} (hp : ops[i]? = some p) (hv : qval p.op a.eval = some v) : runQ ops (i :: is) a = runQ ops is (a.put p.dst v) := by
  simp only [runQ, hp, hv]
theorem eval_put {a : Act} {d : Option Tmp} {v : Value} {x : Operand} (h : ∀ t, x = .tmp t → d ≠ some t) : (a.put d v).eval x = a.eval x := by
  cases d with
  | none => rfl
  | some d =>
    cases x with
    | tmp t =>
      have : d ≠ t := fun e => h t rfl (by rw [e])
      simp [Act.put, Act.eval, this]
    | const c => rfl
    | global g => rfl
    | func f => rfl
theorem qval_congr {op : Op} {e e' : Operand → Value} (h : ∀ x ∈ op.operands, e x = e' x) : qval op e = qval op e' := by
  cases op <;> try rfl
  case move x => simp only [qval, h x (by simp [Op.operands])]
  case assign x => simp only [qval, h x (by simp [Op.operands])]
  case extract x i => simp only [qval, h x (by simp [Op.operands])]
  case binOp op t x y u =>
    have hy := h y (by simp [Op.operands])
    unfold qval
    split <;> simp_all
theorem put_comm {a : Act} {d e : Option Tmp} {v u : Value} (h : ∀ t, d = some t → e ≠ some t) : (a.put d v).put e u = (a.put e u).put d v := by
  cases d with
  | none => rfl
  | some d =>
    cases e with
    | none => rfl
    | some e =>
      have : d ≠ e := fun x => h d rfl (by rw [x])
      simp only [Act.put]
      congr 1
      rw [Array.setIfInBounds_comm v u this]
theorem looks_mem {ops : Array Oper} {p : Oper} {t : Tmp} (h : Operand.tmp t ∈ p.op.operands) : t ∈ p.looksAt ops := by
  unfold Oper.looksAt
  exact List.mem_append_left _ (List.mem_filterMap.2 ⟨_, by simpa using h, rfl⟩)
/-- Two that neither look at what the other makes, nor make the same, may change places. -/
theorem swapQ {ops : Array Oper} {i j : Nat} {is : List Nat} {a f : Act} (h1 : ∀ p q d, ops[i]? = some p → ops[j]? = some q → q.dst = some d → d ∉ p.looksAt ops ∧ p.dst ≠ some d) (h2 : ∀ p q d, ops[i]? = some p → ops[j]? = some q → p.dst = some d → d ∉ q.looksAt ops)
    (h : runQ ops (j :: i :: is) a = some f) : runQ ops (i :: j :: is) a = some f := by
  obtain ⟨q, u, hq, hu, h⟩ := runQ_cons h
  obtain ⟨p, v, hp, hv, h⟩ := runQ_cons h
  have e1 : qval p.op (a.put q.dst u).eval = qval p.op a.eval := qval_congr fun x hx => eval_put fun t ht hd => by subst ht; exact (h1 p q t hp hq hd).1 (looks_mem hx)
  have e2 : qval q.op (a.put p.dst v).eval = qval q.op a.eval := qval_congr fun x hx => eval_put fun t ht hd => by subst ht; exact h2 p q t hp hq hd (looks_mem hx)
  rw [e1] at hv
  rw [runQ_mk hp hv, runQ_mk hq (e2.trans hu), ← put_comm (fun t ht => (h1 p q t hp hq ht).2)]
  exact h
theorem frontQ {ops : Array Oper} {i : Nat} {post : List Nat} {f : Act} : ∀ {pre : List Nat} {a : Act}, (∀ j ∈ pre, (∀ p q d, ops[i]? = some p → ops[j]? = some q → q.dst = some d → d ∉ p.looksAt ops ∧ p.dst ≠ some d) ∧ (∀ p q d, ops[i]? = some p → ops[j]? = some q → p.dst = some d → d ∉ q.looksAt ops)) →
    runQ ops (pre ++ i :: post) a = some f → runQ ops (i :: (pre ++ post)) a = some f
  | [], _, _, h => h
  | j :: pre, a, hj, h => by
    obtain ⟨q, u, hq, hu, h⟩ := runQ_cons (is := pre ++ i :: post) h
    have ih := frontQ (fun j hj' => hj j (List.mem_cons_of_mem _ hj')) h
    refine swapQ (is := pre ++ post) (hj j List.mem_cons_self).1 (hj j List.mem_cons_self).2 ?_
    rw [runQ_mk hq hu]
    exact ih
theorem runQ_append {ops : Array Oper} : ∀ {M N : List Nat} {a f g : Act}, runQ ops M a = some f → runQ ops N f = some g → runQ ops (M ++ N) a = some g
  | [], N, a, f, g, h, k => by cases h; exact k
  | i :: M, N, a, f, g, h, k => by
    obtain ⟨p, v, hp, hv, h⟩ := runQ_cons h
    rw [List.cons_append, runQ_mk hp hv]
    exact runQ_append h k
/-- What quiet operations do not make stands. -/
theorem runQ_keep {ops : Array Oper} {x : Operand} : ∀ {M : List Nat} {a f : Act}, (∀ j ∈ M, ∀ q t, ops[j]? = some q → x = .tmp t → q.dst ≠ some t) → runQ ops M a = some f → f.eval x = a.eval x
  | [], a, f, _, h => by cases h; rfl
  | j :: M, a, f, hj, h => by
    obtain ⟨q, u, hq, hu, h⟩ := runQ_cons h
    rw [runQ_keep (fun j hj' => hj j (List.mem_cons_of_mem _ hj')) h]
    exact eval_put fun t ht => hj j List.mem_cons_self q t hq ht
end Go.Ev
/- Running the program's functions on values that are known in part: ranges over functions, and their rounds. -/
namespace Go.Ev
open Go.RowKit
section
variable {C : Ctx} {G : World → Prop} {w0 : World} {R : Rec}
theorem act_old {ρ ρ' : Env} {nx : Nat} {fr : AFrame} {tm : List AV} (hag : ∀ n, n < nx → ρ'.σ n = ρ.σ n ∧ ρ'.kk n = ρ.kk n) (hf : frOK nx fr = true) (ht : AV.okL nx tm = true) : act ρ' fr tm = act ρ fr tm := by
  unfold act
  rw [marks_eq (fun n hn => (hag n hn).1) hf, denL_agree hag tm ht]
/-- The function that is ranged over, and what follows. -/
theorem rangeRun_ok {f : FuncId} {q : FuncId × List AV × List AV} {ps : Array Tmp} {asg body : Code} {tm : List AV} {h : AHeap} {l : Nat} {ora : List Bool} {vals : List D} {fr : AFrame} {o : Out}
    (hrun : rangeRun R f q ps asg body tm h l ora vals fr = some o) (hl : Holds C G o.log)
    (henter : ∀ g vs s o, R (.enter g vs) s = some o → Holds C G o.log → EnterOK C w0 g vs s o) (hasg : okCode asg = true) (hbody : okCode body = true) (htm : AV.okL l tm = true) (hfr : frOK l fr = true) (hq1 : AV.okL l q.2.1 = true) (hq2 : AV.okL l q.2.2 = true) :
    isVal o.x = false ∧ StOK o.st ∧ l ≤ o.st.nxt ∧ o.st.res.fr = fr ∧
    ∀ (ρ : Env) (w : World) (fn : FuncId) (D : Nat) (rd : Option Nat) (Q : Exit → Act → World → Prop) (N : Nat), N = w.heap.size → Rep w0.heap.size ρ h l w → Below w0.heap.size w0 w →
      (∀ ρ' w', Rep w0.heap.size ρ' o.st.heap o.st.nxt w' → Post ρ ρ' h o.st.heap l o.st.nxt o.low w w' → Q (exitOf o.x) (act ρ' o.st.res.fr o.st.tmps) w') →
      Calls C.P q.1 ((AV.denL ρ q.2.1).toArray ++ #[.func (.yield N) #[] #[]] ++ (AV.denL ρ q.2.2).toArray)
        (w.alloc (.loop { state := .ready, pending := none, fn := fn, tmps := (AV.denL ρ tm).toArray, params := ps, assign := asg, body := body, defers := D }))
        (rangePost (fenceR rd) 0 C.P N Q (act ρ fr tm)) := by
  unfold rangeRun rangeEnd at hrun
  split at hrun
  · rename_i v tm' h1 nx1 ora1 rs1 l1 g1 he
    split at hrun
    · rename_i cs on r hrec
      have key : ∀ (x : AX) (jump : Option Code), r.st.state ≠ .busy → r.st.pending = jump → isVal x = false → (∀ (rd : Option Nat) (Q : Exit → Act → World → Prop) a w, Q (exitOf x) a w → match jump with | none => Q .normal a w | some c => c.wpIn (fenceR rd) 0 C.P Q a w) →
          some (⟨x, ⟨tm, hdel h1 l, nx1, ora1, ⟨rs1.vals, fr⟩⟩, l1, g1⟩ : Out) = some o →
          isVal o.x = false ∧ StOK o.st ∧ l ≤ o.st.nxt ∧ o.st.res.fr = fr ∧
          ∀ (ρ : Env) (w : World) (fn : FuncId) (D : Nat) (rd : Option Nat) (Q : Exit → Act → World → Prop) (N : Nat), N = w.heap.size → Rep w0.heap.size ρ h l w → Below w0.heap.size w0 w →
            (∀ ρ' w', Rep w0.heap.size ρ' o.st.heap o.st.nxt w' → Post ρ ρ' h o.st.heap l o.st.nxt o.low w w' → Q (exitOf o.x) (act ρ' o.st.res.fr o.st.tmps) w') →
            Calls C.P q.1 ((AV.denL ρ q.2.1).toArray ++ #[.func (.yield N) #[] #[]] ++ (AV.denL ρ q.2.2).toArray)
              (w.alloc (.loop { state := .ready, pending := none, fn := fn, tmps := (AV.denL ρ tm).toArray, params := ps, assign := asg, body := body, defers := D }))
              (rangePost (fenceR rd) 0 C.P N Q (act ρ fr tm)) := by
        intro x jump hst hpe hx hj heq
        simp only [Option.some.injEq] at heq
        subst heq
        obtain ⟨v', a1, a2, a3, a4⟩ := henter _ _ _ _ he hl
        simp only at a3 a4
        have hle : l ≤ nx1 := by omega
        refine ⟨hx, ⟨okL_mono hle _ htm, frOK_mono hle hfr⟩, hle, rfl, fun ρ w fn D rd Q N hN hr hb hQ => ?_⟩
        subst hN
        obtain ⟨r1, p1⟩ := rep_newB (nxt := l) hr hb.size ⟨tm, none, .loop ⟨f, ps, asg, body, .ready⟩⟩ htm (.loop { state := .ready, pending := none, fn := fn, tmps := (AV.denL ρ tm).toArray, params := ps, assign := asg, body := body, defers := D }) 0
          fun _ _ _ => ⟨hasg, hbody, fn, D, by
            have ag : ∀ n, n < l → (ρ.with l w.heap.size 0).σ n = ρ.σ n ∧ (ρ.with l w.heap.size 0).kk n = ρ.kk n := fun n hn => Env.with_agree _ _ _ _ _ (by omega)
            rw [denL_agree ag tm htm]; rfl⟩
        have hargs : (AV.denL (ρ.with l w.heap.size 0) (q.2.1 ++ [.yld l] ++ q.2.2)).toArray = (AV.denL ρ q.2.1).toArray ++ #[.func (.yield w.heap.size) #[] #[]] ++ (AV.denL ρ q.2.2).toArray := by
          have ag : ∀ n, n < l → (ρ.with l w.heap.size 0).σ n = ρ.σ n ∧ (ρ.with l w.heap.size 0).kk n = ρ.kk n := fun n hn => Env.with_agree _ _ _ _ _ (by omega)
          rw [denL_append, denL_append, denL_agree ag _ hq1, denL_agree ag _ hq2]
          simp [AV.denL, AV.den, Env.with_σ]
        have hc := a4 _ _ r1 (below_of_post hr p1 hb)
        rw [hargs] at hc
        refine hc.mono fun e w' ⟨ρ', he', r2, p2⟩ => ?_
        subst he'
        have hblk := r2.block l _ hrec
        simp only [BlockOK] at hblk
        obtain ⟨-, -, fn', D', hobj⟩ := hblk
        have hσ : ρ'.σ l = w.heap.size := by rw [(p2.agree l (.inl (by omega))).1, Env.with_σ]
        rw [hσ] at hobj
        have hend := run_endLoop (P := C.P) hobj hst
        obtain ⟨r3, p3⟩ := rep_drop r2 hrec rfl (w'.putObj w.heap.size (.loop { state := .exhausted, pending := r.st.pending, fn := fn', tmps := (AV.denL ρ' cs).toArray, params := r.ps, assign := r.asg, body := r.body, defers := D' })) rfl rfl rfl (by simp) (fun k hk => World.putObj_heap_other (by rw [hσ] at hk; exact hk))
        have p4 := (p1.trans hr r1 p2).trans hr r2 p3
        have p5 : Post ρ ρ' h (hdel h1 l) l nx1 l1 w _ := Post.low_of hr p4 fun n h1 h2 => by simp only [Nat.lt_min]; omega
        have hq := hQ ρ' _ r3 p5
        rw [act_old (fun n hn => p5.agree n (.inl hn)) hfr htm] at hq
        have hq9 := hj rd Q _ _ hq
        refine ⟨jump, _, by rw [← hpe]; exact hend, ?_⟩
        cases jump with
        | none => exact hq9
        | some c => exact hq9
      split at hrun
      · rename_i hst
        exact key .normal none (by rw [hst]; simp [RState.state]) (by rw [hst]; rfl) rfl (fun rd Q a w hq => hq) hrun
      · rename_i hst
        exact key .ret (some .ret) (by rw [hst]; simp [RState.state]) (by rw [hst]; rfl) rfl (fun rd Q a w hq => wpIn_ret hq) hrun
      · rename_i id hst
        exact key (.exit id) (some (.exit id)) (by rw [hst]; simp [RState.state]) (by rw [hst]; rfl) rfl (fun rd Q a w hq => wpIn_exit hq) hrun
      · cases hrun
    · cases hrun
  · cases hrun
theorem funOf_spec {x : AV} {g : FuncId} {us vs : List AV} (h : funOf x = some (g, us, vs)) (ρ : Env) : x.den ρ = .func (.func g) (AV.denL ρ us).toArray (AV.denL ρ vs).toArray ∧ ∀ m, x.ok m = true → AV.okL m us = true ∧ AV.okL m vs = true := by
  unfold funOf at h
  split at h
  · cases h
    refine ⟨by simp [AV.den, denL_pure], fun m _ => ⟨?_, ?_⟩⟩
    · rw [okL_iff]; intro x hx; obtain ⟨v, -, rfl⟩ := List.mem_map.1 hx; simp [AV.ok, AV.within]
    · rw [okL_iff]; intro x hx; obtain ⟨v, -, rfl⟩ := List.mem_map.1 hx; simp [AV.ok, AV.within]
  · cases h
    refine ⟨by simp [AV.den], fun m hm => ?_⟩
    simpa [AV.ok, AV.okL, AV.within] using hm
  · cases h
theorem aeval_ok {m : Nat} {tm : List AV} (ht : AV.okL m tm = true) (x : Operand) : (aeval tm x).ok m = true := by
  cases x with
  | tmp t =>
    simp only [aeval, slot_eq]
    rw [List.getD_eq_getElem?_getD]
    cases hx : tm[t]? with
    | none => simp [AV.ok, AV.within]
    | some y => exact (okL_iff _ _).1 ht y (List.mem_of_getElem? hx)
  | const v => simp [aeval, AV.ok, AV.within]
  | global g => simp [aeval, AV.ok, AV.within]
  | func f => simp [aeval, AV.ok, AV.within]
theorem range_ok (hg : Good C G) {f : FuncId} {g : Operand} {ps : Array Tmp} {asg body : Code} {s : St} {o : Out} (h : goRange C R f g ps asg body s = some o) (hl : Holds C G o.log)
    (henter : ∀ g vs s o, R (.enter g vs) s = some o → Holds C G o.log → EnterOK C w0 g vs s o) (hasg : okCode asg = true) (hbody : okCode body = true) (hk : StOK s) : CodeOK C w0 (.rangeFunc g ps asg body) s o := by
  obtain ⟨tm, hh, nx, ora, rs⟩ := s
  obtain ⟨hk1, hk2⟩ := hk
  simp only at hk1 hk2
  unfold goRange at h
  simp only at h
  split at h
  · rename_i q hq
    obtain ⟨gf, us, vs⟩ := q
    split at h
    · rename_i hb0
      have hfn : ∃ fn, C.P.funcs[gf]? = some fn ∧ fn.body.isSome = true := by
        split at hb0
        · rename_i fn hfn
          rw [listGet_eq, Array.getElem?_toList] at hfn
          exact ⟨fn, hfn, hb0⟩
        · cases hb0
      obtain ⟨fn0, hfn, hb⟩ := hfn
      have hnone : fn0.body.isNone = false := by cases hbb : fn0.body <;> simp_all
      have hcf : ∀ args w, (callFunc gf args).run C.P w = .ok (.enter gf args) w := fun args w => by
        simp only [callFunc, Sem.run_bind, run_program, Result.andThen_ok, hfn, hg.names gf fn0 hfn, hnone, Bool.false_eq_true, if_false, Sem.run_pure]
      have hoks := (funOf_spec hq ⟨id, fun _ => ⟨0, noVal, noDV⟩, fun _ => True, 0⟩).2 nx (aeval_ok hk1 g)
      have hres : ∀ ρ l w, (resolve (act ρ rs.fr tm).eval (rangeCall g l) 0).run C.P w = .ok { target := .fn (.func gf) (AV.denL ρ vs).toArray, args := (AV.denL ρ us).toArray ++ #[.func (.yield l) #[] #[]] } w := fun ρ l w => by
        have hge : (act ρ rs.fr tm).eval g = .func (.func gf) (AV.denL ρ us).toArray (AV.denL ρ vs).toArray := by rw [act_eval]; exact (funOf_spec hq ρ).1
        simp only [resolve, rangeCall, hge, Deferred.ofValue, Sem.run_pure]
        simp [Act.eval]
      split at h
      · rename_i hrn
        rw [withNat_eq] at h
        obtain ⟨a1, a2, a3, a4, a5⟩ := rangeRun_ok (w0 := w0) h hl henter hasg hbody (okL_mono (by omega) _ hk1) (by
          simp only [frOK, Bool.and_eq_true, List.all_eq_true] at hk2 ⊢
          refine ⟨trivial, fun d hd => ?_⟩
          rcases List.mem_cons.1 hd with rfl | hd
          · simp [Nat.blt_eq]
          · have := blt_lt (hk2.2 d hd); simp [Nat.blt_eq]; omega) (okL_mono (by omega) _ hoks.1) (okL_mono (by omega) _ hoks.2)
        refine ⟨a1, a2, ⟨by simp only; omega, by rw [a4, hrn]⟩, fun ρ w Q hr hbw hE => ?_⟩
        have hfe : fenceOf ρ rs.fr = fenceR none := by unfold fenceOf; rw [hrn]; rfl
        simp only [hfe]
        refine wpIn_rangeFunc fun fn _ => ⟨_, _, _, _, _, gf, (AV.denL ρ us).toArray ++ #[.func (.yield (w.heap.size + 1)) #[] #[]] ++ (AV.denL ρ vs).toArray, (w.alloc (.deferred (some []))).alloc (.loop { state := .ready, pending := none, fn := fn, tmps := (act ρ rs.fr tm).tmps, params := ps, assign := asg, body := body, defers := w.heap.size }), run_enterLoop_outer fn _ ps asg body, hres ρ _ _, fun _ _ => trivial, ?_, fun h => (by cases h), ?_⟩
        · simp only [invoke]
          exact hcf _ _
        · obtain ⟨r1, p1⟩ := rep_newB hr hbw.size ⟨[], none, .dfr⟩ rfl (.deferred (some [])) 0 fun _ _ _ => rfl
          have := a5 _ _ fn w.heap.size none Q (w.heap.size + 1) (World.size_alloc w _).symm r1 (below_of_post hr p1 hbw) (fun ρ' w' r2 p2 => hE ρ' w' r2 ((p1.trans hr r1 p2).low_of hr fun n h1 h2 => by simp only [Nat.lt_min]; simp only at h1 h2; omega))
          have ag : ∀ n, n < nx → (ρ.with nx w.heap.size 0).σ n = ρ.σ n ∧ (ρ.with nx w.heap.size 0).kk n = ρ.kk n := fun n hn => Env.with_agree _ _ _ _ _ (by omega)
          simp only [denL_agree ag _ hoks.1, denL_agree ag _ hoks.2, denL_agree ag _ hk1] at this
          have hact : act (ρ.with nx w.heap.size 0) ⟨none, nx :: rs.fr.marks⟩ tm = { act ρ rs.fr tm with defers := [{ target := .collected w.heap.size, args := #[] }] ++ (act ρ rs.fr tm).defers } := by
            have hm : (rs.fr.marks.map fun d => ({ target := .collected ((ρ.with nx w.heap.size 0).σ d), args := #[] } : Deferred)) = rs.fr.marks.map fun d => { target := .collected (ρ.σ d), args := #[] } := marks_eq (nx := nx) (fun n hn => (ag n hn).1) hk2
            unfold act
            simp only [List.map_cons, hm, Env.with_σ, denL_agree ag _ hk1, List.singleton_append]
          rw [hact] at this
          exact (callsIn_wide (n := 0)).2 this
      · rename_i l0 hrn
        split at h
        · rename_i cs0 on0 r0 hrec0
          obtain ⟨a1, a2, a3, a4, a5⟩ := rangeRun_ok (w0 := w0) h hl henter hasg hbody hk1 hk2 hoks.1 hoks.2
          refine ⟨a1, a2, ⟨a3, by rw [a4]⟩, fun ρ w Q hr hbw hE => ?_⟩
          have hfe : fenceOf ρ rs.fr = fenceR (some (ρ.σ l0)) := by unfold fenceOf; rw [hrn]; rfl
          have hblk := hr.block l0 _ hrec0
          simp only [BlockOK] at hblk
          obtain ⟨-, -, fn', D', hobj⟩ := hblk
          simp only [hfe]
          have hin : ∀ fn, (Instr.enterLoop fn (act ρ rs.fr tm).tmps ps asg body (some (ρ.σ l0))).run C.P w =
              .ok (w.heap.size, []) (w.alloc (.loop { state := .ready, pending := none, fn := fn, tmps := (act ρ rs.fr tm).tmps, params := ps, assign := asg, body := body, defers := D' })) := fun fn => by
            unfold Instr.enterLoop
            simp only [Sem.run_bind, run_getLoop hobj, run_newObj_alloc, Result.andThen, Sem.run_pure]
          refine wpIn_rangeFunc fun fn _ => ⟨_, _, _, _, _, gf, (AV.denL ρ us).toArray ++ #[.func (.yield w.heap.size) #[] #[]] ++ (AV.denL ρ vs).toArray, w.alloc (.loop { state := .ready, pending := none, fn := fn, tmps := (act ρ rs.fr tm).tmps, params := ps, assign := asg, body := body, defers := D' }), hin fn, hres ρ _ _, fun _ _ => trivial, ?_, fun h => (by cases h), ?_⟩
          · simp only [invoke]
            exact hcf _ _
          · have := a5 _ _ fn D' (some (ρ.σ l0)) Q w.heap.size rfl hr hbw (fun ρ' w' r2 p2 => hE ρ' w' r2 p2)
            exact (callsIn_wide (n := 0)).2 this
        · cases h
    · cases h
  · cases h
theorem fold_den (ρ : Env) (ps : List Tmp) : ∀ (args : List AV) (cs : List AV), ((ps.zip (AV.denL ρ args)).foldl (fun tmps (p : Tmp × Value) => tmps.setIfInBounds p.1 p.2) (AV.denL ρ cs).toArray) = (AV.denL ρ ((ps.zip args).foldl (fun tm p => tm.set p.1 p.2) cs)).toArray := by
  induction ps with
  | nil => intro args cs; rfl
  | cons p ps ih =>
    intro args cs
    cases args with
    | nil => simp [AV.denL]
    | cons x args =>
      simp only [AV.denL, List.zip_cons_cons, List.foldl_cons]
      rw [← ih args (cs.set p x)]
      congr 1
      apply Array.ext'
      simp [denL_map, List.map_set]
theorem yieldOf_spec {tm : List AV} {c : Call} {l : Nat} {args : List AV} (h : yieldOf tm c = some (l, args)) : ∃ x, c.callee = .value x ∧ aeval tm x = .yld l ∧ args = c.args.toList.map (aeval tm) := by
  unfold yieldOf at h
  split at h
  · rename_i x hc
    split at h
    · rename_i l' hx
      cases h
      exact ⟨x, hc, hx, rfl⟩
    · cases h
  · cases h
theorem yield_ok {p : Oper} {c : Call} (hp : p.op = .call c) {s : St} {l : Nat} {args : List AV} {o : Out} (hy : yieldOf s.tmps c = some (l, args)) (h : goYield R l args s = some o) (hl : Holds C G o.log)
    (hcode : ∀ f c s o, R (.code f c) s = some o → Holds C G o.log → okCode c = true → StOK s → CodeOK C w0 c s o) (hk : StOK s) : OpOK C w0 p s o := by
  obtain ⟨tm, hh, nx, ora, rs⟩ := s
  obtain ⟨hk1, hk2⟩ := hk
  simp only at hk1 hk2 hy
  obtain ⟨x, hcx, hxl, rfl⟩ := yieldOf_spec hy
  have hlx : l < nx := by
    have := aeval_ok hk1 x
    rw [hxl] at this
    exact blt_lt this
  unfold goYield at h
  simp only at h
  split at h
  · rename_i cs on r hrec
    split at h
    · rename_i hst hlen
      simp only [Bool.and_eq_true] at hlen
      obtain ⟨⟨hlen, hasg⟩, hbody⟩ := hlen
      rw [setMany_eq] at h
      split at h
      rotate_left
      · cases h
      rename_i hok1
      unfold yieldMid at h
      split at h
      · rename_i tm2 h2 nx2 ora2 rs2 l2 c2 k2 hr1
        split at h
        · rename_i cs2 on2 r2 hrec2
          split at h
          · rename_i hst2
            rw [hputK_eq] at h
            unfold yieldEnd at h
            split at h
            · rename_i x3 tm3 h3 nx3 ora3 rs3 l3 c3 k3 hr2
              split at h
              · rename_i cs3 on3 r3 j b hrec3 hjump
                split at h
                · rename_i hst3
                  rw [hputK_eq] at h
                  simp only [Option.some.injEq] at h
                  subst h
                  have hl3 : Holds C G ⟨c3, k3⟩ := hl.right
                  have hl2 : Holds C G ⟨c2, k2⟩ := hl.left
                  obtain ⟨a1, a2, a3, a4⟩ := hcode _ _ _ _ hr1 hl2 hasg ⟨hok1, by simp only [frOK, Bool.and_eq_true]; exact ⟨by simpa [Nat.blt_eq] using hlx, rfl⟩⟩
                  obtain ⟨b1, b2, b3, b4⟩ := hcode _ _ _ _ hr2 hl3 hbody a2
                  simp only at a2 a3 a4 b2 b3 b4
                  refine ⟨.pure (.bool b), rfl, by simp [AV.ok, AV.within], rfl, ⟨Nat.le_trans a3.1 b3.1, rfl⟩, fun rd ρ a w K Q he hr hb hE => wpIn_op (by rw [hp]; rfl) ?_⟩
                  have hblk := hr.block l _ hrec
                  simp only [BlockOK] at hblk
                  obtain ⟨-, -, fn, D, hobj⟩ := hblk
                  have hxe : a.eval x = .func (.yield (ρ.σ l)) #[] #[] := by
                    rw [he x (by simp [hp, Op.operands, Call.operands, hcx]), hxl]; rfl
                  have hargs : c.args.map a.eval = (AV.denL ρ (c.args.toList.map (aeval tm))).toArray := map_den_list ρ tm c.args (fun y hy => he y (by simp [hp, Op.operands, Call.operands]; exact .inr (by simpa using hy)))
                  have hsz : (AV.denL ρ (c.args.toList.map (aeval tm))).toArray.size = r.ps.size := by
                    rw [List.size_toArray, denL_length]; exact Nat.eq_of_beq_eq_true hlen
                  have hy1 := run_yield (P := C.P) hobj hsz
                  have hrun : (execOp a.eval p).run C.P w = .ok (.round (ρ.σ l) fn ((AV.denL ρ ((r.ps.toList.zip (c.args.toList.map (aeval tm))).foldl (fun tm p => tm.set p.1 p.2) cs)).toArray) r.asg r.body) w := by
                    have e1 : execOp a.eval p = (do let d ← resolve a.eval c p.type; invoke d.target d.args : Sem Next) := by unfold execOp; rw [hp]
                    rw [e1]
                    simp only [resolve, hcx, hxe, Deferred.ofValue, Sem.run_bind, Sem.run_pure, Result.andThen_ok, invoke, hargs]
                    rw [← fold_den]
                    have e2 : (r.ps.zip (AV.denL ρ (c.args.toList.map (aeval tm))).toArray).foldl (fun tmps (t, a) => tmps.setIfInBounds t a) (AV.denL ρ cs).toArray = (r.ps.toList.zip (AV.denL ρ (c.args.toList.map (aeval tm)))).foldl (fun tmps (p : Tmp × Value) => tmps.setIfInBounds p.1 p.2) (AV.denL ρ cs).toArray := by
                      rw [← Array.foldl_toList]
                      simp
                    rw [← e2]
                    simpa using hy1
                  rw [hrun, Oper.uponIn_round]
                  refine ⟨fun h => (by cases h), roundIn_of_wpIn trivial ?_⟩
                  have hasg' := a4 ρ w (Exit.then (fun a₁ w₁ => ∃ w₂, (Instr.beginRound (ρ.σ l)).run C.P w₁ = .ok () w₂ ∧ r.body.wpIn (fenceR (some (ρ.σ l))) 0 C.P (roundPost C.P (ρ.σ l) fun
                      | .returned v, w'' => K (a.put p.dst v) w''
                      | .panicked chain, w'' => Q (.panic chain) a w''
                      | .outgrown, _ => LetsOut Q) a₁ w₂) (fun _ _ _ => False)) hr hb (fun ρ1 w1 r1 p1 => ?_)
                  · exact hasg'
                  have hb1 := below_of_post hr p1 hb
                  have hσ1 : ρ1.σ l = ρ.σ l := p1.σ_old l hlx
                  have hblk2 := r1.block l _ hrec2
                  simp only [BlockOK, hst2, RState.state, RState.pending] at hblk2
                  obtain ⟨o1, o2, fn2, D2, hobj2⟩ := hblk2
                  rw [hσ1] at hobj2
                  have hlt2 := (Array.getElem?_eq_some_iff.1 hobj2).1
                  refine ⟨_, run_beginRound hobj2 rfl, ?_⟩
                  obtain ⟨r2', p2'⟩ := rep_putB r1 hrec2 rfl ⟨cs2, on2, .loop ⟨r2.f, r2.ps, r2.asg, r2.body, .busy⟩⟩ rfl (r1.scope l _ hrec2).2 (w1.putObj (ρ.σ l) (.loop { state := .busy, pending := none, fn := fn2, tmps := (AV.denL ρ1 cs2).toArray, params := r2.ps, assign := r2.asg, body := r2.body, defers := D2 })) rfl rfl rfl (by simp) (fun k hk => World.putObj_heap_other (by rw [hσ1] at hk; exact hk))
                    fun _ _ => ⟨o1, o2, fn2, D2, by rw [hσ1]; exact World.putObj_heap_same hlt2⟩
                  have hfe : fenceOf ρ1 rs2.fr = fenceR (some (ρ.σ l)) := by
                    unfold fenceOf
                    rw [a3.2, ← hσ1]; rfl
                  have hbod := b4 ρ1 _ (roundPost C.P (ρ.σ l) fun
                      | .returned v, w'' => K (a.put p.dst v) w''
                      | .panicked chain, w'' => Q (.panic chain) a w''
                      | .outgrown, _ => LetsOut Q) r2' (below_of_post r1 p2' hb1) (fun ρ3 w3 r3' p3' => ?_)
                  · rw [hfe] at hbod; exact hbod
                  have hlx2 : l < nx2 := Nat.lt_of_lt_of_le hlx a3.1
                  have hσ3 : ρ3.σ l = ρ.σ l := (p3'.σ_old l hlx2).trans hσ1
                  have hblk3 := r3'.block l _ hrec3
                  simp only [BlockOK, hst3, RState.state, RState.pending] at hblk3
                  obtain ⟨q1, q2, fn3, D3, hobj3⟩ := hblk3
                  rw [hσ3] at hobj3
                  have hlt3 := (Array.getElem?_eq_some_iff.1 hobj3).1
                  have fin : ∀ (jump : Option Code), j.state = (if jump.isNone then .ready else .done) → j.pending = jump → b = jump.isNone →
                      ∃ v w', (Instr.endRound (ρ.σ l) jump).run C.P w3 = .ok v w' ∧ K (a.put p.dst v) w' := fun jump h1 h2 h3 => by
                    refine ⟨_, _, run_endRound jump hobj3, ?_⟩
                    obtain ⟨r4, p4⟩ := rep_putB r3' hrec3 rfl ⟨cs3, on3, .loop ⟨r3.f, r3.ps, r3.asg, r3.body, j⟩⟩ rfl (r3'.scope l _ hrec3).2 (w3.putObj (ρ.σ l) (.loop { state := if jump.isNone then .ready else .done, pending := jump, fn := fn3, tmps := (AV.denL ρ3 cs3).toArray, params := r3.ps, assign := r3.asg, body := r3.body, defers := D3 })) rfl rfl rfl (by simp) (fun k hk => World.putObj_heap_other (by rw [hσ3] at hk; exact hk))
                      fun _ _ => ⟨q1, q2, fn3, D3, by rw [hσ3, h1, h2]; exact World.putObj_heap_same hlt3⟩
                    have pp := ((p1.trans hr r1 p2').trans hr r2' p3').trans hr r3' p4
                    have := hE ρ3 _ r4 (Post.low_of hr pp fun n h1 h2 => by simp only [Nat.lt_min] at h1 ⊢; omega)
                    subst h3
                    simp only [AV.den] at this
                    exact this
                  cases x3 with
                  | normal =>
                    simp only [jumpOf, Option.some.injEq, Prod.mk.injEq] at hjump
                    obtain ⟨rfl, rfl⟩ := hjump
                    exact fin none rfl rfl rfl
                  | ret =>
                    simp only [jumpOf, Option.some.injEq, Prod.mk.injEq] at hjump
                    obtain ⟨rfl, rfl⟩ := hjump
                    exact fin (some .ret) rfl rfl rfl
                  | exit id =>
                    simp only [jumpOf, Option.some.injEq, Prod.mk.injEq] at hjump
                    obtain ⟨rfl, rfl⟩ := hjump
                    exact fin (some (.exit id)) rfl rfl rfl
                  | val v => simp [jumpOf] at hjump
                · cases h
              · cases h
            · cases h
          · cases h
        · cases h
      · cases h
    · cases h
  · cases h
end
end Go.Ev
