/- The sequence of lines: three phasors in new variables, compared by a closure. -/
import Derived.Test.YtngdhmliohjigaaDoorSQ1
import Derived.Test.YtngdhmliohjigaaDoorAN
import Derived.Test.YtngdhmliohjigaaDoorSQ3
namespace Go.Proofs.YtngdhmliohjigaaDoor
open Go.RowKit
/-- A new variable of two numbers. -/
structure NBox (w W : World) (b : Nat) : Prop where
  lo : w.heap.size < b
  hi : b < W.heap.size
  f0 : W.frozen? ⟨b, 0, none⟩ = false
  f1 : W.frozen? ⟨b, 1, none⟩ = false
  c0 : ∃ c, W.cell? ⟨b, 0, none⟩ = some c
  c1 : ∃ c, W.cell? ⟨b, 1, none⟩ = some c
def Holds (W : World) (b : Nat) (p q : Int) : Prop := W.cell? ⟨b, 0, none⟩ = some (.int .i64 p) ∧ W.cell? ⟨b, 1, none⟩ = some (.int .i64 q)
theorem NBox.below {w W W' : World} {b : Nat} (h : NBox w W b) (hb : Below W.heap.size W W') : NBox w W' b :=
  ⟨h.lo, Nat.lt_of_lt_of_le h.hi hb.size, keepF hb h.hi h.f0, keepF hb h.hi h.f1, h.c0.imp fun _ e => keep1 hb e, h.c1.imp fun _ e => keep1 hb e⟩
theorem Holds.below {W W' : World} {b : Nat} {p q : Int} (h : Holds W b p q) (hb : Below W.heap.size W W') : Holds W' b p q := ⟨keep1 hb h.1, keep1 hb h.2⟩
theorem belowA (W : World) (o : Obj) : Below W.heap.size W (W.alloc o) := (Below.refl _ _).alloc (Nat.le_refl _) _
theorem NBox.new {w W : World} (h : w.heap.size < W.heap.size) : NBox w (W.alloc (.cells #[.int .i64 0, .int .i64 0] 142)) W.heap.size :=
  ⟨h, by simp, by go_simp, by go_simp, ⟨.int .i64 0, by go_simp⟩, ⟨.int .i64 0, by go_simp⟩⟩
theorem NBox.set {w W : World} {b c o : Nat} {x : Value} (h : NBox w W b) : NBox w (W.setCell ⟨c, o, none⟩ x) b := by
  have cs : ∀ (o' : Nat), (∃ u, W.cell? ⟨b, o', none⟩ = some u) → ∃ u, (W.setCell ⟨c, o, none⟩ x).cell? ⟨b, o', none⟩ = some u := fun o' ⟨u, hu⟩ => by
    by_cases e : b ≠ c ∨ o' ≠ o
    · exact ⟨u, seto x e hu⟩
    · have e1 : b = c := by omega
      have e2 : o' = o := by omega
      subst e1 e2
      exact ⟨x, setc x hu⟩
  exact ⟨h.lo, by simpa using h.hi, by rw [World.frozen?_setCell]; exact h.f0, by rw [World.frozen?_setCell]; exact h.f1, cs 0 h.c0, cs 1 h.c1⟩
theorem Holds.set {W : World} {b c : Nat} {p q : Int} (o : Nat) (x : Value) (h : Holds W b p q) (hne : b ≠ c) : Holds (W.setCell ⟨c, o, none⟩ x) b p q := ⟨seto x (Or.inl hne) h.1, seto x (Or.inl hne) h.2⟩
theorem Holds.put {W : World} {b : Nat} (p q : Int) (c0 : ∃ c, W.cell? ⟨b, 0, none⟩ = some c) (c1 : ∃ c, W.cell? ⟨b, 1, none⟩ = some c) : Holds ((W.setCell ⟨b, 0, none⟩ (.int .i64 p)).setCell ⟨b, 1, none⟩ (.int .i64 q)) b p q := by
  obtain ⟨u, hu⟩ := c0
  obtain ⟨v, hv⟩ := c1
  exact ⟨seto _ (Or.inr (by decide)) (setc _ hu), setc _ (seto _ (Or.inr (by decide)) hv)⟩
theorem upTo_ne {f : Nat → Bool} {i j : Nat} (h : upTo f i j = true) (hne : j ≠ i) : f j = true := by
  unfold upTo at h
  simpa [hne] using h
theorem upTo_old {f : Nat → Bool} {i j : Nat} (h : f j = true) : upTo f i j = true := by
  unfold upTo
  rw [h]
  rfl
/-- What holds in the drawn region, by what has come up. -/
def SqI (x0 x1 x2 x3 x4 x5 x6 x7 x8 : Int) (w : World) (f : Nat → Bool) (a : Act) (W : World) : Prop := ∃ v4 v5 v6 v8 v9 v10 v11 v12 v13 : Value, a = ⟨#[(.agg #[.int .i64 x0, .int .i64 x1, .int .i64 x2, .int .i64 x3, .int .i64 x4, .int .i64 x5, .int .i64 x6, .int .i64 x7, .int .i64 x8]), .pointer (some ⟨w.heap.size, 0, none⟩), .int .i64 0, .int .i64 0, v4, v5, v6, undef, v8, v9, v10, v11, v12, v13, undef, undef, undef, undef, undef, undef, undef, undef, undef, undef, undef, undef], []⟩ ∧
  (f 0 = true → v8 = .agg #[.int .i64 x0, .int .i64 x1, .int .i64 x2, .int .i64 x3, .int .i64 x4, .int .i64 x5, .int .i64 x6, .int .i64 x7, .int .i64 x8]) ∧ 
  (f 2 = true → v10 = .agg #[.int .i64 x0, .int .i64 x1, .int .i64 x2, .int .i64 x3, .int .i64 x4, .int .i64 x5, .int .i64 x6, .int .i64 x7, .int .i64 x8]) ∧ 
  (f 4 = true → v12 = .agg #[.int .i64 x0, .int .i64 x1, .int .i64 x2, .int .i64 x3, .int .i64 x4, .int .i64 x5, .int .i64 x6, .int .i64 x7, .int .i64 x8]) ∧ 
  (f 1 = true → v9 = .agg #[.int .i64 (x0 - x1), .int .i64 (x2 - x1)]) ∧ 
  (f 3 = true → v11 = .agg #[.int .i64 (x3 - x4), .int .i64 (x5 - x4)]) ∧ 
  (f 5 = true → v13 = .agg #[.int .i64 (x6 - x7), .int .i64 (x8 - x7)]) ∧ 
  (f 6 = true → ∃ b, v4 = .pointer (some ⟨b, 0, none⟩) ∧ NBox w W b) ∧ 
  (f 7 = true → ∃ b, v5 = .pointer (some ⟨b, 0, none⟩) ∧ NBox w W b) ∧ 
  (f 8 = true → ∃ b, v6 = .pointer (some ⟨b, 0, none⟩) ∧ NBox w W b) ∧ 
  (f 9 = true → f 6 = true ∧ ∀ b, v4 = .pointer (some ⟨b, 0, none⟩) → Holds W b (x0 - x1) (x2 - x1)) ∧ 
  (f 10 = true → f 7 = true ∧ ∀ b, v5 = .pointer (some ⟨b, 0, none⟩) → Holds W b (x3 - x4) (x5 - x4)) ∧ 
  (f 11 = true → f 8 = true ∧ ∀ b, v6 = .pointer (some ⟨b, 0, none⟩) → Holds W b (x6 - x7) (x8 - x7)) ∧ 
  (f 6 = true → f 7 = true → v4 ≠ v5) ∧ 
  (f 6 = true → f 8 = true → v4 ≠ v6) ∧ 
  (f 7 = true → f 8 = true → v5 ≠ v6)
def SqS (x0 x1 x2 x3 x4 x5 x6 x7 x8 : Int) (w W : World) : Prop := Below w.heap.size w W ∧ w.heap.size < W.heap.size ∧ W.cell? ⟨w.heap.size, 0, none⟩ = some (.int .i64 x0) ∧ W.cell? ⟨w.heap.size, 1, none⟩ = some (.int .i64 x1) ∧ W.cell? ⟨w.heap.size, 2, none⟩ = some (.int .i64 x2) ∧ W.cell? ⟨w.heap.size, 3, none⟩ = some (.int .i64 x3) ∧ W.cell? ⟨w.heap.size, 4, none⟩ = some (.int .i64 x4) ∧ W.cell? ⟨w.heap.size, 5, none⟩ = some (.int .i64 x5) ∧ W.cell? ⟨w.heap.size, 6, none⟩ = some (.int .i64 x6) ∧ W.cell? ⟨w.heap.size, 7, none⟩ = some (.int .i64 x7) ∧ W.cell? ⟨w.heap.size, 8, none⟩ = some (.int .i64 x8)
theorem SqS.below {x0 x1 x2 x3 x4 x5 x6 x7 x8 : Int} {w W W' : World} (h : SqS x0 x1 x2 x3 x4 x5 x6 x7 x8 w W) (hb : Below W.heap.size W W') : SqS x0 x1 x2 x3 x4 x5 x6 x7 x8 w W' := by
  obtain ⟨a, z, c0, c1, c2, c3, c4, c5, c6, c7, c8⟩ := h
  exact ⟨belowT a hb, Nat.lt_of_lt_of_le z hb.size, keep1 hb c0, keep1 hb c1, keep1 hb c2, keep1 hb c3, keep1 hb c4, keep1 hb c5, keep1 hb c6, keep1 hb c7, keep1 hb c8⟩
theorem SqS.set {x0 x1 x2 x3 x4 x5 x6 x7 x8 : Int} {w W : World} {b o : Nat} (v : Value) (h : SqS x0 x1 x2 x3 x4 x5 x6 x7 x8 w W) (hb : w.heap.size < b) : SqS x0 x1 x2 x3 x4 x5 x6 x7 x8 w (W.setCell ⟨b, o, none⟩ v) := by
  obtain ⟨a, z, c0, c1, c2, c3, c4, c5, c6, c7, c8⟩ := h
  exact ⟨by go_grown, by simpa using z, seto v (Or.inl (by omega)) c0, seto v (Or.inl (by omega)) c1, seto v (Or.inl (by omega)) c2, seto v (Or.inl (by omega)) c3, seto v (Or.inl (by omega)) c4, seto v (Or.inl (by omega)) c5, seto v (Or.inl (by omega)) c6, seto v (Or.inl (by omega)) c7, seto v (Or.inl (by omega)) c8⟩
theorem new_ne {w W : World} {v : Value} (h : ∃ b, v = .pointer (some ⟨b, 0, none⟩) ∧ NBox w W b) (e : v = .pointer (some ⟨W.heap.size, 0, none⟩)) : False := by
  obtain ⟨b, rfl, hn⟩ := h
  have := hn.hi
  simp at e
theorem ptr_inj {b c : Nat} (e : Value.pointer (some ⟨b, 0, none⟩) = Value.pointer (some ⟨c, 0, none⟩)) : b = c := by simpa using e
/-- The sequence of three phasors, and its error. -/
def seqV (a0 a1 b0 b1 c0 c1 : Int) : Int := if (a0 == 0 && a1 == 0) then 0 else if foB a0 a1 b0 b1 c0 c1 (-1) (-1) then 1 else if foB a0 a1 b0 b1 c0 c1 0 1 then -1 else 0
def seqE (a0 a1 b0 b1 c0 c1 : Int) : Int := if (a0 == 0 && a1 == 0) then 11 else if foB a0 a1 b0 b1 c0 c1 (-1) (-1) then 0 else if foB a0 a1 b0 b1 c0 c1 0 1 then 0 else 12
set_option maxRecDepth 100000 in
set_option maxHeartbeats 8000000 in
theorem sequence_any (x0 x1 x2 x3 x4 x5 x6 x7 x8 : Int) (w : World) (hL : (Lim x0 ∧ Lim x1 ∧ Lim x2) ∧ (Lim x3 ∧ Lim x4 ∧ Lim x5) ∧ (Lim x6 ∧ Lim x7 ∧ Lim x8)) (ht : Tabs w) :
    Calls Tryd.prog 88 #[.agg #[.int .i64 x0, .int .i64 x1, .int .i64 x2, .int .i64 x3, .int .i64 x4, .int .i64 x5, .int .i64 x6, .int .i64 x7, .int .i64 x8]] w fun e w' => e = .returned (.tuple #[.int .i64 (seqV (x0 - x1) (x2 - x1) (x3 - x4) (x5 - x4) (x6 - x7) (x8 - x7)), .int .i64 (seqE (x0 - x1) (x2 - x1) (x3 - x4) (x5 - x4) (x6 - x7) (x8 - x7))]) ∧ Below w.heap.size w w' := by
  obtain ⟨sv, hsv⟩ : ∃ v, seqV (x0 - x1) (x2 - x1) (x3 - x4) (x5 - x4) (x6 - x7) (x8 - x7) = v := ⟨_, rfl⟩
  obtain ⟨se, hse⟩ : ∃ v, seqE (x0 - x1) (x2 - x1) (x3 - x4) (x5 - x4) (x6 - x7) (x8 - x7) = v := ⟨_, rfl⟩
  rw [hsv, hse]
  go_enter Tryd.func88, Tryd.ntmps88
  go_wp2_with fail
  refine wp_region_held_drew (S := SqS x0 x1 x2 x3 x4 x5 x6 x7 x8 w) (by kernel_rfl) ?hS (fun hH => ?_)
  case hS => exact ⟨by go_grown, by simp, by go_simp, by go_simp, by go_simp, by go_simp, by go_simp, by go_simp, by go_simp, by go_simp, by go_simp⟩
  refine anyH_inv (SqI x0 x1 x2 x3 x4 x5 x6 x7 x8 w) (by kernel_rfl) (by kernel_rfl) ?step ?fin _ _ _ _ (by kernel_rfl) (by decide +kernel) ?start hH
  case start =>
    exact ⟨undef, undef, undef, undef, undef, undef, undef, undef, undef, rfl, by simp, by simp, by simp, by simp, by simp, by simp, by simp, by simp, by simp, by simp, by simp, by simp, by simp, by simp, by simp⟩
  case step =>
    intro i o ho f a W hfi hdep hI hS K hK
    have hi : i < 12 := (Array.getElem?_eq_some_iff.1 ho).1
    have hcase : i = 0 ∨ i = 1 ∨ i = 2 ∨ i = 3 ∨ i = 4 ∨ i = 5 ∨ i = 6 ∨ i = 7 ∨ i = 8 ∨ i = 9 ∨ i = 10 ∨ i = 11 := by omega
    rcases hcase with rfl | rfl | rfl | rfl | rfl | rfl | rfl | rfl | rfl | rfl | rfl | rfl
    · obtain rfl := Option.some.inj ho
      obtain ⟨v4, v5, v6, v8, v9, v10, v11, v12, v13, rfl, c0, c2, c4, c1, c3, c5, c6, c7, c8, c9, c10, c11, d01, d02, d12⟩ := hI
      have hS' := hS
      obtain ⟨qa, qz, q0, q1, q2, q3, q4, q5, q6, q7, q8⟩ := hS
      go_simp
      exact hK.out _ _ hS' ⟨v4, v5, v6, _, v9, v10, v11, v12, v13, rfl, fun _ => rfl, fun h => c2 (upTo_ne h (by decide)), fun h => c4 (upTo_ne h (by decide)), fun h => c1 (upTo_ne h (by decide)), fun h => c3 (upTo_ne h (by decide)), fun h => c5 (upTo_ne h (by decide)), fun h => (c6 (upTo_ne h (by decide))).imp fun _ e => ⟨e.1, e.2⟩, fun h => (c7 (upTo_ne h (by decide))).imp fun _ e => ⟨e.1, e.2⟩, fun h => (c8 (upTo_ne h (by decide))).imp fun _ e => ⟨e.1, e.2⟩, fun h => ⟨upTo_old (c9 (upTo_ne h (by decide))).1, fun b e => ((c9 (upTo_ne h (by decide))).2 b e)⟩, fun h => ⟨upTo_old (c10 (upTo_ne h (by decide))).1, fun b e => ((c10 (upTo_ne h (by decide))).2 b e)⟩, fun h => ⟨upTo_old (c11 (upTo_ne h (by decide))).1, fun b e => ((c11 (upTo_ne h (by decide))).2 b e)⟩, fun h h' => d01 (upTo_ne h (by decide)) (upTo_ne h' (by decide)), fun h h' => d02 (upTo_ne h (by decide)) (upTo_ne h' (by decide)), fun h h' => d12 (upTo_ne h (by decide)) (upTo_ne h' (by decide))⟩
    · obtain rfl := Option.some.inj ho
      have hd : ∀ j, j = 0 → f j = true := fun j hj => by
        rcases hj with rfl
        exact hdep 0 (by kernel_rfl)
      obtain ⟨v4, v5, v6, v8, v9, v10, v11, v12, v13, rfl, c0, c2, c4, c1, c3, c5, c6, c7, c8, c9, c10, c11, d01, d02, d12⟩ := hI
      obtain rfl := c0 (hd 0 (by decide))
      go_simp
      refine (phasor0_t x0 x1 x2 x3 x4 x5 x6 x7 x8 W hL.1 (ht.below hS.1)).mono ?_
      rintro e w1 ⟨rfl, hb1⟩
      exact hK.out _ _ (hS.below hb1) ⟨v4, v5, v6, _, _, v10, v11, v12, v13, rfl, fun h => c0 (upTo_ne h (by decide)), fun h => c2 (upTo_ne h (by decide)), fun h => c4 (upTo_ne h (by decide)), fun _ => rfl, fun h => c3 (upTo_ne h (by decide)), fun h => c5 (upTo_ne h (by decide)), fun h => (c6 (upTo_ne h (by decide))).imp fun _ e => ⟨e.1, e.2.below hb1⟩, fun h => (c7 (upTo_ne h (by decide))).imp fun _ e => ⟨e.1, e.2.below hb1⟩, fun h => (c8 (upTo_ne h (by decide))).imp fun _ e => ⟨e.1, e.2.below hb1⟩, fun h => ⟨upTo_old (c9 (upTo_ne h (by decide))).1, fun b e => ((c9 (upTo_ne h (by decide))).2 b e).below hb1⟩, fun h => ⟨upTo_old (c10 (upTo_ne h (by decide))).1, fun b e => ((c10 (upTo_ne h (by decide))).2 b e).below hb1⟩, fun h => ⟨upTo_old (c11 (upTo_ne h (by decide))).1, fun b e => ((c11 (upTo_ne h (by decide))).2 b e).below hb1⟩, fun h h' => d01 (upTo_ne h (by decide)) (upTo_ne h' (by decide)), fun h h' => d02 (upTo_ne h (by decide)) (upTo_ne h' (by decide)), fun h h' => d12 (upTo_ne h (by decide)) (upTo_ne h' (by decide))⟩
    · obtain rfl := Option.some.inj ho
      obtain ⟨v4, v5, v6, v8, v9, v10, v11, v12, v13, rfl, c0, c2, c4, c1, c3, c5, c6, c7, c8, c9, c10, c11, d01, d02, d12⟩ := hI
      have hS' := hS
      obtain ⟨qa, qz, q0, q1, q2, q3, q4, q5, q6, q7, q8⟩ := hS
      go_simp
      exact hK.out _ _ hS' ⟨v4, v5, v6, v8, v9, _, v11, v12, v13, rfl, fun h => c0 (upTo_ne h (by decide)), fun _ => rfl, fun h => c4 (upTo_ne h (by decide)), fun h => c1 (upTo_ne h (by decide)), fun h => c3 (upTo_ne h (by decide)), fun h => c5 (upTo_ne h (by decide)), fun h => (c6 (upTo_ne h (by decide))).imp fun _ e => ⟨e.1, e.2⟩, fun h => (c7 (upTo_ne h (by decide))).imp fun _ e => ⟨e.1, e.2⟩, fun h => (c8 (upTo_ne h (by decide))).imp fun _ e => ⟨e.1, e.2⟩, fun h => ⟨upTo_old (c9 (upTo_ne h (by decide))).1, fun b e => ((c9 (upTo_ne h (by decide))).2 b e)⟩, fun h => ⟨upTo_old (c10 (upTo_ne h (by decide))).1, fun b e => ((c10 (upTo_ne h (by decide))).2 b e)⟩, fun h => ⟨upTo_old (c11 (upTo_ne h (by decide))).1, fun b e => ((c11 (upTo_ne h (by decide))).2 b e)⟩, fun h h' => d01 (upTo_ne h (by decide)) (upTo_ne h' (by decide)), fun h h' => d02 (upTo_ne h (by decide)) (upTo_ne h' (by decide)), fun h h' => d12 (upTo_ne h (by decide)) (upTo_ne h' (by decide))⟩
    · obtain rfl := Option.some.inj ho
      have hd : ∀ j, j = 2 → f j = true := fun j hj => by
        rcases hj with rfl
        exact hdep 2 (by kernel_rfl)
      obtain ⟨v4, v5, v6, v8, v9, v10, v11, v12, v13, rfl, c0, c2, c4, c1, c3, c5, c6, c7, c8, c9, c10, c11, d01, d02, d12⟩ := hI
      obtain rfl := c2 (hd 2 (by decide))
      go_simp
      refine (phasor1_t x0 x1 x2 x3 x4 x5 x6 x7 x8 W hL.2.1 (ht.below hS.1)).mono ?_
      rintro e w1 ⟨rfl, hb1⟩
      exact hK.out _ _ (hS.below hb1) ⟨v4, v5, v6, v8, v9, _, _, v12, v13, rfl, fun h => c0 (upTo_ne h (by decide)), fun h => c2 (upTo_ne h (by decide)), fun h => c4 (upTo_ne h (by decide)), fun h => c1 (upTo_ne h (by decide)), fun _ => rfl, fun h => c5 (upTo_ne h (by decide)), fun h => (c6 (upTo_ne h (by decide))).imp fun _ e => ⟨e.1, e.2.below hb1⟩, fun h => (c7 (upTo_ne h (by decide))).imp fun _ e => ⟨e.1, e.2.below hb1⟩, fun h => (c8 (upTo_ne h (by decide))).imp fun _ e => ⟨e.1, e.2.below hb1⟩, fun h => ⟨upTo_old (c9 (upTo_ne h (by decide))).1, fun b e => ((c9 (upTo_ne h (by decide))).2 b e).below hb1⟩, fun h => ⟨upTo_old (c10 (upTo_ne h (by decide))).1, fun b e => ((c10 (upTo_ne h (by decide))).2 b e).below hb1⟩, fun h => ⟨upTo_old (c11 (upTo_ne h (by decide))).1, fun b e => ((c11 (upTo_ne h (by decide))).2 b e).below hb1⟩, fun h h' => d01 (upTo_ne h (by decide)) (upTo_ne h' (by decide)), fun h h' => d02 (upTo_ne h (by decide)) (upTo_ne h' (by decide)), fun h h' => d12 (upTo_ne h (by decide)) (upTo_ne h' (by decide))⟩
    · obtain rfl := Option.some.inj ho
      obtain ⟨v4, v5, v6, v8, v9, v10, v11, v12, v13, rfl, c0, c2, c4, c1, c3, c5, c6, c7, c8, c9, c10, c11, d01, d02, d12⟩ := hI
      have hS' := hS
      obtain ⟨qa, qz, q0, q1, q2, q3, q4, q5, q6, q7, q8⟩ := hS
      go_simp
      exact hK.out _ _ hS' ⟨v4, v5, v6, v8, v9, v10, v11, _, v13, rfl, fun h => c0 (upTo_ne h (by decide)), fun h => c2 (upTo_ne h (by decide)), fun _ => rfl, fun h => c1 (upTo_ne h (by decide)), fun h => c3 (upTo_ne h (by decide)), fun h => c5 (upTo_ne h (by decide)), fun h => (c6 (upTo_ne h (by decide))).imp fun _ e => ⟨e.1, e.2⟩, fun h => (c7 (upTo_ne h (by decide))).imp fun _ e => ⟨e.1, e.2⟩, fun h => (c8 (upTo_ne h (by decide))).imp fun _ e => ⟨e.1, e.2⟩, fun h => ⟨upTo_old (c9 (upTo_ne h (by decide))).1, fun b e => ((c9 (upTo_ne h (by decide))).2 b e)⟩, fun h => ⟨upTo_old (c10 (upTo_ne h (by decide))).1, fun b e => ((c10 (upTo_ne h (by decide))).2 b e)⟩, fun h => ⟨upTo_old (c11 (upTo_ne h (by decide))).1, fun b e => ((c11 (upTo_ne h (by decide))).2 b e)⟩, fun h h' => d01 (upTo_ne h (by decide)) (upTo_ne h' (by decide)), fun h h' => d02 (upTo_ne h (by decide)) (upTo_ne h' (by decide)), fun h h' => d12 (upTo_ne h (by decide)) (upTo_ne h' (by decide))⟩
    · obtain rfl := Option.some.inj ho
      have hd : ∀ j, j = 4 → f j = true := fun j hj => by
        rcases hj with rfl
        exact hdep 4 (by kernel_rfl)
      obtain ⟨v4, v5, v6, v8, v9, v10, v11, v12, v13, rfl, c0, c2, c4, c1, c3, c5, c6, c7, c8, c9, c10, c11, d01, d02, d12⟩ := hI
      obtain rfl := c4 (hd 4 (by decide))
      go_simp
      refine (phasor2_t x0 x1 x2 x3 x4 x5 x6 x7 x8 W hL.2.2 (ht.below hS.1)).mono ?_
      rintro e w1 ⟨rfl, hb1⟩
      exact hK.out _ _ (hS.below hb1) ⟨v4, v5, v6, v8, v9, v10, v11, _, _, rfl, fun h => c0 (upTo_ne h (by decide)), fun h => c2 (upTo_ne h (by decide)), fun h => c4 (upTo_ne h (by decide)), fun h => c1 (upTo_ne h (by decide)), fun h => c3 (upTo_ne h (by decide)), fun _ => rfl, fun h => (c6 (upTo_ne h (by decide))).imp fun _ e => ⟨e.1, e.2.below hb1⟩, fun h => (c7 (upTo_ne h (by decide))).imp fun _ e => ⟨e.1, e.2.below hb1⟩, fun h => (c8 (upTo_ne h (by decide))).imp fun _ e => ⟨e.1, e.2.below hb1⟩, fun h => ⟨upTo_old (c9 (upTo_ne h (by decide))).1, fun b e => ((c9 (upTo_ne h (by decide))).2 b e).below hb1⟩, fun h => ⟨upTo_old (c10 (upTo_ne h (by decide))).1, fun b e => ((c10 (upTo_ne h (by decide))).2 b e).below hb1⟩, fun h => ⟨upTo_old (c11 (upTo_ne h (by decide))).1, fun b e => ((c11 (upTo_ne h (by decide))).2 b e).below hb1⟩, fun h h' => d01 (upTo_ne h (by decide)) (upTo_ne h' (by decide)), fun h h' => d02 (upTo_ne h (by decide)) (upTo_ne h' (by decide)), fun h h' => d12 (upTo_ne h (by decide)) (upTo_ne h' (by decide))⟩
    · obtain rfl := Option.some.inj ho
      obtain ⟨v4, v5, v6, v8, v9, v10, v11, v12, v13, rfl, c0, c2, c4, c1, c3, c5, c6, c7, c8, c9, c10, c11, d01, d02, d12⟩ := hI
      go_simp
      exact hK.out _ _ (hS.below (belowA _ _)) ⟨_, v5, v6, v8, v9, v10, v11, v12, v13, rfl, fun h => c0 (upTo_ne h (by decide)), fun h => c2 (upTo_ne h (by decide)), fun h => c4 (upTo_ne h (by decide)), fun h => c1 (upTo_ne h (by decide)), fun h => c3 (upTo_ne h (by decide)), fun h => c5 (upTo_ne h (by decide)), fun _ => ⟨_, rfl, NBox.new hS.2.1⟩, fun h => (c7 (upTo_ne h (by decide))).imp fun _ e => ⟨e.1, e.2.below (belowA _ _)⟩, fun h => (c8 (upTo_ne h (by decide))).imp fun _ e => ⟨e.1, e.2.below (belowA _ _)⟩, fun h => absurd (c9 (upTo_ne h (by decide))).1 (by rw [hfi]; decide), fun h => ⟨upTo_old (c10 (upTo_ne h (by decide))).1, fun b e => ((c10 (upTo_ne h (by decide))).2 b e).below (belowA _ _)⟩, fun h => ⟨upTo_old (c11 (upTo_ne h (by decide))).1, fun b e => ((c11 (upTo_ne h (by decide))).2 b e).below (belowA _ _)⟩, fun _ h => fun e => new_ne (c7 (upTo_ne h (by decide))) e.symm, fun _ h => fun e => new_ne (c8 (upTo_ne h (by decide))) e.symm, fun h h' => d12 (upTo_ne h (by decide)) (upTo_ne h' (by decide))⟩
    · obtain rfl := Option.some.inj ho
      obtain ⟨v4, v5, v6, v8, v9, v10, v11, v12, v13, rfl, c0, c2, c4, c1, c3, c5, c6, c7, c8, c9, c10, c11, d01, d02, d12⟩ := hI
      go_simp
      exact hK.out _ _ (hS.below (belowA _ _)) ⟨v4, _, v6, v8, v9, v10, v11, v12, v13, rfl, fun h => c0 (upTo_ne h (by decide)), fun h => c2 (upTo_ne h (by decide)), fun h => c4 (upTo_ne h (by decide)), fun h => c1 (upTo_ne h (by decide)), fun h => c3 (upTo_ne h (by decide)), fun h => c5 (upTo_ne h (by decide)), fun h => (c6 (upTo_ne h (by decide))).imp fun _ e => ⟨e.1, e.2.below (belowA _ _)⟩, fun _ => ⟨_, rfl, NBox.new hS.2.1⟩, fun h => (c8 (upTo_ne h (by decide))).imp fun _ e => ⟨e.1, e.2.below (belowA _ _)⟩, fun h => ⟨upTo_old (c9 (upTo_ne h (by decide))).1, fun b e => ((c9 (upTo_ne h (by decide))).2 b e).below (belowA _ _)⟩, fun h => absurd (c10 (upTo_ne h (by decide))).1 (by rw [hfi]; decide), fun h => ⟨upTo_old (c11 (upTo_ne h (by decide))).1, fun b e => ((c11 (upTo_ne h (by decide))).2 b e).below (belowA _ _)⟩, fun h _ => fun e => new_ne (c6 (upTo_ne h (by decide))) e, fun h h' => d02 (upTo_ne h (by decide)) (upTo_ne h' (by decide)), fun _ h => fun e => new_ne (c8 (upTo_ne h (by decide))) e.symm⟩
    · obtain rfl := Option.some.inj ho
      obtain ⟨v4, v5, v6, v8, v9, v10, v11, v12, v13, rfl, c0, c2, c4, c1, c3, c5, c6, c7, c8, c9, c10, c11, d01, d02, d12⟩ := hI
      go_simp
      exact hK.out _ _ (hS.below (belowA _ _)) ⟨v4, v5, _, v8, v9, v10, v11, v12, v13, rfl, fun h => c0 (upTo_ne h (by decide)), fun h => c2 (upTo_ne h (by decide)), fun h => c4 (upTo_ne h (by decide)), fun h => c1 (upTo_ne h (by decide)), fun h => c3 (upTo_ne h (by decide)), fun h => c5 (upTo_ne h (by decide)), fun h => (c6 (upTo_ne h (by decide))).imp fun _ e => ⟨e.1, e.2.below (belowA _ _)⟩, fun h => (c7 (upTo_ne h (by decide))).imp fun _ e => ⟨e.1, e.2.below (belowA _ _)⟩, fun _ => ⟨_, rfl, NBox.new hS.2.1⟩, fun h => ⟨upTo_old (c9 (upTo_ne h (by decide))).1, fun b e => ((c9 (upTo_ne h (by decide))).2 b e).below (belowA _ _)⟩, fun h => ⟨upTo_old (c10 (upTo_ne h (by decide))).1, fun b e => ((c10 (upTo_ne h (by decide))).2 b e).below (belowA _ _)⟩, fun h => absurd (c11 (upTo_ne h (by decide))).1 (by rw [hfi]; decide), fun h h' => d01 (upTo_ne h (by decide)) (upTo_ne h' (by decide)), fun h _ => fun e => new_ne (c6 (upTo_ne h (by decide))) e, fun h _ => fun e => new_ne (c7 (upTo_ne h (by decide))) e⟩
    · obtain rfl := Option.some.inj ho
      have hd : ∀ j, j = 1 ∨ j = 6 ∨ j = 7 ∨ j = 8 → f j = true := fun j hj => by
        rcases hj with rfl | rfl | rfl | rfl
        · exact hdep 1 (by kernel_rfl)
        · exact hdep 6 (by kernel_rfl)
        · exact hdep 7 (by kernel_rfl)
        · exact hdep 8 (by kernel_rfl)
      obtain ⟨v4, v5, v6, v8, v9, v10, v11, v12, v13, rfl, c0, c2, c4, c1, c3, c5, c6, c7, c8, c9, c10, c11, d01, d02, d12⟩ := hI
      obtain ⟨b0, rfl, n0⟩ := c6 (hd 6 (by decide))
      obtain ⟨b1, rfl, n1⟩ := c7 (hd 7 (by decide))
      obtain ⟨b2, rfl, n2⟩ := c8 (hd 8 (by decide))
      obtain rfl := c1 (hd 1 (by decide))
      have g0 := n0.f0
      have g1 := n0.f1
      obtain ⟨u0, e0⟩ := n0.c0
      obtain ⟨u1, e1⟩ := n0.c1
      go_simp
      exact hK.out _ _ ((hS.set _ n0.lo).set _ n0.lo) ⟨_, _, _, v8, _, v10, v11, v12, v13, rfl, fun h => c0 (upTo_ne h (by decide)), fun h => c2 (upTo_ne h (by decide)), fun h => c4 (upTo_ne h (by decide)), fun h => c1 (upTo_ne h (by decide)), fun h => c3 (upTo_ne h (by decide)), fun h => c5 (upTo_ne h (by decide)), fun _ => ⟨b0, rfl, (n0.set).set⟩, fun _ => ⟨b1, rfl, (n1.set).set⟩, fun _ => ⟨b2, rfl, (n2.set).set⟩, fun _ => ⟨upTo_old (hd 6 (by decide)), fun b e => by obtain rfl := ptr_inj e; exact Holds.put _ _ n0.c0 n0.c1⟩, fun h => ⟨upTo_old (hd 7 (by decide)), fun b e => by obtain rfl := ptr_inj e; exact (((c10 (upTo_ne h (by decide))).2 _ rfl).set 0 _ (fun e => d01 (hd 6 (by decide)) (hd 7 (by decide)) (by rw [e]))).set 1 _ (fun e => d01 (hd 6 (by decide)) (hd 7 (by decide)) (by rw [e]))⟩, fun h => ⟨upTo_old (hd 8 (by decide)), fun b e => by obtain rfl := ptr_inj e; exact (((c11 (upTo_ne h (by decide))).2 _ rfl).set 0 _ (fun e => d02 (hd 6 (by decide)) (hd 8 (by decide)) (by rw [e]))).set 1 _ (fun e => d02 (hd 6 (by decide)) (hd 8 (by decide)) (by rw [e]))⟩, fun _ _ => d01 (hd 6 (by decide)) (hd 7 (by decide)), fun _ _ => d02 (hd 6 (by decide)) (hd 8 (by decide)), fun _ _ => d12 (hd 7 (by decide)) (hd 8 (by decide))⟩
    · obtain rfl := Option.some.inj ho
      have hd : ∀ j, j = 3 ∨ j = 6 ∨ j = 7 ∨ j = 8 → f j = true := fun j hj => by
        rcases hj with rfl | rfl | rfl | rfl
        · exact hdep 3 (by kernel_rfl)
        · exact hdep 6 (by kernel_rfl)
        · exact hdep 7 (by kernel_rfl)
        · exact hdep 8 (by kernel_rfl)
      obtain ⟨v4, v5, v6, v8, v9, v10, v11, v12, v13, rfl, c0, c2, c4, c1, c3, c5, c6, c7, c8, c9, c10, c11, d01, d02, d12⟩ := hI
      obtain ⟨b0, rfl, n0⟩ := c6 (hd 6 (by decide))
      obtain ⟨b1, rfl, n1⟩ := c7 (hd 7 (by decide))
      obtain ⟨b2, rfl, n2⟩ := c8 (hd 8 (by decide))
      obtain rfl := c3 (hd 3 (by decide))
      have g0 := n1.f0
      have g1 := n1.f1
      obtain ⟨u0, e0⟩ := n1.c0
      obtain ⟨u1, e1⟩ := n1.c1
      go_simp
      exact hK.out _ _ ((hS.set _ n1.lo).set _ n1.lo) ⟨_, _, _, v8, v9, v10, _, v12, v13, rfl, fun h => c0 (upTo_ne h (by decide)), fun h => c2 (upTo_ne h (by decide)), fun h => c4 (upTo_ne h (by decide)), fun h => c1 (upTo_ne h (by decide)), fun h => c3 (upTo_ne h (by decide)), fun h => c5 (upTo_ne h (by decide)), fun _ => ⟨b0, rfl, (n0.set).set⟩, fun _ => ⟨b1, rfl, (n1.set).set⟩, fun _ => ⟨b2, rfl, (n2.set).set⟩, fun h => ⟨upTo_old (hd 6 (by decide)), fun b e => by obtain rfl := ptr_inj e; exact (((c9 (upTo_ne h (by decide))).2 _ rfl).set 0 _ (fun e => d01 (hd 6 (by decide)) (hd 7 (by decide)) (by rw [e]))).set 1 _ (fun e => d01 (hd 6 (by decide)) (hd 7 (by decide)) (by rw [e]))⟩, fun _ => ⟨upTo_old (hd 7 (by decide)), fun b e => by obtain rfl := ptr_inj e; exact Holds.put _ _ n1.c0 n1.c1⟩, fun h => ⟨upTo_old (hd 8 (by decide)), fun b e => by obtain rfl := ptr_inj e; exact (((c11 (upTo_ne h (by decide))).2 _ rfl).set 0 _ (fun e => d12 (hd 7 (by decide)) (hd 8 (by decide)) (by rw [e]))).set 1 _ (fun e => d12 (hd 7 (by decide)) (hd 8 (by decide)) (by rw [e]))⟩, fun _ _ => d01 (hd 6 (by decide)) (hd 7 (by decide)), fun _ _ => d02 (hd 6 (by decide)) (hd 8 (by decide)), fun _ _ => d12 (hd 7 (by decide)) (hd 8 (by decide))⟩
    · obtain rfl := Option.some.inj ho
      have hd : ∀ j, j = 5 ∨ j = 6 ∨ j = 7 ∨ j = 8 → f j = true := fun j hj => by
        rcases hj with rfl | rfl | rfl | rfl
        · exact hdep 5 (by kernel_rfl)
        · exact hdep 6 (by kernel_rfl)
        · exact hdep 7 (by kernel_rfl)
        · exact hdep 8 (by kernel_rfl)
      obtain ⟨v4, v5, v6, v8, v9, v10, v11, v12, v13, rfl, c0, c2, c4, c1, c3, c5, c6, c7, c8, c9, c10, c11, d01, d02, d12⟩ := hI
      obtain ⟨b0, rfl, n0⟩ := c6 (hd 6 (by decide))
      obtain ⟨b1, rfl, n1⟩ := c7 (hd 7 (by decide))
      obtain ⟨b2, rfl, n2⟩ := c8 (hd 8 (by decide))
      obtain rfl := c5 (hd 5 (by decide))
      have g0 := n2.f0
      have g1 := n2.f1
      obtain ⟨u0, e0⟩ := n2.c0
      obtain ⟨u1, e1⟩ := n2.c1
      go_simp
      exact hK.out _ _ ((hS.set _ n2.lo).set _ n2.lo) ⟨_, _, _, v8, v9, v10, v11, v12, _, rfl, fun h => c0 (upTo_ne h (by decide)), fun h => c2 (upTo_ne h (by decide)), fun h => c4 (upTo_ne h (by decide)), fun h => c1 (upTo_ne h (by decide)), fun h => c3 (upTo_ne h (by decide)), fun h => c5 (upTo_ne h (by decide)), fun _ => ⟨b0, rfl, (n0.set).set⟩, fun _ => ⟨b1, rfl, (n1.set).set⟩, fun _ => ⟨b2, rfl, (n2.set).set⟩, fun h => ⟨upTo_old (hd 6 (by decide)), fun b e => by obtain rfl := ptr_inj e; exact (((c9 (upTo_ne h (by decide))).2 _ rfl).set 0 _ (fun e => d02 (hd 6 (by decide)) (hd 8 (by decide)) (by rw [e]))).set 1 _ (fun e => d02 (hd 6 (by decide)) (hd 8 (by decide)) (by rw [e]))⟩, fun h => ⟨upTo_old (hd 7 (by decide)), fun b e => by obtain rfl := ptr_inj e; exact (((c10 (upTo_ne h (by decide))).2 _ rfl).set 0 _ (fun e => d12 (hd 7 (by decide)) (hd 8 (by decide)) (by rw [e]))).set 1 _ (fun e => d12 (hd 7 (by decide)) (hd 8 (by decide)) (by rw [e]))⟩, fun _ => ⟨upTo_old (hd 8 (by decide)), fun b e => by obtain rfl := ptr_inj e; exact Holds.put _ _ n2.c0 n2.c1⟩, fun _ _ => d01 (hd 6 (by decide)) (hd 7 (by decide)), fun _ _ => d02 (hd 6 (by decide)) (hd 8 (by decide)), fun _ _ => d12 (hd 7 (by decide)) (hd 8 (by decide))⟩
  case fin =>
    intro f a W hall hI hS
    obtain ⟨v4, v5, v6, v8, v9, v10, v11, v12, v13, rfl, c0, c2, c4, c1, c3, c5, c6, c7, c8, c9, c10, c11, d01, d02, d12⟩ := hI
    obtain ⟨B0, rfl, n0⟩ := c6 (hall 6 (by decide))
    obtain ⟨B1, rfl, n1⟩ := c7 (hall 7 (by decide))
    obtain ⟨B2, rfl, n2⟩ := c8 (hall 8 (by decide))
    have g0 := (c9 (hall 9 (by decide))).2 _ rfl
    have g1 := (c10 (hall 10 (by decide))).2 _ rfl
    have g2 := (c11 (hall 11 (by decide))).2 _ rfl
    obtain rfl := c1 (hall 1 (by decide))
    obtain rfl := c3 (hall 3 (by decide))
    obtain rfl := c5 (hall 5 (by decide))
    obtain rfl := c0 (hall 0 (by decide))
    obtain rfl := c2 (hall 2 (by decide))
    obtain rfl := c4 (hall 4 (by decide))
    have qb := hS.1
    clear c0 c2 c4 c1 c3 c5 c6 c7 c8 c9 c10 c11 d01 d02 d12 hS hall n0 n1 n2
    obtain ⟨⟨⟨l0, l0'⟩, ⟨l1, l1'⟩, ⟨l2, l2'⟩⟩, ⟨⟨l3, l3'⟩, ⟨l4, l4'⟩, ⟨l5, l5'⟩⟩, ⟨⟨l6, l6'⟩, ⟨l7, l7'⟩, ⟨l8, l8'⟩⟩⟩ := hL
    have a0l : -20000 ≤ x0 - x1 := by omega
    have a0u : x0 - x1 ≤ 20000 := by omega
    have a1l : -20000 ≤ x2 - x1 := by omega
    have a1u : x2 - x1 ≤ 20000 := by omega
    have b0l : -20000 ≤ x3 - x4 := by omega
    have b0u : x3 - x4 ≤ 20000 := by omega
    have b1l : -20000 ≤ x5 - x4 := by omega
    have b1u : x5 - x4 ≤ 20000 := by omega
    have c0l : -20000 ≤ x6 - x7 := by omega
    have c0u : x6 - x7 ≤ 20000 := by omega
    have c1l : -20000 ≤ x8 - x7 := by omega
    have c1u : x8 - x7 ≤ 20000 := by omega
    generalize x0 - x1 = a0, x2 - x1 = a1, x3 - x4 = b0, x5 - x4 = b1, x6 - x7 = c0, x8 - x7 = c1 at *
    have K1 : Hid (∀ (w : World) (BA BB BC : Nat), w.cell? ⟨BB, 0, none⟩ = some (.int .i64 b0) → w.cell? ⟨BB, 1, none⟩ = some (.int .i64 b1) → w.cell? ⟨BA, 0, none⟩ = some (.int .i64 a0) → w.cell? ⟨BA, 1, none⟩ = some (.int .i64 a1) → w.cell? ⟨BC, 0, none⟩ = some (.int .i64 c0) → w.cell? ⟨BC, 1, none⟩ = some (.int .i64 c1) → Calls Tryd.prog 140 #[.agg #[.int .i64 (-1), .int .i64 (-1)], .pointer (some ⟨BB, 0, none⟩), .pointer (some ⟨BA, 0, none⟩), .pointer (some ⟨BC, 0, none⟩)] w fun e w' => e = .returned (.bool (foB a0 a1 b0 b1 c0 c1 (-1) (-1))) ∧ Below w.heap.size w w') := Lib.hid (fun w BA BB BC h1 h2 h3 h4 h5 h6 => follows_any a0 a1 b0 b1 c0 c1 (-1) (-1) BA BB BC w h1 h2 h3 h4 h5 h6 a0l a0u a1l a1u b0l b0u b1l b1u c0l c0u c1l c1u (by omega) (by omega) (by omega) (by omega))
    have K2 : Hid (∀ (w : World) (BA BB BC : Nat), w.cell? ⟨BB, 0, none⟩ = some (.int .i64 b0) → w.cell? ⟨BB, 1, none⟩ = some (.int .i64 b1) → w.cell? ⟨BA, 0, none⟩ = some (.int .i64 a0) → w.cell? ⟨BA, 1, none⟩ = some (.int .i64 a1) → w.cell? ⟨BC, 0, none⟩ = some (.int .i64 c0) → w.cell? ⟨BC, 1, none⟩ = some (.int .i64 c1) → Calls Tryd.prog 140 #[.agg #[.int .i64 0, .int .i64 1], .pointer (some ⟨BB, 0, none⟩), .pointer (some ⟨BA, 0, none⟩), .pointer (some ⟨BC, 0, none⟩)] w fun e w' => e = .returned (.bool (foB a0 a1 b0 b1 c0 c1 0 1)) ∧ Below w.heap.size w w') := Lib.hid (fun w BA BB BC h1 h2 h3 h4 h5 h6 => follows_any a0 a1 b0 b1 c0 c1 0 1 BA BB BC w h1 h2 h3 h4 h5 h6 a0l a0u a1l a1u b0l b0u b1l b1u c0l c0u c1l c1u (by omega) (by omega) (by omega) (by omega))
    have e0 : ∀ w, (binOp .eql 142 (.agg #[.int .i64 a0, .int .i64 a1]) (.agg #[.int .i64 0, .int .i64 0])).run Tryd.prog w = .ok (.bool (a0 == 0 && a1 == 0)) w := fun w => by
      rw [run_eql_struct, eq142]
      rfl
    have htW := ht.below qb
    have ll2 : W.cell? ⟨2, 2, none⟩ = some (.int .i64 (-1)) := htW.limb 2 _ rfl
    have ll3 : W.cell? ⟨2, 3, none⟩ = some (.int .i64 (-1)) := htW.limb 3 _ rfl
    have ll4 : W.cell? ⟨2, 4, none⟩ = some (.int .i64 0) := htW.limb 4 _ rfl
    have ll5 : W.cell? ⟨2, 5, none⟩ = some (.int .i64 1) := htW.limb 5 _ rfl
    obtain ⟨p0, p1⟩ := g0
    obtain ⟨p2, p3⟩ := g1
    obtain ⟨p4, p5⟩ := g2
    clear hH htW ht l0 l0' l1 l1' l2 l2' l3 l3' l4 l4' l5 l5' l6 l6' l7 l7' l8 l8' a0l a0u a1l a1u b0l b0u b1l b1u c0l c0u c1l c1u
    unfold seqV at hsv
    unfold seqE at hse
    generalize (a0 == 0 && a1 == 0) = z at *
    generalize hf1 : foB a0 a1 b0 b1 c0 c1 (-1) (-1) = f1 at *
    generalize hf2 : foB a0 a1 b0 b1 c0 c1 0 1 = f2 at *
    clear hf1 hf2
    have hmf : ∀ (fn : Fn) (first cap : Array Value) (w : World), (Instr.makeFunc fn first cap).run Tryd.prog w = .ok (.func fn first cap) w := fun _ _ _ _ => rfl
    cases z
    · cases f1
      · cases f2
        all_goals
          simp at hsv hse
          subst hsv hse
          go_wp2_with fail
          refine (K1.out W B0 B1 B2 p2 p3 p0 p1 p4 p5).mono ?_
          rintro e w1 ⟨rfl, hb1⟩
          have rb : Below w.heap.size w w1 := belowT qb hb1
          have r0 : w1.cell? ⟨B0, 0, none⟩ = some (.int .i64 a0) := keep1 hb1 (by assumption)
          have r1 : w1.cell? ⟨B0, 1, none⟩ = some (.int .i64 a1) := keep1 hb1 (by assumption)
          have r2 : w1.cell? ⟨B1, 0, none⟩ = some (.int .i64 b0) := keep1 hb1 (by assumption)
          have r3 : w1.cell? ⟨B1, 1, none⟩ = some (.int .i64 b1) := keep1 hb1 (by assumption)
          have r4 : w1.cell? ⟨B2, 0, none⟩ = some (.int .i64 c0) := keep1 hb1 (by assumption)
          have r5 : w1.cell? ⟨B2, 1, none⟩ = some (.int .i64 c1) := keep1 hb1 (by assumption)
          have rl2 : w1.cell? ⟨2, 2, none⟩ = some (.int .i64 (-1)) := keep1 hb1 (by assumption)
          have rl3 : w1.cell? ⟨2, 3, none⟩ = some (.int .i64 (-1)) := keep1 hb1 (by assumption)
          have rl4 : w1.cell? ⟨2, 4, none⟩ = some (.int .i64 0) := keep1 hb1 (by assumption)
          have rl5 : w1.cell? ⟨2, 5, none⟩ = some (.int .i64 1) := keep1 hb1 (by assumption)
          go_wp2_with fail
          refine (K2.out w1 B0 B1 B2 r2 r3 r0 r1 r4 r5).mono ?_
          rintro e w2 ⟨rfl, hb2⟩
          have sb : Below w.heap.size w w2 := belowT rb hb2
          go_wp2
          go_returns
          exact ⟨rfl, by assumption⟩
      · simp at hsv hse
        subst hsv hse
        go_wp2_with fail
        refine (K1.out W B0 B1 B2 p2 p3 p0 p1 p4 p5).mono ?_
        rintro e w1 ⟨rfl, hb1⟩
        have rb : Below w.heap.size w w1 := belowT qb hb1
        go_wp2
        go_returns
        exact ⟨rfl, by assumption⟩
    · simp at hsv hse
      subst hsv hse
      go_wp2
      go_returns
      exact ⟨rfl, by assumption⟩
end Go.Proofs.YtngdhmliohjigaaDoor
