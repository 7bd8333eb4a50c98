/- The reference's sequence of lines. -/
import Derived.Test.YtngdhmliohjigaaDoorSQ2
namespace Go.Proofs.YtngdhmliohjigaaDoor
open Go.RowKit
theorem eq42 (a b x y : Int) (w : World) : (Op.equalIn 10000 42 (.agg #[.int .i64 a, .int .i64 b]) (.agg #[.int .i64 x, .int .i64 y])).run Tryd.prog w = .ok (a == x && b == y) w := by
  have u3 := Tryd.underlying3
  have a3 := Tryd.isAgg3
  have z3 := Tryd.sizeOf3
  have hS : Tryd.prog.underlying 42 = some (.struct (Tryd.prog.fieldsOf 42)) := by kernel_rfl
  rw [show (10000 : Nat) = 9999 + 1 from rfl, run_equalIn_agg w 9999 42 _ _ hS (by kernel_rfl)]
  simp only [Program.fieldsOf, Tryd.underlying42]
  go_simp
  by_cases h1 : a = x <;> by_cases h2 : b = y <;> simp [h1, h2]
theorem eql42 (x y p q r s : Int) (w : World) : (binOp .eql 42 (.agg #[.int .i64 x, .int .i64 y]) (.agg #[.int .i64 (p * r - q * s), .int .i64 (p * s + q * r - q * s)])).run Tryd.prog w = .ok (.bool (fol1 p q x y r s)) w := by
  rw [run_eql_struct, eq42]
  rfl
theorem NBox.new42 {w W : World} (h : w.heap.size < W.heap.size) : NBox w (W.alloc (.cells #[.int .i64 0, .int .i64 0] 42)) W.heap.size :=
  ⟨h, by simp, by go_simp, by go_simp, ⟨.int .i64 0, by go_simp⟩, ⟨.int .i64 0, by go_simp⟩⟩
set_option maxHeartbeats 1000000 in
theorem rphasor_any (a b c : Int) (w : World) (ha : Lim a) (hb : Lim b) (hc : Lim c) :
    Calls Tryd.prog 32 #[.agg #[.int .i64 a, .int .i64 b, .int .i64 c]] w fun e w' => e = .returned (.agg #[.int .i64 (a - b), .int .i64 (c - b)]) ∧ Below w.heap.size w w' := by
  obtain ⟨a0, a1⟩ := ha
  obtain ⟨b0, b1⟩ := hb
  obtain ⟨c0, c1⟩ := hc
  go_enter Tryd.func32, Tryd.ntmps32
  go_wp2
  refine bodyPost_ret (by simp [results, Tryd.results32, go_sem]; try rfl) rfl ?_
  exact ⟨by rfl, by go_grown⟩
/-- What holds in the drawn region, by what has come up. -/
def RqI (x0 x1 x2 x3 x4 x5 x6 x7 x8 : Int) (w : World) (f : Nat → Bool) (a : Act) (W : World) : Prop := ∃ v4 v5 v6 v9 v10 v11 v12 v13 v14 v15 v16 v17 : Value, a = ⟨#[.agg #[.int .i64 x0, .int .i64 x1, .int .i64 x2, .int .i64 x3, .int .i64 x4, .int .i64 x5, .int .i64 x6, .int .i64 x7, .int .i64 x8], .pointer (some ⟨w.heap.size, 0, none⟩), .int .i64 0, .int .i64 0, v4, v5, v6, undef, undef, v9, v10, v11, v12, v13, v14, v15, v16, v17, undef, undef, undef, undef, undef, undef, undef, undef, undef, undef, undef, undef, undef, undef, undef, undef, undef, undef, undef, undef, undef, undef, undef, undef, undef, undef, undef, undef, undef], []⟩ ∧
  (f 0 = true → v9 = .pointer (some ⟨w.heap.size, 0, none⟩)) ∧ 
  (f 1 = true → v10 = .agg #[.int .i64 x0, .int .i64 x1, .int .i64 x2]) ∧ 
  (f 2 = true → v11 = .agg #[.int .i64 (x0 - x1), .int .i64 (x2 - x1)]) ∧ 
  (f 3 = true → v12 = .pointer (some ⟨w.heap.size, 3, none⟩)) ∧ 
  (f 4 = true → v13 = .agg #[.int .i64 x3, .int .i64 x4, .int .i64 x5]) ∧ 
  (f 5 = true → v14 = .agg #[.int .i64 (x3 - x4), .int .i64 (x5 - x4)]) ∧ 
  (f 6 = true → v15 = .pointer (some ⟨w.heap.size, 6, none⟩)) ∧ 
  (f 7 = true → v16 = .agg #[.int .i64 x6, .int .i64 x7, .int .i64 x8]) ∧ 
  (f 8 = true → v17 = .agg #[.int .i64 (x6 - x7), .int .i64 (x8 - x7)]) ∧ 
  (f 9 = true → ∃ b, v4 = .pointer (some ⟨b, 0, none⟩) ∧ NBox w W b) ∧ 
  (f 10 = true → ∃ b, v5 = .pointer (some ⟨b, 0, none⟩) ∧ NBox w W b) ∧ 
  (f 11 = true → ∃ b, v6 = .pointer (some ⟨b, 0, none⟩) ∧ NBox w W b) ∧ 
  (f 12 = true → f 9 = true ∧ ∀ b, v4 = .pointer (some ⟨b, 0, none⟩) → Holds W b (x0 - x1) (x2 - x1)) ∧ 
  (f 13 = true → f 10 = true ∧ ∀ b, v5 = .pointer (some ⟨b, 0, none⟩) → Holds W b (x3 - x4) (x5 - x4)) ∧ 
  (f 14 = true → f 11 = true ∧ ∀ b, v6 = .pointer (some ⟨b, 0, none⟩) → Holds W b (x6 - x7) (x8 - x7)) ∧ 
  (f 9 = true → f 10 = true → v4 ≠ v5) ∧ 
  (f 9 = true → f 11 = true → v4 ≠ v6) ∧ 
  (f 10 = true → f 11 = true → v5 ≠ v6)
set_option maxRecDepth 100000 in
set_option maxHeartbeats 16000000 in
theorem rsequence_any (x0 x1 x2 x3 x4 x5 x6 x7 x8 : Int) (w : World) (hL : (Lim x0 ∧ Lim x1 ∧ Lim x2) ∧ (Lim x3 ∧ Lim x4 ∧ Lim x5) ∧ (Lim x6 ∧ Lim x7 ∧ Lim x8)) :
    Calls Tryd.prog 31 #[.agg #[.int .i64 x0, .int .i64 x1, .int .i64 x2, .int .i64 x3, .int .i64 x4, .int .i64 x5, .int .i64 x6, .int .i64 x7, .int .i64 x8]] w fun e w' => e = .returned (.tuple #[.int .i64 (seqV (x0 - x1) (x2 - x1) (x3 - x4) (x5 - x4) (x6 - x7) (x8 - x7)), .int .i64 (seqE (x0 - x1) (x2 - x1) (x3 - x4) (x5 - x4) (x6 - x7) (x8 - x7))]) ∧ Below w.heap.size w w' := by
  obtain ⟨sv, hsv⟩ : ∃ v, seqV (x0 - x1) (x2 - x1) (x3 - x4) (x5 - x4) (x6 - x7) (x8 - x7) = v := ⟨_, rfl⟩
  obtain ⟨se, hse⟩ : ∃ v, seqE (x0 - x1) (x2 - x1) (x3 - x4) (x5 - x4) (x6 - x7) (x8 - x7) = v := ⟨_, rfl⟩
  rw [hsv, hse]
  go_enter Tryd.func31, Tryd.ntmps31
  go_wp2_with fail
  refine wp_region_held_drew (S := SqS x0 x1 x2 x3 x4 x5 x6 x7 x8 w) (by kernel_rfl) ?hS (fun hH => ?_)
  case hS => exact ⟨by go_grown, by simp, by go_simp, by go_simp, by go_simp, by go_simp, by go_simp, by go_simp, by go_simp, by go_simp, by go_simp⟩
  refine anyH_inv (RqI x0 x1 x2 x3 x4 x5 x6 x7 x8 w) (by kernel_rfl) (by kernel_rfl) ?step ?fin _ _ _ _ (by kernel_rfl) (by decide +kernel) ?start hH
  case start =>
    exact ⟨undef, undef, undef, undef, undef, undef, undef, undef, undef, undef, undef, undef, rfl, by simp, by simp, by simp, by simp, by simp, by simp, by simp, by simp, by simp, by simp, by simp, by simp, by simp, by simp, by simp, by simp, by simp, by simp⟩
  case step =>
    intro i o ho f a W hfi hdep hI hS K hK
    have hi : i < 15 := (Array.getElem?_eq_some_iff.1 ho).1
    have hcase : i = 0 ∨ i = 1 ∨ i = 2 ∨ i = 3 ∨ i = 4 ∨ i = 5 ∨ i = 6 ∨ i = 7 ∨ i = 8 ∨ i = 9 ∨ i = 10 ∨ i = 11 ∨ i = 12 ∨ i = 13 ∨ i = 14 := by omega
    rcases hcase with rfl | rfl | rfl | rfl | rfl | rfl | rfl | rfl | rfl | rfl | rfl | rfl | rfl | rfl | rfl
    · obtain rfl := Option.some.inj ho
      obtain ⟨v4, v5, v6, v9, v10, v11, v12, v13, v14, v15, v16, v17, rfl, c0, c1, c2, c3, c4, c5, c6, c7, c8, c9, c10, c11, c12, c13, c14, d01, d02, d12⟩ := hI
      go_simp
      exact hK.out _ _ hS ⟨v4, v5, v6, _, v10, v11, v12, v13, v14, v15, v16, v17, rfl, fun _ => rfl, fun h => c1 (upTo_ne h (by decide)), fun h => c2 (upTo_ne h (by decide)), fun h => c3 (upTo_ne h (by decide)), fun h => c4 (upTo_ne h (by decide)), fun h => c5 (upTo_ne h (by decide)), fun h => c6 (upTo_ne h (by decide)), fun h => c7 (upTo_ne h (by decide)), fun h => c8 (upTo_ne h (by decide)), fun h => (c9 (upTo_ne h (by decide))).imp fun _ e => ⟨e.1, e.2⟩, fun h => (c10 (upTo_ne h (by decide))).imp fun _ e => ⟨e.1, e.2⟩, fun h => (c11 (upTo_ne h (by decide))).imp fun _ e => ⟨e.1, e.2⟩, fun h => ⟨upTo_old (c12 (upTo_ne h (by decide))).1, fun b e => ((c12 (upTo_ne h (by decide))).2 b e)⟩, fun h => ⟨upTo_old (c13 (upTo_ne h (by decide))).1, fun b e => ((c13 (upTo_ne h (by decide))).2 b e)⟩, fun h => ⟨upTo_old (c14 (upTo_ne h (by decide))).1, fun b e => ((c14 (upTo_ne h (by decide))).2 b e)⟩, fun h h' => d01 (upTo_ne h (by decide)) (upTo_ne h' (by decide)), fun h h' => d02 (upTo_ne h (by decide)) (upTo_ne h' (by decide)), fun h h' => d12 (upTo_ne h (by decide)) (upTo_ne h' (by decide))⟩
    · obtain rfl := Option.some.inj ho
      have hd : ∀ j, j = 0 → f j = true := fun j hj => by
        rcases hj with rfl
        exact hdep 0 (by kernel_rfl)
      obtain ⟨v4, v5, v6, v9, v10, v11, v12, v13, v14, v15, v16, v17, rfl, c0, c1, c2, c3, c4, c5, c6, c7, c8, c9, c10, c11, c12, c13, c14, d01, d02, d12⟩ := hI
      have hS' := hS
      obtain ⟨qa, qz, q0, q1, q2, q3, q4, q5, q6, q7, q8⟩ := hS
      obtain rfl := c0 (hd 0 (by decide))
      go_simp
      exact hK.out _ _ hS' ⟨v4, v5, v6, _, _, v11, v12, v13, v14, v15, v16, v17, rfl, fun h => c0 (upTo_ne h (by decide)), fun _ => rfl, fun h => c2 (upTo_ne h (by decide)), fun h => c3 (upTo_ne h (by decide)), fun h => c4 (upTo_ne h (by decide)), fun h => c5 (upTo_ne h (by decide)), fun h => c6 (upTo_ne h (by decide)), fun h => c7 (upTo_ne h (by decide)), fun h => c8 (upTo_ne h (by decide)), fun h => (c9 (upTo_ne h (by decide))).imp fun _ e => ⟨e.1, e.2⟩, fun h => (c10 (upTo_ne h (by decide))).imp fun _ e => ⟨e.1, e.2⟩, fun h => (c11 (upTo_ne h (by decide))).imp fun _ e => ⟨e.1, e.2⟩, fun h => ⟨upTo_old (c12 (upTo_ne h (by decide))).1, fun b e => ((c12 (upTo_ne h (by decide))).2 b e)⟩, fun h => ⟨upTo_old (c13 (upTo_ne h (by decide))).1, fun b e => ((c13 (upTo_ne h (by decide))).2 b e)⟩, fun h => ⟨upTo_old (c14 (upTo_ne h (by decide))).1, fun b e => ((c14 (upTo_ne h (by decide))).2 b e)⟩, fun h h' => d01 (upTo_ne h (by decide)) (upTo_ne h' (by decide)), fun h h' => d02 (upTo_ne h (by decide)) (upTo_ne h' (by decide)), fun h h' => d12 (upTo_ne h (by decide)) (upTo_ne h' (by decide))⟩
    · obtain rfl := Option.some.inj ho
      have hd : ∀ j, j = 1 → f j = true := fun j hj => by
        rcases hj with rfl
        exact hdep 1 (by kernel_rfl)
      obtain ⟨v4, v5, v6, v9, v10, v11, v12, v13, v14, v15, v16, v17, rfl, c0, c1, c2, c3, c4, c5, c6, c7, c8, c9, c10, c11, c12, c13, c14, d01, d02, d12⟩ := hI
      obtain rfl := c1 (hd 1 (by decide))
      go_simp
      refine (rphasor_any _ _ _ W hL.1.1 hL.1.2.1 hL.1.2.2).mono ?_
      rintro e w1 ⟨rfl, hb1⟩
      exact hK.out _ _ (hS.below hb1) ⟨v4, v5, v6, v9, _, _, v12, v13, v14, v15, v16, v17, rfl, fun h => c0 (upTo_ne h (by decide)), fun h => c1 (upTo_ne h (by decide)), fun _ => rfl, fun h => c3 (upTo_ne h (by decide)), fun h => c4 (upTo_ne h (by decide)), fun h => c5 (upTo_ne h (by decide)), fun h => c6 (upTo_ne h (by decide)), fun h => c7 (upTo_ne h (by decide)), fun h => c8 (upTo_ne h (by decide)), fun h => (c9 (upTo_ne h (by decide))).imp fun _ e => ⟨e.1, e.2.below hb1⟩, fun h => (c10 (upTo_ne h (by decide))).imp fun _ e => ⟨e.1, e.2.below hb1⟩, fun h => (c11 (upTo_ne h (by decide))).imp fun _ e => ⟨e.1, e.2.below hb1⟩, fun h => ⟨upTo_old (c12 (upTo_ne h (by decide))).1, fun b e => ((c12 (upTo_ne h (by decide))).2 b e).below hb1⟩, fun h => ⟨upTo_old (c13 (upTo_ne h (by decide))).1, fun b e => ((c13 (upTo_ne h (by decide))).2 b e).below hb1⟩, fun h => ⟨upTo_old (c14 (upTo_ne h (by decide))).1, fun b e => ((c14 (upTo_ne h (by decide))).2 b e).below hb1⟩, fun h h' => d01 (upTo_ne h (by decide)) (upTo_ne h' (by decide)), fun h h' => d02 (upTo_ne h (by decide)) (upTo_ne h' (by decide)), fun h h' => d12 (upTo_ne h (by decide)) (upTo_ne h' (by decide))⟩
    · obtain rfl := Option.some.inj ho
      obtain ⟨v4, v5, v6, v9, v10, v11, v12, v13, v14, v15, v16, v17, rfl, c0, c1, c2, c3, c4, c5, c6, c7, c8, c9, c10, c11, c12, c13, c14, d01, d02, d12⟩ := hI
      go_simp
      exact hK.out _ _ hS ⟨v4, v5, v6, v9, v10, v11, _, v13, v14, v15, v16, v17, rfl, fun h => c0 (upTo_ne h (by decide)), fun h => c1 (upTo_ne h (by decide)), fun h => c2 (upTo_ne h (by decide)), fun _ => rfl, fun h => c4 (upTo_ne h (by decide)), fun h => c5 (upTo_ne h (by decide)), fun h => c6 (upTo_ne h (by decide)), fun h => c7 (upTo_ne h (by decide)), fun h => c8 (upTo_ne h (by decide)), fun h => (c9 (upTo_ne h (by decide))).imp fun _ e => ⟨e.1, e.2⟩, fun h => (c10 (upTo_ne h (by decide))).imp fun _ e => ⟨e.1, e.2⟩, fun h => (c11 (upTo_ne h (by decide))).imp fun _ e => ⟨e.1, e.2⟩, fun h => ⟨upTo_old (c12 (upTo_ne h (by decide))).1, fun b e => ((c12 (upTo_ne h (by decide))).2 b e)⟩, fun h => ⟨upTo_old (c13 (upTo_ne h (by decide))).1, fun b e => ((c13 (upTo_ne h (by decide))).2 b e)⟩, fun h => ⟨upTo_old (c14 (upTo_ne h (by decide))).1, fun b e => ((c14 (upTo_ne h (by decide))).2 b e)⟩, fun h h' => d01 (upTo_ne h (by decide)) (upTo_ne h' (by decide)), fun h h' => d02 (upTo_ne h (by decide)) (upTo_ne h' (by decide)), fun h h' => d12 (upTo_ne h (by decide)) (upTo_ne h' (by decide))⟩
    · obtain rfl := Option.some.inj ho
      have hd : ∀ j, j = 3 → f j = true := fun j hj => by
        rcases hj with rfl
        exact hdep 3 (by kernel_rfl)
      obtain ⟨v4, v5, v6, v9, v10, v11, v12, v13, v14, v15, v16, v17, rfl, c0, c1, c2, c3, c4, c5, c6, c7, c8, c9, c10, c11, c12, c13, c14, d01, d02, d12⟩ := hI
      have hS' := hS
      obtain ⟨qa, qz, q0, q1, q2, q3, q4, q5, q6, q7, q8⟩ := hS
      obtain rfl := c3 (hd 3 (by decide))
      go_simp
      exact hK.out _ _ hS' ⟨v4, v5, v6, v9, v10, v11, _, _, v14, v15, v16, v17, rfl, fun h => c0 (upTo_ne h (by decide)), fun h => c1 (upTo_ne h (by decide)), fun h => c2 (upTo_ne h (by decide)), fun h => c3 (upTo_ne h (by decide)), fun _ => rfl, fun h => c5 (upTo_ne h (by decide)), fun h => c6 (upTo_ne h (by decide)), fun h => c7 (upTo_ne h (by decide)), fun h => c8 (upTo_ne h (by decide)), fun h => (c9 (upTo_ne h (by decide))).imp fun _ e => ⟨e.1, e.2⟩, fun h => (c10 (upTo_ne h (by decide))).imp fun _ e => ⟨e.1, e.2⟩, fun h => (c11 (upTo_ne h (by decide))).imp fun _ e => ⟨e.1, e.2⟩, fun h => ⟨upTo_old (c12 (upTo_ne h (by decide))).1, fun b e => ((c12 (upTo_ne h (by decide))).2 b e)⟩, fun h => ⟨upTo_old (c13 (upTo_ne h (by decide))).1, fun b e => ((c13 (upTo_ne h (by decide))).2 b e)⟩, fun h => ⟨upTo_old (c14 (upTo_ne h (by decide))).1, fun b e => ((c14 (upTo_ne h (by decide))).2 b e)⟩, fun h h' => d01 (upTo_ne h (by decide)) (upTo_ne h' (by decide)), fun h h' => d02 (upTo_ne h (by decide)) (upTo_ne h' (by decide)), fun h h' => d12 (upTo_ne h (by decide)) (upTo_ne h' (by decide))⟩
    · obtain rfl := Option.some.inj ho
      have hd : ∀ j, j = 4 → f j = true := fun j hj => by
        rcases hj with rfl
        exact hdep 4 (by kernel_rfl)
      obtain ⟨v4, v5, v6, v9, v10, v11, v12, v13, v14, v15, v16, v17, rfl, c0, c1, c2, c3, c4, c5, c6, c7, c8, c9, c10, c11, c12, c13, c14, d01, d02, d12⟩ := hI
      obtain rfl := c4 (hd 4 (by decide))
      go_simp
      refine (rphasor_any _ _ _ W hL.2.1.1 hL.2.1.2.1 hL.2.1.2.2).mono ?_
      rintro e w1 ⟨rfl, hb1⟩
      exact hK.out _ _ (hS.below hb1) ⟨v4, v5, v6, v9, v10, v11, v12, _, _, v15, v16, v17, rfl, fun h => c0 (upTo_ne h (by decide)), fun h => c1 (upTo_ne h (by decide)), fun h => c2 (upTo_ne h (by decide)), fun h => c3 (upTo_ne h (by decide)), fun h => c4 (upTo_ne h (by decide)), fun _ => rfl, fun h => c6 (upTo_ne h (by decide)), fun h => c7 (upTo_ne h (by decide)), fun h => c8 (upTo_ne h (by decide)), fun h => (c9 (upTo_ne h (by decide))).imp fun _ e => ⟨e.1, e.2.below hb1⟩, fun h => (c10 (upTo_ne h (by decide))).imp fun _ e => ⟨e.1, e.2.below hb1⟩, fun h => (c11 (upTo_ne h (by decide))).imp fun _ e => ⟨e.1, e.2.below hb1⟩, fun h => ⟨upTo_old (c12 (upTo_ne h (by decide))).1, fun b e => ((c12 (upTo_ne h (by decide))).2 b e).below hb1⟩, fun h => ⟨upTo_old (c13 (upTo_ne h (by decide))).1, fun b e => ((c13 (upTo_ne h (by decide))).2 b e).below hb1⟩, fun h => ⟨upTo_old (c14 (upTo_ne h (by decide))).1, fun b e => ((c14 (upTo_ne h (by decide))).2 b e).below hb1⟩, fun h h' => d01 (upTo_ne h (by decide)) (upTo_ne h' (by decide)), fun h h' => d02 (upTo_ne h (by decide)) (upTo_ne h' (by decide)), fun h h' => d12 (upTo_ne h (by decide)) (upTo_ne h' (by decide))⟩
    · obtain rfl := Option.some.inj ho
      obtain ⟨v4, v5, v6, v9, v10, v11, v12, v13, v14, v15, v16, v17, rfl, c0, c1, c2, c3, c4, c5, c6, c7, c8, c9, c10, c11, c12, c13, c14, d01, d02, d12⟩ := hI
      go_simp
      exact hK.out _ _ hS ⟨v4, v5, v6, v9, v10, v11, v12, v13, v14, _, v16, v17, rfl, fun h => c0 (upTo_ne h (by decide)), fun h => c1 (upTo_ne h (by decide)), fun h => c2 (upTo_ne h (by decide)), fun h => c3 (upTo_ne h (by decide)), fun h => c4 (upTo_ne h (by decide)), fun h => c5 (upTo_ne h (by decide)), fun _ => rfl, fun h => c7 (upTo_ne h (by decide)), fun h => c8 (upTo_ne h (by decide)), fun h => (c9 (upTo_ne h (by decide))).imp fun _ e => ⟨e.1, e.2⟩, fun h => (c10 (upTo_ne h (by decide))).imp fun _ e => ⟨e.1, e.2⟩, fun h => (c11 (upTo_ne h (by decide))).imp fun _ e => ⟨e.1, e.2⟩, fun h => ⟨upTo_old (c12 (upTo_ne h (by decide))).1, fun b e => ((c12 (upTo_ne h (by decide))).2 b e)⟩, fun h => ⟨upTo_old (c13 (upTo_ne h (by decide))).1, fun b e => ((c13 (upTo_ne h (by decide))).2 b e)⟩, fun h => ⟨upTo_old (c14 (upTo_ne h (by decide))).1, fun b e => ((c14 (upTo_ne h (by decide))).2 b e)⟩, fun h h' => d01 (upTo_ne h (by decide)) (upTo_ne h' (by decide)), fun h h' => d02 (upTo_ne h (by decide)) (upTo_ne h' (by decide)), fun h h' => d12 (upTo_ne h (by decide)) (upTo_ne h' (by decide))⟩
    · obtain rfl := Option.some.inj ho
      have hd : ∀ j, j = 6 → f j = true := fun j hj => by
        rcases hj with rfl
        exact hdep 6 (by kernel_rfl)
      obtain ⟨v4, v5, v6, v9, v10, v11, v12, v13, v14, v15, v16, v17, rfl, c0, c1, c2, c3, c4, c5, c6, c7, c8, c9, c10, c11, c12, c13, c14, d01, d02, d12⟩ := hI
      have hS' := hS
      obtain ⟨qa, qz, q0, q1, q2, q3, q4, q5, q6, q7, q8⟩ := hS
      obtain rfl := c6 (hd 6 (by decide))
      go_simp
      exact hK.out _ _ hS' ⟨v4, v5, v6, v9, v10, v11, v12, v13, v14, _, _, v17, rfl, fun h => c0 (upTo_ne h (by decide)), fun h => c1 (upTo_ne h (by decide)), fun h => c2 (upTo_ne h (by decide)), fun h => c3 (upTo_ne h (by decide)), fun h => c4 (upTo_ne h (by decide)), fun h => c5 (upTo_ne h (by decide)), fun h => c6 (upTo_ne h (by decide)), fun _ => rfl, fun h => c8 (upTo_ne h (by decide)), fun h => (c9 (upTo_ne h (by decide))).imp fun _ e => ⟨e.1, e.2⟩, fun h => (c10 (upTo_ne h (by decide))).imp fun _ e => ⟨e.1, e.2⟩, fun h => (c11 (upTo_ne h (by decide))).imp fun _ e => ⟨e.1, e.2⟩, fun h => ⟨upTo_old (c12 (upTo_ne h (by decide))).1, fun b e => ((c12 (upTo_ne h (by decide))).2 b e)⟩, fun h => ⟨upTo_old (c13 (upTo_ne h (by decide))).1, fun b e => ((c13 (upTo_ne h (by decide))).2 b e)⟩, fun h => ⟨upTo_old (c14 (upTo_ne h (by decide))).1, fun b e => ((c14 (upTo_ne h (by decide))).2 b e)⟩, fun h h' => d01 (upTo_ne h (by decide)) (upTo_ne h' (by decide)), fun h h' => d02 (upTo_ne h (by decide)) (upTo_ne h' (by decide)), fun h h' => d12 (upTo_ne h (by decide)) (upTo_ne h' (by decide))⟩
    · obtain rfl := Option.some.inj ho
      have hd : ∀ j, j = 7 → f j = true := fun j hj => by
        rcases hj with rfl
        exact hdep 7 (by kernel_rfl)
      obtain ⟨v4, v5, v6, v9, v10, v11, v12, v13, v14, v15, v16, v17, rfl, c0, c1, c2, c3, c4, c5, c6, c7, c8, c9, c10, c11, c12, c13, c14, d01, d02, d12⟩ := hI
      obtain rfl := c7 (hd 7 (by decide))
      go_simp
      refine (rphasor_any _ _ _ W hL.2.2.1 hL.2.2.2.1 hL.2.2.2.2).mono ?_
      rintro e w1 ⟨rfl, hb1⟩
      exact hK.out _ _ (hS.below hb1) ⟨v4, v5, v6, v9, v10, v11, v12, v13, v14, v15, _, _, rfl, fun h => c0 (upTo_ne h (by decide)), fun h => c1 (upTo_ne h (by decide)), fun h => c2 (upTo_ne h (by decide)), fun h => c3 (upTo_ne h (by decide)), fun h => c4 (upTo_ne h (by decide)), fun h => c5 (upTo_ne h (by decide)), fun h => c6 (upTo_ne h (by decide)), fun h => c7 (upTo_ne h (by decide)), fun _ => rfl, fun h => (c9 (upTo_ne h (by decide))).imp fun _ e => ⟨e.1, e.2.below hb1⟩, fun h => (c10 (upTo_ne h (by decide))).imp fun _ e => ⟨e.1, e.2.below hb1⟩, fun h => (c11 (upTo_ne h (by decide))).imp fun _ e => ⟨e.1, e.2.below hb1⟩, fun h => ⟨upTo_old (c12 (upTo_ne h (by decide))).1, fun b e => ((c12 (upTo_ne h (by decide))).2 b e).below hb1⟩, fun h => ⟨upTo_old (c13 (upTo_ne h (by decide))).1, fun b e => ((c13 (upTo_ne h (by decide))).2 b e).below hb1⟩, fun h => ⟨upTo_old (c14 (upTo_ne h (by decide))).1, fun b e => ((c14 (upTo_ne h (by decide))).2 b e).below hb1⟩, fun h h' => d01 (upTo_ne h (by decide)) (upTo_ne h' (by decide)), fun h h' => d02 (upTo_ne h (by decide)) (upTo_ne h' (by decide)), fun h h' => d12 (upTo_ne h (by decide)) (upTo_ne h' (by decide))⟩
    · obtain rfl := Option.some.inj ho
      obtain ⟨v4, v5, v6, v9, v10, v11, v12, v13, v14, v15, v16, v17, rfl, c0, c1, c2, c3, c4, c5, c6, c7, c8, c9, c10, c11, c12, c13, c14, d01, d02, d12⟩ := hI
      go_simp
      exact hK.out _ _ (hS.below (belowA _ _)) ⟨_, v5, v6, v9, v10, v11, v12, v13, v14, v15, v16, v17, rfl, fun h => c0 (upTo_ne h (by decide)), fun h => c1 (upTo_ne h (by decide)), fun h => c2 (upTo_ne h (by decide)), fun h => c3 (upTo_ne h (by decide)), fun h => c4 (upTo_ne h (by decide)), fun h => c5 (upTo_ne h (by decide)), fun h => c6 (upTo_ne h (by decide)), fun h => c7 (upTo_ne h (by decide)), fun h => c8 (upTo_ne h (by decide)), fun _ => ⟨_, rfl, NBox.new42 hS.2.1⟩, fun h => (c10 (upTo_ne h (by decide))).imp fun _ e => ⟨e.1, e.2.below (belowA _ _)⟩, fun h => (c11 (upTo_ne h (by decide))).imp fun _ e => ⟨e.1, e.2.below (belowA _ _)⟩, fun h => absurd (c12 (upTo_ne h (by decide))).1 (by rw [hfi]; decide), fun h => ⟨upTo_old (c13 (upTo_ne h (by decide))).1, fun b e => ((c13 (upTo_ne h (by decide))).2 b e).below (belowA _ _)⟩, fun h => ⟨upTo_old (c14 (upTo_ne h (by decide))).1, fun b e => ((c14 (upTo_ne h (by decide))).2 b e).below (belowA _ _)⟩, fun _ h => fun e => new_ne (c10 (upTo_ne h (by decide))) e.symm, fun _ h => fun e => new_ne (c11 (upTo_ne h (by decide))) e.symm, fun h h' => d12 (upTo_ne h (by decide)) (upTo_ne h' (by decide))⟩
    · obtain rfl := Option.some.inj ho
      obtain ⟨v4, v5, v6, v9, v10, v11, v12, v13, v14, v15, v16, v17, rfl, c0, c1, c2, c3, c4, c5, c6, c7, c8, c9, c10, c11, c12, c13, c14, d01, d02, d12⟩ := hI
      go_simp
      exact hK.out _ _ (hS.below (belowA _ _)) ⟨v4, _, v6, v9, v10, v11, v12, v13, v14, v15, v16, v17, rfl, fun h => c0 (upTo_ne h (by decide)), fun h => c1 (upTo_ne h (by decide)), fun h => c2 (upTo_ne h (by decide)), fun h => c3 (upTo_ne h (by decide)), fun h => c4 (upTo_ne h (by decide)), fun h => c5 (upTo_ne h (by decide)), fun h => c6 (upTo_ne h (by decide)), fun h => c7 (upTo_ne h (by decide)), fun h => c8 (upTo_ne h (by decide)), fun h => (c9 (upTo_ne h (by decide))).imp fun _ e => ⟨e.1, e.2.below (belowA _ _)⟩, fun _ => ⟨_, rfl, NBox.new42 hS.2.1⟩, fun h => (c11 (upTo_ne h (by decide))).imp fun _ e => ⟨e.1, e.2.below (belowA _ _)⟩, fun h => ⟨upTo_old (c12 (upTo_ne h (by decide))).1, fun b e => ((c12 (upTo_ne h (by decide))).2 b e).below (belowA _ _)⟩, fun h => absurd (c13 (upTo_ne h (by decide))).1 (by rw [hfi]; decide), fun h => ⟨upTo_old (c14 (upTo_ne h (by decide))).1, fun b e => ((c14 (upTo_ne h (by decide))).2 b e).below (belowA _ _)⟩, fun h _ => fun e => new_ne (c9 (upTo_ne h (by decide))) e, fun h h' => d02 (upTo_ne h (by decide)) (upTo_ne h' (by decide)), fun _ h => fun e => new_ne (c11 (upTo_ne h (by decide))) e.symm⟩
    · obtain rfl := Option.some.inj ho
      obtain ⟨v4, v5, v6, v9, v10, v11, v12, v13, v14, v15, v16, v17, rfl, c0, c1, c2, c3, c4, c5, c6, c7, c8, c9, c10, c11, c12, c13, c14, d01, d02, d12⟩ := hI
      go_simp
      exact hK.out _ _ (hS.below (belowA _ _)) ⟨v4, v5, _, v9, v10, v11, v12, v13, v14, v15, v16, v17, rfl, fun h => c0 (upTo_ne h (by decide)), fun h => c1 (upTo_ne h (by decide)), fun h => c2 (upTo_ne h (by decide)), fun h => c3 (upTo_ne h (by decide)), fun h => c4 (upTo_ne h (by decide)), fun h => c5 (upTo_ne h (by decide)), fun h => c6 (upTo_ne h (by decide)), fun h => c7 (upTo_ne h (by decide)), fun h => c8 (upTo_ne h (by decide)), fun h => (c9 (upTo_ne h (by decide))).imp fun _ e => ⟨e.1, e.2.below (belowA _ _)⟩, fun h => (c10 (upTo_ne h (by decide))).imp fun _ e => ⟨e.1, e.2.below (belowA _ _)⟩, fun _ => ⟨_, rfl, NBox.new42 hS.2.1⟩, fun h => ⟨upTo_old (c12 (upTo_ne h (by decide))).1, fun b e => ((c12 (upTo_ne h (by decide))).2 b e).below (belowA _ _)⟩, fun h => ⟨upTo_old (c13 (upTo_ne h (by decide))).1, fun b e => ((c13 (upTo_ne h (by decide))).2 b e).below (belowA _ _)⟩, fun h => absurd (c14 (upTo_ne h (by decide))).1 (by rw [hfi]; decide), fun h h' => d01 (upTo_ne h (by decide)) (upTo_ne h' (by decide)), fun h _ => fun e => new_ne (c9 (upTo_ne h (by decide))) e, fun h _ => fun e => new_ne (c10 (upTo_ne h (by decide))) e⟩
    · obtain rfl := Option.some.inj ho
      have hd : ∀ j, j = 2 ∨ j = 9 ∨ j = 10 ∨ j = 11 → f j = true := fun j hj => by
        rcases hj with rfl | rfl | rfl | rfl
        · exact hdep 2 (by kernel_rfl)
        · exact hdep 9 (by kernel_rfl)
        · exact hdep 10 (by kernel_rfl)
        · exact hdep 11 (by kernel_rfl)
      obtain ⟨v4, v5, v6, v9, v10, v11, v12, v13, v14, v15, v16, v17, rfl, c0, c1, c2, c3, c4, c5, c6, c7, c8, c9, c10, c11, c12, c13, c14, d01, d02, d12⟩ := hI
      obtain ⟨b0, rfl, n0⟩ := c9 (hd 9 (by decide))
      obtain ⟨b1, rfl, n1⟩ := c10 (hd 10 (by decide))
      obtain ⟨b2, rfl, n2⟩ := c11 (hd 11 (by decide))
      obtain rfl := c2 (hd 2 (by decide))
      have g0 := n0.f0
      have g1 := n0.f1
      obtain ⟨u0, e0⟩ := n0.c0
      obtain ⟨u1, e1⟩ := n0.c1
      go_simp
      exact hK.out _ _ ((hS.set _ n0.lo).set _ n0.lo) ⟨_, _, _, v9, v10, _, v12, v13, v14, v15, v16, v17, rfl, fun h => c0 (upTo_ne h (by decide)), fun h => c1 (upTo_ne h (by decide)), fun h => c2 (upTo_ne h (by decide)), fun h => c3 (upTo_ne h (by decide)), fun h => c4 (upTo_ne h (by decide)), fun h => c5 (upTo_ne h (by decide)), fun h => c6 (upTo_ne h (by decide)), fun h => c7 (upTo_ne h (by decide)), fun h => c8 (upTo_ne h (by decide)), fun _ => ⟨b0, rfl, (n0.set).set⟩, fun _ => ⟨b1, rfl, (n1.set).set⟩, fun _ => ⟨b2, rfl, (n2.set).set⟩, fun _ => ⟨upTo_old (hd 9 (by decide)), fun b e => by obtain rfl := ptr_inj e; exact Holds.put _ _ n0.c0 n0.c1⟩, fun h => ⟨upTo_old (hd 10 (by decide)), fun b e => by obtain rfl := ptr_inj e; exact (((c13 (upTo_ne h (by decide))).2 _ rfl).set 0 _ (fun e => d01 (hd 9 (by decide)) (hd 10 (by decide)) (by rw [e]))).set 1 _ (fun e => d01 (hd 9 (by decide)) (hd 10 (by decide)) (by rw [e]))⟩, fun h => ⟨upTo_old (hd 11 (by decide)), fun b e => by obtain rfl := ptr_inj e; exact (((c14 (upTo_ne h (by decide))).2 _ rfl).set 0 _ (fun e => d02 (hd 9 (by decide)) (hd 11 (by decide)) (by rw [e]))).set 1 _ (fun e => d02 (hd 9 (by decide)) (hd 11 (by decide)) (by rw [e]))⟩, fun _ _ => d01 (hd 9 (by decide)) (hd 10 (by decide)), fun _ _ => d02 (hd 9 (by decide)) (hd 11 (by decide)), fun _ _ => d12 (hd 10 (by decide)) (hd 11 (by decide))⟩
    · obtain rfl := Option.some.inj ho
      have hd : ∀ j, j = 5 ∨ j = 9 ∨ j = 10 ∨ j = 11 → f j = true := fun j hj => by
        rcases hj with rfl | rfl | rfl | rfl
        · exact hdep 5 (by kernel_rfl)
        · exact hdep 9 (by kernel_rfl)
        · exact hdep 10 (by kernel_rfl)
        · exact hdep 11 (by kernel_rfl)
      obtain ⟨v4, v5, v6, v9, v10, v11, v12, v13, v14, v15, v16, v17, rfl, c0, c1, c2, c3, c4, c5, c6, c7, c8, c9, c10, c11, c12, c13, c14, d01, d02, d12⟩ := hI
      obtain ⟨b0, rfl, n0⟩ := c9 (hd 9 (by decide))
      obtain ⟨b1, rfl, n1⟩ := c10 (hd 10 (by decide))
      obtain ⟨b2, rfl, n2⟩ := c11 (hd 11 (by decide))
      obtain rfl := c5 (hd 5 (by decide))
      have g0 := n1.f0
      have g1 := n1.f1
      obtain ⟨u0, e0⟩ := n1.c0
      obtain ⟨u1, e1⟩ := n1.c1
      go_simp
      exact hK.out _ _ ((hS.set _ n1.lo).set _ n1.lo) ⟨_, _, _, v9, v10, v11, v12, v13, _, v15, v16, v17, rfl, fun h => c0 (upTo_ne h (by decide)), fun h => c1 (upTo_ne h (by decide)), fun h => c2 (upTo_ne h (by decide)), fun h => c3 (upTo_ne h (by decide)), fun h => c4 (upTo_ne h (by decide)), fun h => c5 (upTo_ne h (by decide)), fun h => c6 (upTo_ne h (by decide)), fun h => c7 (upTo_ne h (by decide)), fun h => c8 (upTo_ne h (by decide)), fun _ => ⟨b0, rfl, (n0.set).set⟩, fun _ => ⟨b1, rfl, (n1.set).set⟩, fun _ => ⟨b2, rfl, (n2.set).set⟩, fun h => ⟨upTo_old (hd 9 (by decide)), fun b e => by obtain rfl := ptr_inj e; exact (((c12 (upTo_ne h (by decide))).2 _ rfl).set 0 _ (fun e => d01 (hd 9 (by decide)) (hd 10 (by decide)) (by rw [e]))).set 1 _ (fun e => d01 (hd 9 (by decide)) (hd 10 (by decide)) (by rw [e]))⟩, fun _ => ⟨upTo_old (hd 10 (by decide)), fun b e => by obtain rfl := ptr_inj e; exact Holds.put _ _ n1.c0 n1.c1⟩, fun h => ⟨upTo_old (hd 11 (by decide)), fun b e => by obtain rfl := ptr_inj e; exact (((c14 (upTo_ne h (by decide))).2 _ rfl).set 0 _ (fun e => d12 (hd 10 (by decide)) (hd 11 (by decide)) (by rw [e]))).set 1 _ (fun e => d12 (hd 10 (by decide)) (hd 11 (by decide)) (by rw [e]))⟩, fun _ _ => d01 (hd 9 (by decide)) (hd 10 (by decide)), fun _ _ => d02 (hd 9 (by decide)) (hd 11 (by decide)), fun _ _ => d12 (hd 10 (by decide)) (hd 11 (by decide))⟩
    · obtain rfl := Option.some.inj ho
      have hd : ∀ j, j = 8 ∨ j = 9 ∨ j = 10 ∨ j = 11 → f j = true := fun j hj => by
        rcases hj with rfl | rfl | rfl | rfl
        · exact hdep 8 (by kernel_rfl)
        · exact hdep 9 (by kernel_rfl)
        · exact hdep 10 (by kernel_rfl)
        · exact hdep 11 (by kernel_rfl)
      obtain ⟨v4, v5, v6, v9, v10, v11, v12, v13, v14, v15, v16, v17, rfl, c0, c1, c2, c3, c4, c5, c6, c7, c8, c9, c10, c11, c12, c13, c14, d01, d02, d12⟩ := hI
      obtain ⟨b0, rfl, n0⟩ := c9 (hd 9 (by decide))
      obtain ⟨b1, rfl, n1⟩ := c10 (hd 10 (by decide))
      obtain ⟨b2, rfl, n2⟩ := c11 (hd 11 (by decide))
      obtain rfl := c8 (hd 8 (by decide))
      have g0 := n2.f0
      have g1 := n2.f1
      obtain ⟨u0, e0⟩ := n2.c0
      obtain ⟨u1, e1⟩ := n2.c1
      go_simp
      exact hK.out _ _ ((hS.set _ n2.lo).set _ n2.lo) ⟨_, _, _, v9, v10, v11, v12, v13, v14, v15, v16, _, rfl, fun h => c0 (upTo_ne h (by decide)), fun h => c1 (upTo_ne h (by decide)), fun h => c2 (upTo_ne h (by decide)), fun h => c3 (upTo_ne h (by decide)), fun h => c4 (upTo_ne h (by decide)), fun h => c5 (upTo_ne h (by decide)), fun h => c6 (upTo_ne h (by decide)), fun h => c7 (upTo_ne h (by decide)), fun h => c8 (upTo_ne h (by decide)), fun _ => ⟨b0, rfl, (n0.set).set⟩, fun _ => ⟨b1, rfl, (n1.set).set⟩, fun _ => ⟨b2, rfl, (n2.set).set⟩, fun h => ⟨upTo_old (hd 9 (by decide)), fun b e => by obtain rfl := ptr_inj e; exact (((c12 (upTo_ne h (by decide))).2 _ rfl).set 0 _ (fun e => d02 (hd 9 (by decide)) (hd 11 (by decide)) (by rw [e]))).set 1 _ (fun e => d02 (hd 9 (by decide)) (hd 11 (by decide)) (by rw [e]))⟩, fun h => ⟨upTo_old (hd 10 (by decide)), fun b e => by obtain rfl := ptr_inj e; exact (((c13 (upTo_ne h (by decide))).2 _ rfl).set 0 _ (fun e => d12 (hd 10 (by decide)) (hd 11 (by decide)) (by rw [e]))).set 1 _ (fun e => d12 (hd 10 (by decide)) (hd 11 (by decide)) (by rw [e]))⟩, fun _ => ⟨upTo_old (hd 11 (by decide)), fun b e => by obtain rfl := ptr_inj e; exact Holds.put _ _ n2.c0 n2.c1⟩, fun _ _ => d01 (hd 9 (by decide)) (hd 10 (by decide)), fun _ _ => d02 (hd 9 (by decide)) (hd 11 (by decide)), fun _ _ => d12 (hd 10 (by decide)) (hd 11 (by decide))⟩
  case fin =>
    intro f a V hall hI hS
    obtain ⟨v4, v5, v6, v9, v10, v11, v12, v13, v14, v15, v16, v17, rfl, c0, c1, c2, c3, c4, c5, c6, c7, c8, c9, c10, c11, c12, c13, c14, d01, d02, d12⟩ := hI
    obtain ⟨B0, rfl, n0⟩ := c9 (hall 9 (by decide))
    obtain ⟨B1, rfl, n1⟩ := c10 (hall 10 (by decide))
    obtain ⟨B2, rfl, n2⟩ := c11 (hall 11 (by decide))
    have g0 := (c12 (hall 12 (by decide))).2 _ rfl
    have g1 := (c13 (hall 13 (by decide))).2 _ rfl
    have g2 := (c14 (hall 14 (by decide))).2 _ rfl
    obtain rfl := c0 (hall 0 (by decide))
    obtain rfl := c1 (hall 1 (by decide))
    obtain rfl := c2 (hall 2 (by decide))
    obtain rfl := c3 (hall 3 (by decide))
    obtain rfl := c4 (hall 4 (by decide))
    obtain rfl := c5 (hall 5 (by decide))
    obtain rfl := c6 (hall 6 (by decide))
    obtain rfl := c7 (hall 7 (by decide))
    obtain rfl := c8 (hall 8 (by decide))
    have qb := hS.1
    clear c0 c1 c2 c3 c4 c5 c6 c7 c8 c9 c10 c11 c12 c13 c14 d01 d02 d12 hS hall n0 n1 n2
    obtain ⟨⟨⟨l0, l0'⟩, ⟨l1, l1'⟩, ⟨l2, l2'⟩⟩, ⟨⟨l3, l3'⟩, ⟨l4, l4'⟩, ⟨l5, l5'⟩⟩, ⟨⟨l6, l6'⟩, ⟨l7, l7'⟩, ⟨l8, l8'⟩⟩⟩ := hL
    have a0l : -20000 ≤ x0 - x1 := by omega
    have a0u : x0 - x1 ≤ 20000 := by omega
    have a1l : -20000 ≤ x2 - x1 := by omega
    have a1u : x2 - x1 ≤ 20000 := by omega
    have b0l : -20000 ≤ x3 - x4 := by omega
    have b0u : x3 - x4 ≤ 20000 := by omega
    have b1l : -20000 ≤ x5 - x4 := by omega
    have b1u : x5 - x4 ≤ 20000 := by omega
    have c0l : -20000 ≤ x6 - x7 := by omega
    have c0u : x6 - x7 ≤ 20000 := by omega
    have c1l : -20000 ≤ x8 - x7 := by omega
    have c1u : x8 - x7 ≤ 20000 := by omega
    clear l0 l0' l1 l1' l2 l2' l3 l3' l4 l4' l5 l5' l6 l6' l7 l7' l8 l8' hH
    generalize x0 - x1 = a0, x2 - x1 = a1, x3 - x4 = b0, x5 - x4 = b1, x6 - x7 = c0, x8 - x7 = c1 at *
    have e0 : ∀ w, (binOp .eql 42 (.agg #[.int .i64 a0, .int .i64 a1]) (.agg #[.int .i64 0, .int .i64 0])).run Tryd.prog w = .ok (.bool (a0 == 0 && a1 == 0)) w := fun w => by
      rw [run_eql_struct, eq42]
      rfl
    obtain ⟨p0, p1⟩ := g0
    obtain ⟨p2, p3⟩ := g1
    obtain ⟨p4, p5⟩ := g2
    have z0 := block_lt p0
    have z1 := block_lt p2
    have z2 := block_lt p4
    have K1 := fun w => rproduct_any a0 a1 (-1) (-1) w (by omega) (by omega) (by omega) (by omega) (by omega) (by omega) (by omega) (by omega)
    have q1 := fun w => eql42 b0 b1 a0 a1 (-1) (-1) w
    generalize a0 * (-1) - a1 * (-1) = u1 at K1 q1
    generalize a0 * (-1) + a1 * (-1) - a1 * (-1) = v1 at K1 q1
    have H1 := Lib.hid K1
    clear K1
    have K2 := fun w => rproduct_any b0 b1 (-1) (-1) w (by omega) (by omega) (by omega) (by omega) (by omega) (by omega) (by omega) (by omega)
    have q2 := fun w => eql42 c0 c1 b0 b1 (-1) (-1) w
    generalize b0 * (-1) - b1 * (-1) = u2 at K2 q2
    generalize b0 * (-1) + b1 * (-1) - b1 * (-1) = v2 at K2 q2
    have H2 := Lib.hid K2
    clear K2
    have K3 := fun w => rproduct_any a0 a1 0 1 w (by omega) (by omega) (by omega) (by omega) (by omega) (by omega) (by omega) (by omega)
    have q3 := fun w => eql42 b0 b1 a0 a1 0 1 w
    generalize a0 * 0 - a1 * 1 = u3 at K3 q3
    generalize a0 * 1 + a1 * 0 - a1 * 1 = v3 at K3 q3
    have H3 := Lib.hid K3
    clear K3
    have K4 := fun w => rproduct_any b0 b1 0 1 w (by omega) (by omega) (by omega) (by omega) (by omega) (by omega) (by omega) (by omega)
    have q4 := fun w => eql42 c0 c1 b0 b1 0 1 w
    generalize b0 * 0 - b1 * 1 = u4 at K4 q4
    generalize b0 * 1 + b1 * 0 - b1 * 1 = v4 at K4 q4
    have H4 := Lib.hid K4
    clear K4
    unfold seqV foB at hsv
    unfold seqE foB at hse
    generalize (a0 == 0 && a1 == 0) = z at *
    generalize fol1 a0 a1 b0 b1 (-1) (-1) = t1 at *
    generalize fol1 b0 b1 c0 c1 (-1) (-1) = t2 at *
    generalize fol1 a0 a1 b0 b1 0 1 = t3 at *
    generalize fol1 b0 b1 c0 c1 0 1 = t4 at *
    cases z
    · cases t1
      · cases t3
        · simp at hsv hse
          subst hsv hse
          go_wp2_with fail
          refine wp_region_held_drew (S := (fun W : World => Below w.heap.size w W ∧ W.cell? ⟨B0, 0, none⟩ = some (.int .i64 a0) ∧ W.cell? ⟨B0, 1, none⟩ = some (.int .i64 a1) ∧ W.cell? ⟨B1, 0, none⟩ = some (.int .i64 b0) ∧ W.cell? ⟨B1, 1, none⟩ = some (.int .i64 b1) ∧ W.cell? ⟨B2, 0, none⟩ = some (.int .i64 c0) ∧ W.cell? ⟨B2, 1, none⟩ = some (.int .i64 c1) ∧ W.cell? ⟨V.heap.size, 0, none⟩ = some (.int .i64 (-1)) ∧ W.cell? ⟨V.heap.size, 1, none⟩ = some (.int .i64 (-1)) ∧ W.cell? ⟨V.heap.size + 1, 0, none⟩ = some (.int .i64 0) ∧ W.cell? ⟨V.heap.size + 1, 1, none⟩ = some (.int .i64 1))) (by kernel_rfl) ?hS (fun hH => ?_)
          case hS =>
            ((repeat' apply And.intro) <;> (first | (refine belowT qb ?_; go_grown; done) | (first | (with_reducible assumption) | (refine belowT ?_ ‹_›; first | (go_grown; done) | exact And.left (by assumption)) | (refine belowT (And.left (by assumption)) ?_; go_grown; done) | (go_simp; done) | exact keep1 ‹_› (by first | (go_simp; done) | (go_keep; done)) | (go_keep; done) | omega | (go_grown; done) | (refine Nat.lt_of_lt_of_le ?_ (Below.size ‹_›); first | omega | (simp; done)) | exact keepF ‹_› (by first | omega | (simp; done)) (by first | (go_simp; done) | (go_keep; done)) | (simp; omega) | (simp only [World.size_alloc, World.size_drew, World.size_setCell] at *; omega))))
          refine' wpAnyH_take (i := 0) (v := _) rfl (by kernel_rfl) (by kernel_rfl) (by kernel_rfl) (fun _ _ _ h => h) (Or.inl ⟨by kernel_rfl, ?hy⟩) (by assumption) ?_
          case hy => (intro W hW; (try dsimp only at hW); go_simp; try (with_reducible rfl))
          try simp only [Act.put, List.setIfInBounds_toArray, List.set_cons_zero, List.set_cons_succ, List.getElem_toArray, List.getElem_cons_zero]
          refine' wpAnyH_take (i := 1) (v := _) rfl (by kernel_rfl) (by kernel_rfl) (by kernel_rfl) (fun _ _ _ h => h) (Or.inl ⟨by kernel_rfl, ?hy⟩) (by assumption) ?_
          case hy => (intro W hW; (try dsimp only at hW); go_simp; try (with_reducible rfl))
          try simp only [Act.put, List.setIfInBounds_toArray, List.set_cons_zero, List.set_cons_succ, List.getElem_toArray, List.getElem_cons_succ, List.getElem_cons_zero]
          refine' wpAnyH_take (i := 2) (v := _) rfl (by kernel_rfl) (by kernel_rfl) (by kernel_rfl) (fun _ _ _ h => h) (Or.inl ⟨by kernel_rfl, ?hy⟩) (by assumption) ?_
          case hy => (intro W hW; (try dsimp only at hW); go_simp; try (with_reducible rfl))
          try simp only [Act.put, List.setIfInBounds_toArray, List.set_cons_zero, List.set_cons_succ, List.getElem_toArray, List.getElem_cons_succ, List.getElem_cons_zero]
          refine wpAnyH_ready (rs := [3]) (by kernel_rfl) (by simp) ?_
          refine AllReadyH.cons rfl (fun K hK => ?_) AllReadyH.nil
          go_simp
          refine (H1.out _).mono ?_
          rintro e wr1 ⟨rfl, hbr1⟩
          refine hK.out _ _ ?hS (fun hH1 => ?_)
          case hS =>
            ((repeat' apply And.intro) <;> (first | (refine belowT qb ?_; go_grown; done) | (first | (with_reducible assumption) | (refine belowT ?_ ‹_›; first | (go_grown; done) | exact And.left (by assumption)) | (refine belowT (And.left (by assumption)) ?_; go_grown; done) | (go_simp; done) | exact keep1 ‹_› (by first | (go_simp; done) | (go_keep; done)) | (go_keep; done) | omega | (go_grown; done) | (refine Nat.lt_of_lt_of_le ?_ (Below.size ‹_›); first | omega | (simp; done)) | exact keepF ‹_› (by first | omega | (simp; done)) (by first | (go_simp; done) | (go_keep; done)) | (simp; omega) | (simp only [World.size_alloc, World.size_drew, World.size_setCell] at *; omega))))
          clear hK
          try simp only [Act.put, List.setIfInBounds_toArray, List.set_cons_zero, List.set_cons_succ, List.getElem_toArray, List.getElem_cons_succ, List.getElem_cons_zero]
          refine' wpAnyH_take (i := 4) (v := _) rfl (by kernel_rfl) (by kernel_rfl) (by kernel_rfl) (fun _ _ _ h => h) (Or.inl ⟨by kernel_rfl, ?hy⟩) (by assumption) ?_
          case hy => (intro W hW; (try dsimp only at hW); go_simp; try (with_reducible rfl))
          try simp only [Act.put, List.setIfInBounds_toArray, List.set_cons_zero, List.set_cons_succ, List.getElem_toArray, List.getElem_cons_succ, List.getElem_cons_zero]
          refine' wpAnyH_take (i := 5) (v := _) rfl (by kernel_rfl) (by kernel_rfl) (by kernel_rfl) (fun _ _ _ h => h) (Or.inl ⟨by kernel_rfl, ?hy⟩) (by assumption) ?_
          case hy => (intro W hW; (try dsimp only at hW); go_simp; try (with_reducible rfl))
          try simp only [Act.put, List.setIfInBounds_toArray, List.set_cons_zero, List.set_cons_succ, List.getElem_toArray, List.getElem_cons_succ, List.getElem_cons_zero]
          refine' wpAnyH_take (i := 6) (v := undef) rfl (by kernel_rfl) (by kernel_rfl) (by kernel_rfl) (fun _ _ _ h => h) (Or.inr ⟨by kernel_rfl, rfl⟩) (by assumption) ?_
          try simp only [Act.put, List.setIfInBounds_toArray, List.set_cons_zero, List.set_cons_succ, List.getElem_toArray, List.getElem_cons_succ, List.getElem_cons_zero]
          refine' wpAnyH_take (i := 7) (v := undef) rfl (by kernel_rfl) (by kernel_rfl) (by kernel_rfl) (fun _ _ _ h => h) (Or.inr ⟨by kernel_rfl, rfl⟩) (by assumption) ?_
          try simp only [Act.put, List.setIfInBounds_toArray, List.set_cons_zero, List.set_cons_succ, List.getElem_toArray, List.getElem_cons_succ, List.getElem_cons_zero]
          refine' wpAnyH_take (i := 8) (v := undef) rfl (by kernel_rfl) (by kernel_rfl) (by kernel_rfl) (fun _ _ _ h => h) (Or.inr ⟨by kernel_rfl, rfl⟩) (by assumption) ?_
          try simp only [Act.put, List.setIfInBounds_toArray, List.set_cons_zero, List.set_cons_succ, List.getElem_toArray, List.getElem_cons_succ, List.getElem_cons_zero]
          refine' wpAnyH_take (i := 9) (v := undef) rfl (by kernel_rfl) (by kernel_rfl) (by kernel_rfl) (fun _ _ _ h => h) (Or.inr ⟨by kernel_rfl, rfl⟩) (by assumption) ?_
          try simp only [Act.put, List.setIfInBounds_toArray, List.set_cons_zero, List.set_cons_succ, List.getElem_toArray, List.getElem_cons_succ, List.getElem_cons_zero]
          refine' wpAnyH_take (i := 10) (v := undef) rfl (by kernel_rfl) (by kernel_rfl) (by kernel_rfl) (fun _ _ _ h => h) (Or.inr ⟨by kernel_rfl, rfl⟩) (by assumption) ?_
          try simp only [Act.put, List.setIfInBounds_toArray, List.set_cons_zero, List.set_cons_succ, List.getElem_toArray, List.getElem_cons_succ, List.getElem_cons_zero]
          refine' wpAnyH_take (i := 11) (v := _) rfl (by kernel_rfl) (by kernel_rfl) (by kernel_rfl) (fun _ _ _ h => h) (Or.inl ⟨by kernel_rfl, ?hy⟩) (by assumption) ?_
          case hy => (intro W hW; (try dsimp only at hW); go_simp; try (with_reducible rfl))
          try simp only [Act.put, List.setIfInBounds_toArray, List.set_cons_zero, List.set_cons_succ, List.getElem_toArray, List.getElem_cons_succ, List.getElem_cons_zero]
          refine wpAnyH_done (by kernel_rfl) ?_ _
          obtain ⟨p1xb, p1x0, p1x1, p1x2, p1x3, p1x4, p1x5, p1x6, p1x7, p1x8, p1x9⟩ := hH1
          have p1xz0 := block_lt p1x0
          have p1xz2 := block_lt p1x2
          have p1xz4 := block_lt p1x4
          have p1xz6 := block_lt p1x6
          have p1xz8 := block_lt p1x8
          have p1xs := p1xb.size
          go_wp2_with fail
          refine wp_region_held_drew (S := (fun W : World => Below w.heap.size w W ∧ W.cell? ⟨B0, 0, none⟩ = some (.int .i64 a0) ∧ W.cell? ⟨B0, 1, none⟩ = some (.int .i64 a1) ∧ W.cell? ⟨B1, 0, none⟩ = some (.int .i64 b0) ∧ W.cell? ⟨B1, 1, none⟩ = some (.int .i64 b1) ∧ W.cell? ⟨B2, 0, none⟩ = some (.int .i64 c0) ∧ W.cell? ⟨B2, 1, none⟩ = some (.int .i64 c1) ∧ W.cell? ⟨V.heap.size, 0, none⟩ = some (.int .i64 (-1)) ∧ W.cell? ⟨V.heap.size, 1, none⟩ = some (.int .i64 (-1)) ∧ W.cell? ⟨V.heap.size + 1, 0, none⟩ = some (.int .i64 0) ∧ W.cell? ⟨V.heap.size + 1, 1, none⟩ = some (.int .i64 1))) (by kernel_rfl) ?hS (fun hH => ?_)
          case hS =>
            ((repeat' apply And.intro) <;> (first | (with_reducible assumption) | (refine belowT ?_ ‹_›; first | (go_grown; done) | exact And.left (by assumption)) | (refine belowT (And.left (by assumption)) ?_; go_grown; done) | (go_simp; done) | exact keep1 ‹_› (by first | (go_simp; done) | (go_keep; done)) | (go_keep; done) | omega | (go_grown; done) | (refine Nat.lt_of_lt_of_le ?_ (Below.size ‹_›); first | omega | (simp; done)) | exact keepF ‹_› (by first | omega | (simp; done)) (by first | (go_simp; done) | (go_keep; done)) | (simp; omega) | (simp only [World.size_alloc, World.size_drew, World.size_setCell] at *; omega)))
          refine' wpAnyH_take (i := 0) (v := _) rfl (by kernel_rfl) (by kernel_rfl) (by kernel_rfl) (fun _ _ _ h => h) (Or.inl ⟨by kernel_rfl, ?hy⟩) (by assumption) ?_
          case hy => (intro W hW; (try dsimp only at hW); go_simp; try (with_reducible rfl))
          try simp only [Act.put, List.setIfInBounds_toArray, List.set_cons_zero, List.set_cons_succ, List.getElem_toArray, List.getElem_cons_zero]
          refine' wpAnyH_take (i := 1) (v := _) rfl (by kernel_rfl) (by kernel_rfl) (by kernel_rfl) (fun _ _ _ h => h) (Or.inl ⟨by kernel_rfl, ?hy⟩) (by assumption) ?_
          case hy => (intro W hW; (try dsimp only at hW); go_simp; try (with_reducible rfl))
          try simp only [Act.put, List.setIfInBounds_toArray, List.set_cons_zero, List.set_cons_succ, List.getElem_toArray, List.getElem_cons_succ, List.getElem_cons_zero]
          refine' wpAnyH_take (i := 2) (v := _) rfl (by kernel_rfl) (by kernel_rfl) (by kernel_rfl) (fun _ _ _ h => h) (Or.inl ⟨by kernel_rfl, ?hy⟩) (by assumption) ?_
          case hy => (intro W hW; (try dsimp only at hW); go_simp; try (with_reducible rfl))
          try simp only [Act.put, List.setIfInBounds_toArray, List.set_cons_zero, List.set_cons_succ, List.getElem_toArray, List.getElem_cons_succ, List.getElem_cons_zero]
          refine wpAnyH_ready (rs := [3]) (by kernel_rfl) (by simp) ?_
          refine AllReadyH.cons rfl (fun K hK => ?_) AllReadyH.nil
          go_simp
          refine (H3.out _).mono ?_
          rintro e wr1 ⟨rfl, hbr1⟩
          refine hK.out _ _ ?hS (fun hH1 => ?_)
          case hS =>
            ((repeat' apply And.intro) <;> (first | (with_reducible assumption) | (refine belowT ?_ ‹_›; first | (go_grown; done) | exact And.left (by assumption)) | (refine belowT (And.left (by assumption)) ?_; go_grown; done) | (go_simp; done) | exact keep1 ‹_› (by first | (go_simp; done) | (go_keep; done)) | (go_keep; done) | omega | (go_grown; done) | (refine Nat.lt_of_lt_of_le ?_ (Below.size ‹_›); first | omega | (simp; done)) | exact keepF ‹_› (by first | omega | (simp; done)) (by first | (go_simp; done) | (go_keep; done)) | (simp; omega) | (simp only [World.size_alloc, World.size_drew, World.size_setCell] at *; omega)))
          clear hK
          try simp only [Act.put, List.setIfInBounds_toArray, List.set_cons_zero, List.set_cons_succ, List.getElem_toArray, List.getElem_cons_succ, List.getElem_cons_zero]
          refine' wpAnyH_take (i := 4) (v := _) rfl (by kernel_rfl) (by kernel_rfl) (by kernel_rfl) (fun _ _ _ h => h) (Or.inl ⟨by kernel_rfl, ?hy⟩) (by assumption) ?_
          case hy => (intro W hW; (try dsimp only at hW); go_simp; try (with_reducible rfl))
          try simp only [Act.put, List.setIfInBounds_toArray, List.set_cons_zero, List.set_cons_succ, List.getElem_toArray, List.getElem_cons_succ, List.getElem_cons_zero]
          refine' wpAnyH_take (i := 5) (v := _) rfl (by kernel_rfl) (by kernel_rfl) (by kernel_rfl) (fun _ _ _ h => h) (Or.inl ⟨by kernel_rfl, ?hy⟩) (by assumption) ?_
          case hy => (intro W hW; (try dsimp only at hW); go_simp; try (with_reducible rfl))
          try simp only [Act.put, List.setIfInBounds_toArray, List.set_cons_zero, List.set_cons_succ, List.getElem_toArray, List.getElem_cons_succ, List.getElem_cons_zero]
          refine' wpAnyH_take (i := 6) (v := undef) rfl (by kernel_rfl) (by kernel_rfl) (by kernel_rfl) (fun _ _ _ h => h) (Or.inr ⟨by kernel_rfl, rfl⟩) (by assumption) ?_
          try simp only [Act.put, List.setIfInBounds_toArray, List.set_cons_zero, List.set_cons_succ, List.getElem_toArray, List.getElem_cons_succ, List.getElem_cons_zero]
          refine' wpAnyH_take (i := 7) (v := undef) rfl (by kernel_rfl) (by kernel_rfl) (by kernel_rfl) (fun _ _ _ h => h) (Or.inr ⟨by kernel_rfl, rfl⟩) (by assumption) ?_
          try simp only [Act.put, List.setIfInBounds_toArray, List.set_cons_zero, List.set_cons_succ, List.getElem_toArray, List.getElem_cons_succ, List.getElem_cons_zero]
          refine' wpAnyH_take (i := 8) (v := undef) rfl (by kernel_rfl) (by kernel_rfl) (by kernel_rfl) (fun _ _ _ h => h) (Or.inr ⟨by kernel_rfl, rfl⟩) (by assumption) ?_
          try simp only [Act.put, List.setIfInBounds_toArray, List.set_cons_zero, List.set_cons_succ, List.getElem_toArray, List.getElem_cons_succ, List.getElem_cons_zero]
          refine' wpAnyH_take (i := 9) (v := undef) rfl (by kernel_rfl) (by kernel_rfl) (by kernel_rfl) (fun _ _ _ h => h) (Or.inr ⟨by kernel_rfl, rfl⟩) (by assumption) ?_
          try simp only [Act.put, List.setIfInBounds_toArray, List.set_cons_zero, List.set_cons_succ, List.getElem_toArray, List.getElem_cons_succ, List.getElem_cons_zero]
          refine' wpAnyH_take (i := 10) (v := undef) rfl (by kernel_rfl) (by kernel_rfl) (by kernel_rfl) (fun _ _ _ h => h) (Or.inr ⟨by kernel_rfl, rfl⟩) (by assumption) ?_
          try simp only [Act.put, List.setIfInBounds_toArray, List.set_cons_zero, List.set_cons_succ, List.getElem_toArray, List.getElem_cons_succ, List.getElem_cons_zero]
          refine' wpAnyH_take (i := 11) (v := _) rfl (by kernel_rfl) (by kernel_rfl) (by kernel_rfl) (fun _ _ _ h => h) (Or.inl ⟨by kernel_rfl, ?hy⟩) (by assumption) ?_
          case hy => (intro W hW; (try dsimp only at hW); go_simp; try (with_reducible rfl))
          try simp only [Act.put, List.setIfInBounds_toArray, List.set_cons_zero, List.set_cons_succ, List.getElem_toArray, List.getElem_cons_succ, List.getElem_cons_zero]
          refine wpAnyH_done (by kernel_rfl) ?_ _
          obtain ⟨p2xb, p2x0, p2x1, p2x2, p2x3, p2x4, p2x5, p2x6, p2x7, p2x8, p2x9⟩ := hH1
          have p2xz0 := block_lt p2x0
          have p2xz2 := block_lt p2x2
          have p2xz4 := block_lt p2x4
          have p2xz6 := block_lt p2x6
          have p2xz8 := block_lt p2x8
          have p2xs := p2xb.size
          go_wp2
          go_returns
          exact ⟨rfl, by first | (go_grown; done) | assumption⟩
        · cases t4
          · simp at hsv hse
            subst hsv hse
            go_wp2_with fail
            refine wp_region_held_drew (S := (fun W : World => Below w.heap.size w W ∧ W.cell? ⟨B0, 0, none⟩ = some (.int .i64 a0) ∧ W.cell? ⟨B0, 1, none⟩ = some (.int .i64 a1) ∧ W.cell? ⟨B1, 0, none⟩ = some (.int .i64 b0) ∧ W.cell? ⟨B1, 1, none⟩ = some (.int .i64 b1) ∧ W.cell? ⟨B2, 0, none⟩ = some (.int .i64 c0) ∧ W.cell? ⟨B2, 1, none⟩ = some (.int .i64 c1) ∧ W.cell? ⟨V.heap.size, 0, none⟩ = some (.int .i64 (-1)) ∧ W.cell? ⟨V.heap.size, 1, none⟩ = some (.int .i64 (-1)) ∧ W.cell? ⟨V.heap.size + 1, 0, none⟩ = some (.int .i64 0) ∧ W.cell? ⟨V.heap.size + 1, 1, none⟩ = some (.int .i64 1))) (by kernel_rfl) ?hS (fun hH => ?_)
            case hS =>
              ((repeat' apply And.intro) <;> (first | (refine belowT qb ?_; go_grown; done) | (first | (with_reducible assumption) | (refine belowT ?_ ‹_›; first | (go_grown; done) | exact And.left (by assumption)) | (refine belowT (And.left (by assumption)) ?_; go_grown; done) | (go_simp; done) | exact keep1 ‹_› (by first | (go_simp; done) | (go_keep; done)) | (go_keep; done) | omega | (go_grown; done) | (refine Nat.lt_of_lt_of_le ?_ (Below.size ‹_›); first | omega | (simp; done)) | exact keepF ‹_› (by first | omega | (simp; done)) (by first | (go_simp; done) | (go_keep; done)) | (simp; omega) | (simp only [World.size_alloc, World.size_drew, World.size_setCell] at *; omega))))
            refine' wpAnyH_take (i := 0) (v := _) rfl (by kernel_rfl) (by kernel_rfl) (by kernel_rfl) (fun _ _ _ h => h) (Or.inl ⟨by kernel_rfl, ?hy⟩) (by assumption) ?_
            case hy => (intro W hW; (try dsimp only at hW); go_simp; try (with_reducible rfl))
            try simp only [Act.put, List.setIfInBounds_toArray, List.set_cons_zero, List.set_cons_succ, List.getElem_toArray, List.getElem_cons_zero]
            refine' wpAnyH_take (i := 1) (v := _) rfl (by kernel_rfl) (by kernel_rfl) (by kernel_rfl) (fun _ _ _ h => h) (Or.inl ⟨by kernel_rfl, ?hy⟩) (by assumption) ?_
            case hy => (intro W hW; (try dsimp only at hW); go_simp; try (with_reducible rfl))
            try simp only [Act.put, List.setIfInBounds_toArray, List.set_cons_zero, List.set_cons_succ, List.getElem_toArray, List.getElem_cons_succ, List.getElem_cons_zero]
            refine' wpAnyH_take (i := 2) (v := _) rfl (by kernel_rfl) (by kernel_rfl) (by kernel_rfl) (fun _ _ _ h => h) (Or.inl ⟨by kernel_rfl, ?hy⟩) (by assumption) ?_
            case hy => (intro W hW; (try dsimp only at hW); go_simp; try (with_reducible rfl))
            try simp only [Act.put, List.setIfInBounds_toArray, List.set_cons_zero, List.set_cons_succ, List.getElem_toArray, List.getElem_cons_succ, List.getElem_cons_zero]
            refine wpAnyH_ready (rs := [3]) (by kernel_rfl) (by simp) ?_
            refine AllReadyH.cons rfl (fun K hK => ?_) AllReadyH.nil
            go_simp
            refine (H1.out _).mono ?_
            rintro e wr1 ⟨rfl, hbr1⟩
            refine hK.out _ _ ?hS (fun hH1 => ?_)
            case hS =>
              ((repeat' apply And.intro) <;> (first | (refine belowT qb ?_; go_grown; done) | (first | (with_reducible assumption) | (refine belowT ?_ ‹_›; first | (go_grown; done) | exact And.left (by assumption)) | (refine belowT (And.left (by assumption)) ?_; go_grown; done) | (go_simp; done) | exact keep1 ‹_› (by first | (go_simp; done) | (go_keep; done)) | (go_keep; done) | omega | (go_grown; done) | (refine Nat.lt_of_lt_of_le ?_ (Below.size ‹_›); first | omega | (simp; done)) | exact keepF ‹_› (by first | omega | (simp; done)) (by first | (go_simp; done) | (go_keep; done)) | (simp; omega) | (simp only [World.size_alloc, World.size_drew, World.size_setCell] at *; omega))))
            clear hK
            try simp only [Act.put, List.setIfInBounds_toArray, List.set_cons_zero, List.set_cons_succ, List.getElem_toArray, List.getElem_cons_succ, List.getElem_cons_zero]
            refine' wpAnyH_take (i := 4) (v := _) rfl (by kernel_rfl) (by kernel_rfl) (by kernel_rfl) (fun _ _ _ h => h) (Or.inl ⟨by kernel_rfl, ?hy⟩) (by assumption) ?_
            case hy => (intro W hW; (try dsimp only at hW); go_simp; try (with_reducible rfl))
            try simp only [Act.put, List.setIfInBounds_toArray, List.set_cons_zero, List.set_cons_succ, List.getElem_toArray, List.getElem_cons_succ, List.getElem_cons_zero]
            refine' wpAnyH_take (i := 5) (v := _) rfl (by kernel_rfl) (by kernel_rfl) (by kernel_rfl) (fun _ _ _ h => h) (Or.inl ⟨by kernel_rfl, ?hy⟩) (by assumption) ?_
            case hy => (intro W hW; (try dsimp only at hW); go_simp; try (with_reducible rfl))
            try simp only [Act.put, List.setIfInBounds_toArray, List.set_cons_zero, List.set_cons_succ, List.getElem_toArray, List.getElem_cons_succ, List.getElem_cons_zero]
            refine' wpAnyH_take (i := 6) (v := undef) rfl (by kernel_rfl) (by kernel_rfl) (by kernel_rfl) (fun _ _ _ h => h) (Or.inr ⟨by kernel_rfl, rfl⟩) (by assumption) ?_
            try simp only [Act.put, List.setIfInBounds_toArray, List.set_cons_zero, List.set_cons_succ, List.getElem_toArray, List.getElem_cons_succ, List.getElem_cons_zero]
            refine' wpAnyH_take (i := 7) (v := undef) rfl (by kernel_rfl) (by kernel_rfl) (by kernel_rfl) (fun _ _ _ h => h) (Or.inr ⟨by kernel_rfl, rfl⟩) (by assumption) ?_
            try simp only [Act.put, List.setIfInBounds_toArray, List.set_cons_zero, List.set_cons_succ, List.getElem_toArray, List.getElem_cons_succ, List.getElem_cons_zero]
            refine' wpAnyH_take (i := 8) (v := undef) rfl (by kernel_rfl) (by kernel_rfl) (by kernel_rfl) (fun _ _ _ h => h) (Or.inr ⟨by kernel_rfl, rfl⟩) (by assumption) ?_
            try simp only [Act.put, List.setIfInBounds_toArray, List.set_cons_zero, List.set_cons_succ, List.getElem_toArray, List.getElem_cons_succ, List.getElem_cons_zero]
            refine' wpAnyH_take (i := 9) (v := undef) rfl (by kernel_rfl) (by kernel_rfl) (by kernel_rfl) (fun _ _ _ h => h) (Or.inr ⟨by kernel_rfl, rfl⟩) (by assumption) ?_
            try simp only [Act.put, List.setIfInBounds_toArray, List.set_cons_zero, List.set_cons_succ, List.getElem_toArray, List.getElem_cons_succ, List.getElem_cons_zero]
            refine' wpAnyH_take (i := 10) (v := undef) rfl (by kernel_rfl) (by kernel_rfl) (by kernel_rfl) (fun _ _ _ h => h) (Or.inr ⟨by kernel_rfl, rfl⟩) (by assumption) ?_
            try simp only [Act.put, List.setIfInBounds_toArray, List.set_cons_zero, List.set_cons_succ, List.getElem_toArray, List.getElem_cons_succ, List.getElem_cons_zero]
            refine' wpAnyH_take (i := 11) (v := _) rfl (by kernel_rfl) (by kernel_rfl) (by kernel_rfl) (fun _ _ _ h => h) (Or.inl ⟨by kernel_rfl, ?hy⟩) (by assumption) ?_
            case hy => (intro W hW; (try dsimp only at hW); go_simp; try (with_reducible rfl))
            try simp only [Act.put, List.setIfInBounds_toArray, List.set_cons_zero, List.set_cons_succ, List.getElem_toArray, List.getElem_cons_succ, List.getElem_cons_zero]
            refine wpAnyH_done (by kernel_rfl) ?_ _
            obtain ⟨p1xb, p1x0, p1x1, p1x2, p1x3, p1x4, p1x5, p1x6, p1x7, p1x8, p1x9⟩ := hH1
            have p1xz0 := block_lt p1x0
            have p1xz2 := block_lt p1x2
            have p1xz4 := block_lt p1x4
            have p1xz6 := block_lt p1x6
            have p1xz8 := block_lt p1x8
            have p1xs := p1xb.size
            go_wp2_with fail
            refine wp_region_held_drew (S := (fun W : World => Below w.heap.size w W ∧ W.cell? ⟨B0, 0, none⟩ = some (.int .i64 a0) ∧ W.cell? ⟨B0, 1, none⟩ = some (.int .i64 a1) ∧ W.cell? ⟨B1, 0, none⟩ = some (.int .i64 b0) ∧ W.cell? ⟨B1, 1, none⟩ = some (.int .i64 b1) ∧ W.cell? ⟨B2, 0, none⟩ = some (.int .i64 c0) ∧ W.cell? ⟨B2, 1, none⟩ = some (.int .i64 c1) ∧ W.cell? ⟨V.heap.size, 0, none⟩ = some (.int .i64 (-1)) ∧ W.cell? ⟨V.heap.size, 1, none⟩ = some (.int .i64 (-1)) ∧ W.cell? ⟨V.heap.size + 1, 0, none⟩ = some (.int .i64 0) ∧ W.cell? ⟨V.heap.size + 1, 1, none⟩ = some (.int .i64 1))) (by kernel_rfl) ?hS (fun hH => ?_)
            case hS =>
              ((repeat' apply And.intro) <;> (first | (with_reducible assumption) | (refine belowT ?_ ‹_›; first | (go_grown; done) | exact And.left (by assumption)) | (refine belowT (And.left (by assumption)) ?_; go_grown; done) | (go_simp; done) | exact keep1 ‹_› (by first | (go_simp; done) | (go_keep; done)) | (go_keep; done) | omega | (go_grown; done) | (refine Nat.lt_of_lt_of_le ?_ (Below.size ‹_›); first | omega | (simp; done)) | exact keepF ‹_› (by first | omega | (simp; done)) (by first | (go_simp; done) | (go_keep; done)) | (simp; omega) | (simp only [World.size_alloc, World.size_drew, World.size_setCell] at *; omega)))
            refine' wpAnyH_take (i := 0) (v := _) rfl (by kernel_rfl) (by kernel_rfl) (by kernel_rfl) (fun _ _ _ h => h) (Or.inl ⟨by kernel_rfl, ?hy⟩) (by assumption) ?_
            case hy => (intro W hW; (try dsimp only at hW); go_simp; try (with_reducible rfl))
            try simp only [Act.put, List.setIfInBounds_toArray, List.set_cons_zero, List.set_cons_succ, List.getElem_toArray, List.getElem_cons_zero]
            refine' wpAnyH_take (i := 1) (v := _) rfl (by kernel_rfl) (by kernel_rfl) (by kernel_rfl) (fun _ _ _ h => h) (Or.inl ⟨by kernel_rfl, ?hy⟩) (by assumption) ?_
            case hy => (intro W hW; (try dsimp only at hW); go_simp; try (with_reducible rfl))
            try simp only [Act.put, List.setIfInBounds_toArray, List.set_cons_zero, List.set_cons_succ, List.getElem_toArray, List.getElem_cons_succ, List.getElem_cons_zero]
            refine' wpAnyH_take (i := 2) (v := _) rfl (by kernel_rfl) (by kernel_rfl) (by kernel_rfl) (fun _ _ _ h => h) (Or.inl ⟨by kernel_rfl, ?hy⟩) (by assumption) ?_
            case hy => (intro W hW; (try dsimp only at hW); go_simp; try (with_reducible rfl))
            try simp only [Act.put, List.setIfInBounds_toArray, List.set_cons_zero, List.set_cons_succ, List.getElem_toArray, List.getElem_cons_succ, List.getElem_cons_zero]
            refine wpAnyH_ready (rs := [3]) (by kernel_rfl) (by simp) ?_
            refine AllReadyH.cons rfl (fun K hK => ?_) AllReadyH.nil
            go_simp
            refine (H3.out _).mono ?_
            rintro e wr1 ⟨rfl, hbr1⟩
            refine hK.out _ _ ?hS (fun hH1 => ?_)
            case hS =>
              ((repeat' apply And.intro) <;> (first | (with_reducible assumption) | (refine belowT ?_ ‹_›; first | (go_grown; done) | exact And.left (by assumption)) | (refine belowT (And.left (by assumption)) ?_; go_grown; done) | (go_simp; done) | exact keep1 ‹_› (by first | (go_simp; done) | (go_keep; done)) | (go_keep; done) | omega | (go_grown; done) | (refine Nat.lt_of_lt_of_le ?_ (Below.size ‹_›); first | omega | (simp; done)) | exact keepF ‹_› (by first | omega | (simp; done)) (by first | (go_simp; done) | (go_keep; done)) | (simp; omega) | (simp only [World.size_alloc, World.size_drew, World.size_setCell] at *; omega)))
            clear hK
            try simp only [Act.put, List.setIfInBounds_toArray, List.set_cons_zero, List.set_cons_succ, List.getElem_toArray, List.getElem_cons_succ, List.getElem_cons_zero]
            refine' wpAnyH_take (i := 4) (v := _) rfl (by kernel_rfl) (by kernel_rfl) (by kernel_rfl) (fun _ _ _ h => h) (Or.inl ⟨by kernel_rfl, ?hy⟩) (by assumption) ?_
            case hy => (intro W hW; (try dsimp only at hW); go_simp; try (with_reducible rfl))
            try simp only [Act.put, List.setIfInBounds_toArray, List.set_cons_zero, List.set_cons_succ, List.getElem_toArray, List.getElem_cons_succ, List.getElem_cons_zero]
            refine' wpAnyH_take (i := 5) (v := _) rfl (by kernel_rfl) (by kernel_rfl) (by kernel_rfl) (fun _ _ _ h => h) (Or.inl ⟨by kernel_rfl, ?hy⟩) (by assumption) ?_
            case hy => (intro W hW; (try dsimp only at hW); go_simp; try (with_reducible rfl))
            try simp only [Act.put, List.setIfInBounds_toArray, List.set_cons_zero, List.set_cons_succ, List.getElem_toArray, List.getElem_cons_succ, List.getElem_cons_zero]
            refine' wpAnyH_take (i := 6) (v := _) rfl (by kernel_rfl) (by kernel_rfl) (by kernel_rfl) (fun _ _ _ h => h) (Or.inl ⟨by kernel_rfl, ?hy⟩) (by assumption) ?_
            case hy => (intro W hW; (try dsimp only at hW); go_simp; try (with_reducible rfl))
            try simp only [Act.put, List.setIfInBounds_toArray, List.set_cons_zero, List.set_cons_succ, List.getElem_toArray, List.getElem_cons_succ, List.getElem_cons_zero]
            refine' wpAnyH_take (i := 7) (v := _) rfl (by kernel_rfl) (by kernel_rfl) (by kernel_rfl) (fun _ _ _ h => h) (Or.inl ⟨by kernel_rfl, ?hy⟩) (by assumption) ?_
            case hy => (intro W hW; (try dsimp only at hW); go_simp; try (with_reducible rfl))
            try simp only [Act.put, List.setIfInBounds_toArray, List.set_cons_zero, List.set_cons_succ, List.getElem_toArray, List.getElem_cons_succ, List.getElem_cons_zero]
            refine' wpAnyH_take (i := 8) (v := _) rfl (by kernel_rfl) (by kernel_rfl) (by kernel_rfl) (fun _ _ _ h => h) (Or.inl ⟨by kernel_rfl, ?hy⟩) (by assumption) ?_
            case hy => (intro W hW; (try dsimp only at hW); go_simp; try (with_reducible rfl))
            try simp only [Act.put, List.setIfInBounds_toArray, List.set_cons_zero, List.set_cons_succ, List.getElem_toArray, List.getElem_cons_succ, List.getElem_cons_zero]
            refine wpAnyH_ready (rs := [9]) (by kernel_rfl) (by simp) ?_
            refine AllReadyH.cons rfl (fun K hK => ?_) AllReadyH.nil
            go_simp
            refine (H4.out _).mono ?_
            rintro e wr2 ⟨rfl, hbr2⟩
            refine hK.out _ _ ?hS (fun hH2 => ?_)
            case hS =>
              ((repeat' apply And.intro) <;> (first | (with_reducible assumption) | (refine belowT ?_ ‹_›; first | (go_grown; done) | exact And.left (by assumption)) | (refine belowT (And.left (by assumption)) ?_; go_grown; done) | (go_simp; done) | exact keep1 ‹_› (by first | (go_simp; done) | (go_keep; done)) | (go_keep; done) | omega | (go_grown; done) | (refine Nat.lt_of_lt_of_le ?_ (Below.size ‹_›); first | omega | (simp; done)) | exact keepF ‹_› (by first | omega | (simp; done)) (by first | (go_simp; done) | (go_keep; done)) | (simp; omega) | (simp only [World.size_alloc, World.size_drew, World.size_setCell] at *; omega)))
            clear hK
            try simp only [Act.put, List.setIfInBounds_toArray, List.set_cons_zero, List.set_cons_succ, List.getElem_toArray, List.getElem_cons_succ, List.getElem_cons_zero]
            refine' wpAnyH_take (i := 10) (v := _) rfl (by kernel_rfl) (by kernel_rfl) (by kernel_rfl) (fun _ _ _ h => h) (Or.inl ⟨by kernel_rfl, ?hy⟩) (by assumption) ?_
            case hy => (intro W hW; (try dsimp only at hW); go_simp; try (with_reducible rfl))
            try simp only [Act.put, List.setIfInBounds_toArray, List.set_cons_zero, List.set_cons_succ, List.getElem_toArray, List.getElem_cons_succ, List.getElem_cons_zero]
            refine' wpAnyH_take (i := 11) (v := _) rfl (by kernel_rfl) (by kernel_rfl) (by kernel_rfl) (fun _ _ _ h => h) (Or.inl ⟨by kernel_rfl, ?hy⟩) (by assumption) ?_
            case hy => (intro W hW; (try dsimp only at hW); go_simp; try (with_reducible rfl))
            try simp only [Act.put, List.setIfInBounds_toArray, List.set_cons_zero, List.set_cons_succ, List.getElem_toArray, List.getElem_cons_succ, List.getElem_cons_zero]
            refine wpAnyH_done (by kernel_rfl) ?_ _
            obtain ⟨p2xb, p2x0, p2x1, p2x2, p2x3, p2x4, p2x5, p2x6, p2x7, p2x8, p2x9⟩ := hH2
            have p2xz0 := block_lt p2x0
            have p2xz2 := block_lt p2x2
            have p2xz4 := block_lt p2x4
            have p2xz6 := block_lt p2x6
            have p2xz8 := block_lt p2x8
            have p2xs := p2xb.size
            go_wp2
            go_returns
            exact ⟨rfl, by first | (go_grown; done) | assumption⟩
          · simp at hsv hse
            subst hsv hse
            go_wp2_with fail
            refine wp_region_held_drew (S := (fun W : World => Below w.heap.size w W ∧ W.cell? ⟨B0, 0, none⟩ = some (.int .i64 a0) ∧ W.cell? ⟨B0, 1, none⟩ = some (.int .i64 a1) ∧ W.cell? ⟨B1, 0, none⟩ = some (.int .i64 b0) ∧ W.cell? ⟨B1, 1, none⟩ = some (.int .i64 b1) ∧ W.cell? ⟨B2, 0, none⟩ = some (.int .i64 c0) ∧ W.cell? ⟨B2, 1, none⟩ = some (.int .i64 c1) ∧ W.cell? ⟨V.heap.size, 0, none⟩ = some (.int .i64 (-1)) ∧ W.cell? ⟨V.heap.size, 1, none⟩ = some (.int .i64 (-1)) ∧ W.cell? ⟨V.heap.size + 1, 0, none⟩ = some (.int .i64 0) ∧ W.cell? ⟨V.heap.size + 1, 1, none⟩ = some (.int .i64 1))) (by kernel_rfl) ?hS (fun hH => ?_)
            case hS =>
              ((repeat' apply And.intro) <;> (first | (refine belowT qb ?_; go_grown; done) | (first | (with_reducible assumption) | (refine belowT ?_ ‹_›; first | (go_grown; done) | exact And.left (by assumption)) | (refine belowT (And.left (by assumption)) ?_; go_grown; done) | (go_simp; done) | exact keep1 ‹_› (by first | (go_simp; done) | (go_keep; done)) | (go_keep; done) | omega | (go_grown; done) | (refine Nat.lt_of_lt_of_le ?_ (Below.size ‹_›); first | omega | (simp; done)) | exact keepF ‹_› (by first | omega | (simp; done)) (by first | (go_simp; done) | (go_keep; done)) | (simp; omega) | (simp only [World.size_alloc, World.size_drew, World.size_setCell] at *; omega))))
            refine' wpAnyH_take (i := 0) (v := _) rfl (by kernel_rfl) (by kernel_rfl) (by kernel_rfl) (fun _ _ _ h => h) (Or.inl ⟨by kernel_rfl, ?hy⟩) (by assumption) ?_
            case hy => (intro W hW; (try dsimp only at hW); go_simp; try (with_reducible rfl))
            try simp only [Act.put, List.setIfInBounds_toArray, List.set_cons_zero, List.set_cons_succ, List.getElem_toArray, List.getElem_cons_zero]
            refine' wpAnyH_take (i := 1) (v := _) rfl (by kernel_rfl) (by kernel_rfl) (by kernel_rfl) (fun _ _ _ h => h) (Or.inl ⟨by kernel_rfl, ?hy⟩) (by assumption) ?_
            case hy => (intro W hW; (try dsimp only at hW); go_simp; try (with_reducible rfl))
            try simp only [Act.put, List.setIfInBounds_toArray, List.set_cons_zero, List.set_cons_succ, List.getElem_toArray, List.getElem_cons_succ, List.getElem_cons_zero]
            refine' wpAnyH_take (i := 2) (v := _) rfl (by kernel_rfl) (by kernel_rfl) (by kernel_rfl) (fun _ _ _ h => h) (Or.inl ⟨by kernel_rfl, ?hy⟩) (by assumption) ?_
            case hy => (intro W hW; (try dsimp only at hW); go_simp; try (with_reducible rfl))
            try simp only [Act.put, List.setIfInBounds_toArray, List.set_cons_zero, List.set_cons_succ, List.getElem_toArray, List.getElem_cons_succ, List.getElem_cons_zero]
            refine wpAnyH_ready (rs := [3]) (by kernel_rfl) (by simp) ?_
            refine AllReadyH.cons rfl (fun K hK => ?_) AllReadyH.nil
            go_simp
            refine (H1.out _).mono ?_
            rintro e wr1 ⟨rfl, hbr1⟩
            refine hK.out _ _ ?hS (fun hH1 => ?_)
            case hS =>
              ((repeat' apply And.intro) <;> (first | (refine belowT qb ?_; go_grown; done) | (first | (with_reducible assumption) | (refine belowT ?_ ‹_›; first | (go_grown; done) | exact And.left (by assumption)) | (refine belowT (And.left (by assumption)) ?_; go_grown; done) | (go_simp; done) | exact keep1 ‹_› (by first | (go_simp; done) | (go_keep; done)) | (go_keep; done) | omega | (go_grown; done) | (refine Nat.lt_of_lt_of_le ?_ (Below.size ‹_›); first | omega | (simp; done)) | exact keepF ‹_› (by first | omega | (simp; done)) (by first | (go_simp; done) | (go_keep; done)) | (simp; omega) | (simp only [World.size_alloc, World.size_drew, World.size_setCell] at *; omega))))
            clear hK
            try simp only [Act.put, List.setIfInBounds_toArray, List.set_cons_zero, List.set_cons_succ, List.getElem_toArray, List.getElem_cons_succ, List.getElem_cons_zero]
            refine' wpAnyH_take (i := 4) (v := _) rfl (by kernel_rfl) (by kernel_rfl) (by kernel_rfl) (fun _ _ _ h => h) (Or.inl ⟨by kernel_rfl, ?hy⟩) (by assumption) ?_
            case hy => (intro W hW; (try dsimp only at hW); go_simp; try (with_reducible rfl))
            try simp only [Act.put, List.setIfInBounds_toArray, List.set_cons_zero, List.set_cons_succ, List.getElem_toArray, List.getElem_cons_succ, List.getElem_cons_zero]
            refine' wpAnyH_take (i := 5) (v := _) rfl (by kernel_rfl) (by kernel_rfl) (by kernel_rfl) (fun _ _ _ h => h) (Or.inl ⟨by kernel_rfl, ?hy⟩) (by assumption) ?_
            case hy => (intro W hW; (try dsimp only at hW); go_simp; try (with_reducible rfl))
            try simp only [Act.put, List.setIfInBounds_toArray, List.set_cons_zero, List.set_cons_succ, List.getElem_toArray, List.getElem_cons_succ, List.getElem_cons_zero]
            refine' wpAnyH_take (i := 6) (v := undef) rfl (by kernel_rfl) (by kernel_rfl) (by kernel_rfl) (fun _ _ _ h => h) (Or.inr ⟨by kernel_rfl, rfl⟩) (by assumption) ?_
            try simp only [Act.put, List.setIfInBounds_toArray, List.set_cons_zero, List.set_cons_succ, List.getElem_toArray, List.getElem_cons_succ, List.getElem_cons_zero]
            refine' wpAnyH_take (i := 7) (v := undef) rfl (by kernel_rfl) (by kernel_rfl) (by kernel_rfl) (fun _ _ _ h => h) (Or.inr ⟨by kernel_rfl, rfl⟩) (by assumption) ?_
            try simp only [Act.put, List.setIfInBounds_toArray, List.set_cons_zero, List.set_cons_succ, List.getElem_toArray, List.getElem_cons_succ, List.getElem_cons_zero]
            refine' wpAnyH_take (i := 8) (v := undef) rfl (by kernel_rfl) (by kernel_rfl) (by kernel_rfl) (fun _ _ _ h => h) (Or.inr ⟨by kernel_rfl, rfl⟩) (by assumption) ?_
            try simp only [Act.put, List.setIfInBounds_toArray, List.set_cons_zero, List.set_cons_succ, List.getElem_toArray, List.getElem_cons_succ, List.getElem_cons_zero]
            refine' wpAnyH_take (i := 9) (v := undef) rfl (by kernel_rfl) (by kernel_rfl) (by kernel_rfl) (fun _ _ _ h => h) (Or.inr ⟨by kernel_rfl, rfl⟩) (by assumption) ?_
            try simp only [Act.put, List.setIfInBounds_toArray, List.set_cons_zero, List.set_cons_succ, List.getElem_toArray, List.getElem_cons_succ, List.getElem_cons_zero]
            refine' wpAnyH_take (i := 10) (v := undef) rfl (by kernel_rfl) (by kernel_rfl) (by kernel_rfl) (fun _ _ _ h => h) (Or.inr ⟨by kernel_rfl, rfl⟩) (by assumption) ?_
            try simp only [Act.put, List.setIfInBounds_toArray, List.set_cons_zero, List.set_cons_succ, List.getElem_toArray, List.getElem_cons_succ, List.getElem_cons_zero]
            refine' wpAnyH_take (i := 11) (v := _) rfl (by kernel_rfl) (by kernel_rfl) (by kernel_rfl) (fun _ _ _ h => h) (Or.inl ⟨by kernel_rfl, ?hy⟩) (by assumption) ?_
            case hy => (intro W hW; (try dsimp only at hW); go_simp; try (with_reducible rfl))
            try simp only [Act.put, List.setIfInBounds_toArray, List.set_cons_zero, List.set_cons_succ, List.getElem_toArray, List.getElem_cons_succ, List.getElem_cons_zero]
            refine wpAnyH_done (by kernel_rfl) ?_ _
            obtain ⟨p1xb, p1x0, p1x1, p1x2, p1x3, p1x4, p1x5, p1x6, p1x7, p1x8, p1x9⟩ := hH1
            have p1xz0 := block_lt p1x0
            have p1xz2 := block_lt p1x2
            have p1xz4 := block_lt p1x4
            have p1xz6 := block_lt p1x6
            have p1xz8 := block_lt p1x8
            have p1xs := p1xb.size
            go_wp2_with fail
            refine wp_region_held_drew (S := (fun W : World => Below w.heap.size w W ∧ W.cell? ⟨B0, 0, none⟩ = some (.int .i64 a0) ∧ W.cell? ⟨B0, 1, none⟩ = some (.int .i64 a1) ∧ W.cell? ⟨B1, 0, none⟩ = some (.int .i64 b0) ∧ W.cell? ⟨B1, 1, none⟩ = some (.int .i64 b1) ∧ W.cell? ⟨B2, 0, none⟩ = some (.int .i64 c0) ∧ W.cell? ⟨B2, 1, none⟩ = some (.int .i64 c1) ∧ W.cell? ⟨V.heap.size, 0, none⟩ = some (.int .i64 (-1)) ∧ W.cell? ⟨V.heap.size, 1, none⟩ = some (.int .i64 (-1)) ∧ W.cell? ⟨V.heap.size + 1, 0, none⟩ = some (.int .i64 0) ∧ W.cell? ⟨V.heap.size + 1, 1, none⟩ = some (.int .i64 1))) (by kernel_rfl) ?hS (fun hH => ?_)
            case hS =>
              ((repeat' apply And.intro) <;> (first | (with_reducible assumption) | (refine belowT ?_ ‹_›; first | (go_grown; done) | exact And.left (by assumption)) | (refine belowT (And.left (by assumption)) ?_; go_grown; done) | (go_simp; done) | exact keep1 ‹_› (by first | (go_simp; done) | (go_keep; done)) | (go_keep; done) | omega | (go_grown; done) | (refine Nat.lt_of_lt_of_le ?_ (Below.size ‹_›); first | omega | (simp; done)) | exact keepF ‹_› (by first | omega | (simp; done)) (by first | (go_simp; done) | (go_keep; done)) | (simp; omega) | (simp only [World.size_alloc, World.size_drew, World.size_setCell] at *; omega)))
            refine' wpAnyH_take (i := 0) (v := _) rfl (by kernel_rfl) (by kernel_rfl) (by kernel_rfl) (fun _ _ _ h => h) (Or.inl ⟨by kernel_rfl, ?hy⟩) (by assumption) ?_
            case hy => (intro W hW; (try dsimp only at hW); go_simp; try (with_reducible rfl))
            try simp only [Act.put, List.setIfInBounds_toArray, List.set_cons_zero, List.set_cons_succ, List.getElem_toArray, List.getElem_cons_zero]
            refine' wpAnyH_take (i := 1) (v := _) rfl (by kernel_rfl) (by kernel_rfl) (by kernel_rfl) (fun _ _ _ h => h) (Or.inl ⟨by kernel_rfl, ?hy⟩) (by assumption) ?_
            case hy => (intro W hW; (try dsimp only at hW); go_simp; try (with_reducible rfl))
            try simp only [Act.put, List.setIfInBounds_toArray, List.set_cons_zero, List.set_cons_succ, List.getElem_toArray, List.getElem_cons_succ, List.getElem_cons_zero]
            refine' wpAnyH_take (i := 2) (v := _) rfl (by kernel_rfl) (by kernel_rfl) (by kernel_rfl) (fun _ _ _ h => h) (Or.inl ⟨by kernel_rfl, ?hy⟩) (by assumption) ?_
            case hy => (intro W hW; (try dsimp only at hW); go_simp; try (with_reducible rfl))
            try simp only [Act.put, List.setIfInBounds_toArray, List.set_cons_zero, List.set_cons_succ, List.getElem_toArray, List.getElem_cons_succ, List.getElem_cons_zero]
            refine wpAnyH_ready (rs := [3]) (by kernel_rfl) (by simp) ?_
            refine AllReadyH.cons rfl (fun K hK => ?_) AllReadyH.nil
            go_simp
            refine (H3.out _).mono ?_
            rintro e wr1 ⟨rfl, hbr1⟩
            refine hK.out _ _ ?hS (fun hH1 => ?_)
            case hS =>
              ((repeat' apply And.intro) <;> (first | (with_reducible assumption) | (refine belowT ?_ ‹_›; first | (go_grown; done) | exact And.left (by assumption)) | (refine belowT (And.left (by assumption)) ?_; go_grown; done) | (go_simp; done) | exact keep1 ‹_› (by first | (go_simp; done) | (go_keep; done)) | (go_keep; done) | omega | (go_grown; done) | (refine Nat.lt_of_lt_of_le ?_ (Below.size ‹_›); first | omega | (simp; done)) | exact keepF ‹_› (by first | omega | (simp; done)) (by first | (go_simp; done) | (go_keep; done)) | (simp; omega) | (simp only [World.size_alloc, World.size_drew, World.size_setCell] at *; omega)))
            clear hK
            try simp only [Act.put, List.setIfInBounds_toArray, List.set_cons_zero, List.set_cons_succ, List.getElem_toArray, List.getElem_cons_succ, List.getElem_cons_zero]
            refine' wpAnyH_take (i := 4) (v := _) rfl (by kernel_rfl) (by kernel_rfl) (by kernel_rfl) (fun _ _ _ h => h) (Or.inl ⟨by kernel_rfl, ?hy⟩) (by assumption) ?_
            case hy => (intro W hW; (try dsimp only at hW); go_simp; try (with_reducible rfl))
            try simp only [Act.put, List.setIfInBounds_toArray, List.set_cons_zero, List.set_cons_succ, List.getElem_toArray, List.getElem_cons_succ, List.getElem_cons_zero]
            refine' wpAnyH_take (i := 5) (v := _) rfl (by kernel_rfl) (by kernel_rfl) (by kernel_rfl) (fun _ _ _ h => h) (Or.inl ⟨by kernel_rfl, ?hy⟩) (by assumption) ?_
            case hy => (intro W hW; (try dsimp only at hW); go_simp; try (with_reducible rfl))
            try simp only [Act.put, List.setIfInBounds_toArray, List.set_cons_zero, List.set_cons_succ, List.getElem_toArray, List.getElem_cons_succ, List.getElem_cons_zero]
            refine' wpAnyH_take (i := 6) (v := _) rfl (by kernel_rfl) (by kernel_rfl) (by kernel_rfl) (fun _ _ _ h => h) (Or.inl ⟨by kernel_rfl, ?hy⟩) (by assumption) ?_
            case hy => (intro W hW; (try dsimp only at hW); go_simp; try (with_reducible rfl))
            try simp only [Act.put, List.setIfInBounds_toArray, List.set_cons_zero, List.set_cons_succ, List.getElem_toArray, List.getElem_cons_succ, List.getElem_cons_zero]
            refine' wpAnyH_take (i := 7) (v := _) rfl (by kernel_rfl) (by kernel_rfl) (by kernel_rfl) (fun _ _ _ h => h) (Or.inl ⟨by kernel_rfl, ?hy⟩) (by assumption) ?_
            case hy => (intro W hW; (try dsimp only at hW); go_simp; try (with_reducible rfl))
            try simp only [Act.put, List.setIfInBounds_toArray, List.set_cons_zero, List.set_cons_succ, List.getElem_toArray, List.getElem_cons_succ, List.getElem_cons_zero]
            refine' wpAnyH_take (i := 8) (v := _) rfl (by kernel_rfl) (by kernel_rfl) (by kernel_rfl) (fun _ _ _ h => h) (Or.inl ⟨by kernel_rfl, ?hy⟩) (by assumption) ?_
            case hy => (intro W hW; (try dsimp only at hW); go_simp; try (with_reducible rfl))
            try simp only [Act.put, List.setIfInBounds_toArray, List.set_cons_zero, List.set_cons_succ, List.getElem_toArray, List.getElem_cons_succ, List.getElem_cons_zero]
            refine wpAnyH_ready (rs := [9]) (by kernel_rfl) (by simp) ?_
            refine AllReadyH.cons rfl (fun K hK => ?_) AllReadyH.nil
            go_simp
            refine (H4.out _).mono ?_
            rintro e wr2 ⟨rfl, hbr2⟩
            refine hK.out _ _ ?hS (fun hH2 => ?_)
            case hS =>
              ((repeat' apply And.intro) <;> (first | (with_reducible assumption) | (refine belowT ?_ ‹_›; first | (go_grown; done) | exact And.left (by assumption)) | (refine belowT (And.left (by assumption)) ?_; go_grown; done) | (go_simp; done) | exact keep1 ‹_› (by first | (go_simp; done) | (go_keep; done)) | (go_keep; done) | omega | (go_grown; done) | (refine Nat.lt_of_lt_of_le ?_ (Below.size ‹_›); first | omega | (simp; done)) | exact keepF ‹_› (by first | omega | (simp; done)) (by first | (go_simp; done) | (go_keep; done)) | (simp; omega) | (simp only [World.size_alloc, World.size_drew, World.size_setCell] at *; omega)))
            clear hK
            try simp only [Act.put, List.setIfInBounds_toArray, List.set_cons_zero, List.set_cons_succ, List.getElem_toArray, List.getElem_cons_succ, List.getElem_cons_zero]
            refine' wpAnyH_take (i := 10) (v := _) rfl (by kernel_rfl) (by kernel_rfl) (by kernel_rfl) (fun _ _ _ h => h) (Or.inl ⟨by kernel_rfl, ?hy⟩) (by assumption) ?_
            case hy => (intro W hW; (try dsimp only at hW); go_simp; try (with_reducible rfl))
            try simp only [Act.put, List.setIfInBounds_toArray, List.set_cons_zero, List.set_cons_succ, List.getElem_toArray, List.getElem_cons_succ, List.getElem_cons_zero]
            refine' wpAnyH_take (i := 11) (v := _) rfl (by kernel_rfl) (by kernel_rfl) (by kernel_rfl) (fun _ _ _ h => h) (Or.inl ⟨by kernel_rfl, ?hy⟩) (by assumption) ?_
            case hy => (intro W hW; (try dsimp only at hW); go_simp; try (with_reducible rfl))
            try simp only [Act.put, List.setIfInBounds_toArray, List.set_cons_zero, List.set_cons_succ, List.getElem_toArray, List.getElem_cons_succ, List.getElem_cons_zero]
            refine wpAnyH_done (by kernel_rfl) ?_ _
            obtain ⟨p2xb, p2x0, p2x1, p2x2, p2x3, p2x4, p2x5, p2x6, p2x7, p2x8, p2x9⟩ := hH2
            have p2xz0 := block_lt p2x0
            have p2xz2 := block_lt p2x2
            have p2xz4 := block_lt p2x4
            have p2xz6 := block_lt p2x6
            have p2xz8 := block_lt p2x8
            have p2xs := p2xb.size
            go_wp2
            go_returns
            exact ⟨rfl, by first | (go_grown; done) | assumption⟩
      · cases t2
        · cases t3
          · simp at hsv hse
            subst hsv hse
            go_wp2_with fail
            refine wp_region_held_drew (S := (fun W : World => Below w.heap.size w W ∧ W.cell? ⟨B0, 0, none⟩ = some (.int .i64 a0) ∧ W.cell? ⟨B0, 1, none⟩ = some (.int .i64 a1) ∧ W.cell? ⟨B1, 0, none⟩ = some (.int .i64 b0) ∧ W.cell? ⟨B1, 1, none⟩ = some (.int .i64 b1) ∧ W.cell? ⟨B2, 0, none⟩ = some (.int .i64 c0) ∧ W.cell? ⟨B2, 1, none⟩ = some (.int .i64 c1) ∧ W.cell? ⟨V.heap.size, 0, none⟩ = some (.int .i64 (-1)) ∧ W.cell? ⟨V.heap.size, 1, none⟩ = some (.int .i64 (-1)) ∧ W.cell? ⟨V.heap.size + 1, 0, none⟩ = some (.int .i64 0) ∧ W.cell? ⟨V.heap.size + 1, 1, none⟩ = some (.int .i64 1))) (by kernel_rfl) ?hS (fun hH => ?_)
            case hS =>
              ((repeat' apply And.intro) <;> (first | (refine belowT qb ?_; go_grown; done) | (first | (with_reducible assumption) | (refine belowT ?_ ‹_›; first | (go_grown; done) | exact And.left (by assumption)) | (refine belowT (And.left (by assumption)) ?_; go_grown; done) | (go_simp; done) | exact keep1 ‹_› (by first | (go_simp; done) | (go_keep; done)) | (go_keep; done) | omega | (go_grown; done) | (refine Nat.lt_of_lt_of_le ?_ (Below.size ‹_›); first | omega | (simp; done)) | exact keepF ‹_› (by first | omega | (simp; done)) (by first | (go_simp; done) | (go_keep; done)) | (simp; omega) | (simp only [World.size_alloc, World.size_drew, World.size_setCell] at *; omega))))
            refine' wpAnyH_take (i := 0) (v := _) rfl (by kernel_rfl) (by kernel_rfl) (by kernel_rfl) (fun _ _ _ h => h) (Or.inl ⟨by kernel_rfl, ?hy⟩) (by assumption) ?_
            case hy => (intro W hW; (try dsimp only at hW); go_simp; try (with_reducible rfl))
            try simp only [Act.put, List.setIfInBounds_toArray, List.set_cons_zero, List.set_cons_succ, List.getElem_toArray, List.getElem_cons_zero]
            refine' wpAnyH_take (i := 1) (v := _) rfl (by kernel_rfl) (by kernel_rfl) (by kernel_rfl) (fun _ _ _ h => h) (Or.inl ⟨by kernel_rfl, ?hy⟩) (by assumption) ?_
            case hy => (intro W hW; (try dsimp only at hW); go_simp; try (with_reducible rfl))
            try simp only [Act.put, List.setIfInBounds_toArray, List.set_cons_zero, List.set_cons_succ, List.getElem_toArray, List.getElem_cons_succ, List.getElem_cons_zero]
            refine' wpAnyH_take (i := 2) (v := _) rfl (by kernel_rfl) (by kernel_rfl) (by kernel_rfl) (fun _ _ _ h => h) (Or.inl ⟨by kernel_rfl, ?hy⟩) (by assumption) ?_
            case hy => (intro W hW; (try dsimp only at hW); go_simp; try (with_reducible rfl))
            try simp only [Act.put, List.setIfInBounds_toArray, List.set_cons_zero, List.set_cons_succ, List.getElem_toArray, List.getElem_cons_succ, List.getElem_cons_zero]
            refine wpAnyH_ready (rs := [3]) (by kernel_rfl) (by simp) ?_
            refine AllReadyH.cons rfl (fun K hK => ?_) AllReadyH.nil
            go_simp
            refine (H1.out _).mono ?_
            rintro e wr1 ⟨rfl, hbr1⟩
            refine hK.out _ _ ?hS (fun hH1 => ?_)
            case hS =>
              ((repeat' apply And.intro) <;> (first | (refine belowT qb ?_; go_grown; done) | (first | (with_reducible assumption) | (refine belowT ?_ ‹_›; first | (go_grown; done) | exact And.left (by assumption)) | (refine belowT (And.left (by assumption)) ?_; go_grown; done) | (go_simp; done) | exact keep1 ‹_› (by first | (go_simp; done) | (go_keep; done)) | (go_keep; done) | omega | (go_grown; done) | (refine Nat.lt_of_lt_of_le ?_ (Below.size ‹_›); first | omega | (simp; done)) | exact keepF ‹_› (by first | omega | (simp; done)) (by first | (go_simp; done) | (go_keep; done)) | (simp; omega) | (simp only [World.size_alloc, World.size_drew, World.size_setCell] at *; omega))))
            clear hK
            try simp only [Act.put, List.setIfInBounds_toArray, List.set_cons_zero, List.set_cons_succ, List.getElem_toArray, List.getElem_cons_succ, List.getElem_cons_zero]
            refine' wpAnyH_take (i := 4) (v := _) rfl (by kernel_rfl) (by kernel_rfl) (by kernel_rfl) (fun _ _ _ h => h) (Or.inl ⟨by kernel_rfl, ?hy⟩) (by assumption) ?_
            case hy => (intro W hW; (try dsimp only at hW); go_simp; try (with_reducible rfl))
            try simp only [Act.put, List.setIfInBounds_toArray, List.set_cons_zero, List.set_cons_succ, List.getElem_toArray, List.getElem_cons_succ, List.getElem_cons_zero]
            refine' wpAnyH_take (i := 5) (v := _) rfl (by kernel_rfl) (by kernel_rfl) (by kernel_rfl) (fun _ _ _ h => h) (Or.inl ⟨by kernel_rfl, ?hy⟩) (by assumption) ?_
            case hy => (intro W hW; (try dsimp only at hW); go_simp; try (with_reducible rfl))
            try simp only [Act.put, List.setIfInBounds_toArray, List.set_cons_zero, List.set_cons_succ, List.getElem_toArray, List.getElem_cons_succ, List.getElem_cons_zero]
            refine' wpAnyH_take (i := 6) (v := _) rfl (by kernel_rfl) (by kernel_rfl) (by kernel_rfl) (fun _ _ _ h => h) (Or.inl ⟨by kernel_rfl, ?hy⟩) (by assumption) ?_
            case hy => (intro W hW; (try dsimp only at hW); go_simp; try (with_reducible rfl))
            try simp only [Act.put, List.setIfInBounds_toArray, List.set_cons_zero, List.set_cons_succ, List.getElem_toArray, List.getElem_cons_succ, List.getElem_cons_zero]
            refine' wpAnyH_take (i := 7) (v := _) rfl (by kernel_rfl) (by kernel_rfl) (by kernel_rfl) (fun _ _ _ h => h) (Or.inl ⟨by kernel_rfl, ?hy⟩) (by assumption) ?_
            case hy => (intro W hW; (try dsimp only at hW); go_simp; try (with_reducible rfl))
            try simp only [Act.put, List.setIfInBounds_toArray, List.set_cons_zero, List.set_cons_succ, List.getElem_toArray, List.getElem_cons_succ, List.getElem_cons_zero]
            refine' wpAnyH_take (i := 8) (v := _) rfl (by kernel_rfl) (by kernel_rfl) (by kernel_rfl) (fun _ _ _ h => h) (Or.inl ⟨by kernel_rfl, ?hy⟩) (by assumption) ?_
            case hy => (intro W hW; (try dsimp only at hW); go_simp; try (with_reducible rfl))
            try simp only [Act.put, List.setIfInBounds_toArray, List.set_cons_zero, List.set_cons_succ, List.getElem_toArray, List.getElem_cons_succ, List.getElem_cons_zero]
            refine wpAnyH_ready (rs := [9]) (by kernel_rfl) (by simp) ?_
            refine AllReadyH.cons rfl (fun K hK => ?_) AllReadyH.nil
            go_simp
            refine (H2.out _).mono ?_
            rintro e wr2 ⟨rfl, hbr2⟩
            refine hK.out _ _ ?hS (fun hH2 => ?_)
            case hS =>
              ((repeat' apply And.intro) <;> (first | (refine belowT qb ?_; go_grown; done) | (first | (with_reducible assumption) | (refine belowT ?_ ‹_›; first | (go_grown; done) | exact And.left (by assumption)) | (refine belowT (And.left (by assumption)) ?_; go_grown; done) | (go_simp; done) | exact keep1 ‹_› (by first | (go_simp; done) | (go_keep; done)) | (go_keep; done) | omega | (go_grown; done) | (refine Nat.lt_of_lt_of_le ?_ (Below.size ‹_›); first | omega | (simp; done)) | exact keepF ‹_› (by first | omega | (simp; done)) (by first | (go_simp; done) | (go_keep; done)) | (simp; omega) | (simp only [World.size_alloc, World.size_drew, World.size_setCell] at *; omega))))
            clear hK
            try simp only [Act.put, List.setIfInBounds_toArray, List.set_cons_zero, List.set_cons_succ, List.getElem_toArray, List.getElem_cons_succ, List.getElem_cons_zero]
            refine' wpAnyH_take (i := 10) (v := _) rfl (by kernel_rfl) (by kernel_rfl) (by kernel_rfl) (fun _ _ _ h => h) (Or.inl ⟨by kernel_rfl, ?hy⟩) (by assumption) ?_
            case hy => (intro W hW; (try dsimp only at hW); go_simp; try (with_reducible rfl))
            try simp only [Act.put, List.setIfInBounds_toArray, List.set_cons_zero, List.set_cons_succ, List.getElem_toArray, List.getElem_cons_succ, List.getElem_cons_zero]
            refine' wpAnyH_take (i := 11) (v := _) rfl (by kernel_rfl) (by kernel_rfl) (by kernel_rfl) (fun _ _ _ h => h) (Or.inl ⟨by kernel_rfl, ?hy⟩) (by assumption) ?_
            case hy => (intro W hW; (try dsimp only at hW); go_simp; try (with_reducible rfl))
            try simp only [Act.put, List.setIfInBounds_toArray, List.set_cons_zero, List.set_cons_succ, List.getElem_toArray, List.getElem_cons_succ, List.getElem_cons_zero]
            refine wpAnyH_done (by kernel_rfl) ?_ _
            obtain ⟨p1xb, p1x0, p1x1, p1x2, p1x3, p1x4, p1x5, p1x6, p1x7, p1x8, p1x9⟩ := hH2
            have p1xz0 := block_lt p1x0
            have p1xz2 := block_lt p1x2
            have p1xz4 := block_lt p1x4
            have p1xz6 := block_lt p1x6
            have p1xz8 := block_lt p1x8
            have p1xs := p1xb.size
            go_wp2_with fail
            refine wp_region_held_drew (S := (fun W : World => Below w.heap.size w W ∧ W.cell? ⟨B0, 0, none⟩ = some (.int .i64 a0) ∧ W.cell? ⟨B0, 1, none⟩ = some (.int .i64 a1) ∧ W.cell? ⟨B1, 0, none⟩ = some (.int .i64 b0) ∧ W.cell? ⟨B1, 1, none⟩ = some (.int .i64 b1) ∧ W.cell? ⟨B2, 0, none⟩ = some (.int .i64 c0) ∧ W.cell? ⟨B2, 1, none⟩ = some (.int .i64 c1) ∧ W.cell? ⟨V.heap.size, 0, none⟩ = some (.int .i64 (-1)) ∧ W.cell? ⟨V.heap.size, 1, none⟩ = some (.int .i64 (-1)) ∧ W.cell? ⟨V.heap.size + 1, 0, none⟩ = some (.int .i64 0) ∧ W.cell? ⟨V.heap.size + 1, 1, none⟩ = some (.int .i64 1))) (by kernel_rfl) ?hS (fun hH => ?_)
            case hS =>
              ((repeat' apply And.intro) <;> (first | (with_reducible assumption) | (refine belowT ?_ ‹_›; first | (go_grown; done) | exact And.left (by assumption)) | (refine belowT (And.left (by assumption)) ?_; go_grown; done) | (go_simp; done) | exact keep1 ‹_› (by first | (go_simp; done) | (go_keep; done)) | (go_keep; done) | omega | (go_grown; done) | (refine Nat.lt_of_lt_of_le ?_ (Below.size ‹_›); first | omega | (simp; done)) | exact keepF ‹_› (by first | omega | (simp; done)) (by first | (go_simp; done) | (go_keep; done)) | (simp; omega) | (simp only [World.size_alloc, World.size_drew, World.size_setCell] at *; omega)))
            refine' wpAnyH_take (i := 0) (v := _) rfl (by kernel_rfl) (by kernel_rfl) (by kernel_rfl) (fun _ _ _ h => h) (Or.inl ⟨by kernel_rfl, ?hy⟩) (by assumption) ?_
            case hy => (intro W hW; (try dsimp only at hW); go_simp; try (with_reducible rfl))
            try simp only [Act.put, List.setIfInBounds_toArray, List.set_cons_zero, List.set_cons_succ, List.getElem_toArray, List.getElem_cons_zero]
            refine' wpAnyH_take (i := 1) (v := _) rfl (by kernel_rfl) (by kernel_rfl) (by kernel_rfl) (fun _ _ _ h => h) (Or.inl ⟨by kernel_rfl, ?hy⟩) (by assumption) ?_
            case hy => (intro W hW; (try dsimp only at hW); go_simp; try (with_reducible rfl))
            try simp only [Act.put, List.setIfInBounds_toArray, List.set_cons_zero, List.set_cons_succ, List.getElem_toArray, List.getElem_cons_succ, List.getElem_cons_zero]
            refine' wpAnyH_take (i := 2) (v := _) rfl (by kernel_rfl) (by kernel_rfl) (by kernel_rfl) (fun _ _ _ h => h) (Or.inl ⟨by kernel_rfl, ?hy⟩) (by assumption) ?_
            case hy => (intro W hW; (try dsimp only at hW); go_simp; try (with_reducible rfl))
            try simp only [Act.put, List.setIfInBounds_toArray, List.set_cons_zero, List.set_cons_succ, List.getElem_toArray, List.getElem_cons_succ, List.getElem_cons_zero]
            refine wpAnyH_ready (rs := [3]) (by kernel_rfl) (by simp) ?_
            refine AllReadyH.cons rfl (fun K hK => ?_) AllReadyH.nil
            go_simp
            refine (H3.out _).mono ?_
            rintro e wr1 ⟨rfl, hbr1⟩
            refine hK.out _ _ ?hS (fun hH1 => ?_)
            case hS =>
              ((repeat' apply And.intro) <;> (first | (with_reducible assumption) | (refine belowT ?_ ‹_›; first | (go_grown; done) | exact And.left (by assumption)) | (refine belowT (And.left (by assumption)) ?_; go_grown; done) | (go_simp; done) | exact keep1 ‹_› (by first | (go_simp; done) | (go_keep; done)) | (go_keep; done) | omega | (go_grown; done) | (refine Nat.lt_of_lt_of_le ?_ (Below.size ‹_›); first | omega | (simp; done)) | exact keepF ‹_› (by first | omega | (simp; done)) (by first | (go_simp; done) | (go_keep; done)) | (simp; omega) | (simp only [World.size_alloc, World.size_drew, World.size_setCell] at *; omega)))
            clear hK
            try simp only [Act.put, List.setIfInBounds_toArray, List.set_cons_zero, List.set_cons_succ, List.getElem_toArray, List.getElem_cons_succ, List.getElem_cons_zero]
            refine' wpAnyH_take (i := 4) (v := _) rfl (by kernel_rfl) (by kernel_rfl) (by kernel_rfl) (fun _ _ _ h => h) (Or.inl ⟨by kernel_rfl, ?hy⟩) (by assumption) ?_
            case hy => (intro W hW; (try dsimp only at hW); go_simp; try (with_reducible rfl))
            try simp only [Act.put, List.setIfInBounds_toArray, List.set_cons_zero, List.set_cons_succ, List.getElem_toArray, List.getElem_cons_succ, List.getElem_cons_zero]
            refine' wpAnyH_take (i := 5) (v := _) rfl (by kernel_rfl) (by kernel_rfl) (by kernel_rfl) (fun _ _ _ h => h) (Or.inl ⟨by kernel_rfl, ?hy⟩) (by assumption) ?_
            case hy => (intro W hW; (try dsimp only at hW); go_simp; try (with_reducible rfl))
            try simp only [Act.put, List.setIfInBounds_toArray, List.set_cons_zero, List.set_cons_succ, List.getElem_toArray, List.getElem_cons_succ, List.getElem_cons_zero]
            refine' wpAnyH_take (i := 6) (v := undef) rfl (by kernel_rfl) (by kernel_rfl) (by kernel_rfl) (fun _ _ _ h => h) (Or.inr ⟨by kernel_rfl, rfl⟩) (by assumption) ?_
            try simp only [Act.put, List.setIfInBounds_toArray, List.set_cons_zero, List.set_cons_succ, List.getElem_toArray, List.getElem_cons_succ, List.getElem_cons_zero]
            refine' wpAnyH_take (i := 7) (v := undef) rfl (by kernel_rfl) (by kernel_rfl) (by kernel_rfl) (fun _ _ _ h => h) (Or.inr ⟨by kernel_rfl, rfl⟩) (by assumption) ?_
            try simp only [Act.put, List.setIfInBounds_toArray, List.set_cons_zero, List.set_cons_succ, List.getElem_toArray, List.getElem_cons_succ, List.getElem_cons_zero]
            refine' wpAnyH_take (i := 8) (v := undef) rfl (by kernel_rfl) (by kernel_rfl) (by kernel_rfl) (fun _ _ _ h => h) (Or.inr ⟨by kernel_rfl, rfl⟩) (by assumption) ?_
            try simp only [Act.put, List.setIfInBounds_toArray, List.set_cons_zero, List.set_cons_succ, List.getElem_toArray, List.getElem_cons_succ, List.getElem_cons_zero]
            refine' wpAnyH_take (i := 9) (v := undef) rfl (by kernel_rfl) (by kernel_rfl) (by kernel_rfl) (fun _ _ _ h => h) (Or.inr ⟨by kernel_rfl, rfl⟩) (by assumption) ?_
            try simp only [Act.put, List.setIfInBounds_toArray, List.set_cons_zero, List.set_cons_succ, List.getElem_toArray, List.getElem_cons_succ, List.getElem_cons_zero]
            refine' wpAnyH_take (i := 10) (v := undef) rfl (by kernel_rfl) (by kernel_rfl) (by kernel_rfl) (fun _ _ _ h => h) (Or.inr ⟨by kernel_rfl, rfl⟩) (by assumption) ?_
            try simp only [Act.put, List.setIfInBounds_toArray, List.set_cons_zero, List.set_cons_succ, List.getElem_toArray, List.getElem_cons_succ, List.getElem_cons_zero]
            refine' wpAnyH_take (i := 11) (v := _) rfl (by kernel_rfl) (by kernel_rfl) (by kernel_rfl) (fun _ _ _ h => h) (Or.inl ⟨by kernel_rfl, ?hy⟩) (by assumption) ?_
            case hy => (intro W hW; (try dsimp only at hW); go_simp; try (with_reducible rfl))
            try simp only [Act.put, List.setIfInBounds_toArray, List.set_cons_zero, List.set_cons_succ, List.getElem_toArray, List.getElem_cons_succ, List.getElem_cons_zero]
            refine wpAnyH_done (by kernel_rfl) ?_ _
            obtain ⟨p2xb, p2x0, p2x1, p2x2, p2x3, p2x4, p2x5, p2x6, p2x7, p2x8, p2x9⟩ := hH1
            have p2xz0 := block_lt p2x0
            have p2xz2 := block_lt p2x2
            have p2xz4 := block_lt p2x4
            have p2xz6 := block_lt p2x6
            have p2xz8 := block_lt p2x8
            have p2xs := p2xb.size
            go_wp2
            go_returns
            exact ⟨rfl, by first | (go_grown; done) | assumption⟩
          · cases t4
            · simp at hsv hse
              subst hsv hse
              go_wp2_with fail
              refine wp_region_held_drew (S := (fun W : World => Below w.heap.size w W ∧ W.cell? ⟨B0, 0, none⟩ = some (.int .i64 a0) ∧ W.cell? ⟨B0, 1, none⟩ = some (.int .i64 a1) ∧ W.cell? ⟨B1, 0, none⟩ = some (.int .i64 b0) ∧ W.cell? ⟨B1, 1, none⟩ = some (.int .i64 b1) ∧ W.cell? ⟨B2, 0, none⟩ = some (.int .i64 c0) ∧ W.cell? ⟨B2, 1, none⟩ = some (.int .i64 c1) ∧ W.cell? ⟨V.heap.size, 0, none⟩ = some (.int .i64 (-1)) ∧ W.cell? ⟨V.heap.size, 1, none⟩ = some (.int .i64 (-1)) ∧ W.cell? ⟨V.heap.size + 1, 0, none⟩ = some (.int .i64 0) ∧ W.cell? ⟨V.heap.size + 1, 1, none⟩ = some (.int .i64 1))) (by kernel_rfl) ?hS (fun hH => ?_)
              case hS =>
                ((repeat' apply And.intro) <;> (first | (refine belowT qb ?_; go_grown; done) | (first | (with_reducible assumption) | (refine belowT ?_ ‹_›; first | (go_grown; done) | exact And.left (by assumption)) | (refine belowT (And.left (by assumption)) ?_; go_grown; done) | (go_simp; done) | exact keep1 ‹_› (by first | (go_simp; done) | (go_keep; done)) | (go_keep; done) | omega | (go_grown; done) | (refine Nat.lt_of_lt_of_le ?_ (Below.size ‹_›); first | omega | (simp; done)) | exact keepF ‹_› (by first | omega | (simp; done)) (by first | (go_simp; done) | (go_keep; done)) | (simp; omega) | (simp only [World.size_alloc, World.size_drew, World.size_setCell] at *; omega))))
              refine' wpAnyH_take (i := 0) (v := _) rfl (by kernel_rfl) (by kernel_rfl) (by kernel_rfl) (fun _ _ _ h => h) (Or.inl ⟨by kernel_rfl, ?hy⟩) (by assumption) ?_
              case hy => (intro W hW; (try dsimp only at hW); go_simp; try (with_reducible rfl))
              try simp only [Act.put, List.setIfInBounds_toArray, List.set_cons_zero, List.set_cons_succ, List.getElem_toArray, List.getElem_cons_zero]
              refine' wpAnyH_take (i := 1) (v := _) rfl (by kernel_rfl) (by kernel_rfl) (by kernel_rfl) (fun _ _ _ h => h) (Or.inl ⟨by kernel_rfl, ?hy⟩) (by assumption) ?_
              case hy => (intro W hW; (try dsimp only at hW); go_simp; try (with_reducible rfl))
              try simp only [Act.put, List.setIfInBounds_toArray, List.set_cons_zero, List.set_cons_succ, List.getElem_toArray, List.getElem_cons_succ, List.getElem_cons_zero]
              refine' wpAnyH_take (i := 2) (v := _) rfl (by kernel_rfl) (by kernel_rfl) (by kernel_rfl) (fun _ _ _ h => h) (Or.inl ⟨by kernel_rfl, ?hy⟩) (by assumption) ?_
              case hy => (intro W hW; (try dsimp only at hW); go_simp; try (with_reducible rfl))
              try simp only [Act.put, List.setIfInBounds_toArray, List.set_cons_zero, List.set_cons_succ, List.getElem_toArray, List.getElem_cons_succ, List.getElem_cons_zero]
              refine wpAnyH_ready (rs := [3]) (by kernel_rfl) (by simp) ?_
              refine AllReadyH.cons rfl (fun K hK => ?_) AllReadyH.nil
              go_simp
              refine (H1.out _).mono ?_
              rintro e wr1 ⟨rfl, hbr1⟩
              refine hK.out _ _ ?hS (fun hH1 => ?_)
              case hS =>
                ((repeat' apply And.intro) <;> (first | (refine belowT qb ?_; go_grown; done) | (first | (with_reducible assumption) | (refine belowT ?_ ‹_›; first | (go_grown; done) | exact And.left (by assumption)) | (refine belowT (And.left (by assumption)) ?_; go_grown; done) | (go_simp; done) | exact keep1 ‹_› (by first | (go_simp; done) | (go_keep; done)) | (go_keep; done) | omega | (go_grown; done) | (refine Nat.lt_of_lt_of_le ?_ (Below.size ‹_›); first | omega | (simp; done)) | exact keepF ‹_› (by first | omega | (simp; done)) (by first | (go_simp; done) | (go_keep; done)) | (simp; omega) | (simp only [World.size_alloc, World.size_drew, World.size_setCell] at *; omega))))
              clear hK
              try simp only [Act.put, List.setIfInBounds_toArray, List.set_cons_zero, List.set_cons_succ, List.getElem_toArray, List.getElem_cons_succ, List.getElem_cons_zero]
              refine' wpAnyH_take (i := 4) (v := _) rfl (by kernel_rfl) (by kernel_rfl) (by kernel_rfl) (fun _ _ _ h => h) (Or.inl ⟨by kernel_rfl, ?hy⟩) (by assumption) ?_
              case hy => (intro W hW; (try dsimp only at hW); go_simp; try (with_reducible rfl))
              try simp only [Act.put, List.setIfInBounds_toArray, List.set_cons_zero, List.set_cons_succ, List.getElem_toArray, List.getElem_cons_succ, List.getElem_cons_zero]
              refine' wpAnyH_take (i := 5) (v := _) rfl (by kernel_rfl) (by kernel_rfl) (by kernel_rfl) (fun _ _ _ h => h) (Or.inl ⟨by kernel_rfl, ?hy⟩) (by assumption) ?_
              case hy => (intro W hW; (try dsimp only at hW); go_simp; try (with_reducible rfl))
              try simp only [Act.put, List.setIfInBounds_toArray, List.set_cons_zero, List.set_cons_succ, List.getElem_toArray, List.getElem_cons_succ, List.getElem_cons_zero]
              refine' wpAnyH_take (i := 6) (v := _) rfl (by kernel_rfl) (by kernel_rfl) (by kernel_rfl) (fun _ _ _ h => h) (Or.inl ⟨by kernel_rfl, ?hy⟩) (by assumption) ?_
              case hy => (intro W hW; (try dsimp only at hW); go_simp; try (with_reducible rfl))
              try simp only [Act.put, List.setIfInBounds_toArray, List.set_cons_zero, List.set_cons_succ, List.getElem_toArray, List.getElem_cons_succ, List.getElem_cons_zero]
              refine' wpAnyH_take (i := 7) (v := _) rfl (by kernel_rfl) (by kernel_rfl) (by kernel_rfl) (fun _ _ _ h => h) (Or.inl ⟨by kernel_rfl, ?hy⟩) (by assumption) ?_
              case hy => (intro W hW; (try dsimp only at hW); go_simp; try (with_reducible rfl))
              try simp only [Act.put, List.setIfInBounds_toArray, List.set_cons_zero, List.set_cons_succ, List.getElem_toArray, List.getElem_cons_succ, List.getElem_cons_zero]
              refine' wpAnyH_take (i := 8) (v := _) rfl (by kernel_rfl) (by kernel_rfl) (by kernel_rfl) (fun _ _ _ h => h) (Or.inl ⟨by kernel_rfl, ?hy⟩) (by assumption) ?_
              case hy => (intro W hW; (try dsimp only at hW); go_simp; try (with_reducible rfl))
              try simp only [Act.put, List.setIfInBounds_toArray, List.set_cons_zero, List.set_cons_succ, List.getElem_toArray, List.getElem_cons_succ, List.getElem_cons_zero]
              refine wpAnyH_ready (rs := [9]) (by kernel_rfl) (by simp) ?_
              refine AllReadyH.cons rfl (fun K hK => ?_) AllReadyH.nil
              go_simp
              refine (H2.out _).mono ?_
              rintro e wr2 ⟨rfl, hbr2⟩
              refine hK.out _ _ ?hS (fun hH2 => ?_)
              case hS =>
                ((repeat' apply And.intro) <;> (first | (refine belowT qb ?_; go_grown; done) | (first | (with_reducible assumption) | (refine belowT ?_ ‹_›; first | (go_grown; done) | exact And.left (by assumption)) | (refine belowT (And.left (by assumption)) ?_; go_grown; done) | (go_simp; done) | exact keep1 ‹_› (by first | (go_simp; done) | (go_keep; done)) | (go_keep; done) | omega | (go_grown; done) | (refine Nat.lt_of_lt_of_le ?_ (Below.size ‹_›); first | omega | (simp; done)) | exact keepF ‹_› (by first | omega | (simp; done)) (by first | (go_simp; done) | (go_keep; done)) | (simp; omega) | (simp only [World.size_alloc, World.size_drew, World.size_setCell] at *; omega))))
              clear hK
              try simp only [Act.put, List.setIfInBounds_toArray, List.set_cons_zero, List.set_cons_succ, List.getElem_toArray, List.getElem_cons_succ, List.getElem_cons_zero]
              refine' wpAnyH_take (i := 10) (v := _) rfl (by kernel_rfl) (by kernel_rfl) (by kernel_rfl) (fun _ _ _ h => h) (Or.inl ⟨by kernel_rfl, ?hy⟩) (by assumption) ?_
              case hy => (intro W hW; (try dsimp only at hW); go_simp; try (with_reducible rfl))
              try simp only [Act.put, List.setIfInBounds_toArray, List.set_cons_zero, List.set_cons_succ, List.getElem_toArray, List.getElem_cons_succ, List.getElem_cons_zero]
              refine' wpAnyH_take (i := 11) (v := _) rfl (by kernel_rfl) (by kernel_rfl) (by kernel_rfl) (fun _ _ _ h => h) (Or.inl ⟨by kernel_rfl, ?hy⟩) (by assumption) ?_
              case hy => (intro W hW; (try dsimp only at hW); go_simp; try (with_reducible rfl))
              try simp only [Act.put, List.setIfInBounds_toArray, List.set_cons_zero, List.set_cons_succ, List.getElem_toArray, List.getElem_cons_succ, List.getElem_cons_zero]
              refine wpAnyH_done (by kernel_rfl) ?_ _
              obtain ⟨p1xb, p1x0, p1x1, p1x2, p1x3, p1x4, p1x5, p1x6, p1x7, p1x8, p1x9⟩ := hH2
              have p1xz0 := block_lt p1x0
              have p1xz2 := block_lt p1x2
              have p1xz4 := block_lt p1x4
              have p1xz6 := block_lt p1x6
              have p1xz8 := block_lt p1x8
              have p1xs := p1xb.size
              go_wp2_with fail
              refine wp_region_held_drew (S := (fun W : World => Below w.heap.size w W ∧ W.cell? ⟨B0, 0, none⟩ = some (.int .i64 a0) ∧ W.cell? ⟨B0, 1, none⟩ = some (.int .i64 a1) ∧ W.cell? ⟨B1, 0, none⟩ = some (.int .i64 b0) ∧ W.cell? ⟨B1, 1, none⟩ = some (.int .i64 b1) ∧ W.cell? ⟨B2, 0, none⟩ = some (.int .i64 c0) ∧ W.cell? ⟨B2, 1, none⟩ = some (.int .i64 c1) ∧ W.cell? ⟨V.heap.size, 0, none⟩ = some (.int .i64 (-1)) ∧ W.cell? ⟨V.heap.size, 1, none⟩ = some (.int .i64 (-1)) ∧ W.cell? ⟨V.heap.size + 1, 0, none⟩ = some (.int .i64 0) ∧ W.cell? ⟨V.heap.size + 1, 1, none⟩ = some (.int .i64 1))) (by kernel_rfl) ?hS (fun hH => ?_)
              case hS =>
                ((repeat' apply And.intro) <;> (first | (with_reducible assumption) | (refine belowT ?_ ‹_›; first | (go_grown; done) | exact And.left (by assumption)) | (refine belowT (And.left (by assumption)) ?_; go_grown; done) | (go_simp; done) | exact keep1 ‹_› (by first | (go_simp; done) | (go_keep; done)) | (go_keep; done) | omega | (go_grown; done) | (refine Nat.lt_of_lt_of_le ?_ (Below.size ‹_›); first | omega | (simp; done)) | exact keepF ‹_› (by first | omega | (simp; done)) (by first | (go_simp; done) | (go_keep; done)) | (simp; omega) | (simp only [World.size_alloc, World.size_drew, World.size_setCell] at *; omega)))
              refine' wpAnyH_take (i := 0) (v := _) rfl (by kernel_rfl) (by kernel_rfl) (by kernel_rfl) (fun _ _ _ h => h) (Or.inl ⟨by kernel_rfl, ?hy⟩) (by assumption) ?_
              case hy => (intro W hW; (try dsimp only at hW); go_simp; try (with_reducible rfl))
              try simp only [Act.put, List.setIfInBounds_toArray, List.set_cons_zero, List.set_cons_succ, List.getElem_toArray, List.getElem_cons_zero]
              refine' wpAnyH_take (i := 1) (v := _) rfl (by kernel_rfl) (by kernel_rfl) (by kernel_rfl) (fun _ _ _ h => h) (Or.inl ⟨by kernel_rfl, ?hy⟩) (by assumption) ?_
              case hy => (intro W hW; (try dsimp only at hW); go_simp; try (with_reducible rfl))
              try simp only [Act.put, List.setIfInBounds_toArray, List.set_cons_zero, List.set_cons_succ, List.getElem_toArray, List.getElem_cons_succ, List.getElem_cons_zero]
              refine' wpAnyH_take (i := 2) (v := _) rfl (by kernel_rfl) (by kernel_rfl) (by kernel_rfl) (fun _ _ _ h => h) (Or.inl ⟨by kernel_rfl, ?hy⟩) (by assumption) ?_
              case hy => (intro W hW; (try dsimp only at hW); go_simp; try (with_reducible rfl))
              try simp only [Act.put, List.setIfInBounds_toArray, List.set_cons_zero, List.set_cons_succ, List.getElem_toArray, List.getElem_cons_succ, List.getElem_cons_zero]
              refine wpAnyH_ready (rs := [3]) (by kernel_rfl) (by simp) ?_
              refine AllReadyH.cons rfl (fun K hK => ?_) AllReadyH.nil
              go_simp
              refine (H3.out _).mono ?_
              rintro e wr1 ⟨rfl, hbr1⟩
              refine hK.out _ _ ?hS (fun hH1 => ?_)
              case hS =>
                ((repeat' apply And.intro) <;> (first | (with_reducible assumption) | (refine belowT ?_ ‹_›; first | (go_grown; done) | exact And.left (by assumption)) | (refine belowT (And.left (by assumption)) ?_; go_grown; done) | (go_simp; done) | exact keep1 ‹_› (by first | (go_simp; done) | (go_keep; done)) | (go_keep; done) | omega | (go_grown; done) | (refine Nat.lt_of_lt_of_le ?_ (Below.size ‹_›); first | omega | (simp; done)) | exact keepF ‹_› (by first | omega | (simp; done)) (by first | (go_simp; done) | (go_keep; done)) | (simp; omega) | (simp only [World.size_alloc, World.size_drew, World.size_setCell] at *; omega)))
              clear hK
              try simp only [Act.put, List.setIfInBounds_toArray, List.set_cons_zero, List.set_cons_succ, List.getElem_toArray, List.getElem_cons_succ, List.getElem_cons_zero]
              refine' wpAnyH_take (i := 4) (v := _) rfl (by kernel_rfl) (by kernel_rfl) (by kernel_rfl) (fun _ _ _ h => h) (Or.inl ⟨by kernel_rfl, ?hy⟩) (by assumption) ?_
              case hy => (intro W hW; (try dsimp only at hW); go_simp; try (with_reducible rfl))
              try simp only [Act.put, List.setIfInBounds_toArray, List.set_cons_zero, List.set_cons_succ, List.getElem_toArray, List.getElem_cons_succ, List.getElem_cons_zero]
              refine' wpAnyH_take (i := 5) (v := _) rfl (by kernel_rfl) (by kernel_rfl) (by kernel_rfl) (fun _ _ _ h => h) (Or.inl ⟨by kernel_rfl, ?hy⟩) (by assumption) ?_
              case hy => (intro W hW; (try dsimp only at hW); go_simp; try (with_reducible rfl))
              try simp only [Act.put, List.setIfInBounds_toArray, List.set_cons_zero, List.set_cons_succ, List.getElem_toArray, List.getElem_cons_succ, List.getElem_cons_zero]
              refine' wpAnyH_take (i := 6) (v := _) rfl (by kernel_rfl) (by kernel_rfl) (by kernel_rfl) (fun _ _ _ h => h) (Or.inl ⟨by kernel_rfl, ?hy⟩) (by assumption) ?_
              case hy => (intro W hW; (try dsimp only at hW); go_simp; try (with_reducible rfl))
              try simp only [Act.put, List.setIfInBounds_toArray, List.set_cons_zero, List.set_cons_succ, List.getElem_toArray, List.getElem_cons_succ, List.getElem_cons_zero]
              refine' wpAnyH_take (i := 7) (v := _) rfl (by kernel_rfl) (by kernel_rfl) (by kernel_rfl) (fun _ _ _ h => h) (Or.inl ⟨by kernel_rfl, ?hy⟩) (by assumption) ?_
              case hy => (intro W hW; (try dsimp only at hW); go_simp; try (with_reducible rfl))
              try simp only [Act.put, List.setIfInBounds_toArray, List.set_cons_zero, List.set_cons_succ, List.getElem_toArray, List.getElem_cons_succ, List.getElem_cons_zero]
              refine' wpAnyH_take (i := 8) (v := _) rfl (by kernel_rfl) (by kernel_rfl) (by kernel_rfl) (fun _ _ _ h => h) (Or.inl ⟨by kernel_rfl, ?hy⟩) (by assumption) ?_
              case hy => (intro W hW; (try dsimp only at hW); go_simp; try (with_reducible rfl))
              try simp only [Act.put, List.setIfInBounds_toArray, List.set_cons_zero, List.set_cons_succ, List.getElem_toArray, List.getElem_cons_succ, List.getElem_cons_zero]
              refine wpAnyH_ready (rs := [9]) (by kernel_rfl) (by simp) ?_
              refine AllReadyH.cons rfl (fun K hK => ?_) AllReadyH.nil
              go_simp
              refine (H4.out _).mono ?_
              rintro e wr2 ⟨rfl, hbr2⟩
              refine hK.out _ _ ?hS (fun hH2 => ?_)
              case hS =>
                ((repeat' apply And.intro) <;> (first | (with_reducible assumption) | (refine belowT ?_ ‹_›; first | (go_grown; done) | exact And.left (by assumption)) | (refine belowT (And.left (by assumption)) ?_; go_grown; done) | (go_simp; done) | exact keep1 ‹_› (by first | (go_simp; done) | (go_keep; done)) | (go_keep; done) | omega | (go_grown; done) | (refine Nat.lt_of_lt_of_le ?_ (Below.size ‹_›); first | omega | (simp; done)) | exact keepF ‹_› (by first | omega | (simp; done)) (by first | (go_simp; done) | (go_keep; done)) | (simp; omega) | (simp only [World.size_alloc, World.size_drew, World.size_setCell] at *; omega)))
              clear hK
              try simp only [Act.put, List.setIfInBounds_toArray, List.set_cons_zero, List.set_cons_succ, List.getElem_toArray, List.getElem_cons_succ, List.getElem_cons_zero]
              refine' wpAnyH_take (i := 10) (v := _) rfl (by kernel_rfl) (by kernel_rfl) (by kernel_rfl) (fun _ _ _ h => h) (Or.inl ⟨by kernel_rfl, ?hy⟩) (by assumption) ?_
              case hy => (intro W hW; (try dsimp only at hW); go_simp; try (with_reducible rfl))
              try simp only [Act.put, List.setIfInBounds_toArray, List.set_cons_zero, List.set_cons_succ, List.getElem_toArray, List.getElem_cons_succ, List.getElem_cons_zero]
              refine' wpAnyH_take (i := 11) (v := _) rfl (by kernel_rfl) (by kernel_rfl) (by kernel_rfl) (fun _ _ _ h => h) (Or.inl ⟨by kernel_rfl, ?hy⟩) (by assumption) ?_
              case hy => (intro W hW; (try dsimp only at hW); go_simp; try (with_reducible rfl))
              try simp only [Act.put, List.setIfInBounds_toArray, List.set_cons_zero, List.set_cons_succ, List.getElem_toArray, List.getElem_cons_succ, List.getElem_cons_zero]
              refine wpAnyH_done (by kernel_rfl) ?_ _
              obtain ⟨p2xb, p2x0, p2x1, p2x2, p2x3, p2x4, p2x5, p2x6, p2x7, p2x8, p2x9⟩ := hH2
              have p2xz0 := block_lt p2x0
              have p2xz2 := block_lt p2x2
              have p2xz4 := block_lt p2x4
              have p2xz6 := block_lt p2x6
              have p2xz8 := block_lt p2x8
              have p2xs := p2xb.size
              go_wp2
              go_returns
              exact ⟨rfl, by first | (go_grown; done) | assumption⟩
            · simp at hsv hse
              subst hsv hse
              go_wp2_with fail
              refine wp_region_held_drew (S := (fun W : World => Below w.heap.size w W ∧ W.cell? ⟨B0, 0, none⟩ = some (.int .i64 a0) ∧ W.cell? ⟨B0, 1, none⟩ = some (.int .i64 a1) ∧ W.cell? ⟨B1, 0, none⟩ = some (.int .i64 b0) ∧ W.cell? ⟨B1, 1, none⟩ = some (.int .i64 b1) ∧ W.cell? ⟨B2, 0, none⟩ = some (.int .i64 c0) ∧ W.cell? ⟨B2, 1, none⟩ = some (.int .i64 c1) ∧ W.cell? ⟨V.heap.size, 0, none⟩ = some (.int .i64 (-1)) ∧ W.cell? ⟨V.heap.size, 1, none⟩ = some (.int .i64 (-1)) ∧ W.cell? ⟨V.heap.size + 1, 0, none⟩ = some (.int .i64 0) ∧ W.cell? ⟨V.heap.size + 1, 1, none⟩ = some (.int .i64 1))) (by kernel_rfl) ?hS (fun hH => ?_)
              case hS =>
                ((repeat' apply And.intro) <;> (first | (refine belowT qb ?_; go_grown; done) | (first | (with_reducible assumption) | (refine belowT ?_ ‹_›; first | (go_grown; done) | exact And.left (by assumption)) | (refine belowT (And.left (by assumption)) ?_; go_grown; done) | (go_simp; done) | exact keep1 ‹_› (by first | (go_simp; done) | (go_keep; done)) | (go_keep; done) | omega | (go_grown; done) | (refine Nat.lt_of_lt_of_le ?_ (Below.size ‹_›); first | omega | (simp; done)) | exact keepF ‹_› (by first | omega | (simp; done)) (by first | (go_simp; done) | (go_keep; done)) | (simp; omega) | (simp only [World.size_alloc, World.size_drew, World.size_setCell] at *; omega))))
              refine' wpAnyH_take (i := 0) (v := _) rfl (by kernel_rfl) (by kernel_rfl) (by kernel_rfl) (fun _ _ _ h => h) (Or.inl ⟨by kernel_rfl, ?hy⟩) (by assumption) ?_
              case hy => (intro W hW; (try dsimp only at hW); go_simp; try (with_reducible rfl))
              try simp only [Act.put, List.setIfInBounds_toArray, List.set_cons_zero, List.set_cons_succ, List.getElem_toArray, List.getElem_cons_zero]
              refine' wpAnyH_take (i := 1) (v := _) rfl (by kernel_rfl) (by kernel_rfl) (by kernel_rfl) (fun _ _ _ h => h) (Or.inl ⟨by kernel_rfl, ?hy⟩) (by assumption) ?_
              case hy => (intro W hW; (try dsimp only at hW); go_simp; try (with_reducible rfl))
              try simp only [Act.put, List.setIfInBounds_toArray, List.set_cons_zero, List.set_cons_succ, List.getElem_toArray, List.getElem_cons_succ, List.getElem_cons_zero]
              refine' wpAnyH_take (i := 2) (v := _) rfl (by kernel_rfl) (by kernel_rfl) (by kernel_rfl) (fun _ _ _ h => h) (Or.inl ⟨by kernel_rfl, ?hy⟩) (by assumption) ?_
              case hy => (intro W hW; (try dsimp only at hW); go_simp; try (with_reducible rfl))
              try simp only [Act.put, List.setIfInBounds_toArray, List.set_cons_zero, List.set_cons_succ, List.getElem_toArray, List.getElem_cons_succ, List.getElem_cons_zero]
              refine wpAnyH_ready (rs := [3]) (by kernel_rfl) (by simp) ?_
              refine AllReadyH.cons rfl (fun K hK => ?_) AllReadyH.nil
              go_simp
              refine (H1.out _).mono ?_
              rintro e wr1 ⟨rfl, hbr1⟩
              refine hK.out _ _ ?hS (fun hH1 => ?_)
              case hS =>
                ((repeat' apply And.intro) <;> (first | (refine belowT qb ?_; go_grown; done) | (first | (with_reducible assumption) | (refine belowT ?_ ‹_›; first | (go_grown; done) | exact And.left (by assumption)) | (refine belowT (And.left (by assumption)) ?_; go_grown; done) | (go_simp; done) | exact keep1 ‹_› (by first | (go_simp; done) | (go_keep; done)) | (go_keep; done) | omega | (go_grown; done) | (refine Nat.lt_of_lt_of_le ?_ (Below.size ‹_›); first | omega | (simp; done)) | exact keepF ‹_› (by first | omega | (simp; done)) (by first | (go_simp; done) | (go_keep; done)) | (simp; omega) | (simp only [World.size_alloc, World.size_drew, World.size_setCell] at *; omega))))
              clear hK
              try simp only [Act.put, List.setIfInBounds_toArray, List.set_cons_zero, List.set_cons_succ, List.getElem_toArray, List.getElem_cons_succ, List.getElem_cons_zero]
              refine' wpAnyH_take (i := 4) (v := _) rfl (by kernel_rfl) (by kernel_rfl) (by kernel_rfl) (fun _ _ _ h => h) (Or.inl ⟨by kernel_rfl, ?hy⟩) (by assumption) ?_
              case hy => (intro W hW; (try dsimp only at hW); go_simp; try (with_reducible rfl))
              try simp only [Act.put, List.setIfInBounds_toArray, List.set_cons_zero, List.set_cons_succ, List.getElem_toArray, List.getElem_cons_succ, List.getElem_cons_zero]
              refine' wpAnyH_take (i := 5) (v := _) rfl (by kernel_rfl) (by kernel_rfl) (by kernel_rfl) (fun _ _ _ h => h) (Or.inl ⟨by kernel_rfl, ?hy⟩) (by assumption) ?_
              case hy => (intro W hW; (try dsimp only at hW); go_simp; try (with_reducible rfl))
              try simp only [Act.put, List.setIfInBounds_toArray, List.set_cons_zero, List.set_cons_succ, List.getElem_toArray, List.getElem_cons_succ, List.getElem_cons_zero]
              refine' wpAnyH_take (i := 6) (v := _) rfl (by kernel_rfl) (by kernel_rfl) (by kernel_rfl) (fun _ _ _ h => h) (Or.inl ⟨by kernel_rfl, ?hy⟩) (by assumption) ?_
              case hy => (intro W hW; (try dsimp only at hW); go_simp; try (with_reducible rfl))
              try simp only [Act.put, List.setIfInBounds_toArray, List.set_cons_zero, List.set_cons_succ, List.getElem_toArray, List.getElem_cons_succ, List.getElem_cons_zero]
              refine' wpAnyH_take (i := 7) (v := _) rfl (by kernel_rfl) (by kernel_rfl) (by kernel_rfl) (fun _ _ _ h => h) (Or.inl ⟨by kernel_rfl, ?hy⟩) (by assumption) ?_
              case hy => (intro W hW; (try dsimp only at hW); go_simp; try (with_reducible rfl))
              try simp only [Act.put, List.setIfInBounds_toArray, List.set_cons_zero, List.set_cons_succ, List.getElem_toArray, List.getElem_cons_succ, List.getElem_cons_zero]
              refine' wpAnyH_take (i := 8) (v := _) rfl (by kernel_rfl) (by kernel_rfl) (by kernel_rfl) (fun _ _ _ h => h) (Or.inl ⟨by kernel_rfl, ?hy⟩) (by assumption) ?_
              case hy => (intro W hW; (try dsimp only at hW); go_simp; try (with_reducible rfl))
              try simp only [Act.put, List.setIfInBounds_toArray, List.set_cons_zero, List.set_cons_succ, List.getElem_toArray, List.getElem_cons_succ, List.getElem_cons_zero]
              refine wpAnyH_ready (rs := [9]) (by kernel_rfl) (by simp) ?_
              refine AllReadyH.cons rfl (fun K hK => ?_) AllReadyH.nil
              go_simp
              refine (H2.out _).mono ?_
              rintro e wr2 ⟨rfl, hbr2⟩
              refine hK.out _ _ ?hS (fun hH2 => ?_)
              case hS =>
                ((repeat' apply And.intro) <;> (first | (refine belowT qb ?_; go_grown; done) | (first | (with_reducible assumption) | (refine belowT ?_ ‹_›; first | (go_grown; done) | exact And.left (by assumption)) | (refine belowT (And.left (by assumption)) ?_; go_grown; done) | (go_simp; done) | exact keep1 ‹_› (by first | (go_simp; done) | (go_keep; done)) | (go_keep; done) | omega | (go_grown; done) | (refine Nat.lt_of_lt_of_le ?_ (Below.size ‹_›); first | omega | (simp; done)) | exact keepF ‹_› (by first | omega | (simp; done)) (by first | (go_simp; done) | (go_keep; done)) | (simp; omega) | (simp only [World.size_alloc, World.size_drew, World.size_setCell] at *; omega))))
              clear hK
              try simp only [Act.put, List.setIfInBounds_toArray, List.set_cons_zero, List.set_cons_succ, List.getElem_toArray, List.getElem_cons_succ, List.getElem_cons_zero]
              refine' wpAnyH_take (i := 10) (v := _) rfl (by kernel_rfl) (by kernel_rfl) (by kernel_rfl) (fun _ _ _ h => h) (Or.inl ⟨by kernel_rfl, ?hy⟩) (by assumption) ?_
              case hy => (intro W hW; (try dsimp only at hW); go_simp; try (with_reducible rfl))
              try simp only [Act.put, List.setIfInBounds_toArray, List.set_cons_zero, List.set_cons_succ, List.getElem_toArray, List.getElem_cons_succ, List.getElem_cons_zero]
              refine' wpAnyH_take (i := 11) (v := _) rfl (by kernel_rfl) (by kernel_rfl) (by kernel_rfl) (fun _ _ _ h => h) (Or.inl ⟨by kernel_rfl, ?hy⟩) (by assumption) ?_
              case hy => (intro W hW; (try dsimp only at hW); go_simp; try (with_reducible rfl))
              try simp only [Act.put, List.setIfInBounds_toArray, List.set_cons_zero, List.set_cons_succ, List.getElem_toArray, List.getElem_cons_succ, List.getElem_cons_zero]
              refine wpAnyH_done (by kernel_rfl) ?_ _
              obtain ⟨p1xb, p1x0, p1x1, p1x2, p1x3, p1x4, p1x5, p1x6, p1x7, p1x8, p1x9⟩ := hH2
              have p1xz0 := block_lt p1x0
              have p1xz2 := block_lt p1x2
              have p1xz4 := block_lt p1x4
              have p1xz6 := block_lt p1x6
              have p1xz8 := block_lt p1x8
              have p1xs := p1xb.size
              go_wp2_with fail
              refine wp_region_held_drew (S := (fun W : World => Below w.heap.size w W ∧ W.cell? ⟨B0, 0, none⟩ = some (.int .i64 a0) ∧ W.cell? ⟨B0, 1, none⟩ = some (.int .i64 a1) ∧ W.cell? ⟨B1, 0, none⟩ = some (.int .i64 b0) ∧ W.cell? ⟨B1, 1, none⟩ = some (.int .i64 b1) ∧ W.cell? ⟨B2, 0, none⟩ = some (.int .i64 c0) ∧ W.cell? ⟨B2, 1, none⟩ = some (.int .i64 c1) ∧ W.cell? ⟨V.heap.size, 0, none⟩ = some (.int .i64 (-1)) ∧ W.cell? ⟨V.heap.size, 1, none⟩ = some (.int .i64 (-1)) ∧ W.cell? ⟨V.heap.size + 1, 0, none⟩ = some (.int .i64 0) ∧ W.cell? ⟨V.heap.size + 1, 1, none⟩ = some (.int .i64 1))) (by kernel_rfl) ?hS (fun hH => ?_)
              case hS =>
                ((repeat' apply And.intro) <;> (first | (with_reducible assumption) | (refine belowT ?_ ‹_›; first | (go_grown; done) | exact And.left (by assumption)) | (refine belowT (And.left (by assumption)) ?_; go_grown; done) | (go_simp; done) | exact keep1 ‹_› (by first | (go_simp; done) | (go_keep; done)) | (go_keep; done) | omega | (go_grown; done) | (refine Nat.lt_of_lt_of_le ?_ (Below.size ‹_›); first | omega | (simp; done)) | exact keepF ‹_› (by first | omega | (simp; done)) (by first | (go_simp; done) | (go_keep; done)) | (simp; omega) | (simp only [World.size_alloc, World.size_drew, World.size_setCell] at *; omega)))
              refine' wpAnyH_take (i := 0) (v := _) rfl (by kernel_rfl) (by kernel_rfl) (by kernel_rfl) (fun _ _ _ h => h) (Or.inl ⟨by kernel_rfl, ?hy⟩) (by assumption) ?_
              case hy => (intro W hW; (try dsimp only at hW); go_simp; try (with_reducible rfl))
              try simp only [Act.put, List.setIfInBounds_toArray, List.set_cons_zero, List.set_cons_succ, List.getElem_toArray, List.getElem_cons_zero]
              refine' wpAnyH_take (i := 1) (v := _) rfl (by kernel_rfl) (by kernel_rfl) (by kernel_rfl) (fun _ _ _ h => h) (Or.inl ⟨by kernel_rfl, ?hy⟩) (by assumption) ?_
              case hy => (intro W hW; (try dsimp only at hW); go_simp; try (with_reducible rfl))
              try simp only [Act.put, List.setIfInBounds_toArray, List.set_cons_zero, List.set_cons_succ, List.getElem_toArray, List.getElem_cons_succ, List.getElem_cons_zero]
              refine' wpAnyH_take (i := 2) (v := _) rfl (by kernel_rfl) (by kernel_rfl) (by kernel_rfl) (fun _ _ _ h => h) (Or.inl ⟨by kernel_rfl, ?hy⟩) (by assumption) ?_
              case hy => (intro W hW; (try dsimp only at hW); go_simp; try (with_reducible rfl))
              try simp only [Act.put, List.setIfInBounds_toArray, List.set_cons_zero, List.set_cons_succ, List.getElem_toArray, List.getElem_cons_succ, List.getElem_cons_zero]
              refine wpAnyH_ready (rs := [3]) (by kernel_rfl) (by simp) ?_
              refine AllReadyH.cons rfl (fun K hK => ?_) AllReadyH.nil
              go_simp
              refine (H3.out _).mono ?_
              rintro e wr1 ⟨rfl, hbr1⟩
              refine hK.out _ _ ?hS (fun hH1 => ?_)
              case hS =>
                ((repeat' apply And.intro) <;> (first | (with_reducible assumption) | (refine belowT ?_ ‹_›; first | (go_grown; done) | exact And.left (by assumption)) | (refine belowT (And.left (by assumption)) ?_; go_grown; done) | (go_simp; done) | exact keep1 ‹_› (by first | (go_simp; done) | (go_keep; done)) | (go_keep; done) | omega | (go_grown; done) | (refine Nat.lt_of_lt_of_le ?_ (Below.size ‹_›); first | omega | (simp; done)) | exact keepF ‹_› (by first | omega | (simp; done)) (by first | (go_simp; done) | (go_keep; done)) | (simp; omega) | (simp only [World.size_alloc, World.size_drew, World.size_setCell] at *; omega)))
              clear hK
              try simp only [Act.put, List.setIfInBounds_toArray, List.set_cons_zero, List.set_cons_succ, List.getElem_toArray, List.getElem_cons_succ, List.getElem_cons_zero]
              refine' wpAnyH_take (i := 4) (v := _) rfl (by kernel_rfl) (by kernel_rfl) (by kernel_rfl) (fun _ _ _ h => h) (Or.inl ⟨by kernel_rfl, ?hy⟩) (by assumption) ?_
              case hy => (intro W hW; (try dsimp only at hW); go_simp; try (with_reducible rfl))
              try simp only [Act.put, List.setIfInBounds_toArray, List.set_cons_zero, List.set_cons_succ, List.getElem_toArray, List.getElem_cons_succ, List.getElem_cons_zero]
              refine' wpAnyH_take (i := 5) (v := _) rfl (by kernel_rfl) (by kernel_rfl) (by kernel_rfl) (fun _ _ _ h => h) (Or.inl ⟨by kernel_rfl, ?hy⟩) (by assumption) ?_
              case hy => (intro W hW; (try dsimp only at hW); go_simp; try (with_reducible rfl))
              try simp only [Act.put, List.setIfInBounds_toArray, List.set_cons_zero, List.set_cons_succ, List.getElem_toArray, List.getElem_cons_succ, List.getElem_cons_zero]
              refine' wpAnyH_take (i := 6) (v := _) rfl (by kernel_rfl) (by kernel_rfl) (by kernel_rfl) (fun _ _ _ h => h) (Or.inl ⟨by kernel_rfl, ?hy⟩) (by assumption) ?_
              case hy => (intro W hW; (try dsimp only at hW); go_simp; try (with_reducible rfl))
              try simp only [Act.put, List.setIfInBounds_toArray, List.set_cons_zero, List.set_cons_succ, List.getElem_toArray, List.getElem_cons_succ, List.getElem_cons_zero]
              refine' wpAnyH_take (i := 7) (v := _) rfl (by kernel_rfl) (by kernel_rfl) (by kernel_rfl) (fun _ _ _ h => h) (Or.inl ⟨by kernel_rfl, ?hy⟩) (by assumption) ?_
              case hy => (intro W hW; (try dsimp only at hW); go_simp; try (with_reducible rfl))
              try simp only [Act.put, List.setIfInBounds_toArray, List.set_cons_zero, List.set_cons_succ, List.getElem_toArray, List.getElem_cons_succ, List.getElem_cons_zero]
              refine' wpAnyH_take (i := 8) (v := _) rfl (by kernel_rfl) (by kernel_rfl) (by kernel_rfl) (fun _ _ _ h => h) (Or.inl ⟨by kernel_rfl, ?hy⟩) (by assumption) ?_
              case hy => (intro W hW; (try dsimp only at hW); go_simp; try (with_reducible rfl))
              try simp only [Act.put, List.setIfInBounds_toArray, List.set_cons_zero, List.set_cons_succ, List.getElem_toArray, List.getElem_cons_succ, List.getElem_cons_zero]
              refine wpAnyH_ready (rs := [9]) (by kernel_rfl) (by simp) ?_
              refine AllReadyH.cons rfl (fun K hK => ?_) AllReadyH.nil
              go_simp
              refine (H4.out _).mono ?_
              rintro e wr2 ⟨rfl, hbr2⟩
              refine hK.out _ _ ?hS (fun hH2 => ?_)
              case hS =>
                ((repeat' apply And.intro) <;> (first | (with_reducible assumption) | (refine belowT ?_ ‹_›; first | (go_grown; done) | exact And.left (by assumption)) | (refine belowT (And.left (by assumption)) ?_; go_grown; done) | (go_simp; done) | exact keep1 ‹_› (by first | (go_simp; done) | (go_keep; done)) | (go_keep; done) | omega | (go_grown; done) | (refine Nat.lt_of_lt_of_le ?_ (Below.size ‹_›); first | omega | (simp; done)) | exact keepF ‹_› (by first | omega | (simp; done)) (by first | (go_simp; done) | (go_keep; done)) | (simp; omega) | (simp only [World.size_alloc, World.size_drew, World.size_setCell] at *; omega)))
              clear hK
              try simp only [Act.put, List.setIfInBounds_toArray, List.set_cons_zero, List.set_cons_succ, List.getElem_toArray, List.getElem_cons_succ, List.getElem_cons_zero]
              refine' wpAnyH_take (i := 10) (v := _) rfl (by kernel_rfl) (by kernel_rfl) (by kernel_rfl) (fun _ _ _ h => h) (Or.inl ⟨by kernel_rfl, ?hy⟩) (by assumption) ?_
              case hy => (intro W hW; (try dsimp only at hW); go_simp; try (with_reducible rfl))
              try simp only [Act.put, List.setIfInBounds_toArray, List.set_cons_zero, List.set_cons_succ, List.getElem_toArray, List.getElem_cons_succ, List.getElem_cons_zero]
              refine' wpAnyH_take (i := 11) (v := _) rfl (by kernel_rfl) (by kernel_rfl) (by kernel_rfl) (fun _ _ _ h => h) (Or.inl ⟨by kernel_rfl, ?hy⟩) (by assumption) ?_
              case hy => (intro W hW; (try dsimp only at hW); go_simp; try (with_reducible rfl))
              try simp only [Act.put, List.setIfInBounds_toArray, List.set_cons_zero, List.set_cons_succ, List.getElem_toArray, List.getElem_cons_succ, List.getElem_cons_zero]
              refine wpAnyH_done (by kernel_rfl) ?_ _
              obtain ⟨p2xb, p2x0, p2x1, p2x2, p2x3, p2x4, p2x5, p2x6, p2x7, p2x8, p2x9⟩ := hH2
              have p2xz0 := block_lt p2x0
              have p2xz2 := block_lt p2x2
              have p2xz4 := block_lt p2x4
              have p2xz6 := block_lt p2x6
              have p2xz8 := block_lt p2x8
              have p2xs := p2xb.size
              go_wp2
              go_returns
              exact ⟨rfl, by first | (go_grown; done) | assumption⟩
        · simp at hsv hse
          subst hsv hse
          go_wp2_with fail
          refine wp_region_held_drew (S := (fun W : World => Below w.heap.size w W ∧ W.cell? ⟨B0, 0, none⟩ = some (.int .i64 a0) ∧ W.cell? ⟨B0, 1, none⟩ = some (.int .i64 a1) ∧ W.cell? ⟨B1, 0, none⟩ = some (.int .i64 b0) ∧ W.cell? ⟨B1, 1, none⟩ = some (.int .i64 b1) ∧ W.cell? ⟨B2, 0, none⟩ = some (.int .i64 c0) ∧ W.cell? ⟨B2, 1, none⟩ = some (.int .i64 c1) ∧ W.cell? ⟨V.heap.size, 0, none⟩ = some (.int .i64 (-1)) ∧ W.cell? ⟨V.heap.size, 1, none⟩ = some (.int .i64 (-1)) ∧ W.cell? ⟨V.heap.size + 1, 0, none⟩ = some (.int .i64 0) ∧ W.cell? ⟨V.heap.size + 1, 1, none⟩ = some (.int .i64 1))) (by kernel_rfl) ?hS (fun hH => ?_)
          case hS =>
            ((repeat' apply And.intro) <;> (first | (refine belowT qb ?_; go_grown; done) | (first | (with_reducible assumption) | (refine belowT ?_ ‹_›; first | (go_grown; done) | exact And.left (by assumption)) | (refine belowT (And.left (by assumption)) ?_; go_grown; done) | (go_simp; done) | exact keep1 ‹_› (by first | (go_simp; done) | (go_keep; done)) | (go_keep; done) | omega | (go_grown; done) | (refine Nat.lt_of_lt_of_le ?_ (Below.size ‹_›); first | omega | (simp; done)) | exact keepF ‹_› (by first | omega | (simp; done)) (by first | (go_simp; done) | (go_keep; done)) | (simp; omega) | (simp only [World.size_alloc, World.size_drew, World.size_setCell] at *; omega))))
          refine' wpAnyH_take (i := 0) (v := _) rfl (by kernel_rfl) (by kernel_rfl) (by kernel_rfl) (fun _ _ _ h => h) (Or.inl ⟨by kernel_rfl, ?hy⟩) (by assumption) ?_
          case hy => (intro W hW; (try dsimp only at hW); go_simp; try (with_reducible rfl))
          try simp only [Act.put, List.setIfInBounds_toArray, List.set_cons_zero, List.set_cons_succ, List.getElem_toArray, List.getElem_cons_zero]
          refine' wpAnyH_take (i := 1) (v := _) rfl (by kernel_rfl) (by kernel_rfl) (by kernel_rfl) (fun _ _ _ h => h) (Or.inl ⟨by kernel_rfl, ?hy⟩) (by assumption) ?_
          case hy => (intro W hW; (try dsimp only at hW); go_simp; try (with_reducible rfl))
          try simp only [Act.put, List.setIfInBounds_toArray, List.set_cons_zero, List.set_cons_succ, List.getElem_toArray, List.getElem_cons_succ, List.getElem_cons_zero]
          refine' wpAnyH_take (i := 2) (v := _) rfl (by kernel_rfl) (by kernel_rfl) (by kernel_rfl) (fun _ _ _ h => h) (Or.inl ⟨by kernel_rfl, ?hy⟩) (by assumption) ?_
          case hy => (intro W hW; (try dsimp only at hW); go_simp; try (with_reducible rfl))
          try simp only [Act.put, List.setIfInBounds_toArray, List.set_cons_zero, List.set_cons_succ, List.getElem_toArray, List.getElem_cons_succ, List.getElem_cons_zero]
          refine wpAnyH_ready (rs := [3]) (by kernel_rfl) (by simp) ?_
          refine AllReadyH.cons rfl (fun K hK => ?_) AllReadyH.nil
          go_simp
          refine (H1.out _).mono ?_
          rintro e wr1 ⟨rfl, hbr1⟩
          refine hK.out _ _ ?hS (fun hH1 => ?_)
          case hS =>
            ((repeat' apply And.intro) <;> (first | (refine belowT qb ?_; go_grown; done) | (first | (with_reducible assumption) | (refine belowT ?_ ‹_›; first | (go_grown; done) | exact And.left (by assumption)) | (refine belowT (And.left (by assumption)) ?_; go_grown; done) | (go_simp; done) | exact keep1 ‹_› (by first | (go_simp; done) | (go_keep; done)) | (go_keep; done) | omega | (go_grown; done) | (refine Nat.lt_of_lt_of_le ?_ (Below.size ‹_›); first | omega | (simp; done)) | exact keepF ‹_› (by first | omega | (simp; done)) (by first | (go_simp; done) | (go_keep; done)) | (simp; omega) | (simp only [World.size_alloc, World.size_drew, World.size_setCell] at *; omega))))
          clear hK
          try simp only [Act.put, List.setIfInBounds_toArray, List.set_cons_zero, List.set_cons_succ, List.getElem_toArray, List.getElem_cons_succ, List.getElem_cons_zero]
          refine' wpAnyH_take (i := 4) (v := _) rfl (by kernel_rfl) (by kernel_rfl) (by kernel_rfl) (fun _ _ _ h => h) (Or.inl ⟨by kernel_rfl, ?hy⟩) (by assumption) ?_
          case hy => (intro W hW; (try dsimp only at hW); go_simp; try (with_reducible rfl))
          try simp only [Act.put, List.setIfInBounds_toArray, List.set_cons_zero, List.set_cons_succ, List.getElem_toArray, List.getElem_cons_succ, List.getElem_cons_zero]
          refine' wpAnyH_take (i := 5) (v := _) rfl (by kernel_rfl) (by kernel_rfl) (by kernel_rfl) (fun _ _ _ h => h) (Or.inl ⟨by kernel_rfl, ?hy⟩) (by assumption) ?_
          case hy => (intro W hW; (try dsimp only at hW); go_simp; try (with_reducible rfl))
          try simp only [Act.put, List.setIfInBounds_toArray, List.set_cons_zero, List.set_cons_succ, List.getElem_toArray, List.getElem_cons_succ, List.getElem_cons_zero]
          refine' wpAnyH_take (i := 6) (v := _) rfl (by kernel_rfl) (by kernel_rfl) (by kernel_rfl) (fun _ _ _ h => h) (Or.inl ⟨by kernel_rfl, ?hy⟩) (by assumption) ?_
          case hy => (intro W hW; (try dsimp only at hW); go_simp; try (with_reducible rfl))
          try simp only [Act.put, List.setIfInBounds_toArray, List.set_cons_zero, List.set_cons_succ, List.getElem_toArray, List.getElem_cons_succ, List.getElem_cons_zero]
          refine' wpAnyH_take (i := 7) (v := _) rfl (by kernel_rfl) (by kernel_rfl) (by kernel_rfl) (fun _ _ _ h => h) (Or.inl ⟨by kernel_rfl, ?hy⟩) (by assumption) ?_
          case hy => (intro W hW; (try dsimp only at hW); go_simp; try (with_reducible rfl))
          try simp only [Act.put, List.setIfInBounds_toArray, List.set_cons_zero, List.set_cons_succ, List.getElem_toArray, List.getElem_cons_succ, List.getElem_cons_zero]
          refine' wpAnyH_take (i := 8) (v := _) rfl (by kernel_rfl) (by kernel_rfl) (by kernel_rfl) (fun _ _ _ h => h) (Or.inl ⟨by kernel_rfl, ?hy⟩) (by assumption) ?_
          case hy => (intro W hW; (try dsimp only at hW); go_simp; try (with_reducible rfl))
          try simp only [Act.put, List.setIfInBounds_toArray, List.set_cons_zero, List.set_cons_succ, List.getElem_toArray, List.getElem_cons_succ, List.getElem_cons_zero]
          refine wpAnyH_ready (rs := [9]) (by kernel_rfl) (by simp) ?_
          refine AllReadyH.cons rfl (fun K hK => ?_) AllReadyH.nil
          go_simp
          refine (H2.out _).mono ?_
          rintro e wr2 ⟨rfl, hbr2⟩
          refine hK.out _ _ ?hS (fun hH2 => ?_)
          case hS =>
            ((repeat' apply And.intro) <;> (first | (refine belowT qb ?_; go_grown; done) | (first | (with_reducible assumption) | (refine belowT ?_ ‹_›; first | (go_grown; done) | exact And.left (by assumption)) | (refine belowT (And.left (by assumption)) ?_; go_grown; done) | (go_simp; done) | exact keep1 ‹_› (by first | (go_simp; done) | (go_keep; done)) | (go_keep; done) | omega | (go_grown; done) | (refine Nat.lt_of_lt_of_le ?_ (Below.size ‹_›); first | omega | (simp; done)) | exact keepF ‹_› (by first | omega | (simp; done)) (by first | (go_simp; done) | (go_keep; done)) | (simp; omega) | (simp only [World.size_alloc, World.size_drew, World.size_setCell] at *; omega))))
          clear hK
          try simp only [Act.put, List.setIfInBounds_toArray, List.set_cons_zero, List.set_cons_succ, List.getElem_toArray, List.getElem_cons_succ, List.getElem_cons_zero]
          refine' wpAnyH_take (i := 10) (v := _) rfl (by kernel_rfl) (by kernel_rfl) (by kernel_rfl) (fun _ _ _ h => h) (Or.inl ⟨by kernel_rfl, ?hy⟩) (by assumption) ?_
          case hy => (intro W hW; (try dsimp only at hW); go_simp; try (with_reducible rfl))
          try simp only [Act.put, List.setIfInBounds_toArray, List.set_cons_zero, List.set_cons_succ, List.getElem_toArray, List.getElem_cons_succ, List.getElem_cons_zero]
          refine' wpAnyH_take (i := 11) (v := _) rfl (by kernel_rfl) (by kernel_rfl) (by kernel_rfl) (fun _ _ _ h => h) (Or.inl ⟨by kernel_rfl, ?hy⟩) (by assumption) ?_
          case hy => (intro W hW; (try dsimp only at hW); go_simp; try (with_reducible rfl))
          try simp only [Act.put, List.setIfInBounds_toArray, List.set_cons_zero, List.set_cons_succ, List.getElem_toArray, List.getElem_cons_succ, List.getElem_cons_zero]
          refine wpAnyH_done (by kernel_rfl) ?_ _
          obtain ⟨p1xb, p1x0, p1x1, p1x2, p1x3, p1x4, p1x5, p1x6, p1x7, p1x8, p1x9⟩ := hH2
          have p1xz0 := block_lt p1x0
          have p1xz2 := block_lt p1x2
          have p1xz4 := block_lt p1x4
          have p1xz6 := block_lt p1x6
          have p1xz8 := block_lt p1x8
          have p1xs := p1xb.size
          go_wp2
          go_returns
          exact ⟨rfl, by first | (go_grown; done) | assumption⟩
    · simp at hsv hse
      subst hsv hse
      go_wp2
      go_returns
      exact ⟨rfl, by assumption⟩
end Go.Proofs.YtngdhmliohjigaaDoor
