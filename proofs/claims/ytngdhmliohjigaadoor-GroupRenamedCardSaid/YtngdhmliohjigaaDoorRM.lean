/- THE LAW OF RENAMED TERMINALS, for every winding and all renamings: renamings composed, the numbers of each winding, the law. -/
import Derived.Test.YtngdhmliohjigaaDoorRN0
namespace Go.Proofs.YtngdhmliohjigaaDoor
open Go.RowKit
theorem pErr_in {p q : Int} (p0 : -1000000 ≤ p) (p1 : p ≤ 1000000) (q0 : -1000000 ≤ q) (q1 : q ≤ 1000000) : pErr p q = 0 := by
  unfold pErr fst2 outErr
  (repeat' split) <;> omega
theorem sqV_t (t a b : Int) : sqV (t * a) (t * b) = sqV a b * (t * t) := by
  unfold sqV
  rw [Int.add_mul, Int.sub_mul]
  have h1 : t * a * (t * a) = a * a * (t * t) := by ac_rfl
  have h2 : t * a * (t * b) = a * b * (t * t) := by ac_rfl
  have h3 : t * b * (t * b) = b * b * (t * t) := by ac_rfl
  rw [h1, h2, h3]
theorem wrap_in {x y : Int} (e : x = y) (a : -1000000000000 ≤ y) (b : y ≤ 1000000000000) : IntKind.i64.wrap x = y := by
  rw [e]
  exact IntWalk.i64_in _ (by omega)
theorem hourW (i : Int) (w : World) (a : 0 ≤ i) (b : i ≤ 11) : Calls Tryd.prog 27 #[.int .i64 i, .int .i64 0, .int .i64 11] w fun e w' => e = .returned (.bool true) ∧ w = w' := by
  have h : withinB i 0 11 = true := by simp [withinB, a, b]
  have := rwithin_any i 0 11 w
  rwa [h] at this
/-- A renaming that is accepted. -/
def K28 (x0 x1 x2 x3 x4 x5 x6 x7 x8 p0 p1 p2 r0 r1 r2 r3 r4 r5 r6 r7 r8 : Int) : Prop := Hid (∀ w : World, w.rangeAt 0 0 permL → Calls Tryd.prog 28 #[.agg #[.int .i64 x0, .int .i64 x1, .int .i64 x2, .int .i64 x3, .int .i64 x4, .int .i64 x5, .int .i64 x6, .int .i64 x7, .int .i64 x8], .agg #[.int .i64 p0, .int .i64 p1, .int .i64 p2]] w fun e w' => e = .returned (.tuple #[.agg #[.int .i64 r0, .int .i64 r1, .int .i64 r2, .int .i64 r3, .int .i64 r4, .int .i64 r5, .int .i64 r6, .int .i64 r7, .int .i64 r8], .int .i64 0]) ∧ Below w.heap.size w w')
theorem Lim.neg {x : Int} (h : Lim x) : Lim (-x) := ⟨by have := h.2; omega, by have := h.1; omega⟩
theorem k28_0 (x0 x1 x2 x3 x4 x5 x6 x7 x8 : Int) (h0 : Lim x0) (h1 : Lim x1) (h2 : Lim x2) (h3 : Lim x3) (h4 : Lim x4) (h5 : Lim x5) (h6 : Lim x6) (h7 : Lim x7) (h8 : Lim x8) : K28 x0 x1 x2 x3 x4 x5 x6 x7 x8 0 1 2 x0 x1 x2 x3 x4 x5 x6 x7 x8 := Lib.hid (fun w hr => renamedOf_ok x0 x1 x2 x3 x4 x5 x6 x7 x8 0 1 2 x0 x1 x2 x3 x4 x5 x6 x7 x8 w hr (lErr_ok ⟨⟨h0, h1, h2⟩, ⟨h3, h4, h5⟩, ⟨h6, h7, h8⟩⟩) rfl (Lib.hid (fun w => renamed_0 x0 x1 x2 x3 x4 x5 x6 x7 x8 w h0 h1 h2 h3 h4 h5 h6 h7 h8)))
theorem k28_1 (x0 x1 x2 x3 x4 x5 x6 x7 x8 : Int) (h0 : Lim x0) (h1 : Lim x1) (h2 : Lim x2) (h3 : Lim x3) (h4 : Lim x4) (h5 : Lim x5) (h6 : Lim x6) (h7 : Lim x7) (h8 : Lim x8) : K28 x0 x1 x2 x3 x4 x5 x6 x7 x8 0 2 1 (-x6) (-x7) (-x8) (-x3) (-x4) (-x5) (-x0) (-x1) (-x2) := Lib.hid (fun w hr => renamedOf_ok x0 x1 x2 x3 x4 x5 x6 x7 x8 0 2 1 (-x6) (-x7) (-x8) (-x3) (-x4) (-x5) (-x0) (-x1) (-x2) w hr (lErr_ok ⟨⟨h0, h1, h2⟩, ⟨h3, h4, h5⟩, ⟨h6, h7, h8⟩⟩) rfl (Lib.hid (fun w => renamed_1 x0 x1 x2 x3 x4 x5 x6 x7 x8 w h0 h1 h2 h3 h4 h5 h6 h7 h8)))
theorem k28_2 (x0 x1 x2 x3 x4 x5 x6 x7 x8 : Int) (h0 : Lim x0) (h1 : Lim x1) (h2 : Lim x2) (h3 : Lim x3) (h4 : Lim x4) (h5 : Lim x5) (h6 : Lim x6) (h7 : Lim x7) (h8 : Lim x8) : K28 x0 x1 x2 x3 x4 x5 x6 x7 x8 1 0 2 (-x0) (-x1) (-x2) (-x6) (-x7) (-x8) (-x3) (-x4) (-x5) := Lib.hid (fun w hr => renamedOf_ok x0 x1 x2 x3 x4 x5 x6 x7 x8 1 0 2 (-x0) (-x1) (-x2) (-x6) (-x7) (-x8) (-x3) (-x4) (-x5) w hr (lErr_ok ⟨⟨h0, h1, h2⟩, ⟨h3, h4, h5⟩, ⟨h6, h7, h8⟩⟩) rfl (Lib.hid (fun w => renamed_2 x0 x1 x2 x3 x4 x5 x6 x7 x8 w h0 h1 h2 h3 h4 h5 h6 h7 h8)))
theorem k28_3 (x0 x1 x2 x3 x4 x5 x6 x7 x8 : Int) (h0 : Lim x0) (h1 : Lim x1) (h2 : Lim x2) (h3 : Lim x3) (h4 : Lim x4) (h5 : Lim x5) (h6 : Lim x6) (h7 : Lim x7) (h8 : Lim x8) : K28 x0 x1 x2 x3 x4 x5 x6 x7 x8 1 2 0 x3 x4 x5 x6 x7 x8 x0 x1 x2 := Lib.hid (fun w hr => renamedOf_ok x0 x1 x2 x3 x4 x5 x6 x7 x8 1 2 0 x3 x4 x5 x6 x7 x8 x0 x1 x2 w hr (lErr_ok ⟨⟨h0, h1, h2⟩, ⟨h3, h4, h5⟩, ⟨h6, h7, h8⟩⟩) rfl (Lib.hid (fun w => renamed_3 x0 x1 x2 x3 x4 x5 x6 x7 x8 w h0 h1 h2 h3 h4 h5 h6 h7 h8)))
theorem k28_4 (x0 x1 x2 x3 x4 x5 x6 x7 x8 : Int) (h0 : Lim x0) (h1 : Lim x1) (h2 : Lim x2) (h3 : Lim x3) (h4 : Lim x4) (h5 : Lim x5) (h6 : Lim x6) (h7 : Lim x7) (h8 : Lim x8) : K28 x0 x1 x2 x3 x4 x5 x6 x7 x8 2 0 1 x6 x7 x8 x0 x1 x2 x3 x4 x5 := Lib.hid (fun w hr => renamedOf_ok x0 x1 x2 x3 x4 x5 x6 x7 x8 2 0 1 x6 x7 x8 x0 x1 x2 x3 x4 x5 w hr (lErr_ok ⟨⟨h0, h1, h2⟩, ⟨h3, h4, h5⟩, ⟨h6, h7, h8⟩⟩) rfl (Lib.hid (fun w => renamed_4 x0 x1 x2 x3 x4 x5 x6 x7 x8 w h0 h1 h2 h3 h4 h5 h6 h7 h8)))
theorem k28_5 (x0 x1 x2 x3 x4 x5 x6 x7 x8 : Int) (h0 : Lim x0) (h1 : Lim x1) (h2 : Lim x2) (h3 : Lim x3) (h4 : Lim x4) (h5 : Lim x5) (h6 : Lim x6) (h7 : Lim x7) (h8 : Lim x8) : K28 x0 x1 x2 x3 x4 x5 x6 x7 x8 2 1 0 (-x3) (-x4) (-x5) (-x0) (-x1) (-x2) (-x6) (-x7) (-x8) := Lib.hid (fun w hr => renamedOf_ok x0 x1 x2 x3 x4 x5 x6 x7 x8 2 1 0 (-x3) (-x4) (-x5) (-x0) (-x1) (-x2) (-x6) (-x7) (-x8) w hr (lErr_ok ⟨⟨h0, h1, h2⟩, ⟨h3, h4, h5⟩, ⟨h6, h7, h8⟩⟩) rfl (Lib.hid (fun w => renamed_5 x0 x1 x2 x3 x4 x5 x6 x7 x8 w h0 h1 h2 h3 h4 h5 h6 h7 h8)))
theorem pair_00 (x0 x1 x2 x3 x4 x5 x6 x7 x8 : Int) (h0 : Lim x0) (h1 : Lim x1) (h2 : Lim x2) (h3 : Lim x3) (h4 : Lim x4) (h5 : Lim x5) (h6 : Lim x6) (h7 : Lim x7) (h8 : Lim x8) : K28 x0 x1 x2 x3 x4 x5 x6 x7 x8 0 1 2 x0 x1 x2 x3 x4 x5 x6 x7 x8 ∧ K28 x0 x1 x2 x3 x4 x5 x6 x7 x8 0 1 2 x0 x1 x2 x3 x4 x5 x6 x7 x8 := by
  refine ⟨?_, k28_0 x0 x1 x2 x3 x4 x5 x6 x7 x8 h0 h1 h2 h3 h4 h5 h6 h7 h8⟩
  have := k28_0 x0 x1 x2 x3 x4 x5 x6 x7 x8 h0 h1 h2 h3 h4 h5 h6 h7 h8
  exact this
theorem pair_01 (x0 x1 x2 x3 x4 x5 x6 x7 x8 : Int) (h0 : Lim x0) (h1 : Lim x1) (h2 : Lim x2) (h3 : Lim x3) (h4 : Lim x4) (h5 : Lim x5) (h6 : Lim x6) (h7 : Lim x7) (h8 : Lim x8) : K28 x0 x1 x2 x3 x4 x5 x6 x7 x8 0 2 1 (-x6) (-x7) (-x8) (-x3) (-x4) (-x5) (-x0) (-x1) (-x2) ∧ K28 x0 x1 x2 x3 x4 x5 x6 x7 x8 0 2 1 (-x6) (-x7) (-x8) (-x3) (-x4) (-x5) (-x0) (-x1) (-x2) := by
  refine ⟨?_, k28_1 x0 x1 x2 x3 x4 x5 x6 x7 x8 h0 h1 h2 h3 h4 h5 h6 h7 h8⟩
  have := k28_1 x0 x1 x2 x3 x4 x5 x6 x7 x8 h0 h1 h2 h3 h4 h5 h6 h7 h8
  exact this
theorem pair_02 (x0 x1 x2 x3 x4 x5 x6 x7 x8 : Int) (h0 : Lim x0) (h1 : Lim x1) (h2 : Lim x2) (h3 : Lim x3) (h4 : Lim x4) (h5 : Lim x5) (h6 : Lim x6) (h7 : Lim x7) (h8 : Lim x8) : K28 x0 x1 x2 x3 x4 x5 x6 x7 x8 1 0 2 (-x0) (-x1) (-x2) (-x6) (-x7) (-x8) (-x3) (-x4) (-x5) ∧ K28 x0 x1 x2 x3 x4 x5 x6 x7 x8 1 0 2 (-x0) (-x1) (-x2) (-x6) (-x7) (-x8) (-x3) (-x4) (-x5) := by
  refine ⟨?_, k28_2 x0 x1 x2 x3 x4 x5 x6 x7 x8 h0 h1 h2 h3 h4 h5 h6 h7 h8⟩
  have := k28_2 x0 x1 x2 x3 x4 x5 x6 x7 x8 h0 h1 h2 h3 h4 h5 h6 h7 h8
  exact this
theorem pair_03 (x0 x1 x2 x3 x4 x5 x6 x7 x8 : Int) (h0 : Lim x0) (h1 : Lim x1) (h2 : Lim x2) (h3 : Lim x3) (h4 : Lim x4) (h5 : Lim x5) (h6 : Lim x6) (h7 : Lim x7) (h8 : Lim x8) : K28 x0 x1 x2 x3 x4 x5 x6 x7 x8 1 2 0 x3 x4 x5 x6 x7 x8 x0 x1 x2 ∧ K28 x0 x1 x2 x3 x4 x5 x6 x7 x8 1 2 0 x3 x4 x5 x6 x7 x8 x0 x1 x2 := by
  refine ⟨?_, k28_3 x0 x1 x2 x3 x4 x5 x6 x7 x8 h0 h1 h2 h3 h4 h5 h6 h7 h8⟩
  have := k28_3 x0 x1 x2 x3 x4 x5 x6 x7 x8 h0 h1 h2 h3 h4 h5 h6 h7 h8
  exact this
theorem pair_04 (x0 x1 x2 x3 x4 x5 x6 x7 x8 : Int) (h0 : Lim x0) (h1 : Lim x1) (h2 : Lim x2) (h3 : Lim x3) (h4 : Lim x4) (h5 : Lim x5) (h6 : Lim x6) (h7 : Lim x7) (h8 : Lim x8) : K28 x0 x1 x2 x3 x4 x5 x6 x7 x8 2 0 1 x6 x7 x8 x0 x1 x2 x3 x4 x5 ∧ K28 x0 x1 x2 x3 x4 x5 x6 x7 x8 2 0 1 x6 x7 x8 x0 x1 x2 x3 x4 x5 := by
  refine ⟨?_, k28_4 x0 x1 x2 x3 x4 x5 x6 x7 x8 h0 h1 h2 h3 h4 h5 h6 h7 h8⟩
  have := k28_4 x0 x1 x2 x3 x4 x5 x6 x7 x8 h0 h1 h2 h3 h4 h5 h6 h7 h8
  exact this
theorem pair_05 (x0 x1 x2 x3 x4 x5 x6 x7 x8 : Int) (h0 : Lim x0) (h1 : Lim x1) (h2 : Lim x2) (h3 : Lim x3) (h4 : Lim x4) (h5 : Lim x5) (h6 : Lim x6) (h7 : Lim x7) (h8 : Lim x8) : K28 x0 x1 x2 x3 x4 x5 x6 x7 x8 2 1 0 (-x3) (-x4) (-x5) (-x0) (-x1) (-x2) (-x6) (-x7) (-x8) ∧ K28 x0 x1 x2 x3 x4 x5 x6 x7 x8 2 1 0 (-x3) (-x4) (-x5) (-x0) (-x1) (-x2) (-x6) (-x7) (-x8) := by
  refine ⟨?_, k28_5 x0 x1 x2 x3 x4 x5 x6 x7 x8 h0 h1 h2 h3 h4 h5 h6 h7 h8⟩
  have := k28_5 x0 x1 x2 x3 x4 x5 x6 x7 x8 h0 h1 h2 h3 h4 h5 h6 h7 h8
  exact this
theorem pair_10 (x0 x1 x2 x3 x4 x5 x6 x7 x8 : Int) (h0 : Lim x0) (h1 : Lim x1) (h2 : Lim x2) (h3 : Lim x3) (h4 : Lim x4) (h5 : Lim x5) (h6 : Lim x6) (h7 : Lim x7) (h8 : Lim x8) : K28 (-x6) (-x7) (-x8) (-x3) (-x4) (-x5) (-x0) (-x1) (-x2) 0 1 2 (-x6) (-x7) (-x8) (-x3) (-x4) (-x5) (-x0) (-x1) (-x2) ∧ K28 x0 x1 x2 x3 x4 x5 x6 x7 x8 0 2 1 (-x6) (-x7) (-x8) (-x3) (-x4) (-x5) (-x0) (-x1) (-x2) := by
  refine ⟨?_, k28_1 x0 x1 x2 x3 x4 x5 x6 x7 x8 h0 h1 h2 h3 h4 h5 h6 h7 h8⟩
  have := k28_0 (-x6) (-x7) (-x8) (-x3) (-x4) (-x5) (-x0) (-x1) (-x2) h6.neg h7.neg h8.neg h3.neg h4.neg h5.neg h0.neg h1.neg h2.neg
  exact this
theorem pair_11 (x0 x1 x2 x3 x4 x5 x6 x7 x8 : Int) (h0 : Lim x0) (h1 : Lim x1) (h2 : Lim x2) (h3 : Lim x3) (h4 : Lim x4) (h5 : Lim x5) (h6 : Lim x6) (h7 : Lim x7) (h8 : Lim x8) : K28 (-x6) (-x7) (-x8) (-x3) (-x4) (-x5) (-x0) (-x1) (-x2) 0 2 1 x0 x1 x2 x3 x4 x5 x6 x7 x8 ∧ K28 x0 x1 x2 x3 x4 x5 x6 x7 x8 0 1 2 x0 x1 x2 x3 x4 x5 x6 x7 x8 := by
  refine ⟨?_, k28_0 x0 x1 x2 x3 x4 x5 x6 x7 x8 h0 h1 h2 h3 h4 h5 h6 h7 h8⟩
  have := k28_1 (-x6) (-x7) (-x8) (-x3) (-x4) (-x5) (-x0) (-x1) (-x2) h6.neg h7.neg h8.neg h3.neg h4.neg h5.neg h0.neg h1.neg h2.neg
  simpa only [Int.neg_neg] using this
theorem pair_12 (x0 x1 x2 x3 x4 x5 x6 x7 x8 : Int) (h0 : Lim x0) (h1 : Lim x1) (h2 : Lim x2) (h3 : Lim x3) (h4 : Lim x4) (h5 : Lim x5) (h6 : Lim x6) (h7 : Lim x7) (h8 : Lim x8) : K28 (-x6) (-x7) (-x8) (-x3) (-x4) (-x5) (-x0) (-x1) (-x2) 1 0 2 x6 x7 x8 x0 x1 x2 x3 x4 x5 ∧ K28 x0 x1 x2 x3 x4 x5 x6 x7 x8 2 0 1 x6 x7 x8 x0 x1 x2 x3 x4 x5 := by
  refine ⟨?_, k28_4 x0 x1 x2 x3 x4 x5 x6 x7 x8 h0 h1 h2 h3 h4 h5 h6 h7 h8⟩
  have := k28_2 (-x6) (-x7) (-x8) (-x3) (-x4) (-x5) (-x0) (-x1) (-x2) h6.neg h7.neg h8.neg h3.neg h4.neg h5.neg h0.neg h1.neg h2.neg
  simpa only [Int.neg_neg] using this
theorem pair_13 (x0 x1 x2 x3 x4 x5 x6 x7 x8 : Int) (h0 : Lim x0) (h1 : Lim x1) (h2 : Lim x2) (h3 : Lim x3) (h4 : Lim x4) (h5 : Lim x5) (h6 : Lim x6) (h7 : Lim x7) (h8 : Lim x8) : K28 (-x6) (-x7) (-x8) (-x3) (-x4) (-x5) (-x0) (-x1) (-x2) 1 2 0 (-x3) (-x4) (-x5) (-x0) (-x1) (-x2) (-x6) (-x7) (-x8) ∧ K28 x0 x1 x2 x3 x4 x5 x6 x7 x8 2 1 0 (-x3) (-x4) (-x5) (-x0) (-x1) (-x2) (-x6) (-x7) (-x8) := by
  refine ⟨?_, k28_5 x0 x1 x2 x3 x4 x5 x6 x7 x8 h0 h1 h2 h3 h4 h5 h6 h7 h8⟩
  have := k28_3 (-x6) (-x7) (-x8) (-x3) (-x4) (-x5) (-x0) (-x1) (-x2) h6.neg h7.neg h8.neg h3.neg h4.neg h5.neg h0.neg h1.neg h2.neg
  exact this
theorem pair_14 (x0 x1 x2 x3 x4 x5 x6 x7 x8 : Int) (h0 : Lim x0) (h1 : Lim x1) (h2 : Lim x2) (h3 : Lim x3) (h4 : Lim x4) (h5 : Lim x5) (h6 : Lim x6) (h7 : Lim x7) (h8 : Lim x8) : K28 (-x6) (-x7) (-x8) (-x3) (-x4) (-x5) (-x0) (-x1) (-x2) 2 0 1 (-x0) (-x1) (-x2) (-x6) (-x7) (-x8) (-x3) (-x4) (-x5) ∧ K28 x0 x1 x2 x3 x4 x5 x6 x7 x8 1 0 2 (-x0) (-x1) (-x2) (-x6) (-x7) (-x8) (-x3) (-x4) (-x5) := by
  refine ⟨?_, k28_2 x0 x1 x2 x3 x4 x5 x6 x7 x8 h0 h1 h2 h3 h4 h5 h6 h7 h8⟩
  have := k28_4 (-x6) (-x7) (-x8) (-x3) (-x4) (-x5) (-x0) (-x1) (-x2) h6.neg h7.neg h8.neg h3.neg h4.neg h5.neg h0.neg h1.neg h2.neg
  exact this
theorem pair_15 (x0 x1 x2 x3 x4 x5 x6 x7 x8 : Int) (h0 : Lim x0) (h1 : Lim x1) (h2 : Lim x2) (h3 : Lim x3) (h4 : Lim x4) (h5 : Lim x5) (h6 : Lim x6) (h7 : Lim x7) (h8 : Lim x8) : K28 (-x6) (-x7) (-x8) (-x3) (-x4) (-x5) (-x0) (-x1) (-x2) 2 1 0 x3 x4 x5 x6 x7 x8 x0 x1 x2 ∧ K28 x0 x1 x2 x3 x4 x5 x6 x7 x8 1 2 0 x3 x4 x5 x6 x7 x8 x0 x1 x2 := by
  refine ⟨?_, k28_3 x0 x1 x2 x3 x4 x5 x6 x7 x8 h0 h1 h2 h3 h4 h5 h6 h7 h8⟩
  have := k28_5 (-x6) (-x7) (-x8) (-x3) (-x4) (-x5) (-x0) (-x1) (-x2) h6.neg h7.neg h8.neg h3.neg h4.neg h5.neg h0.neg h1.neg h2.neg
  simpa only [Int.neg_neg] using this
theorem pair_20 (x0 x1 x2 x3 x4 x5 x6 x7 x8 : Int) (h0 : Lim x0) (h1 : Lim x1) (h2 : Lim x2) (h3 : Lim x3) (h4 : Lim x4) (h5 : Lim x5) (h6 : Lim x6) (h7 : Lim x7) (h8 : Lim x8) : K28 (-x0) (-x1) (-x2) (-x6) (-x7) (-x8) (-x3) (-x4) (-x5) 0 1 2 (-x0) (-x1) (-x2) (-x6) (-x7) (-x8) (-x3) (-x4) (-x5) ∧ K28 x0 x1 x2 x3 x4 x5 x6 x7 x8 1 0 2 (-x0) (-x1) (-x2) (-x6) (-x7) (-x8) (-x3) (-x4) (-x5) := by
  refine ⟨?_, k28_2 x0 x1 x2 x3 x4 x5 x6 x7 x8 h0 h1 h2 h3 h4 h5 h6 h7 h8⟩
  have := k28_0 (-x0) (-x1) (-x2) (-x6) (-x7) (-x8) (-x3) (-x4) (-x5) h0.neg h1.neg h2.neg h6.neg h7.neg h8.neg h3.neg h4.neg h5.neg
  exact this
theorem pair_21 (x0 x1 x2 x3 x4 x5 x6 x7 x8 : Int) (h0 : Lim x0) (h1 : Lim x1) (h2 : Lim x2) (h3 : Lim x3) (h4 : Lim x4) (h5 : Lim x5) (h6 : Lim x6) (h7 : Lim x7) (h8 : Lim x8) : K28 (-x0) (-x1) (-x2) (-x6) (-x7) (-x8) (-x3) (-x4) (-x5) 0 2 1 x3 x4 x5 x6 x7 x8 x0 x1 x2 ∧ K28 x0 x1 x2 x3 x4 x5 x6 x7 x8 1 2 0 x3 x4 x5 x6 x7 x8 x0 x1 x2 := by
  refine ⟨?_, k28_3 x0 x1 x2 x3 x4 x5 x6 x7 x8 h0 h1 h2 h3 h4 h5 h6 h7 h8⟩
  have := k28_1 (-x0) (-x1) (-x2) (-x6) (-x7) (-x8) (-x3) (-x4) (-x5) h0.neg h1.neg h2.neg h6.neg h7.neg h8.neg h3.neg h4.neg h5.neg
  simpa only [Int.neg_neg] using this
theorem pair_22 (x0 x1 x2 x3 x4 x5 x6 x7 x8 : Int) (h0 : Lim x0) (h1 : Lim x1) (h2 : Lim x2) (h3 : Lim x3) (h4 : Lim x4) (h5 : Lim x5) (h6 : Lim x6) (h7 : Lim x7) (h8 : Lim x8) : K28 (-x0) (-x1) (-x2) (-x6) (-x7) (-x8) (-x3) (-x4) (-x5) 1 0 2 x0 x1 x2 x3 x4 x5 x6 x7 x8 ∧ K28 x0 x1 x2 x3 x4 x5 x6 x7 x8 0 1 2 x0 x1 x2 x3 x4 x5 x6 x7 x8 := by
  refine ⟨?_, k28_0 x0 x1 x2 x3 x4 x5 x6 x7 x8 h0 h1 h2 h3 h4 h5 h6 h7 h8⟩
  have := k28_2 (-x0) (-x1) (-x2) (-x6) (-x7) (-x8) (-x3) (-x4) (-x5) h0.neg h1.neg h2.neg h6.neg h7.neg h8.neg h3.neg h4.neg h5.neg
  simpa only [Int.neg_neg] using this
theorem pair_23 (x0 x1 x2 x3 x4 x5 x6 x7 x8 : Int) (h0 : Lim x0) (h1 : Lim x1) (h2 : Lim x2) (h3 : Lim x3) (h4 : Lim x4) (h5 : Lim x5) (h6 : Lim x6) (h7 : Lim x7) (h8 : Lim x8) : K28 (-x0) (-x1) (-x2) (-x6) (-x7) (-x8) (-x3) (-x4) (-x5) 1 2 0 (-x6) (-x7) (-x8) (-x3) (-x4) (-x5) (-x0) (-x1) (-x2) ∧ K28 x0 x1 x2 x3 x4 x5 x6 x7 x8 0 2 1 (-x6) (-x7) (-x8) (-x3) (-x4) (-x5) (-x0) (-x1) (-x2) := by
  refine ⟨?_, k28_1 x0 x1 x2 x3 x4 x5 x6 x7 x8 h0 h1 h2 h3 h4 h5 h6 h7 h8⟩
  have := k28_3 (-x0) (-x1) (-x2) (-x6) (-x7) (-x8) (-x3) (-x4) (-x5) h0.neg h1.neg h2.neg h6.neg h7.neg h8.neg h3.neg h4.neg h5.neg
  exact this
theorem pair_24 (x0 x1 x2 x3 x4 x5 x6 x7 x8 : Int) (h0 : Lim x0) (h1 : Lim x1) (h2 : Lim x2) (h3 : Lim x3) (h4 : Lim x4) (h5 : Lim x5) (h6 : Lim x6) (h7 : Lim x7) (h8 : Lim x8) : K28 (-x0) (-x1) (-x2) (-x6) (-x7) (-x8) (-x3) (-x4) (-x5) 2 0 1 (-x3) (-x4) (-x5) (-x0) (-x1) (-x2) (-x6) (-x7) (-x8) ∧ K28 x0 x1 x2 x3 x4 x5 x6 x7 x8 2 1 0 (-x3) (-x4) (-x5) (-x0) (-x1) (-x2) (-x6) (-x7) (-x8) := by
  refine ⟨?_, k28_5 x0 x1 x2 x3 x4 x5 x6 x7 x8 h0 h1 h2 h3 h4 h5 h6 h7 h8⟩
  have := k28_4 (-x0) (-x1) (-x2) (-x6) (-x7) (-x8) (-x3) (-x4) (-x5) h0.neg h1.neg h2.neg h6.neg h7.neg h8.neg h3.neg h4.neg h5.neg
  exact this
theorem pair_25 (x0 x1 x2 x3 x4 x5 x6 x7 x8 : Int) (h0 : Lim x0) (h1 : Lim x1) (h2 : Lim x2) (h3 : Lim x3) (h4 : Lim x4) (h5 : Lim x5) (h6 : Lim x6) (h7 : Lim x7) (h8 : Lim x8) : K28 (-x0) (-x1) (-x2) (-x6) (-x7) (-x8) (-x3) (-x4) (-x5) 2 1 0 x6 x7 x8 x0 x1 x2 x3 x4 x5 ∧ K28 x0 x1 x2 x3 x4 x5 x6 x7 x8 2 0 1 x6 x7 x8 x0 x1 x2 x3 x4 x5 := by
  refine ⟨?_, k28_4 x0 x1 x2 x3 x4 x5 x6 x7 x8 h0 h1 h2 h3 h4 h5 h6 h7 h8⟩
  have := k28_5 (-x0) (-x1) (-x2) (-x6) (-x7) (-x8) (-x3) (-x4) (-x5) h0.neg h1.neg h2.neg h6.neg h7.neg h8.neg h3.neg h4.neg h5.neg
  simpa only [Int.neg_neg] using this
theorem pair_30 (x0 x1 x2 x3 x4 x5 x6 x7 x8 : Int) (h0 : Lim x0) (h1 : Lim x1) (h2 : Lim x2) (h3 : Lim x3) (h4 : Lim x4) (h5 : Lim x5) (h6 : Lim x6) (h7 : Lim x7) (h8 : Lim x8) : K28 x3 x4 x5 x6 x7 x8 x0 x1 x2 0 1 2 x3 x4 x5 x6 x7 x8 x0 x1 x2 ∧ K28 x0 x1 x2 x3 x4 x5 x6 x7 x8 1 2 0 x3 x4 x5 x6 x7 x8 x0 x1 x2 := by
  refine ⟨?_, k28_3 x0 x1 x2 x3 x4 x5 x6 x7 x8 h0 h1 h2 h3 h4 h5 h6 h7 h8⟩
  have := k28_0 x3 x4 x5 x6 x7 x8 x0 x1 x2 h3 h4 h5 h6 h7 h8 h0 h1 h2
  exact this
theorem pair_31 (x0 x1 x2 x3 x4 x5 x6 x7 x8 : Int) (h0 : Lim x0) (h1 : Lim x1) (h2 : Lim x2) (h3 : Lim x3) (h4 : Lim x4) (h5 : Lim x5) (h6 : Lim x6) (h7 : Lim x7) (h8 : Lim x8) : K28 x3 x4 x5 x6 x7 x8 x0 x1 x2 0 2 1 (-x0) (-x1) (-x2) (-x6) (-x7) (-x8) (-x3) (-x4) (-x5) ∧ K28 x0 x1 x2 x3 x4 x5 x6 x7 x8 1 0 2 (-x0) (-x1) (-x2) (-x6) (-x7) (-x8) (-x3) (-x4) (-x5) := by
  refine ⟨?_, k28_2 x0 x1 x2 x3 x4 x5 x6 x7 x8 h0 h1 h2 h3 h4 h5 h6 h7 h8⟩
  have := k28_1 x3 x4 x5 x6 x7 x8 x0 x1 x2 h3 h4 h5 h6 h7 h8 h0 h1 h2
  exact this
theorem pair_32 (x0 x1 x2 x3 x4 x5 x6 x7 x8 : Int) (h0 : Lim x0) (h1 : Lim x1) (h2 : Lim x2) (h3 : Lim x3) (h4 : Lim x4) (h5 : Lim x5) (h6 : Lim x6) (h7 : Lim x7) (h8 : Lim x8) : K28 x3 x4 x5 x6 x7 x8 x0 x1 x2 1 0 2 (-x3) (-x4) (-x5) (-x0) (-x1) (-x2) (-x6) (-x7) (-x8) ∧ K28 x0 x1 x2 x3 x4 x5 x6 x7 x8 2 1 0 (-x3) (-x4) (-x5) (-x0) (-x1) (-x2) (-x6) (-x7) (-x8) := by
  refine ⟨?_, k28_5 x0 x1 x2 x3 x4 x5 x6 x7 x8 h0 h1 h2 h3 h4 h5 h6 h7 h8⟩
  have := k28_2 x3 x4 x5 x6 x7 x8 x0 x1 x2 h3 h4 h5 h6 h7 h8 h0 h1 h2
  exact this
theorem pair_33 (x0 x1 x2 x3 x4 x5 x6 x7 x8 : Int) (h0 : Lim x0) (h1 : Lim x1) (h2 : Lim x2) (h3 : Lim x3) (h4 : Lim x4) (h5 : Lim x5) (h6 : Lim x6) (h7 : Lim x7) (h8 : Lim x8) : K28 x3 x4 x5 x6 x7 x8 x0 x1 x2 1 2 0 x6 x7 x8 x0 x1 x2 x3 x4 x5 ∧ K28 x0 x1 x2 x3 x4 x5 x6 x7 x8 2 0 1 x6 x7 x8 x0 x1 x2 x3 x4 x5 := by
  refine ⟨?_, k28_4 x0 x1 x2 x3 x4 x5 x6 x7 x8 h0 h1 h2 h3 h4 h5 h6 h7 h8⟩
  have := k28_3 x3 x4 x5 x6 x7 x8 x0 x1 x2 h3 h4 h5 h6 h7 h8 h0 h1 h2
  exact this
theorem pair_34 (x0 x1 x2 x3 x4 x5 x6 x7 x8 : Int) (h0 : Lim x0) (h1 : Lim x1) (h2 : Lim x2) (h3 : Lim x3) (h4 : Lim x4) (h5 : Lim x5) (h6 : Lim x6) (h7 : Lim x7) (h8 : Lim x8) : K28 x3 x4 x5 x6 x7 x8 x0 x1 x2 2 0 1 x0 x1 x2 x3 x4 x5 x6 x7 x8 ∧ K28 x0 x1 x2 x3 x4 x5 x6 x7 x8 0 1 2 x0 x1 x2 x3 x4 x5 x6 x7 x8 := by
  refine ⟨?_, k28_0 x0 x1 x2 x3 x4 x5 x6 x7 x8 h0 h1 h2 h3 h4 h5 h6 h7 h8⟩
  have := k28_4 x3 x4 x5 x6 x7 x8 x0 x1 x2 h3 h4 h5 h6 h7 h8 h0 h1 h2
  exact this
theorem pair_35 (x0 x1 x2 x3 x4 x5 x6 x7 x8 : Int) (h0 : Lim x0) (h1 : Lim x1) (h2 : Lim x2) (h3 : Lim x3) (h4 : Lim x4) (h5 : Lim x5) (h6 : Lim x6) (h7 : Lim x7) (h8 : Lim x8) : K28 x3 x4 x5 x6 x7 x8 x0 x1 x2 2 1 0 (-x6) (-x7) (-x8) (-x3) (-x4) (-x5) (-x0) (-x1) (-x2) ∧ K28 x0 x1 x2 x3 x4 x5 x6 x7 x8 0 2 1 (-x6) (-x7) (-x8) (-x3) (-x4) (-x5) (-x0) (-x1) (-x2) := by
  refine ⟨?_, k28_1 x0 x1 x2 x3 x4 x5 x6 x7 x8 h0 h1 h2 h3 h4 h5 h6 h7 h8⟩
  have := k28_5 x3 x4 x5 x6 x7 x8 x0 x1 x2 h3 h4 h5 h6 h7 h8 h0 h1 h2
  exact this
theorem pair_40 (x0 x1 x2 x3 x4 x5 x6 x7 x8 : Int) (h0 : Lim x0) (h1 : Lim x1) (h2 : Lim x2) (h3 : Lim x3) (h4 : Lim x4) (h5 : Lim x5) (h6 : Lim x6) (h7 : Lim x7) (h8 : Lim x8) : K28 x6 x7 x8 x0 x1 x2 x3 x4 x5 0 1 2 x6 x7 x8 x0 x1 x2 x3 x4 x5 ∧ K28 x0 x1 x2 x3 x4 x5 x6 x7 x8 2 0 1 x6 x7 x8 x0 x1 x2 x3 x4 x5 := by
  refine ⟨?_, k28_4 x0 x1 x2 x3 x4 x5 x6 x7 x8 h0 h1 h2 h3 h4 h5 h6 h7 h8⟩
  have := k28_0 x6 x7 x8 x0 x1 x2 x3 x4 x5 h6 h7 h8 h0 h1 h2 h3 h4 h5
  exact this
theorem pair_41 (x0 x1 x2 x3 x4 x5 x6 x7 x8 : Int) (h0 : Lim x0) (h1 : Lim x1) (h2 : Lim x2) (h3 : Lim x3) (h4 : Lim x4) (h5 : Lim x5) (h6 : Lim x6) (h7 : Lim x7) (h8 : Lim x8) : K28 x6 x7 x8 x0 x1 x2 x3 x4 x5 0 2 1 (-x3) (-x4) (-x5) (-x0) (-x1) (-x2) (-x6) (-x7) (-x8) ∧ K28 x0 x1 x2 x3 x4 x5 x6 x7 x8 2 1 0 (-x3) (-x4) (-x5) (-x0) (-x1) (-x2) (-x6) (-x7) (-x8) := by
  refine ⟨?_, k28_5 x0 x1 x2 x3 x4 x5 x6 x7 x8 h0 h1 h2 h3 h4 h5 h6 h7 h8⟩
  have := k28_1 x6 x7 x8 x0 x1 x2 x3 x4 x5 h6 h7 h8 h0 h1 h2 h3 h4 h5
  exact this
theorem pair_42 (x0 x1 x2 x3 x4 x5 x6 x7 x8 : Int) (h0 : Lim x0) (h1 : Lim x1) (h2 : Lim x2) (h3 : Lim x3) (h4 : Lim x4) (h5 : Lim x5) (h6 : Lim x6) (h7 : Lim x7) (h8 : Lim x8) : K28 x6 x7 x8 x0 x1 x2 x3 x4 x5 1 0 2 (-x6) (-x7) (-x8) (-x3) (-x4) (-x5) (-x0) (-x1) (-x2) ∧ K28 x0 x1 x2 x3 x4 x5 x6 x7 x8 0 2 1 (-x6) (-x7) (-x8) (-x3) (-x4) (-x5) (-x0) (-x1) (-x2) := by
  refine ⟨?_, k28_1 x0 x1 x2 x3 x4 x5 x6 x7 x8 h0 h1 h2 h3 h4 h5 h6 h7 h8⟩
  have := k28_2 x6 x7 x8 x0 x1 x2 x3 x4 x5 h6 h7 h8 h0 h1 h2 h3 h4 h5
  exact this
theorem pair_43 (x0 x1 x2 x3 x4 x5 x6 x7 x8 : Int) (h0 : Lim x0) (h1 : Lim x1) (h2 : Lim x2) (h3 : Lim x3) (h4 : Lim x4) (h5 : Lim x5) (h6 : Lim x6) (h7 : Lim x7) (h8 : Lim x8) : K28 x6 x7 x8 x0 x1 x2 x3 x4 x5 1 2 0 x0 x1 x2 x3 x4 x5 x6 x7 x8 ∧ K28 x0 x1 x2 x3 x4 x5 x6 x7 x8 0 1 2 x0 x1 x2 x3 x4 x5 x6 x7 x8 := by
  refine ⟨?_, k28_0 x0 x1 x2 x3 x4 x5 x6 x7 x8 h0 h1 h2 h3 h4 h5 h6 h7 h8⟩
  have := k28_3 x6 x7 x8 x0 x1 x2 x3 x4 x5 h6 h7 h8 h0 h1 h2 h3 h4 h5
  exact this
theorem pair_44 (x0 x1 x2 x3 x4 x5 x6 x7 x8 : Int) (h0 : Lim x0) (h1 : Lim x1) (h2 : Lim x2) (h3 : Lim x3) (h4 : Lim x4) (h5 : Lim x5) (h6 : Lim x6) (h7 : Lim x7) (h8 : Lim x8) : K28 x6 x7 x8 x0 x1 x2 x3 x4 x5 2 0 1 x3 x4 x5 x6 x7 x8 x0 x1 x2 ∧ K28 x0 x1 x2 x3 x4 x5 x6 x7 x8 1 2 0 x3 x4 x5 x6 x7 x8 x0 x1 x2 := by
  refine ⟨?_, k28_3 x0 x1 x2 x3 x4 x5 x6 x7 x8 h0 h1 h2 h3 h4 h5 h6 h7 h8⟩
  have := k28_4 x6 x7 x8 x0 x1 x2 x3 x4 x5 h6 h7 h8 h0 h1 h2 h3 h4 h5
  exact this
theorem pair_45 (x0 x1 x2 x3 x4 x5 x6 x7 x8 : Int) (h0 : Lim x0) (h1 : Lim x1) (h2 : Lim x2) (h3 : Lim x3) (h4 : Lim x4) (h5 : Lim x5) (h6 : Lim x6) (h7 : Lim x7) (h8 : Lim x8) : K28 x6 x7 x8 x0 x1 x2 x3 x4 x5 2 1 0 (-x0) (-x1) (-x2) (-x6) (-x7) (-x8) (-x3) (-x4) (-x5) ∧ K28 x0 x1 x2 x3 x4 x5 x6 x7 x8 1 0 2 (-x0) (-x1) (-x2) (-x6) (-x7) (-x8) (-x3) (-x4) (-x5) := by
  refine ⟨?_, k28_2 x0 x1 x2 x3 x4 x5 x6 x7 x8 h0 h1 h2 h3 h4 h5 h6 h7 h8⟩
  have := k28_5 x6 x7 x8 x0 x1 x2 x3 x4 x5 h6 h7 h8 h0 h1 h2 h3 h4 h5
  exact this
theorem pair_50 (x0 x1 x2 x3 x4 x5 x6 x7 x8 : Int) (h0 : Lim x0) (h1 : Lim x1) (h2 : Lim x2) (h3 : Lim x3) (h4 : Lim x4) (h5 : Lim x5) (h6 : Lim x6) (h7 : Lim x7) (h8 : Lim x8) : K28 (-x3) (-x4) (-x5) (-x0) (-x1) (-x2) (-x6) (-x7) (-x8) 0 1 2 (-x3) (-x4) (-x5) (-x0) (-x1) (-x2) (-x6) (-x7) (-x8) ∧ K28 x0 x1 x2 x3 x4 x5 x6 x7 x8 2 1 0 (-x3) (-x4) (-x5) (-x0) (-x1) (-x2) (-x6) (-x7) (-x8) := by
  refine ⟨?_, k28_5 x0 x1 x2 x3 x4 x5 x6 x7 x8 h0 h1 h2 h3 h4 h5 h6 h7 h8⟩
  have := k28_0 (-x3) (-x4) (-x5) (-x0) (-x1) (-x2) (-x6) (-x7) (-x8) h3.neg h4.neg h5.neg h0.neg h1.neg h2.neg h6.neg h7.neg h8.neg
  exact this
theorem pair_51 (x0 x1 x2 x3 x4 x5 x6 x7 x8 : Int) (h0 : Lim x0) (h1 : Lim x1) (h2 : Lim x2) (h3 : Lim x3) (h4 : Lim x4) (h5 : Lim x5) (h6 : Lim x6) (h7 : Lim x7) (h8 : Lim x8) : K28 (-x3) (-x4) (-x5) (-x0) (-x1) (-x2) (-x6) (-x7) (-x8) 0 2 1 x6 x7 x8 x0 x1 x2 x3 x4 x5 ∧ K28 x0 x1 x2 x3 x4 x5 x6 x7 x8 2 0 1 x6 x7 x8 x0 x1 x2 x3 x4 x5 := by
  refine ⟨?_, k28_4 x0 x1 x2 x3 x4 x5 x6 x7 x8 h0 h1 h2 h3 h4 h5 h6 h7 h8⟩
  have := k28_1 (-x3) (-x4) (-x5) (-x0) (-x1) (-x2) (-x6) (-x7) (-x8) h3.neg h4.neg h5.neg h0.neg h1.neg h2.neg h6.neg h7.neg h8.neg
  simpa only [Int.neg_neg] using this
theorem pair_52 (x0 x1 x2 x3 x4 x5 x6 x7 x8 : Int) (h0 : Lim x0) (h1 : Lim x1) (h2 : Lim x2) (h3 : Lim x3) (h4 : Lim x4) (h5 : Lim x5) (h6 : Lim x6) (h7 : Lim x7) (h8 : Lim x8) : K28 (-x3) (-x4) (-x5) (-x0) (-x1) (-x2) (-x6) (-x7) (-x8) 1 0 2 x3 x4 x5 x6 x7 x8 x0 x1 x2 ∧ K28 x0 x1 x2 x3 x4 x5 x6 x7 x8 1 2 0 x3 x4 x5 x6 x7 x8 x0 x1 x2 := by
  refine ⟨?_, k28_3 x0 x1 x2 x3 x4 x5 x6 x7 x8 h0 h1 h2 h3 h4 h5 h6 h7 h8⟩
  have := k28_2 (-x3) (-x4) (-x5) (-x0) (-x1) (-x2) (-x6) (-x7) (-x8) h3.neg h4.neg h5.neg h0.neg h1.neg h2.neg h6.neg h7.neg h8.neg
  simpa only [Int.neg_neg] using this
theorem pair_53 (x0 x1 x2 x3 x4 x5 x6 x7 x8 : Int) (h0 : Lim x0) (h1 : Lim x1) (h2 : Lim x2) (h3 : Lim x3) (h4 : Lim x4) (h5 : Lim x5) (h6 : Lim x6) (h7 : Lim x7) (h8 : Lim x8) : K28 (-x3) (-x4) (-x5) (-x0) (-x1) (-x2) (-x6) (-x7) (-x8) 1 2 0 (-x0) (-x1) (-x2) (-x6) (-x7) (-x8) (-x3) (-x4) (-x5) ∧ K28 x0 x1 x2 x3 x4 x5 x6 x7 x8 1 0 2 (-x0) (-x1) (-x2) (-x6) (-x7) (-x8) (-x3) (-x4) (-x5) := by
  refine ⟨?_, k28_2 x0 x1 x2 x3 x4 x5 x6 x7 x8 h0 h1 h2 h3 h4 h5 h6 h7 h8⟩
  have := k28_3 (-x3) (-x4) (-x5) (-x0) (-x1) (-x2) (-x6) (-x7) (-x8) h3.neg h4.neg h5.neg h0.neg h1.neg h2.neg h6.neg h7.neg h8.neg
  exact this
theorem pair_54 (x0 x1 x2 x3 x4 x5 x6 x7 x8 : Int) (h0 : Lim x0) (h1 : Lim x1) (h2 : Lim x2) (h3 : Lim x3) (h4 : Lim x4) (h5 : Lim x5) (h6 : Lim x6) (h7 : Lim x7) (h8 : Lim x8) : K28 (-x3) (-x4) (-x5) (-x0) (-x1) (-x2) (-x6) (-x7) (-x8) 2 0 1 (-x6) (-x7) (-x8) (-x3) (-x4) (-x5) (-x0) (-x1) (-x2) ∧ K28 x0 x1 x2 x3 x4 x5 x6 x7 x8 0 2 1 (-x6) (-x7) (-x8) (-x3) (-x4) (-x5) (-x0) (-x1) (-x2) := by
  refine ⟨?_, k28_1 x0 x1 x2 x3 x4 x5 x6 x7 x8 h0 h1 h2 h3 h4 h5 h6 h7 h8⟩
  have := k28_4 (-x3) (-x4) (-x5) (-x0) (-x1) (-x2) (-x6) (-x7) (-x8) h3.neg h4.neg h5.neg h0.neg h1.neg h2.neg h6.neg h7.neg h8.neg
  exact this
theorem pair_55 (x0 x1 x2 x3 x4 x5 x6 x7 x8 : Int) (h0 : Lim x0) (h1 : Lim x1) (h2 : Lim x2) (h3 : Lim x3) (h4 : Lim x4) (h5 : Lim x5) (h6 : Lim x6) (h7 : Lim x7) (h8 : Lim x8) : K28 (-x3) (-x4) (-x5) (-x0) (-x1) (-x2) (-x6) (-x7) (-x8) 2 1 0 x0 x1 x2 x3 x4 x5 x6 x7 x8 ∧ K28 x0 x1 x2 x3 x4 x5 x6 x7 x8 0 1 2 x0 x1 x2 x3 x4 x5 x6 x7 x8 := by
  refine ⟨?_, k28_0 x0 x1 x2 x3 x4 x5 x6 x7 x8 h0 h1 h2 h3 h4 h5 h6 h7 h8⟩
  have := k28_5 (-x3) (-x4) (-x5) (-x0) (-x1) (-x2) (-x6) (-x7) (-x8) h3.neg h4.neg h5.neg h0.neg h1.neg h2.neg h6.neg h7.neg h8.neg
  simpa only [Int.neg_neg] using this
def K19 (k n s : Int) (r : Bool) : Prop := ∀ w : World, Calls Tryd.prog 19 #[.agg #[.int .i64 k, .int .i64 n, .int .i64 s, .bool r]] w fun e w' => e = .returned (.int .i64 0) ∧ Below w.heap.size w w'
def K22 (k n s : Int) (r : Bool) (l0 l1 l2 l3 l4 l5 l6 l7 l8 : Int) : Prop := ∀ w : World, Calls Tryd.prog 22 #[.agg #[.int .i64 k, .int .i64 n, .int .i64 s, .bool r]] w fun e w' => e = .returned (.agg #[.int .i64 l0, .int .i64 l1, .int .i64 l2, .int .i64 l3, .int .i64 l4, .int .i64 l5, .int .i64 l6, .int .i64 l7, .int .i64 l8]) ∧ Below w.heap.size w w'
def K6 (k n s : Int) (r : Bool) (p0 p1 p2 q0 q1 q2 : Int) (w : World) : Prop := Calls Tryd.prog 6 #[.agg #[.int .i64 k, .int .i64 n, .int .i64 s, .bool r], .agg #[.int .i64 p0, .int .i64 p1, .int .i64 p2], .agg #[.int .i64 q0, .int .i64 q1, .int .i64 q2]] w fun e w' => e = .returned (.bool true) ∧ Below w.heap.size w w'
theorem lims_t {n t : Int} (n0 : 1 ≤ n) (n1 : n ≤ 2000) (e : t = n ∨ t = -n) : Lim (t * (-2)) ∧ Lim (t * (-1)) ∧ Lim (t * 0) ∧ Lim (t * 1) ∧ Lim (t * 2) := by
  unfold Lim
  refine ⟨⟨?_, ?_⟩, ⟨?_, ?_⟩, ⟨?_, ?_⟩, ⟨?_, ?_⟩, ⟨?_, ?_⟩⟩ <;> omega
theorem lim2 {a b c : Int} (ha : Lim a) (hb : Lim b) (hc : Lim c) : pErr (a - b) (c - b) = 0 ∧ -1000000 ≤ a - b ∧ a - b ≤ 1000000 ∧ -1000000 ≤ c - b ∧ c - b ≤ 1000000 := by
  obtain ⟨a0, a1⟩ := ha
  obtain ⟨b0, b1⟩ := hb
  obtain ⟨c0, c1⟩ := hc
  exact ⟨pErr_in (by omega) (by omega) (by omega) (by omega), by omega, by omega, by omega, by omega⟩
theorem sequenceOf_pos (x0 x1 x2 x3 x4 x5 x6 x7 x8 : Int) (w : World) (hL : (Lim x0 ∧ Lim x1 ∧ Lim x2) ∧ (Lim x3 ∧ Lim x4 ∧ Lim x5) ∧ (Lim x6 ∧ Lim x7 ∧ Lim x8)) (ht : Tabs w) (z0 : ¬ ((x0 - x1) = 0 ∧ (x2 - x1) = 0)) (z1 : (x3 - x4) = -(x0 - x1) + (x2 - x1)) (z2 : (x5 - x4) = -(x0 - x1)) (z3 : (x6 - x7) = -(x3 - x4) + (x5 - x4)) (z4 : (x8 - x7) = -(x3 - x4)) :
    Calls Tryd.prog 23 #[.agg #[.int .i64 x0, .int .i64 x1, .int .i64 x2, .int .i64 x3, .int .i64 x4, .int .i64 x5, .int .i64 x6, .int .i64 x7, .int .i64 x8]] w fun e w' => e = .returned (.tuple #[.int .i64 1, .int .i64 0]) ∧ Below w.heap.size w w' := by
  have S := sequenceOf_ok x0 x1 x2 x3 x4 x5 x6 x7 x8 w hL ht
  have k0 : ¬ (((x0 - x1) == 0 && (x2 - x1) == 0) = true) := by simpa using z0
  have k1 : foB (x0 - x1) (x2 - x1) (x3 - x4) (x5 - x4) (x6 - x7) (x8 - x7) (-1) (-1) = true := by
    simp only [foB, fol1, Bool.and_eq_true, beq_iff_eq]
    omega
  rwa [show seqV (x0 - x1) (x2 - x1) (x3 - x4) (x5 - x4) (x6 - x7) (x8 - x7) = 1 from by unfold seqV; rw [if_neg k0, if_pos k1], show seqE (x0 - x1) (x2 - x1) (x3 - x4) (x5 - x4) (x6 - x7) (x8 - x7) = 0 from by unfold seqE; rw [if_neg k0, if_pos k1]] at S
theorem sequenceOf_neg (x0 x1 x2 x3 x4 x5 x6 x7 x8 : Int) (w : World) (hL : (Lim x0 ∧ Lim x1 ∧ Lim x2) ∧ (Lim x3 ∧ Lim x4 ∧ Lim x5) ∧ (Lim x6 ∧ Lim x7 ∧ Lim x8)) (ht : Tabs w) (z0 : ¬ ((x0 - x1) = 0 ∧ (x2 - x1) = 0)) (z1 : (x3 - x4) = -(x2 - x1)) (z2 : (x5 - x4) = (x0 - x1) - (x2 - x1)) (z3 : (x6 - x7) = -(x5 - x4)) (z4 : (x8 - x7) = (x3 - x4) - (x5 - x4)) :
    Calls Tryd.prog 23 #[.agg #[.int .i64 x0, .int .i64 x1, .int .i64 x2, .int .i64 x3, .int .i64 x4, .int .i64 x5, .int .i64 x6, .int .i64 x7, .int .i64 x8]] w fun e w' => e = .returned (.tuple #[.int .i64 (-1), .int .i64 0]) ∧ Below w.heap.size w w' := by
  have S := sequenceOf_ok x0 x1 x2 x3 x4 x5 x6 x7 x8 w hL ht
  have k0 : ¬ (((x0 - x1) == 0 && (x2 - x1) == 0) = true) := by simpa using z0
  have k1 : ¬ (foB (x0 - x1) (x2 - x1) (x3 - x4) (x5 - x4) (x6 - x7) (x8 - x7) (-1) (-1) = true) := by
    simp only [foB, fol1, Bool.and_eq_true, beq_iff_eq]
    omega
  have k2 : foB (x0 - x1) (x2 - x1) (x3 - x4) (x5 - x4) (x6 - x7) (x8 - x7) 0 1 = true := by
    simp only [foB, fol1, Bool.and_eq_true, beq_iff_eq]
    omega
  rwa [show seqV (x0 - x1) (x2 - x1) (x3 - x4) (x5 - x4) (x6 - x7) (x8 - x7) = -1 from by unfold seqV; rw [if_neg k0, if_neg k1, if_pos k2], show seqE (x0 - x1) (x2 - x1) (x3 - x4) (x5 - x4) (x6 - x7) (x8 - x7) = 0 from by unfold seqE; rw [if_neg k0, if_neg k1, if_pos k2]] at S
set_option maxRecDepth 100000 in
set_option maxHeartbeats 4000000 in
theorem ren_0 (k n s : Int) (r : Bool) (q0 q1 q2 l0 l1 l2 l3 l4 l5 l6 l7 l8 ua va N ub vb ya yb tt uu : Int) (w : World) (ht : Tabs w) (hr : w.rangeAt 0 0 permL) (h0 : Lim l0) (h1 : Lim l1) (h2 : Lim l2) (h3 : Lim l3) (h4 : Lim l4) (h5 : Lim l5) (h6 : Lim l6) (h7 : Lim l7) (h8 : Lim l8) (hq : permB q0 q1 q2 = true) (E : K19 k n s r) (KL : K22 k n s r l0 l1 l2 l3 l4 l5 l6 l7 l8)
    (z0 : ¬ ((l0 - l1) = 0 ∧ (l2 - l1) = 0)) (z1 : (l3 - l4) = -(l0 - l1) + (l2 - l1)) (z2 : (l5 - l4) = -(l0 - l1)) (z3 : (l6 - l7) = -(l3 - l4) + (l5 - l4)) (z4 : (l8 - l7) = -(l3 - l4))
    (f0 : (l0 - l1) = ua) (f1 : (l2 - l1) = va) (g0 : l0 - l1 = ub) (g1 : l2 - l1 = vb) (y0' : l3 - l4 = ya) (y1' : l5 - l4 = yb) (sa : sqV ua va = N) (sb : sqV ub vb = N) (du : Dir ua va uu) (dy : Dir ya yb tt) (ut : (uu - 4) % 12 = tt) : K6 k n s r 0 1 2 q0 q1 q2 w := by
  have hd := dir_bd du
  have u0 := hd.1
  have u1 := hd.2.1
  have Q := fun w => isPermutation_any q0 q1 q2 w
  rw [hq] at Q
  have P : ∀ w, Calls Tryd.prog 33 #[.agg #[.int .i64 0, .int .i64 1, .int .i64 2]] w fun e w' => e = .returned (.bool true) ∧ Below w.heap.size w w' := fun w => isPermutation_any 0 1 2 w
  have M : ∀ w, Calls Tryd.prog 36 #[.int .i64 (uu - 4), .int .i64 12] w fun e w' => e = .returned (.int .i64 tt) ∧ w = w' := fun w => by rw [← ut]; exact rmod_any (uu - 4) 12 w (by decide) (by decide)
  have KA := k28_0 l0 l1 l2 l3 l4 l5 l6 l7 l8 h0 h1 h2 h3 h4 h5 h6 h7 h8
  have KO := k28_3 l0 l1 l2 l3 l4 l5 l6 l7 l8 h0 h1 h2 h3 h4 h5 h6 h7 h8
  have S := fun w ht => sequenceOf_pos l0 l1 l2 l3 l4 l5 l6 l7 l8 w ⟨⟨h0, h1, h2⟩, ⟨h3, h4, h5⟩, ⟨h6, h7, h8⟩⟩ ht z0 z1 z2 z3 z4
  have F := fun w ht => phasorOf_all l0 l1 l2 l3 l4 l5 l6 l7 l8 w ⟨⟨h0, h1, h2⟩, ⟨h3, h4, h5⟩, ⟨h6, h7, h8⟩⟩ ht
  rw [f0, f1] at F
  have Y := fun w ht => phasorOf_all l3 l4 l5 l6 l7 l8 l0 l1 l2 w ⟨⟨h3, h4, h5⟩, ⟨h6, h7, h8⟩, ⟨h0, h1, h2⟩⟩ ht
  rw [y0', y1'] at Y
  have G := fun w => rphasor_any l0 l1 l2 w h0 h1 h2
  rw [g0, g1] at G
  have ba := lim2 h0 h1 h2
  have by2 := lim2 h3 h4 h5
  have bb := lim2 h0 h1 h2
  rw [f0, f1] at ba
  rw [y0', y1'] at by2
  rw [g0, g1] at bb
  have NN := fun w => squareOf_ok ua va w ba.1
  rw [sa] at NN
  have H := fun w => rsquare_any ub vb w bb.2.1 bb.2.2.1 bb.2.2.2.1 bb.2.2.2.2
  rw [sb] at H
  have U := fun w ht => hoursOf_ok ua va w ba.1 ht
  rw [hourV_dir du, hourE_dir du] at U
  have TT := fun w ht => hoursOf_ok ya yb w by2.1 ht
  rw [hourV_dir dy, hourE_dir dy] at TT
  have go : ∀ (e0 e1 e2 y0 y1 y2 y3 y4 y5 y6 y7 y8 : Int), 0 ≤ q0 → q0 < 3 → e0 = (if q0 = 0 then 0 else if q0 = 1 then 1 else 2) → 0 ≤ q1 → q1 < 3 → e1 = (if q1 = 0 then 0 else if q1 = 1 then 1 else 2) → 0 ≤ q2 → q2 < 3 → e2 = (if q2 = 0 then 0 else if q2 = 1 then 1 else 2) → K28 l0 l1 l2 l3 l4 l5 l6 l7 l8 q0 q1 q2 y0 y1 y2 y3 y4 y5 y6 y7 y8 → K28 l0 l1 l2 l3 l4 l5 l6 l7 l8 e0 e1 e2 y0 y1 y2 y3 y4 y5 y6 y7 y8 → K6 k n s r 0 1 2 q0 q1 q2 w := fun e0 e1 e2 y0 y1 y2 y3 y4 y5 y6 y7 y8 b0 d0 g0 b1 d1 g1 b2 d2 g2 KB KC =>
    renamed_even k n s r 0 1 2 q0 q1 q2 e0 e1 e2 l0 l1 l2 l3 l4 l5 l6 l7 l8 l0 l1 l2 l3 l4 l5 l6 l7 l8 y0 y1 y2 y3 y4 y5 y6 y7 y8 l3 l4 l5 l6 l7 l8 l0 l1 l2 1 ua va N ub vb ya yb tt uu 1 1 4 (uu - 4) w ht hr (by decide) (by decide) (by decide) (by decide) (by decide) (wrap_in rfl (by omega) (by omega)) b0 d0 g0 b1 d1 g1 b2 d2 g2 (Lib.hid E) (Lib.hid P) (Lib.hid Q) (Lib.hid KL) KA KB KC (Lib.hid S) (Lib.hid F) (Lib.hid NN) (Lib.hid G) (Lib.hid H) KO (Lib.hid Y) (Lib.hid TT) (Lib.hid U) (Lib.hid (fun w => hourW uu w u0 u1)) (Lib.hid M)
  have hc : (q0 = 0 ∧ q1 = 1 ∧ q2 = 2) ∨ (q0 = 0 ∧ q1 = 2 ∧ q2 = 1) ∨ (q0 = 1 ∧ q1 = 0 ∧ q2 = 2) ∨ (q0 = 1 ∧ q1 = 2 ∧ q2 = 0) ∨ (q0 = 2 ∧ q1 = 0 ∧ q2 = 1) ∨ (q0 = 2 ∧ q1 = 1 ∧ q2 = 0) := by
    have := (permB_iff q0 q1 q2).1 hq
    omega
  rcases hc with ⟨rfl, rfl, rfl⟩ | ⟨rfl, rfl, rfl⟩ | ⟨rfl, rfl, rfl⟩ | ⟨rfl, rfl, rfl⟩ | ⟨rfl, rfl, rfl⟩ | ⟨rfl, rfl, rfl⟩
  · exact go 0 1 2 _ _ _ _ _ _ _ _ _ (by decide) (by decide) (by decide) (by decide) (by decide) (by decide) (by decide) (by decide) (by decide) (pair_00 l0 l1 l2 l3 l4 l5 l6 l7 l8 h0 h1 h2 h3 h4 h5 h6 h7 h8).1 (pair_00 l0 l1 l2 l3 l4 l5 l6 l7 l8 h0 h1 h2 h3 h4 h5 h6 h7 h8).2
  · exact go 0 2 1 _ _ _ _ _ _ _ _ _ (by decide) (by decide) (by decide) (by decide) (by decide) (by decide) (by decide) (by decide) (by decide) (pair_01 l0 l1 l2 l3 l4 l5 l6 l7 l8 h0 h1 h2 h3 h4 h5 h6 h7 h8).1 (pair_01 l0 l1 l2 l3 l4 l5 l6 l7 l8 h0 h1 h2 h3 h4 h5 h6 h7 h8).2
  · exact go 1 0 2 _ _ _ _ _ _ _ _ _ (by decide) (by decide) (by decide) (by decide) (by decide) (by decide) (by decide) (by decide) (by decide) (pair_02 l0 l1 l2 l3 l4 l5 l6 l7 l8 h0 h1 h2 h3 h4 h5 h6 h7 h8).1 (pair_02 l0 l1 l2 l3 l4 l5 l6 l7 l8 h0 h1 h2 h3 h4 h5 h6 h7 h8).2
  · exact go 1 2 0 _ _ _ _ _ _ _ _ _ (by decide) (by decide) (by decide) (by decide) (by decide) (by decide) (by decide) (by decide) (by decide) (pair_03 l0 l1 l2 l3 l4 l5 l6 l7 l8 h0 h1 h2 h3 h4 h5 h6 h7 h8).1 (pair_03 l0 l1 l2 l3 l4 l5 l6 l7 l8 h0 h1 h2 h3 h4 h5 h6 h7 h8).2
  · exact go 2 0 1 _ _ _ _ _ _ _ _ _ (by decide) (by decide) (by decide) (by decide) (by decide) (by decide) (by decide) (by decide) (by decide) (pair_04 l0 l1 l2 l3 l4 l5 l6 l7 l8 h0 h1 h2 h3 h4 h5 h6 h7 h8).1 (pair_04 l0 l1 l2 l3 l4 l5 l6 l7 l8 h0 h1 h2 h3 h4 h5 h6 h7 h8).2
  · exact go 2 1 0 _ _ _ _ _ _ _ _ _ (by decide) (by decide) (by decide) (by decide) (by decide) (by decide) (by decide) (by decide) (by decide) (pair_05 l0 l1 l2 l3 l4 l5 l6 l7 l8 h0 h1 h2 h3 h4 h5 h6 h7 h8).1 (pair_05 l0 l1 l2 l3 l4 l5 l6 l7 l8 h0 h1 h2 h3 h4 h5 h6 h7 h8).2
set_option maxRecDepth 100000 in
set_option maxHeartbeats 4000000 in
theorem ren_1 (k n s : Int) (r : Bool) (q0 q1 q2 l0 l1 l2 l3 l4 l5 l6 l7 l8 ua va N ub vb ya yb tt uu : Int) (w : World) (ht : Tabs w) (hr : w.rangeAt 0 0 permL) (h0 : Lim l0) (h1 : Lim l1) (h2 : Lim l2) (h3 : Lim l3) (h4 : Lim l4) (h5 : Lim l5) (h6 : Lim l6) (h7 : Lim l7) (h8 : Lim l8) (hq : permB q0 q1 q2 = true) (E : K19 k n s r) (KL : K22 k n s r l0 l1 l2 l3 l4 l5 l6 l7 l8)
    (z0 : ¬ (((-l6) - (-l7)) = 0 ∧ ((-l8) - (-l7)) = 0)) (z1 : ((-l3) - (-l4)) = -((-l8) - (-l7))) (z2 : ((-l5) - (-l4)) = ((-l6) - (-l7)) - ((-l8) - (-l7))) (z3 : ((-l0) - (-l1)) = -((-l5) - (-l4))) (z4 : ((-l2) - (-l1)) = ((-l3) - (-l4)) - ((-l5) - (-l4)))
    (f0 : ((-l6) - (-l7)) = ua) (f1 : ((-l8) - (-l7)) = va) (g0 : l0 - l1 = ub) (g1 : l2 - l1 = vb) (y0' : (-l3) - (-l4) = ya) (y1' : (-l5) - (-l4) = yb) (sa : sqV ua va = N) (sb : sqV ub vb = N) (du : Dir ua va uu) (dy : Dir ya yb tt) (ut : (uu - (-4)) % 12 = tt) : K6 k n s r 0 2 1 q0 q1 q2 w := by
  have hd := dir_bd du
  have u0 := hd.1
  have u1 := hd.2.1
  have Q := fun w => isPermutation_any q0 q1 q2 w
  rw [hq] at Q
  have P : ∀ w, Calls Tryd.prog 33 #[.agg #[.int .i64 0, .int .i64 2, .int .i64 1]] w fun e w' => e = .returned (.bool true) ∧ Below w.heap.size w w' := fun w => isPermutation_any 0 2 1 w
  have M : ∀ w, Calls Tryd.prog 36 #[.int .i64 (uu - (-4)), .int .i64 12] w fun e w' => e = .returned (.int .i64 tt) ∧ w = w' := fun w => by rw [← ut]; exact rmod_any (uu - (-4)) 12 w (by decide) (by decide)
  have KA := k28_1 l0 l1 l2 l3 l4 l5 l6 l7 l8 h0 h1 h2 h3 h4 h5 h6 h7 h8
  have KO := k28_3 (-l6) (-l7) (-l8) (-l3) (-l4) (-l5) (-l0) (-l1) (-l2) h6.neg h7.neg h8.neg h3.neg h4.neg h5.neg h0.neg h1.neg h2.neg
  have S := fun w ht => sequenceOf_neg (-l6) (-l7) (-l8) (-l3) (-l4) (-l5) (-l0) (-l1) (-l2) w ⟨⟨h6.neg, h7.neg, h8.neg⟩, ⟨h3.neg, h4.neg, h5.neg⟩, ⟨h0.neg, h1.neg, h2.neg⟩⟩ ht z0 z1 z2 z3 z4
  have F := fun w ht => phasorOf_all (-l6) (-l7) (-l8) (-l3) (-l4) (-l5) (-l0) (-l1) (-l2) w ⟨⟨h6.neg, h7.neg, h8.neg⟩, ⟨h3.neg, h4.neg, h5.neg⟩, ⟨h0.neg, h1.neg, h2.neg⟩⟩ ht
  rw [f0, f1] at F
  have Y := fun w ht => phasorOf_all (-l3) (-l4) (-l5) (-l0) (-l1) (-l2) (-l6) (-l7) (-l8) w ⟨⟨h3.neg, h4.neg, h5.neg⟩, ⟨h0.neg, h1.neg, h2.neg⟩, ⟨h6.neg, h7.neg, h8.neg⟩⟩ ht
  rw [y0', y1'] at Y
  have G := fun w => rphasor_any l0 l1 l2 w h0 h1 h2
  rw [g0, g1] at G
  have ba := lim2 h6.neg h7.neg h8.neg
  have by2 := lim2 h3.neg h4.neg h5.neg
  have bb := lim2 h0 h1 h2
  rw [f0, f1] at ba
  rw [y0', y1'] at by2
  rw [g0, g1] at bb
  have NN := fun w => squareOf_ok ua va w ba.1
  rw [sa] at NN
  have H := fun w => rsquare_any ub vb w bb.2.1 bb.2.2.1 bb.2.2.2.1 bb.2.2.2.2
  rw [sb] at H
  have U := fun w ht => hoursOf_ok ua va w ba.1 ht
  rw [hourV_dir du, hourE_dir du] at U
  have TT := fun w ht => hoursOf_ok ya yb w by2.1 ht
  rw [hourV_dir dy, hourE_dir dy] at TT
  have go : ∀ (e0 e1 e2 y0 y1 y2 y3 y4 y5 y6 y7 y8 : Int), 0 ≤ q0 → q0 < 3 → e0 = (if q0 = 0 then 0 else if q0 = 1 then 2 else 1) → 0 ≤ q1 → q1 < 3 → e1 = (if q1 = 0 then 0 else if q1 = 1 then 2 else 1) → 0 ≤ q2 → q2 < 3 → e2 = (if q2 = 0 then 0 else if q2 = 1 then 2 else 1) → K28 (-l6) (-l7) (-l8) (-l3) (-l4) (-l5) (-l0) (-l1) (-l2) q0 q1 q2 y0 y1 y2 y3 y4 y5 y6 y7 y8 → K28 l0 l1 l2 l3 l4 l5 l6 l7 l8 e0 e1 e2 y0 y1 y2 y3 y4 y5 y6 y7 y8 → K6 k n s r 0 2 1 q0 q1 q2 w := fun e0 e1 e2 y0 y1 y2 y3 y4 y5 y6 y7 y8 b0 d0 g0 b1 d1 g1 b2 d2 g2 KB KC =>
    renamed_odd k n s r 0 2 1 q0 q1 q2 e0 e1 e2 l0 l1 l2 l3 l4 l5 l6 l7 l8 (-l6) (-l7) (-l8) (-l3) (-l4) (-l5) (-l0) (-l1) (-l2) y0 y1 y2 y3 y4 y5 y6 y7 y8 (-l3) (-l4) (-l5) (-l0) (-l1) (-l2) (-l6) (-l7) (-l8) (-1) ua va N ub vb ya yb tt uu 1 1 (-4) (uu - (-4)) w ht hr (by decide) (by decide) (by decide) (by decide) (by decide) (wrap_in rfl (by omega) (by omega)) (by decide) b0 d0 g0 b1 d1 g1 b2 d2 g2 (Lib.hid E) (Lib.hid P) (Lib.hid Q) (Lib.hid KL) KA KB KC (Lib.hid S) (Lib.hid F) (Lib.hid NN) (Lib.hid G) (Lib.hid H) KO (Lib.hid Y) (Lib.hid TT) (Lib.hid U) (Lib.hid (fun w => hourW uu w u0 u1)) (Lib.hid M)
  have hc : (q0 = 0 ∧ q1 = 1 ∧ q2 = 2) ∨ (q0 = 0 ∧ q1 = 2 ∧ q2 = 1) ∨ (q0 = 1 ∧ q1 = 0 ∧ q2 = 2) ∨ (q0 = 1 ∧ q1 = 2 ∧ q2 = 0) ∨ (q0 = 2 ∧ q1 = 0 ∧ q2 = 1) ∨ (q0 = 2 ∧ q1 = 1 ∧ q2 = 0) := by
    have := (permB_iff q0 q1 q2).1 hq
    omega
  rcases hc with ⟨rfl, rfl, rfl⟩ | ⟨rfl, rfl, rfl⟩ | ⟨rfl, rfl, rfl⟩ | ⟨rfl, rfl, rfl⟩ | ⟨rfl, rfl, rfl⟩ | ⟨rfl, rfl, rfl⟩
  · exact go 0 2 1 _ _ _ _ _ _ _ _ _ (by decide) (by decide) (by decide) (by decide) (by decide) (by decide) (by decide) (by decide) (by decide) (pair_10 l0 l1 l2 l3 l4 l5 l6 l7 l8 h0 h1 h2 h3 h4 h5 h6 h7 h8).1 (pair_10 l0 l1 l2 l3 l4 l5 l6 l7 l8 h0 h1 h2 h3 h4 h5 h6 h7 h8).2
  · exact go 0 1 2 _ _ _ _ _ _ _ _ _ (by decide) (by decide) (by decide) (by decide) (by decide) (by decide) (by decide) (by decide) (by decide) (pair_11 l0 l1 l2 l3 l4 l5 l6 l7 l8 h0 h1 h2 h3 h4 h5 h6 h7 h8).1 (pair_11 l0 l1 l2 l3 l4 l5 l6 l7 l8 h0 h1 h2 h3 h4 h5 h6 h7 h8).2
  · exact go 2 0 1 _ _ _ _ _ _ _ _ _ (by decide) (by decide) (by decide) (by decide) (by decide) (by decide) (by decide) (by decide) (by decide) (pair_12 l0 l1 l2 l3 l4 l5 l6 l7 l8 h0 h1 h2 h3 h4 h5 h6 h7 h8).1 (pair_12 l0 l1 l2 l3 l4 l5 l6 l7 l8 h0 h1 h2 h3 h4 h5 h6 h7 h8).2
  · exact go 2 1 0 _ _ _ _ _ _ _ _ _ (by decide) (by decide) (by decide) (by decide) (by decide) (by decide) (by decide) (by decide) (by decide) (pair_13 l0 l1 l2 l3 l4 l5 l6 l7 l8 h0 h1 h2 h3 h4 h5 h6 h7 h8).1 (pair_13 l0 l1 l2 l3 l4 l5 l6 l7 l8 h0 h1 h2 h3 h4 h5 h6 h7 h8).2
  · exact go 1 0 2 _ _ _ _ _ _ _ _ _ (by decide) (by decide) (by decide) (by decide) (by decide) (by decide) (by decide) (by decide) (by decide) (pair_14 l0 l1 l2 l3 l4 l5 l6 l7 l8 h0 h1 h2 h3 h4 h5 h6 h7 h8).1 (pair_14 l0 l1 l2 l3 l4 l5 l6 l7 l8 h0 h1 h2 h3 h4 h5 h6 h7 h8).2
  · exact go 1 2 0 _ _ _ _ _ _ _ _ _ (by decide) (by decide) (by decide) (by decide) (by decide) (by decide) (by decide) (by decide) (by decide) (pair_15 l0 l1 l2 l3 l4 l5 l6 l7 l8 h0 h1 h2 h3 h4 h5 h6 h7 h8).1 (pair_15 l0 l1 l2 l3 l4 l5 l6 l7 l8 h0 h1 h2 h3 h4 h5 h6 h7 h8).2
set_option maxRecDepth 100000 in
set_option maxHeartbeats 4000000 in
theorem ren_2 (k n s : Int) (r : Bool) (q0 q1 q2 l0 l1 l2 l3 l4 l5 l6 l7 l8 ua va N ub vb ya yb tt uu : Int) (w : World) (ht : Tabs w) (hr : w.rangeAt 0 0 permL) (h0 : Lim l0) (h1 : Lim l1) (h2 : Lim l2) (h3 : Lim l3) (h4 : Lim l4) (h5 : Lim l5) (h6 : Lim l6) (h7 : Lim l7) (h8 : Lim l8) (hq : permB q0 q1 q2 = true) (E : K19 k n s r) (KL : K22 k n s r l0 l1 l2 l3 l4 l5 l6 l7 l8)
    (z0 : ¬ (((-l0) - (-l1)) = 0 ∧ ((-l2) - (-l1)) = 0)) (z1 : ((-l6) - (-l7)) = -((-l2) - (-l1))) (z2 : ((-l8) - (-l7)) = ((-l0) - (-l1)) - ((-l2) - (-l1))) (z3 : ((-l3) - (-l4)) = -((-l8) - (-l7))) (z4 : ((-l5) - (-l4)) = ((-l6) - (-l7)) - ((-l8) - (-l7)))
    (f0 : ((-l0) - (-l1)) = ua) (f1 : ((-l2) - (-l1)) = va) (g0 : l0 - l1 = ub) (g1 : l2 - l1 = vb) (y0' : (-l6) - (-l7) = ya) (y1' : (-l8) - (-l7) = yb) (sa : sqV ua va = N) (sb : sqV ub vb = N) (du : Dir ua va uu) (dy : Dir ya yb tt) (ut : (uu - (-4)) % 12 = tt) : K6 k n s r 1 0 2 q0 q1 q2 w := by
  have hd := dir_bd du
  have u0 := hd.1
  have u1 := hd.2.1
  have Q := fun w => isPermutation_any q0 q1 q2 w
  rw [hq] at Q
  have P : ∀ w, Calls Tryd.prog 33 #[.agg #[.int .i64 1, .int .i64 0, .int .i64 2]] w fun e w' => e = .returned (.bool true) ∧ Below w.heap.size w w' := fun w => isPermutation_any 1 0 2 w
  have M : ∀ w, Calls Tryd.prog 36 #[.int .i64 (uu - (-4)), .int .i64 12] w fun e w' => e = .returned (.int .i64 tt) ∧ w = w' := fun w => by rw [← ut]; exact rmod_any (uu - (-4)) 12 w (by decide) (by decide)
  have KA := k28_2 l0 l1 l2 l3 l4 l5 l6 l7 l8 h0 h1 h2 h3 h4 h5 h6 h7 h8
  have KO := k28_3 (-l0) (-l1) (-l2) (-l6) (-l7) (-l8) (-l3) (-l4) (-l5) h0.neg h1.neg h2.neg h6.neg h7.neg h8.neg h3.neg h4.neg h5.neg
  have S := fun w ht => sequenceOf_neg (-l0) (-l1) (-l2) (-l6) (-l7) (-l8) (-l3) (-l4) (-l5) w ⟨⟨h0.neg, h1.neg, h2.neg⟩, ⟨h6.neg, h7.neg, h8.neg⟩, ⟨h3.neg, h4.neg, h5.neg⟩⟩ ht z0 z1 z2 z3 z4
  have F := fun w ht => phasorOf_all (-l0) (-l1) (-l2) (-l6) (-l7) (-l8) (-l3) (-l4) (-l5) w ⟨⟨h0.neg, h1.neg, h2.neg⟩, ⟨h6.neg, h7.neg, h8.neg⟩, ⟨h3.neg, h4.neg, h5.neg⟩⟩ ht
  rw [f0, f1] at F
  have Y := fun w ht => phasorOf_all (-l6) (-l7) (-l8) (-l3) (-l4) (-l5) (-l0) (-l1) (-l2) w ⟨⟨h6.neg, h7.neg, h8.neg⟩, ⟨h3.neg, h4.neg, h5.neg⟩, ⟨h0.neg, h1.neg, h2.neg⟩⟩ ht
  rw [y0', y1'] at Y
  have G := fun w => rphasor_any l0 l1 l2 w h0 h1 h2
  rw [g0, g1] at G
  have ba := lim2 h0.neg h1.neg h2.neg
  have by2 := lim2 h6.neg h7.neg h8.neg
  have bb := lim2 h0 h1 h2
  rw [f0, f1] at ba
  rw [y0', y1'] at by2
  rw [g0, g1] at bb
  have NN := fun w => squareOf_ok ua va w ba.1
  rw [sa] at NN
  have H := fun w => rsquare_any ub vb w bb.2.1 bb.2.2.1 bb.2.2.2.1 bb.2.2.2.2
  rw [sb] at H
  have U := fun w ht => hoursOf_ok ua va w ba.1 ht
  rw [hourV_dir du, hourE_dir du] at U
  have TT := fun w ht => hoursOf_ok ya yb w by2.1 ht
  rw [hourV_dir dy, hourE_dir dy] at TT
  have go : ∀ (e0 e1 e2 y0 y1 y2 y3 y4 y5 y6 y7 y8 : Int), 0 ≤ q0 → q0 < 3 → e0 = (if q0 = 0 then 1 else if q0 = 1 then 0 else 2) → 0 ≤ q1 → q1 < 3 → e1 = (if q1 = 0 then 1 else if q1 = 1 then 0 else 2) → 0 ≤ q2 → q2 < 3 → e2 = (if q2 = 0 then 1 else if q2 = 1 then 0 else 2) → K28 (-l0) (-l1) (-l2) (-l6) (-l7) (-l8) (-l3) (-l4) (-l5) q0 q1 q2 y0 y1 y2 y3 y4 y5 y6 y7 y8 → K28 l0 l1 l2 l3 l4 l5 l6 l7 l8 e0 e1 e2 y0 y1 y2 y3 y4 y5 y6 y7 y8 → K6 k n s r 1 0 2 q0 q1 q2 w := fun e0 e1 e2 y0 y1 y2 y3 y4 y5 y6 y7 y8 b0 d0 g0 b1 d1 g1 b2 d2 g2 KB KC =>
    renamed_odd k n s r 1 0 2 q0 q1 q2 e0 e1 e2 l0 l1 l2 l3 l4 l5 l6 l7 l8 (-l0) (-l1) (-l2) (-l6) (-l7) (-l8) (-l3) (-l4) (-l5) y0 y1 y2 y3 y4 y5 y6 y7 y8 (-l6) (-l7) (-l8) (-l3) (-l4) (-l5) (-l0) (-l1) (-l2) (-1) ua va N ub vb ya yb tt uu 2 2 (-4) (uu - (-4)) w ht hr (by decide) (by decide) (by decide) (by decide) (by decide) (wrap_in rfl (by omega) (by omega)) (by decide) b0 d0 g0 b1 d1 g1 b2 d2 g2 (Lib.hid E) (Lib.hid P) (Lib.hid Q) (Lib.hid KL) KA KB KC (Lib.hid S) (Lib.hid F) (Lib.hid NN) (Lib.hid G) (Lib.hid H) KO (Lib.hid Y) (Lib.hid TT) (Lib.hid U) (Lib.hid (fun w => hourW uu w u0 u1)) (Lib.hid M)
  have hc : (q0 = 0 ∧ q1 = 1 ∧ q2 = 2) ∨ (q0 = 0 ∧ q1 = 2 ∧ q2 = 1) ∨ (q0 = 1 ∧ q1 = 0 ∧ q2 = 2) ∨ (q0 = 1 ∧ q1 = 2 ∧ q2 = 0) ∨ (q0 = 2 ∧ q1 = 0 ∧ q2 = 1) ∨ (q0 = 2 ∧ q1 = 1 ∧ q2 = 0) := by
    have := (permB_iff q0 q1 q2).1 hq
    omega
  rcases hc with ⟨rfl, rfl, rfl⟩ | ⟨rfl, rfl, rfl⟩ | ⟨rfl, rfl, rfl⟩ | ⟨rfl, rfl, rfl⟩ | ⟨rfl, rfl, rfl⟩ | ⟨rfl, rfl, rfl⟩
  · exact go 1 0 2 _ _ _ _ _ _ _ _ _ (by decide) (by decide) (by decide) (by decide) (by decide) (by decide) (by decide) (by decide) (by decide) (pair_20 l0 l1 l2 l3 l4 l5 l6 l7 l8 h0 h1 h2 h3 h4 h5 h6 h7 h8).1 (pair_20 l0 l1 l2 l3 l4 l5 l6 l7 l8 h0 h1 h2 h3 h4 h5 h6 h7 h8).2
  · exact go 1 2 0 _ _ _ _ _ _ _ _ _ (by decide) (by decide) (by decide) (by decide) (by decide) (by decide) (by decide) (by decide) (by decide) (pair_21 l0 l1 l2 l3 l4 l5 l6 l7 l8 h0 h1 h2 h3 h4 h5 h6 h7 h8).1 (pair_21 l0 l1 l2 l3 l4 l5 l6 l7 l8 h0 h1 h2 h3 h4 h5 h6 h7 h8).2
  · exact go 0 1 2 _ _ _ _ _ _ _ _ _ (by decide) (by decide) (by decide) (by decide) (by decide) (by decide) (by decide) (by decide) (by decide) (pair_22 l0 l1 l2 l3 l4 l5 l6 l7 l8 h0 h1 h2 h3 h4 h5 h6 h7 h8).1 (pair_22 l0 l1 l2 l3 l4 l5 l6 l7 l8 h0 h1 h2 h3 h4 h5 h6 h7 h8).2
  · exact go 0 2 1 _ _ _ _ _ _ _ _ _ (by decide) (by decide) (by decide) (by decide) (by decide) (by decide) (by decide) (by decide) (by decide) (pair_23 l0 l1 l2 l3 l4 l5 l6 l7 l8 h0 h1 h2 h3 h4 h5 h6 h7 h8).1 (pair_23 l0 l1 l2 l3 l4 l5 l6 l7 l8 h0 h1 h2 h3 h4 h5 h6 h7 h8).2
  · exact go 2 1 0 _ _ _ _ _ _ _ _ _ (by decide) (by decide) (by decide) (by decide) (by decide) (by decide) (by decide) (by decide) (by decide) (pair_24 l0 l1 l2 l3 l4 l5 l6 l7 l8 h0 h1 h2 h3 h4 h5 h6 h7 h8).1 (pair_24 l0 l1 l2 l3 l4 l5 l6 l7 l8 h0 h1 h2 h3 h4 h5 h6 h7 h8).2
  · exact go 2 0 1 _ _ _ _ _ _ _ _ _ (by decide) (by decide) (by decide) (by decide) (by decide) (by decide) (by decide) (by decide) (by decide) (pair_25 l0 l1 l2 l3 l4 l5 l6 l7 l8 h0 h1 h2 h3 h4 h5 h6 h7 h8).1 (pair_25 l0 l1 l2 l3 l4 l5 l6 l7 l8 h0 h1 h2 h3 h4 h5 h6 h7 h8).2
set_option maxRecDepth 100000 in
set_option maxHeartbeats 4000000 in
theorem ren_3 (k n s : Int) (r : Bool) (q0 q1 q2 l0 l1 l2 l3 l4 l5 l6 l7 l8 ua va N ub vb ya yb tt uu : Int) (w : World) (ht : Tabs w) (hr : w.rangeAt 0 0 permL) (h0 : Lim l0) (h1 : Lim l1) (h2 : Lim l2) (h3 : Lim l3) (h4 : Lim l4) (h5 : Lim l5) (h6 : Lim l6) (h7 : Lim l7) (h8 : Lim l8) (hq : permB q0 q1 q2 = true) (E : K19 k n s r) (KL : K22 k n s r l0 l1 l2 l3 l4 l5 l6 l7 l8)
    (z0 : ¬ ((l3 - l4) = 0 ∧ (l5 - l4) = 0)) (z1 : (l6 - l7) = -(l3 - l4) + (l5 - l4)) (z2 : (l8 - l7) = -(l3 - l4)) (z3 : (l0 - l1) = -(l6 - l7) + (l8 - l7)) (z4 : (l2 - l1) = -(l6 - l7))
    (f0 : (l3 - l4) = ua) (f1 : (l5 - l4) = va) (g0 : l0 - l1 = ub) (g1 : l2 - l1 = vb) (y0' : l6 - l7 = ya) (y1' : l8 - l7 = yb) (sa : sqV ua va = N) (sb : sqV ub vb = N) (du : Dir ua va uu) (dy : Dir ya yb tt) (ut : (uu - 4) % 12 = tt) : K6 k n s r 1 2 0 q0 q1 q2 w := by
  have hd := dir_bd du
  have u0 := hd.1
  have u1 := hd.2.1
  have Q := fun w => isPermutation_any q0 q1 q2 w
  rw [hq] at Q
  have P : ∀ w, Calls Tryd.prog 33 #[.agg #[.int .i64 1, .int .i64 2, .int .i64 0]] w fun e w' => e = .returned (.bool true) ∧ Below w.heap.size w w' := fun w => isPermutation_any 1 2 0 w
  have M : ∀ w, Calls Tryd.prog 36 #[.int .i64 (uu - 4), .int .i64 12] w fun e w' => e = .returned (.int .i64 tt) ∧ w = w' := fun w => by rw [← ut]; exact rmod_any (uu - 4) 12 w (by decide) (by decide)
  have KA := k28_3 l0 l1 l2 l3 l4 l5 l6 l7 l8 h0 h1 h2 h3 h4 h5 h6 h7 h8
  have KO := k28_3 l3 l4 l5 l6 l7 l8 l0 l1 l2 h3 h4 h5 h6 h7 h8 h0 h1 h2
  have S := fun w ht => sequenceOf_pos l3 l4 l5 l6 l7 l8 l0 l1 l2 w ⟨⟨h3, h4, h5⟩, ⟨h6, h7, h8⟩, ⟨h0, h1, h2⟩⟩ ht z0 z1 z2 z3 z4
  have F := fun w ht => phasorOf_all l3 l4 l5 l6 l7 l8 l0 l1 l2 w ⟨⟨h3, h4, h5⟩, ⟨h6, h7, h8⟩, ⟨h0, h1, h2⟩⟩ ht
  rw [f0, f1] at F
  have Y := fun w ht => phasorOf_all l6 l7 l8 l0 l1 l2 l3 l4 l5 w ⟨⟨h6, h7, h8⟩, ⟨h0, h1, h2⟩, ⟨h3, h4, h5⟩⟩ ht
  rw [y0', y1'] at Y
  have G := fun w => rphasor_any l0 l1 l2 w h0 h1 h2
  rw [g0, g1] at G
  have ba := lim2 h3 h4 h5
  have by2 := lim2 h6 h7 h8
  have bb := lim2 h0 h1 h2
  rw [f0, f1] at ba
  rw [y0', y1'] at by2
  rw [g0, g1] at bb
  have NN := fun w => squareOf_ok ua va w ba.1
  rw [sa] at NN
  have H := fun w => rsquare_any ub vb w bb.2.1 bb.2.2.1 bb.2.2.2.1 bb.2.2.2.2
  rw [sb] at H
  have U := fun w ht => hoursOf_ok ua va w ba.1 ht
  rw [hourV_dir du, hourE_dir du] at U
  have TT := fun w ht => hoursOf_ok ya yb w by2.1 ht
  rw [hourV_dir dy, hourE_dir dy] at TT
  have go : ∀ (e0 e1 e2 y0 y1 y2 y3 y4 y5 y6 y7 y8 : Int), 0 ≤ q0 → q0 < 3 → e0 = (if q0 = 0 then 1 else if q0 = 1 then 2 else 0) → 0 ≤ q1 → q1 < 3 → e1 = (if q1 = 0 then 1 else if q1 = 1 then 2 else 0) → 0 ≤ q2 → q2 < 3 → e2 = (if q2 = 0 then 1 else if q2 = 1 then 2 else 0) → K28 l3 l4 l5 l6 l7 l8 l0 l1 l2 q0 q1 q2 y0 y1 y2 y3 y4 y5 y6 y7 y8 → K28 l0 l1 l2 l3 l4 l5 l6 l7 l8 e0 e1 e2 y0 y1 y2 y3 y4 y5 y6 y7 y8 → K6 k n s r 1 2 0 q0 q1 q2 w := fun e0 e1 e2 y0 y1 y2 y3 y4 y5 y6 y7 y8 b0 d0 g0 b1 d1 g1 b2 d2 g2 KB KC =>
    renamed_even k n s r 1 2 0 q0 q1 q2 e0 e1 e2 l0 l1 l2 l3 l4 l5 l6 l7 l8 l3 l4 l5 l6 l7 l8 l0 l1 l2 y0 y1 y2 y3 y4 y5 y6 y7 y8 l6 l7 l8 l0 l1 l2 l3 l4 l5 1 ua va N ub vb ya yb tt uu 2 2 4 (uu - 4) w ht hr (by decide) (by decide) (by decide) (by decide) (by decide) (wrap_in rfl (by omega) (by omega)) b0 d0 g0 b1 d1 g1 b2 d2 g2 (Lib.hid E) (Lib.hid P) (Lib.hid Q) (Lib.hid KL) KA KB KC (Lib.hid S) (Lib.hid F) (Lib.hid NN) (Lib.hid G) (Lib.hid H) KO (Lib.hid Y) (Lib.hid TT) (Lib.hid U) (Lib.hid (fun w => hourW uu w u0 u1)) (Lib.hid M)
  have hc : (q0 = 0 ∧ q1 = 1 ∧ q2 = 2) ∨ (q0 = 0 ∧ q1 = 2 ∧ q2 = 1) ∨ (q0 = 1 ∧ q1 = 0 ∧ q2 = 2) ∨ (q0 = 1 ∧ q1 = 2 ∧ q2 = 0) ∨ (q0 = 2 ∧ q1 = 0 ∧ q2 = 1) ∨ (q0 = 2 ∧ q1 = 1 ∧ q2 = 0) := by
    have := (permB_iff q0 q1 q2).1 hq
    omega
  rcases hc with ⟨rfl, rfl, rfl⟩ | ⟨rfl, rfl, rfl⟩ | ⟨rfl, rfl, rfl⟩ | ⟨rfl, rfl, rfl⟩ | ⟨rfl, rfl, rfl⟩ | ⟨rfl, rfl, rfl⟩
  · exact go 1 2 0 _ _ _ _ _ _ _ _ _ (by decide) (by decide) (by decide) (by decide) (by decide) (by decide) (by decide) (by decide) (by decide) (pair_30 l0 l1 l2 l3 l4 l5 l6 l7 l8 h0 h1 h2 h3 h4 h5 h6 h7 h8).1 (pair_30 l0 l1 l2 l3 l4 l5 l6 l7 l8 h0 h1 h2 h3 h4 h5 h6 h7 h8).2
  · exact go 1 0 2 _ _ _ _ _ _ _ _ _ (by decide) (by decide) (by decide) (by decide) (by decide) (by decide) (by decide) (by decide) (by decide) (pair_31 l0 l1 l2 l3 l4 l5 l6 l7 l8 h0 h1 h2 h3 h4 h5 h6 h7 h8).1 (pair_31 l0 l1 l2 l3 l4 l5 l6 l7 l8 h0 h1 h2 h3 h4 h5 h6 h7 h8).2
  · exact go 2 1 0 _ _ _ _ _ _ _ _ _ (by decide) (by decide) (by decide) (by decide) (by decide) (by decide) (by decide) (by decide) (by decide) (pair_32 l0 l1 l2 l3 l4 l5 l6 l7 l8 h0 h1 h2 h3 h4 h5 h6 h7 h8).1 (pair_32 l0 l1 l2 l3 l4 l5 l6 l7 l8 h0 h1 h2 h3 h4 h5 h6 h7 h8).2
  · exact go 2 0 1 _ _ _ _ _ _ _ _ _ (by decide) (by decide) (by decide) (by decide) (by decide) (by decide) (by decide) (by decide) (by decide) (pair_33 l0 l1 l2 l3 l4 l5 l6 l7 l8 h0 h1 h2 h3 h4 h5 h6 h7 h8).1 (pair_33 l0 l1 l2 l3 l4 l5 l6 l7 l8 h0 h1 h2 h3 h4 h5 h6 h7 h8).2
  · exact go 0 1 2 _ _ _ _ _ _ _ _ _ (by decide) (by decide) (by decide) (by decide) (by decide) (by decide) (by decide) (by decide) (by decide) (pair_34 l0 l1 l2 l3 l4 l5 l6 l7 l8 h0 h1 h2 h3 h4 h5 h6 h7 h8).1 (pair_34 l0 l1 l2 l3 l4 l5 l6 l7 l8 h0 h1 h2 h3 h4 h5 h6 h7 h8).2
  · exact go 0 2 1 _ _ _ _ _ _ _ _ _ (by decide) (by decide) (by decide) (by decide) (by decide) (by decide) (by decide) (by decide) (by decide) (pair_35 l0 l1 l2 l3 l4 l5 l6 l7 l8 h0 h1 h2 h3 h4 h5 h6 h7 h8).1 (pair_35 l0 l1 l2 l3 l4 l5 l6 l7 l8 h0 h1 h2 h3 h4 h5 h6 h7 h8).2
set_option maxRecDepth 100000 in
set_option maxHeartbeats 4000000 in
theorem ren_4 (k n s : Int) (r : Bool) (q0 q1 q2 l0 l1 l2 l3 l4 l5 l6 l7 l8 ua va N ub vb ya yb tt uu : Int) (w : World) (ht : Tabs w) (hr : w.rangeAt 0 0 permL) (h0 : Lim l0) (h1 : Lim l1) (h2 : Lim l2) (h3 : Lim l3) (h4 : Lim l4) (h5 : Lim l5) (h6 : Lim l6) (h7 : Lim l7) (h8 : Lim l8) (hq : permB q0 q1 q2 = true) (E : K19 k n s r) (KL : K22 k n s r l0 l1 l2 l3 l4 l5 l6 l7 l8)
    (z0 : ¬ ((l6 - l7) = 0 ∧ (l8 - l7) = 0)) (z1 : (l0 - l1) = -(l6 - l7) + (l8 - l7)) (z2 : (l2 - l1) = -(l6 - l7)) (z3 : (l3 - l4) = -(l0 - l1) + (l2 - l1)) (z4 : (l5 - l4) = -(l0 - l1))
    (f0 : (l6 - l7) = ua) (f1 : (l8 - l7) = va) (g0 : l0 - l1 = ub) (g1 : l2 - l1 = vb) (y0' : l0 - l1 = ya) (y1' : l2 - l1 = yb) (sa : sqV ua va = N) (sb : sqV ub vb = N) (du : Dir ua va uu) (dy : Dir ya yb tt) (ut : (uu - 4) % 12 = tt) : K6 k n s r 2 0 1 q0 q1 q2 w := by
  have hd := dir_bd du
  have u0 := hd.1
  have u1 := hd.2.1
  have Q := fun w => isPermutation_any q0 q1 q2 w
  rw [hq] at Q
  have P : ∀ w, Calls Tryd.prog 33 #[.agg #[.int .i64 2, .int .i64 0, .int .i64 1]] w fun e w' => e = .returned (.bool true) ∧ Below w.heap.size w w' := fun w => isPermutation_any 2 0 1 w
  have M : ∀ w, Calls Tryd.prog 36 #[.int .i64 (uu - 4), .int .i64 12] w fun e w' => e = .returned (.int .i64 tt) ∧ w = w' := fun w => by rw [← ut]; exact rmod_any (uu - 4) 12 w (by decide) (by decide)
  have KA := k28_4 l0 l1 l2 l3 l4 l5 l6 l7 l8 h0 h1 h2 h3 h4 h5 h6 h7 h8
  have KO := k28_3 l6 l7 l8 l0 l1 l2 l3 l4 l5 h6 h7 h8 h0 h1 h2 h3 h4 h5
  have S := fun w ht => sequenceOf_pos l6 l7 l8 l0 l1 l2 l3 l4 l5 w ⟨⟨h6, h7, h8⟩, ⟨h0, h1, h2⟩, ⟨h3, h4, h5⟩⟩ ht z0 z1 z2 z3 z4
  have F := fun w ht => phasorOf_all l6 l7 l8 l0 l1 l2 l3 l4 l5 w ⟨⟨h6, h7, h8⟩, ⟨h0, h1, h2⟩, ⟨h3, h4, h5⟩⟩ ht
  rw [f0, f1] at F
  have Y := fun w ht => phasorOf_all l0 l1 l2 l3 l4 l5 l6 l7 l8 w ⟨⟨h0, h1, h2⟩, ⟨h3, h4, h5⟩, ⟨h6, h7, h8⟩⟩ ht
  rw [y0', y1'] at Y
  have G := fun w => rphasor_any l0 l1 l2 w h0 h1 h2
  rw [g0, g1] at G
  have ba := lim2 h6 h7 h8
  have by2 := lim2 h0 h1 h2
  have bb := lim2 h0 h1 h2
  rw [f0, f1] at ba
  rw [y0', y1'] at by2
  rw [g0, g1] at bb
  have NN := fun w => squareOf_ok ua va w ba.1
  rw [sa] at NN
  have H := fun w => rsquare_any ub vb w bb.2.1 bb.2.2.1 bb.2.2.2.1 bb.2.2.2.2
  rw [sb] at H
  have U := fun w ht => hoursOf_ok ua va w ba.1 ht
  rw [hourV_dir du, hourE_dir du] at U
  have TT := fun w ht => hoursOf_ok ya yb w by2.1 ht
  rw [hourV_dir dy, hourE_dir dy] at TT
  have go : ∀ (e0 e1 e2 y0 y1 y2 y3 y4 y5 y6 y7 y8 : Int), 0 ≤ q0 → q0 < 3 → e0 = (if q0 = 0 then 2 else if q0 = 1 then 0 else 1) → 0 ≤ q1 → q1 < 3 → e1 = (if q1 = 0 then 2 else if q1 = 1 then 0 else 1) → 0 ≤ q2 → q2 < 3 → e2 = (if q2 = 0 then 2 else if q2 = 1 then 0 else 1) → K28 l6 l7 l8 l0 l1 l2 l3 l4 l5 q0 q1 q2 y0 y1 y2 y3 y4 y5 y6 y7 y8 → K28 l0 l1 l2 l3 l4 l5 l6 l7 l8 e0 e1 e2 y0 y1 y2 y3 y4 y5 y6 y7 y8 → K6 k n s r 2 0 1 q0 q1 q2 w := fun e0 e1 e2 y0 y1 y2 y3 y4 y5 y6 y7 y8 b0 d0 g0 b1 d1 g1 b2 d2 g2 KB KC =>
    renamed_even k n s r 2 0 1 q0 q1 q2 e0 e1 e2 l0 l1 l2 l3 l4 l5 l6 l7 l8 l6 l7 l8 l0 l1 l2 l3 l4 l5 y0 y1 y2 y3 y4 y5 y6 y7 y8 l0 l1 l2 l3 l4 l5 l6 l7 l8 1 ua va N ub vb ya yb tt uu 3 0 4 (uu - 4) w ht hr (by decide) (by decide) (by decide) (by decide) (by decide) (wrap_in rfl (by omega) (by omega)) b0 d0 g0 b1 d1 g1 b2 d2 g2 (Lib.hid E) (Lib.hid P) (Lib.hid Q) (Lib.hid KL) KA KB KC (Lib.hid S) (Lib.hid F) (Lib.hid NN) (Lib.hid G) (Lib.hid H) KO (Lib.hid Y) (Lib.hid TT) (Lib.hid U) (Lib.hid (fun w => hourW uu w u0 u1)) (Lib.hid M)
  have hc : (q0 = 0 ∧ q1 = 1 ∧ q2 = 2) ∨ (q0 = 0 ∧ q1 = 2 ∧ q2 = 1) ∨ (q0 = 1 ∧ q1 = 0 ∧ q2 = 2) ∨ (q0 = 1 ∧ q1 = 2 ∧ q2 = 0) ∨ (q0 = 2 ∧ q1 = 0 ∧ q2 = 1) ∨ (q0 = 2 ∧ q1 = 1 ∧ q2 = 0) := by
    have := (permB_iff q0 q1 q2).1 hq
    omega
  rcases hc with ⟨rfl, rfl, rfl⟩ | ⟨rfl, rfl, rfl⟩ | ⟨rfl, rfl, rfl⟩ | ⟨rfl, rfl, rfl⟩ | ⟨rfl, rfl, rfl⟩ | ⟨rfl, rfl, rfl⟩
  · exact go 2 0 1 _ _ _ _ _ _ _ _ _ (by decide) (by decide) (by decide) (by decide) (by decide) (by decide) (by decide) (by decide) (by decide) (pair_40 l0 l1 l2 l3 l4 l5 l6 l7 l8 h0 h1 h2 h3 h4 h5 h6 h7 h8).1 (pair_40 l0 l1 l2 l3 l4 l5 l6 l7 l8 h0 h1 h2 h3 h4 h5 h6 h7 h8).2
  · exact go 2 1 0 _ _ _ _ _ _ _ _ _ (by decide) (by decide) (by decide) (by decide) (by decide) (by decide) (by decide) (by decide) (by decide) (pair_41 l0 l1 l2 l3 l4 l5 l6 l7 l8 h0 h1 h2 h3 h4 h5 h6 h7 h8).1 (pair_41 l0 l1 l2 l3 l4 l5 l6 l7 l8 h0 h1 h2 h3 h4 h5 h6 h7 h8).2
  · exact go 0 2 1 _ _ _ _ _ _ _ _ _ (by decide) (by decide) (by decide) (by decide) (by decide) (by decide) (by decide) (by decide) (by decide) (pair_42 l0 l1 l2 l3 l4 l5 l6 l7 l8 h0 h1 h2 h3 h4 h5 h6 h7 h8).1 (pair_42 l0 l1 l2 l3 l4 l5 l6 l7 l8 h0 h1 h2 h3 h4 h5 h6 h7 h8).2
  · exact go 0 1 2 _ _ _ _ _ _ _ _ _ (by decide) (by decide) (by decide) (by decide) (by decide) (by decide) (by decide) (by decide) (by decide) (pair_43 l0 l1 l2 l3 l4 l5 l6 l7 l8 h0 h1 h2 h3 h4 h5 h6 h7 h8).1 (pair_43 l0 l1 l2 l3 l4 l5 l6 l7 l8 h0 h1 h2 h3 h4 h5 h6 h7 h8).2
  · exact go 1 2 0 _ _ _ _ _ _ _ _ _ (by decide) (by decide) (by decide) (by decide) (by decide) (by decide) (by decide) (by decide) (by decide) (pair_44 l0 l1 l2 l3 l4 l5 l6 l7 l8 h0 h1 h2 h3 h4 h5 h6 h7 h8).1 (pair_44 l0 l1 l2 l3 l4 l5 l6 l7 l8 h0 h1 h2 h3 h4 h5 h6 h7 h8).2
  · exact go 1 0 2 _ _ _ _ _ _ _ _ _ (by decide) (by decide) (by decide) (by decide) (by decide) (by decide) (by decide) (by decide) (by decide) (pair_45 l0 l1 l2 l3 l4 l5 l6 l7 l8 h0 h1 h2 h3 h4 h5 h6 h7 h8).1 (pair_45 l0 l1 l2 l3 l4 l5 l6 l7 l8 h0 h1 h2 h3 h4 h5 h6 h7 h8).2
set_option maxRecDepth 100000 in
set_option maxHeartbeats 4000000 in
theorem ren_5 (k n s : Int) (r : Bool) (q0 q1 q2 l0 l1 l2 l3 l4 l5 l6 l7 l8 ua va N ub vb ya yb tt uu : Int) (w : World) (ht : Tabs w) (hr : w.rangeAt 0 0 permL) (h0 : Lim l0) (h1 : Lim l1) (h2 : Lim l2) (h3 : Lim l3) (h4 : Lim l4) (h5 : Lim l5) (h6 : Lim l6) (h7 : Lim l7) (h8 : Lim l8) (hq : permB q0 q1 q2 = true) (E : K19 k n s r) (KL : K22 k n s r l0 l1 l2 l3 l4 l5 l6 l7 l8)
    (z0 : ¬ (((-l3) - (-l4)) = 0 ∧ ((-l5) - (-l4)) = 0)) (z1 : ((-l0) - (-l1)) = -((-l5) - (-l4))) (z2 : ((-l2) - (-l1)) = ((-l3) - (-l4)) - ((-l5) - (-l4))) (z3 : ((-l6) - (-l7)) = -((-l2) - (-l1))) (z4 : ((-l8) - (-l7)) = ((-l0) - (-l1)) - ((-l2) - (-l1)))
    (f0 : ((-l3) - (-l4)) = ua) (f1 : ((-l5) - (-l4)) = va) (g0 : l0 - l1 = ub) (g1 : l2 - l1 = vb) (y0' : (-l0) - (-l1) = ya) (y1' : (-l2) - (-l1) = yb) (sa : sqV ua va = N) (sb : sqV ub vb = N) (du : Dir ua va uu) (dy : Dir ya yb tt) (ut : (uu - (-4)) % 12 = tt) : K6 k n s r 2 1 0 q0 q1 q2 w := by
  have hd := dir_bd du
  have u0 := hd.1
  have u1 := hd.2.1
  have Q := fun w => isPermutation_any q0 q1 q2 w
  rw [hq] at Q
  have P : ∀ w, Calls Tryd.prog 33 #[.agg #[.int .i64 2, .int .i64 1, .int .i64 0]] w fun e w' => e = .returned (.bool true) ∧ Below w.heap.size w w' := fun w => isPermutation_any 2 1 0 w
  have M : ∀ w, Calls Tryd.prog 36 #[.int .i64 (uu - (-4)), .int .i64 12] w fun e w' => e = .returned (.int .i64 tt) ∧ w = w' := fun w => by rw [← ut]; exact rmod_any (uu - (-4)) 12 w (by decide) (by decide)
  have KA := k28_5 l0 l1 l2 l3 l4 l5 l6 l7 l8 h0 h1 h2 h3 h4 h5 h6 h7 h8
  have KO := k28_3 (-l3) (-l4) (-l5) (-l0) (-l1) (-l2) (-l6) (-l7) (-l8) h3.neg h4.neg h5.neg h0.neg h1.neg h2.neg h6.neg h7.neg h8.neg
  have S := fun w ht => sequenceOf_neg (-l3) (-l4) (-l5) (-l0) (-l1) (-l2) (-l6) (-l7) (-l8) w ⟨⟨h3.neg, h4.neg, h5.neg⟩, ⟨h0.neg, h1.neg, h2.neg⟩, ⟨h6.neg, h7.neg, h8.neg⟩⟩ ht z0 z1 z2 z3 z4
  have F := fun w ht => phasorOf_all (-l3) (-l4) (-l5) (-l0) (-l1) (-l2) (-l6) (-l7) (-l8) w ⟨⟨h3.neg, h4.neg, h5.neg⟩, ⟨h0.neg, h1.neg, h2.neg⟩, ⟨h6.neg, h7.neg, h8.neg⟩⟩ ht
  rw [f0, f1] at F
  have Y := fun w ht => phasorOf_all (-l0) (-l1) (-l2) (-l6) (-l7) (-l8) (-l3) (-l4) (-l5) w ⟨⟨h0.neg, h1.neg, h2.neg⟩, ⟨h6.neg, h7.neg, h8.neg⟩, ⟨h3.neg, h4.neg, h5.neg⟩⟩ ht
  rw [y0', y1'] at Y
  have G := fun w => rphasor_any l0 l1 l2 w h0 h1 h2
  rw [g0, g1] at G
  have ba := lim2 h3.neg h4.neg h5.neg
  have by2 := lim2 h0.neg h1.neg h2.neg
  have bb := lim2 h0 h1 h2
  rw [f0, f1] at ba
  rw [y0', y1'] at by2
  rw [g0, g1] at bb
  have NN := fun w => squareOf_ok ua va w ba.1
  rw [sa] at NN
  have H := fun w => rsquare_any ub vb w bb.2.1 bb.2.2.1 bb.2.2.2.1 bb.2.2.2.2
  rw [sb] at H
  have U := fun w ht => hoursOf_ok ua va w ba.1 ht
  rw [hourV_dir du, hourE_dir du] at U
  have TT := fun w ht => hoursOf_ok ya yb w by2.1 ht
  rw [hourV_dir dy, hourE_dir dy] at TT
  have go : ∀ (e0 e1 e2 y0 y1 y2 y3 y4 y5 y6 y7 y8 : Int), 0 ≤ q0 → q0 < 3 → e0 = (if q0 = 0 then 2 else if q0 = 1 then 1 else 0) → 0 ≤ q1 → q1 < 3 → e1 = (if q1 = 0 then 2 else if q1 = 1 then 1 else 0) → 0 ≤ q2 → q2 < 3 → e2 = (if q2 = 0 then 2 else if q2 = 1 then 1 else 0) → K28 (-l3) (-l4) (-l5) (-l0) (-l1) (-l2) (-l6) (-l7) (-l8) q0 q1 q2 y0 y1 y2 y3 y4 y5 y6 y7 y8 → K28 l0 l1 l2 l3 l4 l5 l6 l7 l8 e0 e1 e2 y0 y1 y2 y3 y4 y5 y6 y7 y8 → K6 k n s r 2 1 0 q0 q1 q2 w := fun e0 e1 e2 y0 y1 y2 y3 y4 y5 y6 y7 y8 b0 d0 g0 b1 d1 g1 b2 d2 g2 KB KC =>
    renamed_odd k n s r 2 1 0 q0 q1 q2 e0 e1 e2 l0 l1 l2 l3 l4 l5 l6 l7 l8 (-l3) (-l4) (-l5) (-l0) (-l1) (-l2) (-l6) (-l7) (-l8) y0 y1 y2 y3 y4 y5 y6 y7 y8 (-l0) (-l1) (-l2) (-l6) (-l7) (-l8) (-l3) (-l4) (-l5) (-1) ua va N ub vb ya yb tt uu 3 0 (-4) (uu - (-4)) w ht hr (by decide) (by decide) (by decide) (by decide) (by decide) (wrap_in rfl (by omega) (by omega)) (by decide) b0 d0 g0 b1 d1 g1 b2 d2 g2 (Lib.hid E) (Lib.hid P) (Lib.hid Q) (Lib.hid KL) KA KB KC (Lib.hid S) (Lib.hid F) (Lib.hid NN) (Lib.hid G) (Lib.hid H) KO (Lib.hid Y) (Lib.hid TT) (Lib.hid U) (Lib.hid (fun w => hourW uu w u0 u1)) (Lib.hid M)
  have hc : (q0 = 0 ∧ q1 = 1 ∧ q2 = 2) ∨ (q0 = 0 ∧ q1 = 2 ∧ q2 = 1) ∨ (q0 = 1 ∧ q1 = 0 ∧ q2 = 2) ∨ (q0 = 1 ∧ q1 = 2 ∧ q2 = 0) ∨ (q0 = 2 ∧ q1 = 0 ∧ q2 = 1) ∨ (q0 = 2 ∧ q1 = 1 ∧ q2 = 0) := by
    have := (permB_iff q0 q1 q2).1 hq
    omega
  rcases hc with ⟨rfl, rfl, rfl⟩ | ⟨rfl, rfl, rfl⟩ | ⟨rfl, rfl, rfl⟩ | ⟨rfl, rfl, rfl⟩ | ⟨rfl, rfl, rfl⟩ | ⟨rfl, rfl, rfl⟩
  · exact go 2 1 0 _ _ _ _ _ _ _ _ _ (by decide) (by decide) (by decide) (by decide) (by decide) (by decide) (by decide) (by decide) (by decide) (pair_50 l0 l1 l2 l3 l4 l5 l6 l7 l8 h0 h1 h2 h3 h4 h5 h6 h7 h8).1 (pair_50 l0 l1 l2 l3 l4 l5 l6 l7 l8 h0 h1 h2 h3 h4 h5 h6 h7 h8).2
  · exact go 2 0 1 _ _ _ _ _ _ _ _ _ (by decide) (by decide) (by decide) (by decide) (by decide) (by decide) (by decide) (by decide) (by decide) (pair_51 l0 l1 l2 l3 l4 l5 l6 l7 l8 h0 h1 h2 h3 h4 h5 h6 h7 h8).1 (pair_51 l0 l1 l2 l3 l4 l5 l6 l7 l8 h0 h1 h2 h3 h4 h5 h6 h7 h8).2
  · exact go 1 2 0 _ _ _ _ _ _ _ _ _ (by decide) (by decide) (by decide) (by decide) (by decide) (by decide) (by decide) (by decide) (by decide) (pair_52 l0 l1 l2 l3 l4 l5 l6 l7 l8 h0 h1 h2 h3 h4 h5 h6 h7 h8).1 (pair_52 l0 l1 l2 l3 l4 l5 l6 l7 l8 h0 h1 h2 h3 h4 h5 h6 h7 h8).2
  · exact go 1 0 2 _ _ _ _ _ _ _ _ _ (by decide) (by decide) (by decide) (by decide) (by decide) (by decide) (by decide) (by decide) (by decide) (pair_53 l0 l1 l2 l3 l4 l5 l6 l7 l8 h0 h1 h2 h3 h4 h5 h6 h7 h8).1 (pair_53 l0 l1 l2 l3 l4 l5 l6 l7 l8 h0 h1 h2 h3 h4 h5 h6 h7 h8).2
  · exact go 0 2 1 _ _ _ _ _ _ _ _ _ (by decide) (by decide) (by decide) (by decide) (by decide) (by decide) (by decide) (by decide) (by decide) (pair_54 l0 l1 l2 l3 l4 l5 l6 l7 l8 h0 h1 h2 h3 h4 h5 h6 h7 h8).1 (pair_54 l0 l1 l2 l3 l4 l5 l6 l7 l8 h0 h1 h2 h3 h4 h5 h6 h7 h8).2
  · exact go 0 1 2 _ _ _ _ _ _ _ _ _ (by decide) (by decide) (by decide) (by decide) (by decide) (by decide) (by decide) (by decide) (by decide) (pair_55 l0 l1 l2 l3 l4 l5 l6 l7 l8 h0 h1 h2 h3 h4 h5 h6 h7 h8).1 (pair_55 l0 l1 l2 l3 l4 l5 l6 l7 l8 h0 h1 h2 h3 h4 h5 h6 h7 h8).2
theorem rn_00p0 (n t : Int) (r : Bool) (q0 q1 q2 : Int) (w : World) (ht : Tabs w) (hr : w.rangeAt 0 0 permL) (n0 : 1 ≤ n) (n1 : n ≤ 2000) (e : t = n) (hq : permB q0 q1 q2 = true) (E : K19 0 n 0 r) (KL : K22 0 n 0 r (t * 1) (t * (-1)) (t * 0) (t * 0) (t * 1) (t * (-1)) (t * (-1)) (t * 0) (t * 1)) : K6 0 n 0 r 0 1 2 q0 q1 q2 w := by
  have nt : t * t = n * n := by rw [e]
  obtain ⟨lA, lB, lC, lD, lE⟩ := lims_t n0 n1 (show t = n ∨ t = -n by omega)
  exact ren_0 0 n 0 r q0 q1 q2 (t * 1) (t * (-1)) (t * 0) (t * 0) (t * 1) (t * (-1)) (t * (-1)) (t * 0) (t * 1) (t * 2) (t * 1) (3 * (n * n)) (t * 2) (t * 1) (t * (-1)) (t * (-2)) 9 1 w ht hr lD lB lC lC lD lB lB lC lD hq E KL (by omega) (by omega) (by omega) (by omega) (by omega) (by omega) (by omega) (by omega) (by omega) (by omega) (by omega) (by rw [sqV_t, nt]; rfl) (by rw [sqV_t, nt]; rfl) (Dir.d1 (by omega) (by omega)) (Dir.d9 (by omega) (by omega)) (by decide)
theorem rn_00p1 (n t : Int) (r : Bool) (q0 q1 q2 : Int) (w : World) (ht : Tabs w) (hr : w.rangeAt 0 0 permL) (n0 : 1 ≤ n) (n1 : n ≤ 2000) (e : t = n) (hq : permB q0 q1 q2 = true) (E : K19 0 n 0 r) (KL : K22 0 n 0 r (t * 1) (t * (-1)) (t * 0) (t * 0) (t * 1) (t * (-1)) (t * (-1)) (t * 0) (t * 1)) : K6 0 n 0 r 0 2 1 q0 q1 q2 w := by
  have nt : t * t = n * n := by rw [e]
  obtain ⟨lA, lB, lC, lD, lE⟩ := lims_t n0 n1 (show t = n ∨ t = -n by omega)
  exact ren_1 0 n 0 r q0 q1 q2 (t * 1) (t * (-1)) (t * 0) (t * 0) (t * 1) (t * (-1)) (t * (-1)) (t * 0) (t * 1) (t * 1) (t * (-1)) (3 * (n * n)) (t * 2) (t * 1) (t * 1) (t * 2) 3 11 w ht hr lD lB lC lC lD lB lB lC lD hq E KL (by omega) (by omega) (by omega) (by omega) (by omega) (by omega) (by omega) (by omega) (by omega) (by omega) (by omega) (by rw [sqV_t, nt]; rfl) (by rw [sqV_t, nt]; rfl) (Dir.d11 (by omega) (by omega)) (Dir.d3 (by omega) (by omega)) (by decide)
theorem rn_00p2 (n t : Int) (r : Bool) (q0 q1 q2 : Int) (w : World) (ht : Tabs w) (hr : w.rangeAt 0 0 permL) (n0 : 1 ≤ n) (n1 : n ≤ 2000) (e : t = n) (hq : permB q0 q1 q2 = true) (E : K19 0 n 0 r) (KL : K22 0 n 0 r (t * 1) (t * (-1)) (t * 0) (t * 0) (t * 1) (t * (-1)) (t * (-1)) (t * 0) (t * 1)) : K6 0 n 0 r 1 0 2 q0 q1 q2 w := by
  have nt : t * t = n * n := by rw [e]
  obtain ⟨lA, lB, lC, lD, lE⟩ := lims_t n0 n1 (show t = n ∨ t = -n by omega)
  exact ren_2 0 n 0 r q0 q1 q2 (t * 1) (t * (-1)) (t * 0) (t * 0) (t * 1) (t * (-1)) (t * (-1)) (t * 0) (t * 1) (t * (-2)) (t * (-1)) (3 * (n * n)) (t * 2) (t * 1) (t * 1) (t * (-1)) 11 7 w ht hr lD lB lC lC lD lB lB lC lD hq E KL (by omega) (by omega) (by omega) (by omega) (by omega) (by omega) (by omega) (by omega) (by omega) (by omega) (by omega) (by rw [sqV_t, nt]; rfl) (by rw [sqV_t, nt]; rfl) (Dir.d7 (by omega) (by omega)) (Dir.d11 (by omega) (by omega)) (by decide)
theorem rn_00p3 (n t : Int) (r : Bool) (q0 q1 q2 : Int) (w : World) (ht : Tabs w) (hr : w.rangeAt 0 0 permL) (n0 : 1 ≤ n) (n1 : n ≤ 2000) (e : t = n) (hq : permB q0 q1 q2 = true) (E : K19 0 n 0 r) (KL : K22 0 n 0 r (t * 1) (t * (-1)) (t * 0) (t * 0) (t * 1) (t * (-1)) (t * (-1)) (t * 0) (t * 1)) : K6 0 n 0 r 1 2 0 q0 q1 q2 w := by
  have nt : t * t = n * n := by rw [e]
  obtain ⟨lA, lB, lC, lD, lE⟩ := lims_t n0 n1 (show t = n ∨ t = -n by omega)
  exact ren_3 0 n 0 r q0 q1 q2 (t * 1) (t * (-1)) (t * 0) (t * 0) (t * 1) (t * (-1)) (t * (-1)) (t * 0) (t * 1) (t * (-1)) (t * (-2)) (3 * (n * n)) (t * 2) (t * 1) (t * (-1)) (t * 1) 5 9 w ht hr lD lB lC lC lD lB lB lC lD hq E KL (by omega) (by omega) (by omega) (by omega) (by omega) (by omega) (by omega) (by omega) (by omega) (by omega) (by omega) (by rw [sqV_t, nt]; rfl) (by rw [sqV_t, nt]; rfl) (Dir.d9 (by omega) (by omega)) (Dir.d5 (by omega) (by omega)) (by decide)
theorem rn_00p4 (n t : Int) (r : Bool) (q0 q1 q2 : Int) (w : World) (ht : Tabs w) (hr : w.rangeAt 0 0 permL) (n0 : 1 ≤ n) (n1 : n ≤ 2000) (e : t = n) (hq : permB q0 q1 q2 = true) (E : K19 0 n 0 r) (KL : K22 0 n 0 r (t * 1) (t * (-1)) (t * 0) (t * 0) (t * 1) (t * (-1)) (t * (-1)) (t * 0) (t * 1)) : K6 0 n 0 r 2 0 1 q0 q1 q2 w := by
  have nt : t * t = n * n := by rw [e]
  obtain ⟨lA, lB, lC, lD, lE⟩ := lims_t n0 n1 (show t = n ∨ t = -n by omega)
  exact ren_4 0 n 0 r q0 q1 q2 (t * 1) (t * (-1)) (t * 0) (t * 0) (t * 1) (t * (-1)) (t * (-1)) (t * 0) (t * 1) (t * (-1)) (t * 1) (3 * (n * n)) (t * 2) (t * 1) (t * 2) (t * 1) 1 5 w ht hr lD lB lC lC lD lB lB lC lD hq E KL (by omega) (by omega) (by omega) (by omega) (by omega) (by omega) (by omega) (by omega) (by omega) (by omega) (by omega) (by rw [sqV_t, nt]; rfl) (by rw [sqV_t, nt]; rfl) (Dir.d5 (by omega) (by omega)) (Dir.d1 (by omega) (by omega)) (by decide)
theorem rn_00p5 (n t : Int) (r : Bool) (q0 q1 q2 : Int) (w : World) (ht : Tabs w) (hr : w.rangeAt 0 0 permL) (n0 : 1 ≤ n) (n1 : n ≤ 2000) (e : t = n) (hq : permB q0 q1 q2 = true) (E : K19 0 n 0 r) (KL : K22 0 n 0 r (t * 1) (t * (-1)) (t * 0) (t * 0) (t * 1) (t * (-1)) (t * (-1)) (t * 0) (t * 1)) : K6 0 n 0 r 2 1 0 q0 q1 q2 w := by
  have nt : t * t = n * n := by rw [e]
  obtain ⟨lA, lB, lC, lD, lE⟩ := lims_t n0 n1 (show t = n ∨ t = -n by omega)
  exact ren_5 0 n 0 r q0 q1 q2 (t * 1) (t * (-1)) (t * 0) (t * 0) (t * 1) (t * (-1)) (t * (-1)) (t * 0) (t * 1) (t * 1) (t * 2) (3 * (n * n)) (t * 2) (t * 1) (t * (-2)) (t * (-1)) 7 3 w ht hr lD lB lC lC lD lB lB lC lD hq E KL (by omega) (by omega) (by omega) (by omega) (by omega) (by omega) (by omega) (by omega) (by omega) (by omega) (by omega) (by rw [sqV_t, nt]; rfl) (by rw [sqV_t, nt]; rfl) (Dir.d3 (by omega) (by omega)) (Dir.d7 (by omega) (by omega)) (by decide)
theorem rn_00m0 (n t : Int) (r : Bool) (q0 q1 q2 : Int) (w : World) (ht : Tabs w) (hr : w.rangeAt 0 0 permL) (n0 : 1 ≤ n) (n1 : n ≤ 2000) (e : t = -n) (hq : permB q0 q1 q2 = true) (E : K19 0 n 0 r) (KL : K22 0 n 0 r (t * 1) (t * (-1)) (t * 0) (t * 0) (t * 1) (t * (-1)) (t * (-1)) (t * 0) (t * 1)) : K6 0 n 0 r 0 1 2 q0 q1 q2 w := by
  have nt : t * t = n * n := by rw [e]; exact Int.neg_mul_neg n n
  obtain ⟨lA, lB, lC, lD, lE⟩ := lims_t n0 n1 (show t = n ∨ t = -n by omega)
  exact ren_0 0 n 0 r q0 q1 q2 (t * 1) (t * (-1)) (t * 0) (t * 0) (t * 1) (t * (-1)) (t * (-1)) (t * 0) (t * 1) (t * 2) (t * 1) (3 * (n * n)) (t * 2) (t * 1) (t * (-1)) (t * (-2)) 3 7 w ht hr lD lB lC lC lD lB lB lC lD hq E KL (by omega) (by omega) (by omega) (by omega) (by omega) (by omega) (by omega) (by omega) (by omega) (by omega) (by omega) (by rw [sqV_t, nt]; rfl) (by rw [sqV_t, nt]; rfl) (Dir.d7 (by omega) (by omega)) (Dir.d3 (by omega) (by omega)) (by decide)
theorem rn_00m1 (n t : Int) (r : Bool) (q0 q1 q2 : Int) (w : World) (ht : Tabs w) (hr : w.rangeAt 0 0 permL) (n0 : 1 ≤ n) (n1 : n ≤ 2000) (e : t = -n) (hq : permB q0 q1 q2 = true) (E : K19 0 n 0 r) (KL : K22 0 n 0 r (t * 1) (t * (-1)) (t * 0) (t * 0) (t * 1) (t * (-1)) (t * (-1)) (t * 0) (t * 1)) : K6 0 n 0 r 0 2 1 q0 q1 q2 w := by
  have nt : t * t = n * n := by rw [e]; exact Int.neg_mul_neg n n
  obtain ⟨lA, lB, lC, lD, lE⟩ := lims_t n0 n1 (show t = n ∨ t = -n by omega)
  exact ren_1 0 n 0 r q0 q1 q2 (t * 1) (t * (-1)) (t * 0) (t * 0) (t * 1) (t * (-1)) (t * (-1)) (t * 0) (t * 1) (t * 1) (t * (-1)) (3 * (n * n)) (t * 2) (t * 1) (t * 1) (t * 2) 9 5 w ht hr lD lB lC lC lD lB lB lC lD hq E KL (by omega) (by omega) (by omega) (by omega) (by omega) (by omega) (by omega) (by omega) (by omega) (by omega) (by omega) (by rw [sqV_t, nt]; rfl) (by rw [sqV_t, nt]; rfl) (Dir.d5 (by omega) (by omega)) (Dir.d9 (by omega) (by omega)) (by decide)
theorem rn_00m2 (n t : Int) (r : Bool) (q0 q1 q2 : Int) (w : World) (ht : Tabs w) (hr : w.rangeAt 0 0 permL) (n0 : 1 ≤ n) (n1 : n ≤ 2000) (e : t = -n) (hq : permB q0 q1 q2 = true) (E : K19 0 n 0 r) (KL : K22 0 n 0 r (t * 1) (t * (-1)) (t * 0) (t * 0) (t * 1) (t * (-1)) (t * (-1)) (t * 0) (t * 1)) : K6 0 n 0 r 1 0 2 q0 q1 q2 w := by
  have nt : t * t = n * n := by rw [e]; exact Int.neg_mul_neg n n
  obtain ⟨lA, lB, lC, lD, lE⟩ := lims_t n0 n1 (show t = n ∨ t = -n by omega)
  exact ren_2 0 n 0 r q0 q1 q2 (t * 1) (t * (-1)) (t * 0) (t * 0) (t * 1) (t * (-1)) (t * (-1)) (t * 0) (t * 1) (t * (-2)) (t * (-1)) (3 * (n * n)) (t * 2) (t * 1) (t * 1) (t * (-1)) 5 1 w ht hr lD lB lC lC lD lB lB lC lD hq E KL (by omega) (by omega) (by omega) (by omega) (by omega) (by omega) (by omega) (by omega) (by omega) (by omega) (by omega) (by rw [sqV_t, nt]; rfl) (by rw [sqV_t, nt]; rfl) (Dir.d1 (by omega) (by omega)) (Dir.d5 (by omega) (by omega)) (by decide)
theorem rn_00m3 (n t : Int) (r : Bool) (q0 q1 q2 : Int) (w : World) (ht : Tabs w) (hr : w.rangeAt 0 0 permL) (n0 : 1 ≤ n) (n1 : n ≤ 2000) (e : t = -n) (hq : permB q0 q1 q2 = true) (E : K19 0 n 0 r) (KL : K22 0 n 0 r (t * 1) (t * (-1)) (t * 0) (t * 0) (t * 1) (t * (-1)) (t * (-1)) (t * 0) (t * 1)) : K6 0 n 0 r 1 2 0 q0 q1 q2 w := by
  have nt : t * t = n * n := by rw [e]; exact Int.neg_mul_neg n n
  obtain ⟨lA, lB, lC, lD, lE⟩ := lims_t n0 n1 (show t = n ∨ t = -n by omega)
  exact ren_3 0 n 0 r q0 q1 q2 (t * 1) (t * (-1)) (t * 0) (t * 0) (t * 1) (t * (-1)) (t * (-1)) (t * 0) (t * 1) (t * (-1)) (t * (-2)) (3 * (n * n)) (t * 2) (t * 1) (t * (-1)) (t * 1) 11 3 w ht hr lD lB lC lC lD lB lB lC lD hq E KL (by omega) (by omega) (by omega) (by omega) (by omega) (by omega) (by omega) (by omega) (by omega) (by omega) (by omega) (by rw [sqV_t, nt]; rfl) (by rw [sqV_t, nt]; rfl) (Dir.d3 (by omega) (by omega)) (Dir.d11 (by omega) (by omega)) (by decide)
theorem rn_00m4 (n t : Int) (r : Bool) (q0 q1 q2 : Int) (w : World) (ht : Tabs w) (hr : w.rangeAt 0 0 permL) (n0 : 1 ≤ n) (n1 : n ≤ 2000) (e : t = -n) (hq : permB q0 q1 q2 = true) (E : K19 0 n 0 r) (KL : K22 0 n 0 r (t * 1) (t * (-1)) (t * 0) (t * 0) (t * 1) (t * (-1)) (t * (-1)) (t * 0) (t * 1)) : K6 0 n 0 r 2 0 1 q0 q1 q2 w := by
  have nt : t * t = n * n := by rw [e]; exact Int.neg_mul_neg n n
  obtain ⟨lA, lB, lC, lD, lE⟩ := lims_t n0 n1 (show t = n ∨ t = -n by omega)
  exact ren_4 0 n 0 r q0 q1 q2 (t * 1) (t * (-1)) (t * 0) (t * 0) (t * 1) (t * (-1)) (t * (-1)) (t * 0) (t * 1) (t * (-1)) (t * 1) (3 * (n * n)) (t * 2) (t * 1) (t * 2) (t * 1) 7 11 w ht hr lD lB lC lC lD lB lB lC lD hq E KL (by omega) (by omega) (by omega) (by omega) (by omega) (by omega) (by omega) (by omega) (by omega) (by omega) (by omega) (by rw [sqV_t, nt]; rfl) (by rw [sqV_t, nt]; rfl) (Dir.d11 (by omega) (by omega)) (Dir.d7 (by omega) (by omega)) (by decide)
theorem rn_00m5 (n t : Int) (r : Bool) (q0 q1 q2 : Int) (w : World) (ht : Tabs w) (hr : w.rangeAt 0 0 permL) (n0 : 1 ≤ n) (n1 : n ≤ 2000) (e : t = -n) (hq : permB q0 q1 q2 = true) (E : K19 0 n 0 r) (KL : K22 0 n 0 r (t * 1) (t * (-1)) (t * 0) (t * 0) (t * 1) (t * (-1)) (t * (-1)) (t * 0) (t * 1)) : K6 0 n 0 r 2 1 0 q0 q1 q2 w := by
  have nt : t * t = n * n := by rw [e]; exact Int.neg_mul_neg n n
  obtain ⟨lA, lB, lC, lD, lE⟩ := lims_t n0 n1 (show t = n ∨ t = -n by omega)
  exact ren_5 0 n 0 r q0 q1 q2 (t * 1) (t * (-1)) (t * 0) (t * 0) (t * 1) (t * (-1)) (t * (-1)) (t * 0) (t * 1) (t * 1) (t * 2) (3 * (n * n)) (t * 2) (t * 1) (t * (-2)) (t * (-1)) 1 9 w ht hr lD lB lC lC lD lB lB lC lD hq E KL (by omega) (by omega) (by omega) (by omega) (by omega) (by omega) (by omega) (by omega) (by omega) (by omega) (by omega) (by rw [sqV_t, nt]; rfl) (by rw [sqV_t, nt]; rfl) (Dir.d9 (by omega) (by omega)) (Dir.d1 (by omega) (by omega)) (by decide)
theorem rn_01p0 (n t : Int) (r : Bool) (q0 q1 q2 : Int) (w : World) (ht : Tabs w) (hr : w.rangeAt 0 0 permL) (n0 : 1 ≤ n) (n1 : n ≤ 2000) (e : t = n) (hq : permB q0 q1 q2 = true) (E : K19 0 n 1 r) (KL : K22 0 n 1 r (t * 0) (t * 1) (t * (-1)) (t * (-1)) (t * 0) (t * 1) (t * 1) (t * (-1)) (t * 0)) : K6 0 n 1 r 0 1 2 q0 q1 q2 w := by
  have nt : t * t = n * n := by rw [e]
  obtain ⟨lA, lB, lC, lD, lE⟩ := lims_t n0 n1 (show t = n ∨ t = -n by omega)
  exact ren_0 0 n 1 r q0 q1 q2 (t * 0) (t * 1) (t * (-1)) (t * (-1)) (t * 0) (t * 1) (t * 1) (t * (-1)) (t * 0) (t * (-1)) (t * (-2)) (3 * (n * n)) (t * (-1)) (t * (-2)) (t * (-1)) (t * 1) 5 9 w ht hr lC lD lB lB lC lD lD lB lC hq E KL (by omega) (by omega) (by omega) (by omega) (by omega) (by omega) (by omega) (by omega) (by omega) (by omega) (by omega) (by rw [sqV_t, nt]; rfl) (by rw [sqV_t, nt]; rfl) (Dir.d9 (by omega) (by omega)) (Dir.d5 (by omega) (by omega)) (by decide)
theorem rn_01p1 (n t : Int) (r : Bool) (q0 q1 q2 : Int) (w : World) (ht : Tabs w) (hr : w.rangeAt 0 0 permL) (n0 : 1 ≤ n) (n1 : n ≤ 2000) (e : t = n) (hq : permB q0 q1 q2 = true) (E : K19 0 n 1 r) (KL : K22 0 n 1 r (t * 0) (t * 1) (t * (-1)) (t * (-1)) (t * 0) (t * 1) (t * 1) (t * (-1)) (t * 0)) : K6 0 n 1 r 0 2 1 q0 q1 q2 w := by
  have nt : t * t = n * n := by rw [e]
  obtain ⟨lA, lB, lC, lD, lE⟩ := lims_t n0 n1 (show t = n ∨ t = -n by omega)
  exact ren_1 0 n 1 r q0 q1 q2 (t * 0) (t * 1) (t * (-1)) (t * (-1)) (t * 0) (t * 1) (t * 1) (t * (-1)) (t * 0) (t * (-2)) (t * (-1)) (3 * (n * n)) (t * (-1)) (t * (-2)) (t * 1) (t * (-1)) 11 7 w ht hr lC lD lB lB lC lD lD lB lC hq E KL (by omega) (by omega) (by omega) (by omega) (by omega) (by omega) (by omega) (by omega) (by omega) (by omega) (by omega) (by rw [sqV_t, nt]; rfl) (by rw [sqV_t, nt]; rfl) (Dir.d7 (by omega) (by omega)) (Dir.d11 (by omega) (by omega)) (by decide)
theorem rn_01p2 (n t : Int) (r : Bool) (q0 q1 q2 : Int) (w : World) (ht : Tabs w) (hr : w.rangeAt 0 0 permL) (n0 : 1 ≤ n) (n1 : n ≤ 2000) (e : t = n) (hq : permB q0 q1 q2 = true) (E : K19 0 n 1 r) (KL : K22 0 n 1 r (t * 0) (t * 1) (t * (-1)) (t * (-1)) (t * 0) (t * 1) (t * 1) (t * (-1)) (t * 0)) : K6 0 n 1 r 1 0 2 q0 q1 q2 w := by
  have nt : t * t = n * n := by rw [e]
  obtain ⟨lA, lB, lC, lD, lE⟩ := lims_t n0 n1 (show t = n ∨ t = -n by omega)
  exact ren_2 0 n 1 r q0 q1 q2 (t * 0) (t * 1) (t * (-1)) (t * (-1)) (t * 0) (t * 1) (t * 1) (t * (-1)) (t * 0) (t * 1) (t * 2) (3 * (n * n)) (t * (-1)) (t * (-2)) (t * (-2)) (t * (-1)) 7 3 w ht hr lC lD lB lB lC lD lD lB lC hq E KL (by omega) (by omega) (by omega) (by omega) (by omega) (by omega) (by omega) (by omega) (by omega) (by omega) (by omega) (by rw [sqV_t, nt]; rfl) (by rw [sqV_t, nt]; rfl) (Dir.d3 (by omega) (by omega)) (Dir.d7 (by omega) (by omega)) (by decide)
theorem rn_01p3 (n t : Int) (r : Bool) (q0 q1 q2 : Int) (w : World) (ht : Tabs w) (hr : w.rangeAt 0 0 permL) (n0 : 1 ≤ n) (n1 : n ≤ 2000) (e : t = n) (hq : permB q0 q1 q2 = true) (E : K19 0 n 1 r) (KL : K22 0 n 1 r (t * 0) (t * 1) (t * (-1)) (t * (-1)) (t * 0) (t * 1) (t * 1) (t * (-1)) (t * 0)) : K6 0 n 1 r 1 2 0 q0 q1 q2 w := by
  have nt : t * t = n * n := by rw [e]
  obtain ⟨lA, lB, lC, lD, lE⟩ := lims_t n0 n1 (show t = n ∨ t = -n by omega)
  exact ren_3 0 n 1 r q0 q1 q2 (t * 0) (t * 1) (t * (-1)) (t * (-1)) (t * 0) (t * 1) (t * 1) (t * (-1)) (t * 0) (t * (-1)) (t * 1) (3 * (n * n)) (t * (-1)) (t * (-2)) (t * 2) (t * 1) 1 5 w ht hr lC lD lB lB lC lD lD lB lC hq E KL (by omega) (by omega) (by omega) (by omega) (by omega) (by omega) (by omega) (by omega) (by omega) (by omega) (by omega) (by rw [sqV_t, nt]; rfl) (by rw [sqV_t, nt]; rfl) (Dir.d5 (by omega) (by omega)) (Dir.d1 (by omega) (by omega)) (by decide)
theorem rn_01p4 (n t : Int) (r : Bool) (q0 q1 q2 : Int) (w : World) (ht : Tabs w) (hr : w.rangeAt 0 0 permL) (n0 : 1 ≤ n) (n1 : n ≤ 2000) (e : t = n) (hq : permB q0 q1 q2 = true) (E : K19 0 n 1 r) (KL : K22 0 n 1 r (t * 0) (t * 1) (t * (-1)) (t * (-1)) (t * 0) (t * 1) (t * 1) (t * (-1)) (t * 0)) : K6 0 n 1 r 2 0 1 q0 q1 q2 w := by
  have nt : t * t = n * n := by rw [e]
  obtain ⟨lA, lB, lC, lD, lE⟩ := lims_t n0 n1 (show t = n ∨ t = -n by omega)
  exact ren_4 0 n 1 r q0 q1 q2 (t * 0) (t * 1) (t * (-1)) (t * (-1)) (t * 0) (t * 1) (t * 1) (t * (-1)) (t * 0) (t * 2) (t * 1) (3 * (n * n)) (t * (-1)) (t * (-2)) (t * (-1)) (t * (-2)) 9 1 w ht hr lC lD lB lB lC lD lD lB lC hq E KL (by omega) (by omega) (by omega) (by omega) (by omega) (by omega) (by omega) (by omega) (by omega) (by omega) (by omega) (by rw [sqV_t, nt]; rfl) (by rw [sqV_t, nt]; rfl) (Dir.d1 (by omega) (by omega)) (Dir.d9 (by omega) (by omega)) (by decide)
theorem rn_01p5 (n t : Int) (r : Bool) (q0 q1 q2 : Int) (w : World) (ht : Tabs w) (hr : w.rangeAt 0 0 permL) (n0 : 1 ≤ n) (n1 : n ≤ 2000) (e : t = n) (hq : permB q0 q1 q2 = true) (E : K19 0 n 1 r) (KL : K22 0 n 1 r (t * 0) (t * 1) (t * (-1)) (t * (-1)) (t * 0) (t * 1) (t * 1) (t * (-1)) (t * 0)) : K6 0 n 1 r 2 1 0 q0 q1 q2 w := by
  have nt : t * t = n * n := by rw [e]
  obtain ⟨lA, lB, lC, lD, lE⟩ := lims_t n0 n1 (show t = n ∨ t = -n by omega)
  exact ren_5 0 n 1 r q0 q1 q2 (t * 0) (t * 1) (t * (-1)) (t * (-1)) (t * 0) (t * 1) (t * 1) (t * (-1)) (t * 0) (t * 1) (t * (-1)) (3 * (n * n)) (t * (-1)) (t * (-2)) (t * 1) (t * 2) 3 11 w ht hr lC lD lB lB lC lD lD lB lC hq E KL (by omega) (by omega) (by omega) (by omega) (by omega) (by omega) (by omega) (by omega) (by omega) (by omega) (by omega) (by rw [sqV_t, nt]; rfl) (by rw [sqV_t, nt]; rfl) (Dir.d11 (by omega) (by omega)) (Dir.d3 (by omega) (by omega)) (by decide)
theorem rn_01m0 (n t : Int) (r : Bool) (q0 q1 q2 : Int) (w : World) (ht : Tabs w) (hr : w.rangeAt 0 0 permL) (n0 : 1 ≤ n) (n1 : n ≤ 2000) (e : t = -n) (hq : permB q0 q1 q2 = true) (E : K19 0 n 1 r) (KL : K22 0 n 1 r (t * 0) (t * 1) (t * (-1)) (t * (-1)) (t * 0) (t * 1) (t * 1) (t * (-1)) (t * 0)) : K6 0 n 1 r 0 1 2 q0 q1 q2 w := by
  have nt : t * t = n * n := by rw [e]; exact Int.neg_mul_neg n n
  obtain ⟨lA, lB, lC, lD, lE⟩ := lims_t n0 n1 (show t = n ∨ t = -n by omega)
  exact ren_0 0 n 1 r q0 q1 q2 (t * 0) (t * 1) (t * (-1)) (t * (-1)) (t * 0) (t * 1) (t * 1) (t * (-1)) (t * 0) (t * (-1)) (t * (-2)) (3 * (n * n)) (t * (-1)) (t * (-2)) (t * (-1)) (t * 1) 11 3 w ht hr lC lD lB lB lC lD lD lB lC hq E KL (by omega) (by omega) (by omega) (by omega) (by omega) (by omega) (by omega) (by omega) (by omega) (by omega) (by omega) (by rw [sqV_t, nt]; rfl) (by rw [sqV_t, nt]; rfl) (Dir.d3 (by omega) (by omega)) (Dir.d11 (by omega) (by omega)) (by decide)
theorem rn_01m1 (n t : Int) (r : Bool) (q0 q1 q2 : Int) (w : World) (ht : Tabs w) (hr : w.rangeAt 0 0 permL) (n0 : 1 ≤ n) (n1 : n ≤ 2000) (e : t = -n) (hq : permB q0 q1 q2 = true) (E : K19 0 n 1 r) (KL : K22 0 n 1 r (t * 0) (t * 1) (t * (-1)) (t * (-1)) (t * 0) (t * 1) (t * 1) (t * (-1)) (t * 0)) : K6 0 n 1 r 0 2 1 q0 q1 q2 w := by
  have nt : t * t = n * n := by rw [e]; exact Int.neg_mul_neg n n
  obtain ⟨lA, lB, lC, lD, lE⟩ := lims_t n0 n1 (show t = n ∨ t = -n by omega)
  exact ren_1 0 n 1 r q0 q1 q2 (t * 0) (t * 1) (t * (-1)) (t * (-1)) (t * 0) (t * 1) (t * 1) (t * (-1)) (t * 0) (t * (-2)) (t * (-1)) (3 * (n * n)) (t * (-1)) (t * (-2)) (t * 1) (t * (-1)) 5 1 w ht hr lC lD lB lB lC lD lD lB lC hq E KL (by omega) (by omega) (by omega) (by omega) (by omega) (by omega) (by omega) (by omega) (by omega) (by omega) (by omega) (by rw [sqV_t, nt]; rfl) (by rw [sqV_t, nt]; rfl) (Dir.d1 (by omega) (by omega)) (Dir.d5 (by omega) (by omega)) (by decide)
theorem rn_01m2 (n t : Int) (r : Bool) (q0 q1 q2 : Int) (w : World) (ht : Tabs w) (hr : w.rangeAt 0 0 permL) (n0 : 1 ≤ n) (n1 : n ≤ 2000) (e : t = -n) (hq : permB q0 q1 q2 = true) (E : K19 0 n 1 r) (KL : K22 0 n 1 r (t * 0) (t * 1) (t * (-1)) (t * (-1)) (t * 0) (t * 1) (t * 1) (t * (-1)) (t * 0)) : K6 0 n 1 r 1 0 2 q0 q1 q2 w := by
  have nt : t * t = n * n := by rw [e]; exact Int.neg_mul_neg n n
  obtain ⟨lA, lB, lC, lD, lE⟩ := lims_t n0 n1 (show t = n ∨ t = -n by omega)
  exact ren_2 0 n 1 r q0 q1 q2 (t * 0) (t * 1) (t * (-1)) (t * (-1)) (t * 0) (t * 1) (t * 1) (t * (-1)) (t * 0) (t * 1) (t * 2) (3 * (n * n)) (t * (-1)) (t * (-2)) (t * (-2)) (t * (-1)) 1 9 w ht hr lC lD lB lB lC lD lD lB lC hq E KL (by omega) (by omega) (by omega) (by omega) (by omega) (by omega) (by omega) (by omega) (by omega) (by omega) (by omega) (by rw [sqV_t, nt]; rfl) (by rw [sqV_t, nt]; rfl) (Dir.d9 (by omega) (by omega)) (Dir.d1 (by omega) (by omega)) (by decide)
theorem rn_01m3 (n t : Int) (r : Bool) (q0 q1 q2 : Int) (w : World) (ht : Tabs w) (hr : w.rangeAt 0 0 permL) (n0 : 1 ≤ n) (n1 : n ≤ 2000) (e : t = -n) (hq : permB q0 q1 q2 = true) (E : K19 0 n 1 r) (KL : K22 0 n 1 r (t * 0) (t * 1) (t * (-1)) (t * (-1)) (t * 0) (t * 1) (t * 1) (t * (-1)) (t * 0)) : K6 0 n 1 r 1 2 0 q0 q1 q2 w := by
  have nt : t * t = n * n := by rw [e]; exact Int.neg_mul_neg n n
  obtain ⟨lA, lB, lC, lD, lE⟩ := lims_t n0 n1 (show t = n ∨ t = -n by omega)
  exact ren_3 0 n 1 r q0 q1 q2 (t * 0) (t * 1) (t * (-1)) (t * (-1)) (t * 0) (t * 1) (t * 1) (t * (-1)) (t * 0) (t * (-1)) (t * 1) (3 * (n * n)) (t * (-1)) (t * (-2)) (t * 2) (t * 1) 7 11 w ht hr lC lD lB lB lC lD lD lB lC hq E KL (by omega) (by omega) (by omega) (by omega) (by omega) (by omega) (by omega) (by omega) (by omega) (by omega) (by omega) (by rw [sqV_t, nt]; rfl) (by rw [sqV_t, nt]; rfl) (Dir.d11 (by omega) (by omega)) (Dir.d7 (by omega) (by omega)) (by decide)
theorem rn_01m4 (n t : Int) (r : Bool) (q0 q1 q2 : Int) (w : World) (ht : Tabs w) (hr : w.rangeAt 0 0 permL) (n0 : 1 ≤ n) (n1 : n ≤ 2000) (e : t = -n) (hq : permB q0 q1 q2 = true) (E : K19 0 n 1 r) (KL : K22 0 n 1 r (t * 0) (t * 1) (t * (-1)) (t * (-1)) (t * 0) (t * 1) (t * 1) (t * (-1)) (t * 0)) : K6 0 n 1 r 2 0 1 q0 q1 q2 w := by
  have nt : t * t = n * n := by rw [e]; exact Int.neg_mul_neg n n
  obtain ⟨lA, lB, lC, lD, lE⟩ := lims_t n0 n1 (show t = n ∨ t = -n by omega)
  exact ren_4 0 n 1 r q0 q1 q2 (t * 0) (t * 1) (t * (-1)) (t * (-1)) (t * 0) (t * 1) (t * 1) (t * (-1)) (t * 0) (t * 2) (t * 1) (3 * (n * n)) (t * (-1)) (t * (-2)) (t * (-1)) (t * (-2)) 3 7 w ht hr lC lD lB lB lC lD lD lB lC hq E KL (by omega) (by omega) (by omega) (by omega) (by omega) (by omega) (by omega) (by omega) (by omega) (by omega) (by omega) (by rw [sqV_t, nt]; rfl) (by rw [sqV_t, nt]; rfl) (Dir.d7 (by omega) (by omega)) (Dir.d3 (by omega) (by omega)) (by decide)
theorem rn_01m5 (n t : Int) (r : Bool) (q0 q1 q2 : Int) (w : World) (ht : Tabs w) (hr : w.rangeAt 0 0 permL) (n0 : 1 ≤ n) (n1 : n ≤ 2000) (e : t = -n) (hq : permB q0 q1 q2 = true) (E : K19 0 n 1 r) (KL : K22 0 n 1 r (t * 0) (t * 1) (t * (-1)) (t * (-1)) (t * 0) (t * 1) (t * 1) (t * (-1)) (t * 0)) : K6 0 n 1 r 2 1 0 q0 q1 q2 w := by
  have nt : t * t = n * n := by rw [e]; exact Int.neg_mul_neg n n
  obtain ⟨lA, lB, lC, lD, lE⟩ := lims_t n0 n1 (show t = n ∨ t = -n by omega)
  exact ren_5 0 n 1 r q0 q1 q2 (t * 0) (t * 1) (t * (-1)) (t * (-1)) (t * 0) (t * 1) (t * 1) (t * (-1)) (t * 0) (t * 1) (t * (-1)) (3 * (n * n)) (t * (-1)) (t * (-2)) (t * 1) (t * 2) 9 5 w ht hr lC lD lB lB lC lD lD lB lC hq E KL (by omega) (by omega) (by omega) (by omega) (by omega) (by omega) (by omega) (by omega) (by omega) (by omega) (by omega) (by rw [sqV_t, nt]; rfl) (by rw [sqV_t, nt]; rfl) (Dir.d5 (by omega) (by omega)) (Dir.d9 (by omega) (by omega)) (by decide)
theorem rn_02p0 (n t : Int) (r : Bool) (q0 q1 q2 : Int) (w : World) (ht : Tabs w) (hr : w.rangeAt 0 0 permL) (n0 : 1 ≤ n) (n1 : n ≤ 2000) (e : t = n) (hq : permB q0 q1 q2 = true) (E : K19 0 n 2 r) (KL : K22 0 n 2 r (t * (-1)) (t * 0) (t * 1) (t * 1) (t * (-1)) (t * 0) (t * 0) (t * 1) (t * (-1))) : K6 0 n 2 r 0 1 2 q0 q1 q2 w := by
  have nt : t * t = n * n := by rw [e]
  obtain ⟨lA, lB, lC, lD, lE⟩ := lims_t n0 n1 (show t = n ∨ t = -n by omega)
  exact ren_0 0 n 2 r q0 q1 q2 (t * (-1)) (t * 0) (t * 1) (t * 1) (t * (-1)) (t * 0) (t * 0) (t * 1) (t * (-1)) (t * (-1)) (t * 1) (3 * (n * n)) (t * (-1)) (t * 1) (t * 2) (t * 1) 1 5 w ht hr lB lC lD lD lB lC lC lD lB hq E KL (by omega) (by omega) (by omega) (by omega) (by omega) (by omega) (by omega) (by omega) (by omega) (by omega) (by omega) (by rw [sqV_t, nt]; rfl) (by rw [sqV_t, nt]; rfl) (Dir.d5 (by omega) (by omega)) (Dir.d1 (by omega) (by omega)) (by decide)
theorem rn_02p1 (n t : Int) (r : Bool) (q0 q1 q2 : Int) (w : World) (ht : Tabs w) (hr : w.rangeAt 0 0 permL) (n0 : 1 ≤ n) (n1 : n ≤ 2000) (e : t = n) (hq : permB q0 q1 q2 = true) (E : K19 0 n 2 r) (KL : K22 0 n 2 r (t * (-1)) (t * 0) (t * 1) (t * 1) (t * (-1)) (t * 0) (t * 0) (t * 1) (t * (-1))) : K6 0 n 2 r 0 2 1 q0 q1 q2 w := by
  have nt : t * t = n * n := by rw [e]
  obtain ⟨lA, lB, lC, lD, lE⟩ := lims_t n0 n1 (show t = n ∨ t = -n by omega)
  exact ren_1 0 n 2 r q0 q1 q2 (t * (-1)) (t * 0) (t * 1) (t * 1) (t * (-1)) (t * 0) (t * 0) (t * 1) (t * (-1)) (t * 1) (t * 2) (3 * (n * n)) (t * (-1)) (t * 1) (t * (-2)) (t * (-1)) 7 3 w ht hr lB lC lD lD lB lC lC lD lB hq E KL (by omega) (by omega) (by omega) (by omega) (by omega) (by omega) (by omega) (by omega) (by omega) (by omega) (by omega) (by rw [sqV_t, nt]; rfl) (by rw [sqV_t, nt]; rfl) (Dir.d3 (by omega) (by omega)) (Dir.d7 (by omega) (by omega)) (by decide)
theorem rn_02p2 (n t : Int) (r : Bool) (q0 q1 q2 : Int) (w : World) (ht : Tabs w) (hr : w.rangeAt 0 0 permL) (n0 : 1 ≤ n) (n1 : n ≤ 2000) (e : t = n) (hq : permB q0 q1 q2 = true) (E : K19 0 n 2 r) (KL : K22 0 n 2 r (t * (-1)) (t * 0) (t * 1) (t * 1) (t * (-1)) (t * 0) (t * 0) (t * 1) (t * (-1))) : K6 0 n 2 r 1 0 2 q0 q1 q2 w := by
  have nt : t * t = n * n := by rw [e]
  obtain ⟨lA, lB, lC, lD, lE⟩ := lims_t n0 n1 (show t = n ∨ t = -n by omega)
  exact ren_2 0 n 2 r q0 q1 q2 (t * (-1)) (t * 0) (t * 1) (t * 1) (t * (-1)) (t * 0) (t * 0) (t * 1) (t * (-1)) (t * 1) (t * (-1)) (3 * (n * n)) (t * (-1)) (t * 1) (t * 1) (t * 2) 3 11 w ht hr lB lC lD lD lB lC lC lD lB hq E KL (by omega) (by omega) (by omega) (by omega) (by omega) (by omega) (by omega) (by omega) (by omega) (by omega) (by omega) (by rw [sqV_t, nt]; rfl) (by rw [sqV_t, nt]; rfl) (Dir.d11 (by omega) (by omega)) (Dir.d3 (by omega) (by omega)) (by decide)
theorem rn_02p3 (n t : Int) (r : Bool) (q0 q1 q2 : Int) (w : World) (ht : Tabs w) (hr : w.rangeAt 0 0 permL) (n0 : 1 ≤ n) (n1 : n ≤ 2000) (e : t = n) (hq : permB q0 q1 q2 = true) (E : K19 0 n 2 r) (KL : K22 0 n 2 r (t * (-1)) (t * 0) (t * 1) (t * 1) (t * (-1)) (t * 0) (t * 0) (t * 1) (t * (-1))) : K6 0 n 2 r 1 2 0 q0 q1 q2 w := by
  have nt : t * t = n * n := by rw [e]
  obtain ⟨lA, lB, lC, lD, lE⟩ := lims_t n0 n1 (show t = n ∨ t = -n by omega)
  exact ren_3 0 n 2 r q0 q1 q2 (t * (-1)) (t * 0) (t * 1) (t * 1) (t * (-1)) (t * 0) (t * 0) (t * 1) (t * (-1)) (t * 2) (t * 1) (3 * (n * n)) (t * (-1)) (t * 1) (t * (-1)) (t * (-2)) 9 1 w ht hr lB lC lD lD lB lC lC lD lB hq E KL (by omega) (by omega) (by omega) (by omega) (by omega) (by omega) (by omega) (by omega) (by omega) (by omega) (by omega) (by rw [sqV_t, nt]; rfl) (by rw [sqV_t, nt]; rfl) (Dir.d1 (by omega) (by omega)) (Dir.d9 (by omega) (by omega)) (by decide)
theorem rn_02p4 (n t : Int) (r : Bool) (q0 q1 q2 : Int) (w : World) (ht : Tabs w) (hr : w.rangeAt 0 0 permL) (n0 : 1 ≤ n) (n1 : n ≤ 2000) (e : t = n) (hq : permB q0 q1 q2 = true) (E : K19 0 n 2 r) (KL : K22 0 n 2 r (t * (-1)) (t * 0) (t * 1) (t * 1) (t * (-1)) (t * 0) (t * 0) (t * 1) (t * (-1))) : K6 0 n 2 r 2 0 1 q0 q1 q2 w := by
  have nt : t * t = n * n := by rw [e]
  obtain ⟨lA, lB, lC, lD, lE⟩ := lims_t n0 n1 (show t = n ∨ t = -n by omega)
  exact ren_4 0 n 2 r q0 q1 q2 (t * (-1)) (t * 0) (t * 1) (t * 1) (t * (-1)) (t * 0) (t * 0) (t * 1) (t * (-1)) (t * (-1)) (t * (-2)) (3 * (n * n)) (t * (-1)) (t * 1) (t * (-1)) (t * 1) 5 9 w ht hr lB lC lD lD lB lC lC lD lB hq E KL (by omega) (by omega) (by omega) (by omega) (by omega) (by omega) (by omega) (by omega) (by omega) (by omega) (by omega) (by rw [sqV_t, nt]; rfl) (by rw [sqV_t, nt]; rfl) (Dir.d9 (by omega) (by omega)) (Dir.d5 (by omega) (by omega)) (by decide)
theorem rn_02p5 (n t : Int) (r : Bool) (q0 q1 q2 : Int) (w : World) (ht : Tabs w) (hr : w.rangeAt 0 0 permL) (n0 : 1 ≤ n) (n1 : n ≤ 2000) (e : t = n) (hq : permB q0 q1 q2 = true) (E : K19 0 n 2 r) (KL : K22 0 n 2 r (t * (-1)) (t * 0) (t * 1) (t * 1) (t * (-1)) (t * 0) (t * 0) (t * 1) (t * (-1))) : K6 0 n 2 r 2 1 0 q0 q1 q2 w := by
  have nt : t * t = n * n := by rw [e]
  obtain ⟨lA, lB, lC, lD, lE⟩ := lims_t n0 n1 (show t = n ∨ t = -n by omega)
  exact ren_5 0 n 2 r q0 q1 q2 (t * (-1)) (t * 0) (t * 1) (t * 1) (t * (-1)) (t * 0) (t * 0) (t * 1) (t * (-1)) (t * (-2)) (t * (-1)) (3 * (n * n)) (t * (-1)) (t * 1) (t * 1) (t * (-1)) 11 7 w ht hr lB lC lD lD lB lC lC lD lB hq E KL (by omega) (by omega) (by omega) (by omega) (by omega) (by omega) (by omega) (by omega) (by omega) (by omega) (by omega) (by rw [sqV_t, nt]; rfl) (by rw [sqV_t, nt]; rfl) (Dir.d7 (by omega) (by omega)) (Dir.d11 (by omega) (by omega)) (by decide)
theorem rn_02m0 (n t : Int) (r : Bool) (q0 q1 q2 : Int) (w : World) (ht : Tabs w) (hr : w.rangeAt 0 0 permL) (n0 : 1 ≤ n) (n1 : n ≤ 2000) (e : t = -n) (hq : permB q0 q1 q2 = true) (E : K19 0 n 2 r) (KL : K22 0 n 2 r (t * (-1)) (t * 0) (t * 1) (t * 1) (t * (-1)) (t * 0) (t * 0) (t * 1) (t * (-1))) : K6 0 n 2 r 0 1 2 q0 q1 q2 w := by
  have nt : t * t = n * n := by rw [e]; exact Int.neg_mul_neg n n
  obtain ⟨lA, lB, lC, lD, lE⟩ := lims_t n0 n1 (show t = n ∨ t = -n by omega)
  exact ren_0 0 n 2 r q0 q1 q2 (t * (-1)) (t * 0) (t * 1) (t * 1) (t * (-1)) (t * 0) (t * 0) (t * 1) (t * (-1)) (t * (-1)) (t * 1) (3 * (n * n)) (t * (-1)) (t * 1) (t * 2) (t * 1) 7 11 w ht hr lB lC lD lD lB lC lC lD lB hq E KL (by omega) (by omega) (by omega) (by omega) (by omega) (by omega) (by omega) (by omega) (by omega) (by omega) (by omega) (by rw [sqV_t, nt]; rfl) (by rw [sqV_t, nt]; rfl) (Dir.d11 (by omega) (by omega)) (Dir.d7 (by omega) (by omega)) (by decide)
theorem rn_02m1 (n t : Int) (r : Bool) (q0 q1 q2 : Int) (w : World) (ht : Tabs w) (hr : w.rangeAt 0 0 permL) (n0 : 1 ≤ n) (n1 : n ≤ 2000) (e : t = -n) (hq : permB q0 q1 q2 = true) (E : K19 0 n 2 r) (KL : K22 0 n 2 r (t * (-1)) (t * 0) (t * 1) (t * 1) (t * (-1)) (t * 0) (t * 0) (t * 1) (t * (-1))) : K6 0 n 2 r 0 2 1 q0 q1 q2 w := by
  have nt : t * t = n * n := by rw [e]; exact Int.neg_mul_neg n n
  obtain ⟨lA, lB, lC, lD, lE⟩ := lims_t n0 n1 (show t = n ∨ t = -n by omega)
  exact ren_1 0 n 2 r q0 q1 q2 (t * (-1)) (t * 0) (t * 1) (t * 1) (t * (-1)) (t * 0) (t * 0) (t * 1) (t * (-1)) (t * 1) (t * 2) (3 * (n * n)) (t * (-1)) (t * 1) (t * (-2)) (t * (-1)) 1 9 w ht hr lB lC lD lD lB lC lC lD lB hq E KL (by omega) (by omega) (by omega) (by omega) (by omega) (by omega) (by omega) (by omega) (by omega) (by omega) (by omega) (by rw [sqV_t, nt]; rfl) (by rw [sqV_t, nt]; rfl) (Dir.d9 (by omega) (by omega)) (Dir.d1 (by omega) (by omega)) (by decide)
theorem rn_02m2 (n t : Int) (r : Bool) (q0 q1 q2 : Int) (w : World) (ht : Tabs w) (hr : w.rangeAt 0 0 permL) (n0 : 1 ≤ n) (n1 : n ≤ 2000) (e : t = -n) (hq : permB q0 q1 q2 = true) (E : K19 0 n 2 r) (KL : K22 0 n 2 r (t * (-1)) (t * 0) (t * 1) (t * 1) (t * (-1)) (t * 0) (t * 0) (t * 1) (t * (-1))) : K6 0 n 2 r 1 0 2 q0 q1 q2 w := by
  have nt : t * t = n * n := by rw [e]; exact Int.neg_mul_neg n n
  obtain ⟨lA, lB, lC, lD, lE⟩ := lims_t n0 n1 (show t = n ∨ t = -n by omega)
  exact ren_2 0 n 2 r q0 q1 q2 (t * (-1)) (t * 0) (t * 1) (t * 1) (t * (-1)) (t * 0) (t * 0) (t * 1) (t * (-1)) (t * 1) (t * (-1)) (3 * (n * n)) (t * (-1)) (t * 1) (t * 1) (t * 2) 9 5 w ht hr lB lC lD lD lB lC lC lD lB hq E KL (by omega) (by omega) (by omega) (by omega) (by omega) (by omega) (by omega) (by omega) (by omega) (by omega) (by omega) (by rw [sqV_t, nt]; rfl) (by rw [sqV_t, nt]; rfl) (Dir.d5 (by omega) (by omega)) (Dir.d9 (by omega) (by omega)) (by decide)
theorem rn_02m3 (n t : Int) (r : Bool) (q0 q1 q2 : Int) (w : World) (ht : Tabs w) (hr : w.rangeAt 0 0 permL) (n0 : 1 ≤ n) (n1 : n ≤ 2000) (e : t = -n) (hq : permB q0 q1 q2 = true) (E : K19 0 n 2 r) (KL : K22 0 n 2 r (t * (-1)) (t * 0) (t * 1) (t * 1) (t * (-1)) (t * 0) (t * 0) (t * 1) (t * (-1))) : K6 0 n 2 r 1 2 0 q0 q1 q2 w := by
  have nt : t * t = n * n := by rw [e]; exact Int.neg_mul_neg n n
  obtain ⟨lA, lB, lC, lD, lE⟩ := lims_t n0 n1 (show t = n ∨ t = -n by omega)
  exact ren_3 0 n 2 r q0 q1 q2 (t * (-1)) (t * 0) (t * 1) (t * 1) (t * (-1)) (t * 0) (t * 0) (t * 1) (t * (-1)) (t * 2) (t * 1) (3 * (n * n)) (t * (-1)) (t * 1) (t * (-1)) (t * (-2)) 3 7 w ht hr lB lC lD lD lB lC lC lD lB hq E KL (by omega) (by omega) (by omega) (by omega) (by omega) (by omega) (by omega) (by omega) (by omega) (by omega) (by omega) (by rw [sqV_t, nt]; rfl) (by rw [sqV_t, nt]; rfl) (Dir.d7 (by omega) (by omega)) (Dir.d3 (by omega) (by omega)) (by decide)
theorem rn_02m4 (n t : Int) (r : Bool) (q0 q1 q2 : Int) (w : World) (ht : Tabs w) (hr : w.rangeAt 0 0 permL) (n0 : 1 ≤ n) (n1 : n ≤ 2000) (e : t = -n) (hq : permB q0 q1 q2 = true) (E : K19 0 n 2 r) (KL : K22 0 n 2 r (t * (-1)) (t * 0) (t * 1) (t * 1) (t * (-1)) (t * 0) (t * 0) (t * 1) (t * (-1))) : K6 0 n 2 r 2 0 1 q0 q1 q2 w := by
  have nt : t * t = n * n := by rw [e]; exact Int.neg_mul_neg n n
  obtain ⟨lA, lB, lC, lD, lE⟩ := lims_t n0 n1 (show t = n ∨ t = -n by omega)
  exact ren_4 0 n 2 r q0 q1 q2 (t * (-1)) (t * 0) (t * 1) (t * 1) (t * (-1)) (t * 0) (t * 0) (t * 1) (t * (-1)) (t * (-1)) (t * (-2)) (3 * (n * n)) (t * (-1)) (t * 1) (t * (-1)) (t * 1) 11 3 w ht hr lB lC lD lD lB lC lC lD lB hq E KL (by omega) (by omega) (by omega) (by omega) (by omega) (by omega) (by omega) (by omega) (by omega) (by omega) (by omega) (by rw [sqV_t, nt]; rfl) (by rw [sqV_t, nt]; rfl) (Dir.d3 (by omega) (by omega)) (Dir.d11 (by omega) (by omega)) (by decide)
theorem rn_02m5 (n t : Int) (r : Bool) (q0 q1 q2 : Int) (w : World) (ht : Tabs w) (hr : w.rangeAt 0 0 permL) (n0 : 1 ≤ n) (n1 : n ≤ 2000) (e : t = -n) (hq : permB q0 q1 q2 = true) (E : K19 0 n 2 r) (KL : K22 0 n 2 r (t * (-1)) (t * 0) (t * 1) (t * 1) (t * (-1)) (t * 0) (t * 0) (t * 1) (t * (-1))) : K6 0 n 2 r 2 1 0 q0 q1 q2 w := by
  have nt : t * t = n * n := by rw [e]; exact Int.neg_mul_neg n n
  obtain ⟨lA, lB, lC, lD, lE⟩ := lims_t n0 n1 (show t = n ∨ t = -n by omega)
  exact ren_5 0 n 2 r q0 q1 q2 (t * (-1)) (t * 0) (t * 1) (t * 1) (t * (-1)) (t * 0) (t * 0) (t * 1) (t * (-1)) (t * (-2)) (t * (-1)) (3 * (n * n)) (t * (-1)) (t * 1) (t * 1) (t * (-1)) 5 1 w ht hr lB lC lD lD lB lC lC lD lB hq E KL (by omega) (by omega) (by omega) (by omega) (by omega) (by omega) (by omega) (by omega) (by omega) (by omega) (by omega) (by rw [sqV_t, nt]; rfl) (by rw [sqV_t, nt]; rfl) (Dir.d1 (by omega) (by omega)) (Dir.d5 (by omega) (by omega)) (by decide)
theorem rn_10p0 (n t : Int) (r : Bool) (q0 q1 q2 : Int) (w : World) (ht : Tabs w) (hr : w.rangeAt 0 0 permL) (n0 : 1 ≤ n) (n1 : n ≤ 2000) (e : t = n) (hq : permB q0 q1 q2 = true) (E : K19 1 n 0 r) (KL : K22 1 n 0 r (t * 1) (t * 0) (t * 0) (t * 0) (t * 1) (t * 0) (t * 0) (t * 0) (t * 1)) : K6 1 n 0 r 0 1 2 q0 q1 q2 w := by
  have nt : t * t = n * n := by rw [e]
  obtain ⟨lA, lB, lC, lD, lE⟩ := lims_t n0 n1 (show t = n ∨ t = -n by omega)
  exact ren_0 1 n 0 r q0 q1 q2 (t * 1) (t * 0) (t * 0) (t * 0) (t * 1) (t * 0) (t * 0) (t * 0) (t * 1) (t * 1) (t * 0) (1 * (n * n)) (t * 1) (t * 0) (t * (-1)) (t * (-1)) 8 0 w ht hr lD lC lC lC lD lC lC lC lD hq E KL (by omega) (by omega) (by omega) (by omega) (by omega) (by omega) (by omega) (by omega) (by omega) (by omega) (by omega) (by rw [sqV_t, nt]; rfl) (by rw [sqV_t, nt]; rfl) (Dir.d0 (by omega) (by omega)) (Dir.d8 (by omega) (by omega)) (by decide)
theorem rn_10p1 (n t : Int) (r : Bool) (q0 q1 q2 : Int) (w : World) (ht : Tabs w) (hr : w.rangeAt 0 0 permL) (n0 : 1 ≤ n) (n1 : n ≤ 2000) (e : t = n) (hq : permB q0 q1 q2 = true) (E : K19 1 n 0 r) (KL : K22 1 n 0 r (t * 1) (t * 0) (t * 0) (t * 0) (t * 1) (t * 0) (t * 0) (t * 0) (t * 1)) : K6 1 n 0 r 0 2 1 q0 q1 q2 w := by
  have nt : t * t = n * n := by rw [e]
  obtain ⟨lA, lB, lC, lD, lE⟩ := lims_t n0 n1 (show t = n ∨ t = -n by omega)
  exact ren_1 1 n 0 r q0 q1 q2 (t * 1) (t * 0) (t * 0) (t * 0) (t * 1) (t * 0) (t * 0) (t * 0) (t * 1) (t * 0) (t * (-1)) (1 * (n * n)) (t * 1) (t * 0) (t * 1) (t * 1) 2 10 w ht hr lD lC lC lC lD lC lC lC lD hq E KL (by omega) (by omega) (by omega) (by omega) (by omega) (by omega) (by omega) (by omega) (by omega) (by omega) (by omega) (by rw [sqV_t, nt]; rfl) (by rw [sqV_t, nt]; rfl) (Dir.d10 (by omega) (by omega)) (Dir.d2 (by omega) (by omega)) (by decide)
theorem rn_10p2 (n t : Int) (r : Bool) (q0 q1 q2 : Int) (w : World) (ht : Tabs w) (hr : w.rangeAt 0 0 permL) (n0 : 1 ≤ n) (n1 : n ≤ 2000) (e : t = n) (hq : permB q0 q1 q2 = true) (E : K19 1 n 0 r) (KL : K22 1 n 0 r (t * 1) (t * 0) (t * 0) (t * 0) (t * 1) (t * 0) (t * 0) (t * 0) (t * 1)) : K6 1 n 0 r 1 0 2 q0 q1 q2 w := by
  have nt : t * t = n * n := by rw [e]
  obtain ⟨lA, lB, lC, lD, lE⟩ := lims_t n0 n1 (show t = n ∨ t = -n by omega)
  exact ren_2 1 n 0 r q0 q1 q2 (t * 1) (t * 0) (t * 0) (t * 0) (t * 1) (t * 0) (t * 0) (t * 0) (t * 1) (t * (-1)) (t * 0) (1 * (n * n)) (t * 1) (t * 0) (t * 0) (t * (-1)) 10 6 w ht hr lD lC lC lC lD lC lC lC lD hq E KL (by omega) (by omega) (by omega) (by omega) (by omega) (by omega) (by omega) (by omega) (by omega) (by omega) (by omega) (by rw [sqV_t, nt]; rfl) (by rw [sqV_t, nt]; rfl) (Dir.d6 (by omega) (by omega)) (Dir.d10 (by omega) (by omega)) (by decide)
theorem rn_10p3 (n t : Int) (r : Bool) (q0 q1 q2 : Int) (w : World) (ht : Tabs w) (hr : w.rangeAt 0 0 permL) (n0 : 1 ≤ n) (n1 : n ≤ 2000) (e : t = n) (hq : permB q0 q1 q2 = true) (E : K19 1 n 0 r) (KL : K22 1 n 0 r (t * 1) (t * 0) (t * 0) (t * 0) (t * 1) (t * 0) (t * 0) (t * 0) (t * 1)) : K6 1 n 0 r 1 2 0 q0 q1 q2 w := by
  have nt : t * t = n * n := by rw [e]
  obtain ⟨lA, lB, lC, lD, lE⟩ := lims_t n0 n1 (show t = n ∨ t = -n by omega)
  exact ren_3 1 n 0 r q0 q1 q2 (t * 1) (t * 0) (t * 0) (t * 0) (t * 1) (t * 0) (t * 0) (t * 0) (t * 1) (t * (-1)) (t * (-1)) (1 * (n * n)) (t * 1) (t * 0) (t * 0) (t * 1) 4 8 w ht hr lD lC lC lC lD lC lC lC lD hq E KL (by omega) (by omega) (by omega) (by omega) (by omega) (by omega) (by omega) (by omega) (by omega) (by omega) (by omega) (by rw [sqV_t, nt]; rfl) (by rw [sqV_t, nt]; rfl) (Dir.d8 (by omega) (by omega)) (Dir.d4 (by omega) (by omega)) (by decide)
theorem rn_10p4 (n t : Int) (r : Bool) (q0 q1 q2 : Int) (w : World) (ht : Tabs w) (hr : w.rangeAt 0 0 permL) (n0 : 1 ≤ n) (n1 : n ≤ 2000) (e : t = n) (hq : permB q0 q1 q2 = true) (E : K19 1 n 0 r) (KL : K22 1 n 0 r (t * 1) (t * 0) (t * 0) (t * 0) (t * 1) (t * 0) (t * 0) (t * 0) (t * 1)) : K6 1 n 0 r 2 0 1 q0 q1 q2 w := by
  have nt : t * t = n * n := by rw [e]
  obtain ⟨lA, lB, lC, lD, lE⟩ := lims_t n0 n1 (show t = n ∨ t = -n by omega)
  exact ren_4 1 n 0 r q0 q1 q2 (t * 1) (t * 0) (t * 0) (t * 0) (t * 1) (t * 0) (t * 0) (t * 0) (t * 1) (t * 0) (t * 1) (1 * (n * n)) (t * 1) (t * 0) (t * 1) (t * 0) 0 4 w ht hr lD lC lC lC lD lC lC lC lD hq E KL (by omega) (by omega) (by omega) (by omega) (by omega) (by omega) (by omega) (by omega) (by omega) (by omega) (by omega) (by rw [sqV_t, nt]; rfl) (by rw [sqV_t, nt]; rfl) (Dir.d4 (by omega) (by omega)) (Dir.d0 (by omega) (by omega)) (by decide)
theorem rn_10p5 (n t : Int) (r : Bool) (q0 q1 q2 : Int) (w : World) (ht : Tabs w) (hr : w.rangeAt 0 0 permL) (n0 : 1 ≤ n) (n1 : n ≤ 2000) (e : t = n) (hq : permB q0 q1 q2 = true) (E : K19 1 n 0 r) (KL : K22 1 n 0 r (t * 1) (t * 0) (t * 0) (t * 0) (t * 1) (t * 0) (t * 0) (t * 0) (t * 1)) : K6 1 n 0 r 2 1 0 q0 q1 q2 w := by
  have nt : t * t = n * n := by rw [e]
  obtain ⟨lA, lB, lC, lD, lE⟩ := lims_t n0 n1 (show t = n ∨ t = -n by omega)
  exact ren_5 1 n 0 r q0 q1 q2 (t * 1) (t * 0) (t * 0) (t * 0) (t * 1) (t * 0) (t * 0) (t * 0) (t * 1) (t * 1) (t * 1) (1 * (n * n)) (t * 1) (t * 0) (t * (-1)) (t * 0) 6 2 w ht hr lD lC lC lC lD lC lC lC lD hq E KL (by omega) (by omega) (by omega) (by omega) (by omega) (by omega) (by omega) (by omega) (by omega) (by omega) (by omega) (by rw [sqV_t, nt]; rfl) (by rw [sqV_t, nt]; rfl) (Dir.d2 (by omega) (by omega)) (Dir.d6 (by omega) (by omega)) (by decide)
theorem rn_10m0 (n t : Int) (r : Bool) (q0 q1 q2 : Int) (w : World) (ht : Tabs w) (hr : w.rangeAt 0 0 permL) (n0 : 1 ≤ n) (n1 : n ≤ 2000) (e : t = -n) (hq : permB q0 q1 q2 = true) (E : K19 1 n 0 r) (KL : K22 1 n 0 r (t * 1) (t * 0) (t * 0) (t * 0) (t * 1) (t * 0) (t * 0) (t * 0) (t * 1)) : K6 1 n 0 r 0 1 2 q0 q1 q2 w := by
  have nt : t * t = n * n := by rw [e]; exact Int.neg_mul_neg n n
  obtain ⟨lA, lB, lC, lD, lE⟩ := lims_t n0 n1 (show t = n ∨ t = -n by omega)
  exact ren_0 1 n 0 r q0 q1 q2 (t * 1) (t * 0) (t * 0) (t * 0) (t * 1) (t * 0) (t * 0) (t * 0) (t * 1) (t * 1) (t * 0) (1 * (n * n)) (t * 1) (t * 0) (t * (-1)) (t * (-1)) 2 6 w ht hr lD lC lC lC lD lC lC lC lD hq E KL (by omega) (by omega) (by omega) (by omega) (by omega) (by omega) (by omega) (by omega) (by omega) (by omega) (by omega) (by rw [sqV_t, nt]; rfl) (by rw [sqV_t, nt]; rfl) (Dir.d6 (by omega) (by omega)) (Dir.d2 (by omega) (by omega)) (by decide)
theorem rn_10m1 (n t : Int) (r : Bool) (q0 q1 q2 : Int) (w : World) (ht : Tabs w) (hr : w.rangeAt 0 0 permL) (n0 : 1 ≤ n) (n1 : n ≤ 2000) (e : t = -n) (hq : permB q0 q1 q2 = true) (E : K19 1 n 0 r) (KL : K22 1 n 0 r (t * 1) (t * 0) (t * 0) (t * 0) (t * 1) (t * 0) (t * 0) (t * 0) (t * 1)) : K6 1 n 0 r 0 2 1 q0 q1 q2 w := by
  have nt : t * t = n * n := by rw [e]; exact Int.neg_mul_neg n n
  obtain ⟨lA, lB, lC, lD, lE⟩ := lims_t n0 n1 (show t = n ∨ t = -n by omega)
  exact ren_1 1 n 0 r q0 q1 q2 (t * 1) (t * 0) (t * 0) (t * 0) (t * 1) (t * 0) (t * 0) (t * 0) (t * 1) (t * 0) (t * (-1)) (1 * (n * n)) (t * 1) (t * 0) (t * 1) (t * 1) 8 4 w ht hr lD lC lC lC lD lC lC lC lD hq E KL (by omega) (by omega) (by omega) (by omega) (by omega) (by omega) (by omega) (by omega) (by omega) (by omega) (by omega) (by rw [sqV_t, nt]; rfl) (by rw [sqV_t, nt]; rfl) (Dir.d4 (by omega) (by omega)) (Dir.d8 (by omega) (by omega)) (by decide)
theorem rn_10m2 (n t : Int) (r : Bool) (q0 q1 q2 : Int) (w : World) (ht : Tabs w) (hr : w.rangeAt 0 0 permL) (n0 : 1 ≤ n) (n1 : n ≤ 2000) (e : t = -n) (hq : permB q0 q1 q2 = true) (E : K19 1 n 0 r) (KL : K22 1 n 0 r (t * 1) (t * 0) (t * 0) (t * 0) (t * 1) (t * 0) (t * 0) (t * 0) (t * 1)) : K6 1 n 0 r 1 0 2 q0 q1 q2 w := by
  have nt : t * t = n * n := by rw [e]; exact Int.neg_mul_neg n n
  obtain ⟨lA, lB, lC, lD, lE⟩ := lims_t n0 n1 (show t = n ∨ t = -n by omega)
  exact ren_2 1 n 0 r q0 q1 q2 (t * 1) (t * 0) (t * 0) (t * 0) (t * 1) (t * 0) (t * 0) (t * 0) (t * 1) (t * (-1)) (t * 0) (1 * (n * n)) (t * 1) (t * 0) (t * 0) (t * (-1)) 4 0 w ht hr lD lC lC lC lD lC lC lC lD hq E KL (by omega) (by omega) (by omega) (by omega) (by omega) (by omega) (by omega) (by omega) (by omega) (by omega) (by omega) (by rw [sqV_t, nt]; rfl) (by rw [sqV_t, nt]; rfl) (Dir.d0 (by omega) (by omega)) (Dir.d4 (by omega) (by omega)) (by decide)
theorem rn_10m3 (n t : Int) (r : Bool) (q0 q1 q2 : Int) (w : World) (ht : Tabs w) (hr : w.rangeAt 0 0 permL) (n0 : 1 ≤ n) (n1 : n ≤ 2000) (e : t = -n) (hq : permB q0 q1 q2 = true) (E : K19 1 n 0 r) (KL : K22 1 n 0 r (t * 1) (t * 0) (t * 0) (t * 0) (t * 1) (t * 0) (t * 0) (t * 0) (t * 1)) : K6 1 n 0 r 1 2 0 q0 q1 q2 w := by
  have nt : t * t = n * n := by rw [e]; exact Int.neg_mul_neg n n
  obtain ⟨lA, lB, lC, lD, lE⟩ := lims_t n0 n1 (show t = n ∨ t = -n by omega)
  exact ren_3 1 n 0 r q0 q1 q2 (t * 1) (t * 0) (t * 0) (t * 0) (t * 1) (t * 0) (t * 0) (t * 0) (t * 1) (t * (-1)) (t * (-1)) (1 * (n * n)) (t * 1) (t * 0) (t * 0) (t * 1) 10 2 w ht hr lD lC lC lC lD lC lC lC lD hq E KL (by omega) (by omega) (by omega) (by omega) (by omega) (by omega) (by omega) (by omega) (by omega) (by omega) (by omega) (by rw [sqV_t, nt]; rfl) (by rw [sqV_t, nt]; rfl) (Dir.d2 (by omega) (by omega)) (Dir.d10 (by omega) (by omega)) (by decide)
theorem rn_10m4 (n t : Int) (r : Bool) (q0 q1 q2 : Int) (w : World) (ht : Tabs w) (hr : w.rangeAt 0 0 permL) (n0 : 1 ≤ n) (n1 : n ≤ 2000) (e : t = -n) (hq : permB q0 q1 q2 = true) (E : K19 1 n 0 r) (KL : K22 1 n 0 r (t * 1) (t * 0) (t * 0) (t * 0) (t * 1) (t * 0) (t * 0) (t * 0) (t * 1)) : K6 1 n 0 r 2 0 1 q0 q1 q2 w := by
  have nt : t * t = n * n := by rw [e]; exact Int.neg_mul_neg n n
  obtain ⟨lA, lB, lC, lD, lE⟩ := lims_t n0 n1 (show t = n ∨ t = -n by omega)
  exact ren_4 1 n 0 r q0 q1 q2 (t * 1) (t * 0) (t * 0) (t * 0) (t * 1) (t * 0) (t * 0) (t * 0) (t * 1) (t * 0) (t * 1) (1 * (n * n)) (t * 1) (t * 0) (t * 1) (t * 0) 6 10 w ht hr lD lC lC lC lD lC lC lC lD hq E KL (by omega) (by omega) (by omega) (by omega) (by omega) (by omega) (by omega) (by omega) (by omega) (by omega) (by omega) (by rw [sqV_t, nt]; rfl) (by rw [sqV_t, nt]; rfl) (Dir.d10 (by omega) (by omega)) (Dir.d6 (by omega) (by omega)) (by decide)
theorem rn_10m5 (n t : Int) (r : Bool) (q0 q1 q2 : Int) (w : World) (ht : Tabs w) (hr : w.rangeAt 0 0 permL) (n0 : 1 ≤ n) (n1 : n ≤ 2000) (e : t = -n) (hq : permB q0 q1 q2 = true) (E : K19 1 n 0 r) (KL : K22 1 n 0 r (t * 1) (t * 0) (t * 0) (t * 0) (t * 1) (t * 0) (t * 0) (t * 0) (t * 1)) : K6 1 n 0 r 2 1 0 q0 q1 q2 w := by
  have nt : t * t = n * n := by rw [e]; exact Int.neg_mul_neg n n
  obtain ⟨lA, lB, lC, lD, lE⟩ := lims_t n0 n1 (show t = n ∨ t = -n by omega)
  exact ren_5 1 n 0 r q0 q1 q2 (t * 1) (t * 0) (t * 0) (t * 0) (t * 1) (t * 0) (t * 0) (t * 0) (t * 1) (t * 1) (t * 1) (1 * (n * n)) (t * 1) (t * 0) (t * (-1)) (t * 0) 0 8 w ht hr lD lC lC lC lD lC lC lC lD hq E KL (by omega) (by omega) (by omega) (by omega) (by omega) (by omega) (by omega) (by omega) (by omega) (by omega) (by omega) (by rw [sqV_t, nt]; rfl) (by rw [sqV_t, nt]; rfl) (Dir.d8 (by omega) (by omega)) (Dir.d0 (by omega) (by omega)) (by decide)
theorem rn_11p0 (n t : Int) (r : Bool) (q0 q1 q2 : Int) (w : World) (ht : Tabs w) (hr : w.rangeAt 0 0 permL) (n0 : 1 ≤ n) (n1 : n ≤ 2000) (e : t = n) (hq : permB q0 q1 q2 = true) (E : K19 1 n 1 r) (KL : K22 1 n 1 r (t * 0) (t * 1) (t * 0) (t * 0) (t * 0) (t * 1) (t * 1) (t * 0) (t * 0)) : K6 1 n 1 r 0 1 2 q0 q1 q2 w := by
  have nt : t * t = n * n := by rw [e]
  obtain ⟨lA, lB, lC, lD, lE⟩ := lims_t n0 n1 (show t = n ∨ t = -n by omega)
  exact ren_0 1 n 1 r q0 q1 q2 (t * 0) (t * 1) (t * 0) (t * 0) (t * 0) (t * 1) (t * 1) (t * 0) (t * 0) (t * (-1)) (t * (-1)) (1 * (n * n)) (t * (-1)) (t * (-1)) (t * 0) (t * 1) 4 8 w ht hr lC lD lC lC lC lD lD lC lC hq E KL (by omega) (by omega) (by omega) (by omega) (by omega) (by omega) (by omega) (by omega) (by omega) (by omega) (by omega) (by rw [sqV_t, nt]; rfl) (by rw [sqV_t, nt]; rfl) (Dir.d8 (by omega) (by omega)) (Dir.d4 (by omega) (by omega)) (by decide)
theorem rn_11p1 (n t : Int) (r : Bool) (q0 q1 q2 : Int) (w : World) (ht : Tabs w) (hr : w.rangeAt 0 0 permL) (n0 : 1 ≤ n) (n1 : n ≤ 2000) (e : t = n) (hq : permB q0 q1 q2 = true) (E : K19 1 n 1 r) (KL : K22 1 n 1 r (t * 0) (t * 1) (t * 0) (t * 0) (t * 0) (t * 1) (t * 1) (t * 0) (t * 0)) : K6 1 n 1 r 0 2 1 q0 q1 q2 w := by
  have nt : t * t = n * n := by rw [e]
  obtain ⟨lA, lB, lC, lD, lE⟩ := lims_t n0 n1 (show t = n ∨ t = -n by omega)
  exact ren_1 1 n 1 r q0 q1 q2 (t * 0) (t * 1) (t * 0) (t * 0) (t * 0) (t * 1) (t * 1) (t * 0) (t * 0) (t * (-1)) (t * 0) (1 * (n * n)) (t * (-1)) (t * (-1)) (t * 0) (t * (-1)) 10 6 w ht hr lC lD lC lC lC lD lD lC lC hq E KL (by omega) (by omega) (by omega) (by omega) (by omega) (by omega) (by omega) (by omega) (by omega) (by omega) (by omega) (by rw [sqV_t, nt]; rfl) (by rw [sqV_t, nt]; rfl) (Dir.d6 (by omega) (by omega)) (Dir.d10 (by omega) (by omega)) (by decide)
theorem rn_11p2 (n t : Int) (r : Bool) (q0 q1 q2 : Int) (w : World) (ht : Tabs w) (hr : w.rangeAt 0 0 permL) (n0 : 1 ≤ n) (n1 : n ≤ 2000) (e : t = n) (hq : permB q0 q1 q2 = true) (E : K19 1 n 1 r) (KL : K22 1 n 1 r (t * 0) (t * 1) (t * 0) (t * 0) (t * 0) (t * 1) (t * 1) (t * 0) (t * 0)) : K6 1 n 1 r 1 0 2 q0 q1 q2 w := by
  have nt : t * t = n * n := by rw [e]
  obtain ⟨lA, lB, lC, lD, lE⟩ := lims_t n0 n1 (show t = n ∨ t = -n by omega)
  exact ren_2 1 n 1 r q0 q1 q2 (t * 0) (t * 1) (t * 0) (t * 0) (t * 0) (t * 1) (t * 1) (t * 0) (t * 0) (t * 1) (t * 1) (1 * (n * n)) (t * (-1)) (t * (-1)) (t * (-1)) (t * 0) 6 2 w ht hr lC lD lC lC lC lD lD lC lC hq E KL (by omega) (by omega) (by omega) (by omega) (by omega) (by omega) (by omega) (by omega) (by omega) (by omega) (by omega) (by rw [sqV_t, nt]; rfl) (by rw [sqV_t, nt]; rfl) (Dir.d2 (by omega) (by omega)) (Dir.d6 (by omega) (by omega)) (by decide)
theorem rn_11p3 (n t : Int) (r : Bool) (q0 q1 q2 : Int) (w : World) (ht : Tabs w) (hr : w.rangeAt 0 0 permL) (n0 : 1 ≤ n) (n1 : n ≤ 2000) (e : t = n) (hq : permB q0 q1 q2 = true) (E : K19 1 n 1 r) (KL : K22 1 n 1 r (t * 0) (t * 1) (t * 0) (t * 0) (t * 0) (t * 1) (t * 1) (t * 0) (t * 0)) : K6 1 n 1 r 1 2 0 q0 q1 q2 w := by
  have nt : t * t = n * n := by rw [e]
  obtain ⟨lA, lB, lC, lD, lE⟩ := lims_t n0 n1 (show t = n ∨ t = -n by omega)
  exact ren_3 1 n 1 r q0 q1 q2 (t * 0) (t * 1) (t * 0) (t * 0) (t * 0) (t * 1) (t * 1) (t * 0) (t * 0) (t * 0) (t * 1) (1 * (n * n)) (t * (-1)) (t * (-1)) (t * 1) (t * 0) 0 4 w ht hr lC lD lC lC lC lD lD lC lC hq E KL (by omega) (by omega) (by omega) (by omega) (by omega) (by omega) (by omega) (by omega) (by omega) (by omega) (by omega) (by rw [sqV_t, nt]; rfl) (by rw [sqV_t, nt]; rfl) (Dir.d4 (by omega) (by omega)) (Dir.d0 (by omega) (by omega)) (by decide)
theorem rn_11p4 (n t : Int) (r : Bool) (q0 q1 q2 : Int) (w : World) (ht : Tabs w) (hr : w.rangeAt 0 0 permL) (n0 : 1 ≤ n) (n1 : n ≤ 2000) (e : t = n) (hq : permB q0 q1 q2 = true) (E : K19 1 n 1 r) (KL : K22 1 n 1 r (t * 0) (t * 1) (t * 0) (t * 0) (t * 0) (t * 1) (t * 1) (t * 0) (t * 0)) : K6 1 n 1 r 2 0 1 q0 q1 q2 w := by
  have nt : t * t = n * n := by rw [e]
  obtain ⟨lA, lB, lC, lD, lE⟩ := lims_t n0 n1 (show t = n ∨ t = -n by omega)
  exact ren_4 1 n 1 r q0 q1 q2 (t * 0) (t * 1) (t * 0) (t * 0) (t * 0) (t * 1) (t * 1) (t * 0) (t * 0) (t * 1) (t * 0) (1 * (n * n)) (t * (-1)) (t * (-1)) (t * (-1)) (t * (-1)) 8 0 w ht hr lC lD lC lC lC lD lD lC lC hq E KL (by omega) (by omega) (by omega) (by omega) (by omega) (by omega) (by omega) (by omega) (by omega) (by omega) (by omega) (by rw [sqV_t, nt]; rfl) (by rw [sqV_t, nt]; rfl) (Dir.d0 (by omega) (by omega)) (Dir.d8 (by omega) (by omega)) (by decide)
theorem rn_11p5 (n t : Int) (r : Bool) (q0 q1 q2 : Int) (w : World) (ht : Tabs w) (hr : w.rangeAt 0 0 permL) (n0 : 1 ≤ n) (n1 : n ≤ 2000) (e : t = n) (hq : permB q0 q1 q2 = true) (E : K19 1 n 1 r) (KL : K22 1 n 1 r (t * 0) (t * 1) (t * 0) (t * 0) (t * 0) (t * 1) (t * 1) (t * 0) (t * 0)) : K6 1 n 1 r 2 1 0 q0 q1 q2 w := by
  have nt : t * t = n * n := by rw [e]
  obtain ⟨lA, lB, lC, lD, lE⟩ := lims_t n0 n1 (show t = n ∨ t = -n by omega)
  exact ren_5 1 n 1 r q0 q1 q2 (t * 0) (t * 1) (t * 0) (t * 0) (t * 0) (t * 1) (t * 1) (t * 0) (t * 0) (t * 0) (t * (-1)) (1 * (n * n)) (t * (-1)) (t * (-1)) (t * 1) (t * 1) 2 10 w ht hr lC lD lC lC lC lD lD lC lC hq E KL (by omega) (by omega) (by omega) (by omega) (by omega) (by omega) (by omega) (by omega) (by omega) (by omega) (by omega) (by rw [sqV_t, nt]; rfl) (by rw [sqV_t, nt]; rfl) (Dir.d10 (by omega) (by omega)) (Dir.d2 (by omega) (by omega)) (by decide)
theorem rn_11m0 (n t : Int) (r : Bool) (q0 q1 q2 : Int) (w : World) (ht : Tabs w) (hr : w.rangeAt 0 0 permL) (n0 : 1 ≤ n) (n1 : n ≤ 2000) (e : t = -n) (hq : permB q0 q1 q2 = true) (E : K19 1 n 1 r) (KL : K22 1 n 1 r (t * 0) (t * 1) (t * 0) (t * 0) (t * 0) (t * 1) (t * 1) (t * 0) (t * 0)) : K6 1 n 1 r 0 1 2 q0 q1 q2 w := by
  have nt : t * t = n * n := by rw [e]; exact Int.neg_mul_neg n n
  obtain ⟨lA, lB, lC, lD, lE⟩ := lims_t n0 n1 (show t = n ∨ t = -n by omega)
  exact ren_0 1 n 1 r q0 q1 q2 (t * 0) (t * 1) (t * 0) (t * 0) (t * 0) (t * 1) (t * 1) (t * 0) (t * 0) (t * (-1)) (t * (-1)) (1 * (n * n)) (t * (-1)) (t * (-1)) (t * 0) (t * 1) 10 2 w ht hr lC lD lC lC lC lD lD lC lC hq E KL (by omega) (by omega) (by omega) (by omega) (by omega) (by omega) (by omega) (by omega) (by omega) (by omega) (by omega) (by rw [sqV_t, nt]; rfl) (by rw [sqV_t, nt]; rfl) (Dir.d2 (by omega) (by omega)) (Dir.d10 (by omega) (by omega)) (by decide)
theorem rn_11m1 (n t : Int) (r : Bool) (q0 q1 q2 : Int) (w : World) (ht : Tabs w) (hr : w.rangeAt 0 0 permL) (n0 : 1 ≤ n) (n1 : n ≤ 2000) (e : t = -n) (hq : permB q0 q1 q2 = true) (E : K19 1 n 1 r) (KL : K22 1 n 1 r (t * 0) (t * 1) (t * 0) (t * 0) (t * 0) (t * 1) (t * 1) (t * 0) (t * 0)) : K6 1 n 1 r 0 2 1 q0 q1 q2 w := by
  have nt : t * t = n * n := by rw [e]; exact Int.neg_mul_neg n n
  obtain ⟨lA, lB, lC, lD, lE⟩ := lims_t n0 n1 (show t = n ∨ t = -n by omega)
  exact ren_1 1 n 1 r q0 q1 q2 (t * 0) (t * 1) (t * 0) (t * 0) (t * 0) (t * 1) (t * 1) (t * 0) (t * 0) (t * (-1)) (t * 0) (1 * (n * n)) (t * (-1)) (t * (-1)) (t * 0) (t * (-1)) 4 0 w ht hr lC lD lC lC lC lD lD lC lC hq E KL (by omega) (by omega) (by omega) (by omega) (by omega) (by omega) (by omega) (by omega) (by omega) (by omega) (by omega) (by rw [sqV_t, nt]; rfl) (by rw [sqV_t, nt]; rfl) (Dir.d0 (by omega) (by omega)) (Dir.d4 (by omega) (by omega)) (by decide)
theorem rn_11m2 (n t : Int) (r : Bool) (q0 q1 q2 : Int) (w : World) (ht : Tabs w) (hr : w.rangeAt 0 0 permL) (n0 : 1 ≤ n) (n1 : n ≤ 2000) (e : t = -n) (hq : permB q0 q1 q2 = true) (E : K19 1 n 1 r) (KL : K22 1 n 1 r (t * 0) (t * 1) (t * 0) (t * 0) (t * 0) (t * 1) (t * 1) (t * 0) (t * 0)) : K6 1 n 1 r 1 0 2 q0 q1 q2 w := by
  have nt : t * t = n * n := by rw [e]; exact Int.neg_mul_neg n n
  obtain ⟨lA, lB, lC, lD, lE⟩ := lims_t n0 n1 (show t = n ∨ t = -n by omega)
  exact ren_2 1 n 1 r q0 q1 q2 (t * 0) (t * 1) (t * 0) (t * 0) (t * 0) (t * 1) (t * 1) (t * 0) (t * 0) (t * 1) (t * 1) (1 * (n * n)) (t * (-1)) (t * (-1)) (t * (-1)) (t * 0) 0 8 w ht hr lC lD lC lC lC lD lD lC lC hq E KL (by omega) (by omega) (by omega) (by omega) (by omega) (by omega) (by omega) (by omega) (by omega) (by omega) (by omega) (by rw [sqV_t, nt]; rfl) (by rw [sqV_t, nt]; rfl) (Dir.d8 (by omega) (by omega)) (Dir.d0 (by omega) (by omega)) (by decide)
theorem rn_11m3 (n t : Int) (r : Bool) (q0 q1 q2 : Int) (w : World) (ht : Tabs w) (hr : w.rangeAt 0 0 permL) (n0 : 1 ≤ n) (n1 : n ≤ 2000) (e : t = -n) (hq : permB q0 q1 q2 = true) (E : K19 1 n 1 r) (KL : K22 1 n 1 r (t * 0) (t * 1) (t * 0) (t * 0) (t * 0) (t * 1) (t * 1) (t * 0) (t * 0)) : K6 1 n 1 r 1 2 0 q0 q1 q2 w := by
  have nt : t * t = n * n := by rw [e]; exact Int.neg_mul_neg n n
  obtain ⟨lA, lB, lC, lD, lE⟩ := lims_t n0 n1 (show t = n ∨ t = -n by omega)
  exact ren_3 1 n 1 r q0 q1 q2 (t * 0) (t * 1) (t * 0) (t * 0) (t * 0) (t * 1) (t * 1) (t * 0) (t * 0) (t * 0) (t * 1) (1 * (n * n)) (t * (-1)) (t * (-1)) (t * 1) (t * 0) 6 10 w ht hr lC lD lC lC lC lD lD lC lC hq E KL (by omega) (by omega) (by omega) (by omega) (by omega) (by omega) (by omega) (by omega) (by omega) (by omega) (by omega) (by rw [sqV_t, nt]; rfl) (by rw [sqV_t, nt]; rfl) (Dir.d10 (by omega) (by omega)) (Dir.d6 (by omega) (by omega)) (by decide)
theorem rn_11m4 (n t : Int) (r : Bool) (q0 q1 q2 : Int) (w : World) (ht : Tabs w) (hr : w.rangeAt 0 0 permL) (n0 : 1 ≤ n) (n1 : n ≤ 2000) (e : t = -n) (hq : permB q0 q1 q2 = true) (E : K19 1 n 1 r) (KL : K22 1 n 1 r (t * 0) (t * 1) (t * 0) (t * 0) (t * 0) (t * 1) (t * 1) (t * 0) (t * 0)) : K6 1 n 1 r 2 0 1 q0 q1 q2 w := by
  have nt : t * t = n * n := by rw [e]; exact Int.neg_mul_neg n n
  obtain ⟨lA, lB, lC, lD, lE⟩ := lims_t n0 n1 (show t = n ∨ t = -n by omega)
  exact ren_4 1 n 1 r q0 q1 q2 (t * 0) (t * 1) (t * 0) (t * 0) (t * 0) (t * 1) (t * 1) (t * 0) (t * 0) (t * 1) (t * 0) (1 * (n * n)) (t * (-1)) (t * (-1)) (t * (-1)) (t * (-1)) 2 6 w ht hr lC lD lC lC lC lD lD lC lC hq E KL (by omega) (by omega) (by omega) (by omega) (by omega) (by omega) (by omega) (by omega) (by omega) (by omega) (by omega) (by rw [sqV_t, nt]; rfl) (by rw [sqV_t, nt]; rfl) (Dir.d6 (by omega) (by omega)) (Dir.d2 (by omega) (by omega)) (by decide)
theorem rn_11m5 (n t : Int) (r : Bool) (q0 q1 q2 : Int) (w : World) (ht : Tabs w) (hr : w.rangeAt 0 0 permL) (n0 : 1 ≤ n) (n1 : n ≤ 2000) (e : t = -n) (hq : permB q0 q1 q2 = true) (E : K19 1 n 1 r) (KL : K22 1 n 1 r (t * 0) (t * 1) (t * 0) (t * 0) (t * 0) (t * 1) (t * 1) (t * 0) (t * 0)) : K6 1 n 1 r 2 1 0 q0 q1 q2 w := by
  have nt : t * t = n * n := by rw [e]; exact Int.neg_mul_neg n n
  obtain ⟨lA, lB, lC, lD, lE⟩ := lims_t n0 n1 (show t = n ∨ t = -n by omega)
  exact ren_5 1 n 1 r q0 q1 q2 (t * 0) (t * 1) (t * 0) (t * 0) (t * 0) (t * 1) (t * 1) (t * 0) (t * 0) (t * 0) (t * (-1)) (1 * (n * n)) (t * (-1)) (t * (-1)) (t * 1) (t * 1) 8 4 w ht hr lC lD lC lC lC lD lD lC lC hq E KL (by omega) (by omega) (by omega) (by omega) (by omega) (by omega) (by omega) (by omega) (by omega) (by omega) (by omega) (by rw [sqV_t, nt]; rfl) (by rw [sqV_t, nt]; rfl) (Dir.d4 (by omega) (by omega)) (Dir.d8 (by omega) (by omega)) (by decide)
theorem rn_12p0 (n t : Int) (r : Bool) (q0 q1 q2 : Int) (w : World) (ht : Tabs w) (hr : w.rangeAt 0 0 permL) (n0 : 1 ≤ n) (n1 : n ≤ 2000) (e : t = n) (hq : permB q0 q1 q2 = true) (E : K19 1 n 2 r) (KL : K22 1 n 2 r (t * 0) (t * 0) (t * 1) (t * 1) (t * 0) (t * 0) (t * 0) (t * 1) (t * 0)) : K6 1 n 2 r 0 1 2 q0 q1 q2 w := by
  have nt : t * t = n * n := by rw [e]
  obtain ⟨lA, lB, lC, lD, lE⟩ := lims_t n0 n1 (show t = n ∨ t = -n by omega)
  exact ren_0 1 n 2 r q0 q1 q2 (t * 0) (t * 0) (t * 1) (t * 1) (t * 0) (t * 0) (t * 0) (t * 1) (t * 0) (t * 0) (t * 1) (1 * (n * n)) (t * 0) (t * 1) (t * 1) (t * 0) 0 4 w ht hr lC lC lD lD lC lC lC lD lC hq E KL (by omega) (by omega) (by omega) (by omega) (by omega) (by omega) (by omega) (by omega) (by omega) (by omega) (by omega) (by rw [sqV_t, nt]; rfl) (by rw [sqV_t, nt]; rfl) (Dir.d4 (by omega) (by omega)) (Dir.d0 (by omega) (by omega)) (by decide)
theorem rn_12p1 (n t : Int) (r : Bool) (q0 q1 q2 : Int) (w : World) (ht : Tabs w) (hr : w.rangeAt 0 0 permL) (n0 : 1 ≤ n) (n1 : n ≤ 2000) (e : t = n) (hq : permB q0 q1 q2 = true) (E : K19 1 n 2 r) (KL : K22 1 n 2 r (t * 0) (t * 0) (t * 1) (t * 1) (t * 0) (t * 0) (t * 0) (t * 1) (t * 0)) : K6 1 n 2 r 0 2 1 q0 q1 q2 w := by
  have nt : t * t = n * n := by rw [e]
  obtain ⟨lA, lB, lC, lD, lE⟩ := lims_t n0 n1 (show t = n ∨ t = -n by omega)
  exact ren_1 1 n 2 r q0 q1 q2 (t * 0) (t * 0) (t * 1) (t * 1) (t * 0) (t * 0) (t * 0) (t * 1) (t * 0) (t * 1) (t * 1) (1 * (n * n)) (t * 0) (t * 1) (t * (-1)) (t * 0) 6 2 w ht hr lC lC lD lD lC lC lC lD lC hq E KL (by omega) (by omega) (by omega) (by omega) (by omega) (by omega) (by omega) (by omega) (by omega) (by omega) (by omega) (by rw [sqV_t, nt]; rfl) (by rw [sqV_t, nt]; rfl) (Dir.d2 (by omega) (by omega)) (Dir.d6 (by omega) (by omega)) (by decide)
theorem rn_12p2 (n t : Int) (r : Bool) (q0 q1 q2 : Int) (w : World) (ht : Tabs w) (hr : w.rangeAt 0 0 permL) (n0 : 1 ≤ n) (n1 : n ≤ 2000) (e : t = n) (hq : permB q0 q1 q2 = true) (E : K19 1 n 2 r) (KL : K22 1 n 2 r (t * 0) (t * 0) (t * 1) (t * 1) (t * 0) (t * 0) (t * 0) (t * 1) (t * 0)) : K6 1 n 2 r 1 0 2 q0 q1 q2 w := by
  have nt : t * t = n * n := by rw [e]
  obtain ⟨lA, lB, lC, lD, lE⟩ := lims_t n0 n1 (show t = n ∨ t = -n by omega)
  exact ren_2 1 n 2 r q0 q1 q2 (t * 0) (t * 0) (t * 1) (t * 1) (t * 0) (t * 0) (t * 0) (t * 1) (t * 0) (t * 0) (t * (-1)) (1 * (n * n)) (t * 0) (t * 1) (t * 1) (t * 1) 2 10 w ht hr lC lC lD lD lC lC lC lD lC hq E KL (by omega) (by omega) (by omega) (by omega) (by omega) (by omega) (by omega) (by omega) (by omega) (by omega) (by omega) (by rw [sqV_t, nt]; rfl) (by rw [sqV_t, nt]; rfl) (Dir.d10 (by omega) (by omega)) (Dir.d2 (by omega) (by omega)) (by decide)
theorem rn_12p3 (n t : Int) (r : Bool) (q0 q1 q2 : Int) (w : World) (ht : Tabs w) (hr : w.rangeAt 0 0 permL) (n0 : 1 ≤ n) (n1 : n ≤ 2000) (e : t = n) (hq : permB q0 q1 q2 = true) (E : K19 1 n 2 r) (KL : K22 1 n 2 r (t * 0) (t * 0) (t * 1) (t * 1) (t * 0) (t * 0) (t * 0) (t * 1) (t * 0)) : K6 1 n 2 r 1 2 0 q0 q1 q2 w := by
  have nt : t * t = n * n := by rw [e]
  obtain ⟨lA, lB, lC, lD, lE⟩ := lims_t n0 n1 (show t = n ∨ t = -n by omega)
  exact ren_3 1 n 2 r q0 q1 q2 (t * 0) (t * 0) (t * 1) (t * 1) (t * 0) (t * 0) (t * 0) (t * 1) (t * 0) (t * 1) (t * 0) (1 * (n * n)) (t * 0) (t * 1) (t * (-1)) (t * (-1)) 8 0 w ht hr lC lC lD lD lC lC lC lD lC hq E KL (by omega) (by omega) (by omega) (by omega) (by omega) (by omega) (by omega) (by omega) (by omega) (by omega) (by omega) (by rw [sqV_t, nt]; rfl) (by rw [sqV_t, nt]; rfl) (Dir.d0 (by omega) (by omega)) (Dir.d8 (by omega) (by omega)) (by decide)
theorem rn_12p4 (n t : Int) (r : Bool) (q0 q1 q2 : Int) (w : World) (ht : Tabs w) (hr : w.rangeAt 0 0 permL) (n0 : 1 ≤ n) (n1 : n ≤ 2000) (e : t = n) (hq : permB q0 q1 q2 = true) (E : K19 1 n 2 r) (KL : K22 1 n 2 r (t * 0) (t * 0) (t * 1) (t * 1) (t * 0) (t * 0) (t * 0) (t * 1) (t * 0)) : K6 1 n 2 r 2 0 1 q0 q1 q2 w := by
  have nt : t * t = n * n := by rw [e]
  obtain ⟨lA, lB, lC, lD, lE⟩ := lims_t n0 n1 (show t = n ∨ t = -n by omega)
  exact ren_4 1 n 2 r q0 q1 q2 (t * 0) (t * 0) (t * 1) (t * 1) (t * 0) (t * 0) (t * 0) (t * 1) (t * 0) (t * (-1)) (t * (-1)) (1 * (n * n)) (t * 0) (t * 1) (t * 0) (t * 1) 4 8 w ht hr lC lC lD lD lC lC lC lD lC hq E KL (by omega) (by omega) (by omega) (by omega) (by omega) (by omega) (by omega) (by omega) (by omega) (by omega) (by omega) (by rw [sqV_t, nt]; rfl) (by rw [sqV_t, nt]; rfl) (Dir.d8 (by omega) (by omega)) (Dir.d4 (by omega) (by omega)) (by decide)
theorem rn_12p5 (n t : Int) (r : Bool) (q0 q1 q2 : Int) (w : World) (ht : Tabs w) (hr : w.rangeAt 0 0 permL) (n0 : 1 ≤ n) (n1 : n ≤ 2000) (e : t = n) (hq : permB q0 q1 q2 = true) (E : K19 1 n 2 r) (KL : K22 1 n 2 r (t * 0) (t * 0) (t * 1) (t * 1) (t * 0) (t * 0) (t * 0) (t * 1) (t * 0)) : K6 1 n 2 r 2 1 0 q0 q1 q2 w := by
  have nt : t * t = n * n := by rw [e]
  obtain ⟨lA, lB, lC, lD, lE⟩ := lims_t n0 n1 (show t = n ∨ t = -n by omega)
  exact ren_5 1 n 2 r q0 q1 q2 (t * 0) (t * 0) (t * 1) (t * 1) (t * 0) (t * 0) (t * 0) (t * 1) (t * 0) (t * (-1)) (t * 0) (1 * (n * n)) (t * 0) (t * 1) (t * 0) (t * (-1)) 10 6 w ht hr lC lC lD lD lC lC lC lD lC hq E KL (by omega) (by omega) (by omega) (by omega) (by omega) (by omega) (by omega) (by omega) (by omega) (by omega) (by omega) (by rw [sqV_t, nt]; rfl) (by rw [sqV_t, nt]; rfl) (Dir.d6 (by omega) (by omega)) (Dir.d10 (by omega) (by omega)) (by decide)
theorem rn_12m0 (n t : Int) (r : Bool) (q0 q1 q2 : Int) (w : World) (ht : Tabs w) (hr : w.rangeAt 0 0 permL) (n0 : 1 ≤ n) (n1 : n ≤ 2000) (e : t = -n) (hq : permB q0 q1 q2 = true) (E : K19 1 n 2 r) (KL : K22 1 n 2 r (t * 0) (t * 0) (t * 1) (t * 1) (t * 0) (t * 0) (t * 0) (t * 1) (t * 0)) : K6 1 n 2 r 0 1 2 q0 q1 q2 w := by
  have nt : t * t = n * n := by rw [e]; exact Int.neg_mul_neg n n
  obtain ⟨lA, lB, lC, lD, lE⟩ := lims_t n0 n1 (show t = n ∨ t = -n by omega)
  exact ren_0 1 n 2 r q0 q1 q2 (t * 0) (t * 0) (t * 1) (t * 1) (t * 0) (t * 0) (t * 0) (t * 1) (t * 0) (t * 0) (t * 1) (1 * (n * n)) (t * 0) (t * 1) (t * 1) (t * 0) 6 10 w ht hr lC lC lD lD lC lC lC lD lC hq E KL (by omega) (by omega) (by omega) (by omega) (by omega) (by omega) (by omega) (by omega) (by omega) (by omega) (by omega) (by rw [sqV_t, nt]; rfl) (by rw [sqV_t, nt]; rfl) (Dir.d10 (by omega) (by omega)) (Dir.d6 (by omega) (by omega)) (by decide)
theorem rn_12m1 (n t : Int) (r : Bool) (q0 q1 q2 : Int) (w : World) (ht : Tabs w) (hr : w.rangeAt 0 0 permL) (n0 : 1 ≤ n) (n1 : n ≤ 2000) (e : t = -n) (hq : permB q0 q1 q2 = true) (E : K19 1 n 2 r) (KL : K22 1 n 2 r (t * 0) (t * 0) (t * 1) (t * 1) (t * 0) (t * 0) (t * 0) (t * 1) (t * 0)) : K6 1 n 2 r 0 2 1 q0 q1 q2 w := by
  have nt : t * t = n * n := by rw [e]; exact Int.neg_mul_neg n n
  obtain ⟨lA, lB, lC, lD, lE⟩ := lims_t n0 n1 (show t = n ∨ t = -n by omega)
  exact ren_1 1 n 2 r q0 q1 q2 (t * 0) (t * 0) (t * 1) (t * 1) (t * 0) (t * 0) (t * 0) (t * 1) (t * 0) (t * 1) (t * 1) (1 * (n * n)) (t * 0) (t * 1) (t * (-1)) (t * 0) 0 8 w ht hr lC lC lD lD lC lC lC lD lC hq E KL (by omega) (by omega) (by omega) (by omega) (by omega) (by omega) (by omega) (by omega) (by omega) (by omega) (by omega) (by rw [sqV_t, nt]; rfl) (by rw [sqV_t, nt]; rfl) (Dir.d8 (by omega) (by omega)) (Dir.d0 (by omega) (by omega)) (by decide)
theorem rn_12m2 (n t : Int) (r : Bool) (q0 q1 q2 : Int) (w : World) (ht : Tabs w) (hr : w.rangeAt 0 0 permL) (n0 : 1 ≤ n) (n1 : n ≤ 2000) (e : t = -n) (hq : permB q0 q1 q2 = true) (E : K19 1 n 2 r) (KL : K22 1 n 2 r (t * 0) (t * 0) (t * 1) (t * 1) (t * 0) (t * 0) (t * 0) (t * 1) (t * 0)) : K6 1 n 2 r 1 0 2 q0 q1 q2 w := by
  have nt : t * t = n * n := by rw [e]; exact Int.neg_mul_neg n n
  obtain ⟨lA, lB, lC, lD, lE⟩ := lims_t n0 n1 (show t = n ∨ t = -n by omega)
  exact ren_2 1 n 2 r q0 q1 q2 (t * 0) (t * 0) (t * 1) (t * 1) (t * 0) (t * 0) (t * 0) (t * 1) (t * 0) (t * 0) (t * (-1)) (1 * (n * n)) (t * 0) (t * 1) (t * 1) (t * 1) 8 4 w ht hr lC lC lD lD lC lC lC lD lC hq E KL (by omega) (by omega) (by omega) (by omega) (by omega) (by omega) (by omega) (by omega) (by omega) (by omega) (by omega) (by rw [sqV_t, nt]; rfl) (by rw [sqV_t, nt]; rfl) (Dir.d4 (by omega) (by omega)) (Dir.d8 (by omega) (by omega)) (by decide)
theorem rn_12m3 (n t : Int) (r : Bool) (q0 q1 q2 : Int) (w : World) (ht : Tabs w) (hr : w.rangeAt 0 0 permL) (n0 : 1 ≤ n) (n1 : n ≤ 2000) (e : t = -n) (hq : permB q0 q1 q2 = true) (E : K19 1 n 2 r) (KL : K22 1 n 2 r (t * 0) (t * 0) (t * 1) (t * 1) (t * 0) (t * 0) (t * 0) (t * 1) (t * 0)) : K6 1 n 2 r 1 2 0 q0 q1 q2 w := by
  have nt : t * t = n * n := by rw [e]; exact Int.neg_mul_neg n n
  obtain ⟨lA, lB, lC, lD, lE⟩ := lims_t n0 n1 (show t = n ∨ t = -n by omega)
  exact ren_3 1 n 2 r q0 q1 q2 (t * 0) (t * 0) (t * 1) (t * 1) (t * 0) (t * 0) (t * 0) (t * 1) (t * 0) (t * 1) (t * 0) (1 * (n * n)) (t * 0) (t * 1) (t * (-1)) (t * (-1)) 2 6 w ht hr lC lC lD lD lC lC lC lD lC hq E KL (by omega) (by omega) (by omega) (by omega) (by omega) (by omega) (by omega) (by omega) (by omega) (by omega) (by omega) (by rw [sqV_t, nt]; rfl) (by rw [sqV_t, nt]; rfl) (Dir.d6 (by omega) (by omega)) (Dir.d2 (by omega) (by omega)) (by decide)
theorem rn_12m4 (n t : Int) (r : Bool) (q0 q1 q2 : Int) (w : World) (ht : Tabs w) (hr : w.rangeAt 0 0 permL) (n0 : 1 ≤ n) (n1 : n ≤ 2000) (e : t = -n) (hq : permB q0 q1 q2 = true) (E : K19 1 n 2 r) (KL : K22 1 n 2 r (t * 0) (t * 0) (t * 1) (t * 1) (t * 0) (t * 0) (t * 0) (t * 1) (t * 0)) : K6 1 n 2 r 2 0 1 q0 q1 q2 w := by
  have nt : t * t = n * n := by rw [e]; exact Int.neg_mul_neg n n
  obtain ⟨lA, lB, lC, lD, lE⟩ := lims_t n0 n1 (show t = n ∨ t = -n by omega)
  exact ren_4 1 n 2 r q0 q1 q2 (t * 0) (t * 0) (t * 1) (t * 1) (t * 0) (t * 0) (t * 0) (t * 1) (t * 0) (t * (-1)) (t * (-1)) (1 * (n * n)) (t * 0) (t * 1) (t * 0) (t * 1) 10 2 w ht hr lC lC lD lD lC lC lC lD lC hq E KL (by omega) (by omega) (by omega) (by omega) (by omega) (by omega) (by omega) (by omega) (by omega) (by omega) (by omega) (by rw [sqV_t, nt]; rfl) (by rw [sqV_t, nt]; rfl) (Dir.d2 (by omega) (by omega)) (Dir.d10 (by omega) (by omega)) (by decide)
theorem rn_12m5 (n t : Int) (r : Bool) (q0 q1 q2 : Int) (w : World) (ht : Tabs w) (hr : w.rangeAt 0 0 permL) (n0 : 1 ≤ n) (n1 : n ≤ 2000) (e : t = -n) (hq : permB q0 q1 q2 = true) (E : K19 1 n 2 r) (KL : K22 1 n 2 r (t * 0) (t * 0) (t * 1) (t * 1) (t * 0) (t * 0) (t * 0) (t * 1) (t * 0)) : K6 1 n 2 r 2 1 0 q0 q1 q2 w := by
  have nt : t * t = n * n := by rw [e]; exact Int.neg_mul_neg n n
  obtain ⟨lA, lB, lC, lD, lE⟩ := lims_t n0 n1 (show t = n ∨ t = -n by omega)
  exact ren_5 1 n 2 r q0 q1 q2 (t * 0) (t * 0) (t * 1) (t * 1) (t * 0) (t * 0) (t * 0) (t * 1) (t * 0) (t * (-1)) (t * 0) (1 * (n * n)) (t * 0) (t * 1) (t * 0) (t * (-1)) 4 0 w ht hr lC lC lD lD lC lC lC lD lC hq E KL (by omega) (by omega) (by omega) (by omega) (by omega) (by omega) (by omega) (by omega) (by omega) (by omega) (by omega) (by rw [sqV_t, nt]; rfl) (by rw [sqV_t, nt]; rfl) (Dir.d0 (by omega) (by omega)) (Dir.d4 (by omega) (by omega)) (by decide)
theorem rn_20p0 (n t : Int) (r : Bool) (q0 q1 q2 : Int) (w : World) (ht : Tabs w) (hr : w.rangeAt 0 0 permL) (n0 : 1 ≤ n) (n1 : n ≤ 2000) (e : t = n) (hq : permB q0 q1 q2 = true) (E : K19 2 n 0 r) (KL : K22 2 n 0 r (t * 1) (t * (-2)) (t * 1) (t * 1) (t * 1) (t * (-2)) (t * (-2)) (t * 1) (t * 1)) : K6 2 n 0 r 0 1 2 q0 q1 q2 w := by
  have nt : t * t = n * n := by rw [e]
  obtain ⟨lA, lB, lC, lD, lE⟩ := lims_t n0 n1 (show t = n ∨ t = -n by omega)
  exact ren_0 2 n 0 r q0 q1 q2 (t * 1) (t * (-2)) (t * 1) (t * 1) (t * 1) (t * (-2)) (t * (-2)) (t * 1) (t * 1) (t * 3) (t * 3) (9 * (n * n)) (t * 3) (t * 3) (t * 0) (t * (-3)) 10 2 w ht hr lD lA lD lD lD lA lA lD lD hq E KL (by omega) (by omega) (by omega) (by omega) (by omega) (by omega) (by omega) (by omega) (by omega) (by omega) (by omega) (by rw [sqV_t, nt]; rfl) (by rw [sqV_t, nt]; rfl) (Dir.d2 (by omega) (by omega)) (Dir.d10 (by omega) (by omega)) (by decide)
theorem rn_20p1 (n t : Int) (r : Bool) (q0 q1 q2 : Int) (w : World) (ht : Tabs w) (hr : w.rangeAt 0 0 permL) (n0 : 1 ≤ n) (n1 : n ≤ 2000) (e : t = n) (hq : permB q0 q1 q2 = true) (E : K19 2 n 0 r) (KL : K22 2 n 0 r (t * 1) (t * (-2)) (t * 1) (t * 1) (t * 1) (t * (-2)) (t * (-2)) (t * 1) (t * 1)) : K6 2 n 0 r 0 2 1 q0 q1 q2 w := by
  have nt : t * t = n * n := by rw [e]
  obtain ⟨lA, lB, lC, lD, lE⟩ := lims_t n0 n1 (show t = n ∨ t = -n by omega)
  exact ren_1 2 n 0 r q0 q1 q2 (t * 1) (t * (-2)) (t * 1) (t * 1) (t * 1) (t * (-2)) (t * (-2)) (t * 1) (t * 1) (t * 3) (t * 0) (9 * (n * n)) (t * 3) (t * 3) (t * 0) (t * 3) 4 0 w ht hr lD lA lD lD lD lA lA lD lD hq E KL (by omega) (by omega) (by omega) (by omega) (by omega) (by omega) (by omega) (by omega) (by omega) (by omega) (by omega) (by rw [sqV_t, nt]; rfl) (by rw [sqV_t, nt]; rfl) (Dir.d0 (by omega) (by omega)) (Dir.d4 (by omega) (by omega)) (by decide)
theorem rn_20p2 (n t : Int) (r : Bool) (q0 q1 q2 : Int) (w : World) (ht : Tabs w) (hr : w.rangeAt 0 0 permL) (n0 : 1 ≤ n) (n1 : n ≤ 2000) (e : t = n) (hq : permB q0 q1 q2 = true) (E : K19 2 n 0 r) (KL : K22 2 n 0 r (t * 1) (t * (-2)) (t * 1) (t * 1) (t * 1) (t * (-2)) (t * (-2)) (t * 1) (t * 1)) : K6 2 n 0 r 1 0 2 q0 q1 q2 w := by
  have nt : t * t = n * n := by rw [e]
  obtain ⟨lA, lB, lC, lD, lE⟩ := lims_t n0 n1 (show t = n ∨ t = -n by omega)
  exact ren_2 2 n 0 r q0 q1 q2 (t * 1) (t * (-2)) (t * 1) (t * 1) (t * 1) (t * (-2)) (t * (-2)) (t * 1) (t * 1) (t * (-3)) (t * (-3)) (9 * (n * n)) (t * 3) (t * 3) (t * 3) (t * 0) 0 8 w ht hr lD lA lD lD lD lA lA lD lD hq E KL (by omega) (by omega) (by omega) (by omega) (by omega) (by omega) (by omega) (by omega) (by omega) (by omega) (by omega) (by rw [sqV_t, nt]; rfl) (by rw [sqV_t, nt]; rfl) (Dir.d8 (by omega) (by omega)) (Dir.d0 (by omega) (by omega)) (by decide)
theorem rn_20p3 (n t : Int) (r : Bool) (q0 q1 q2 : Int) (w : World) (ht : Tabs w) (hr : w.rangeAt 0 0 permL) (n0 : 1 ≤ n) (n1 : n ≤ 2000) (e : t = n) (hq : permB q0 q1 q2 = true) (E : K19 2 n 0 r) (KL : K22 2 n 0 r (t * 1) (t * (-2)) (t * 1) (t * 1) (t * 1) (t * (-2)) (t * (-2)) (t * 1) (t * 1)) : K6 2 n 0 r 1 2 0 q0 q1 q2 w := by
  have nt : t * t = n * n := by rw [e]
  obtain ⟨lA, lB, lC, lD, lE⟩ := lims_t n0 n1 (show t = n ∨ t = -n by omega)
  exact ren_3 2 n 0 r q0 q1 q2 (t * 1) (t * (-2)) (t * 1) (t * 1) (t * 1) (t * (-2)) (t * (-2)) (t * 1) (t * 1) (t * 0) (t * (-3)) (9 * (n * n)) (t * 3) (t * 3) (t * (-3)) (t * 0) 6 10 w ht hr lD lA lD lD lD lA lA lD lD hq E KL (by omega) (by omega) (by omega) (by omega) (by omega) (by omega) (by omega) (by omega) (by omega) (by omega) (by omega) (by rw [sqV_t, nt]; rfl) (by rw [sqV_t, nt]; rfl) (Dir.d10 (by omega) (by omega)) (Dir.d6 (by omega) (by omega)) (by decide)
theorem rn_20p4 (n t : Int) (r : Bool) (q0 q1 q2 : Int) (w : World) (ht : Tabs w) (hr : w.rangeAt 0 0 permL) (n0 : 1 ≤ n) (n1 : n ≤ 2000) (e : t = n) (hq : permB q0 q1 q2 = true) (E : K19 2 n 0 r) (KL : K22 2 n 0 r (t * 1) (t * (-2)) (t * 1) (t * 1) (t * 1) (t * (-2)) (t * (-2)) (t * 1) (t * 1)) : K6 2 n 0 r 2 0 1 q0 q1 q2 w := by
  have nt : t * t = n * n := by rw [e]
  obtain ⟨lA, lB, lC, lD, lE⟩ := lims_t n0 n1 (show t = n ∨ t = -n by omega)
  exact ren_4 2 n 0 r q0 q1 q2 (t * 1) (t * (-2)) (t * 1) (t * 1) (t * 1) (t * (-2)) (t * (-2)) (t * 1) (t * 1) (t * (-3)) (t * 0) (9 * (n * n)) (t * 3) (t * 3) (t * 3) (t * 3) 2 6 w ht hr lD lA lD lD lD lA lA lD lD hq E KL (by omega) (by omega) (by omega) (by omega) (by omega) (by omega) (by omega) (by omega) (by omega) (by omega) (by omega) (by rw [sqV_t, nt]; rfl) (by rw [sqV_t, nt]; rfl) (Dir.d6 (by omega) (by omega)) (Dir.d2 (by omega) (by omega)) (by decide)
theorem rn_20p5 (n t : Int) (r : Bool) (q0 q1 q2 : Int) (w : World) (ht : Tabs w) (hr : w.rangeAt 0 0 permL) (n0 : 1 ≤ n) (n1 : n ≤ 2000) (e : t = n) (hq : permB q0 q1 q2 = true) (E : K19 2 n 0 r) (KL : K22 2 n 0 r (t * 1) (t * (-2)) (t * 1) (t * 1) (t * 1) (t * (-2)) (t * (-2)) (t * 1) (t * 1)) : K6 2 n 0 r 2 1 0 q0 q1 q2 w := by
  have nt : t * t = n * n := by rw [e]
  obtain ⟨lA, lB, lC, lD, lE⟩ := lims_t n0 n1 (show t = n ∨ t = -n by omega)
  exact ren_5 2 n 0 r q0 q1 q2 (t * 1) (t * (-2)) (t * 1) (t * 1) (t * 1) (t * (-2)) (t * (-2)) (t * 1) (t * 1) (t * 0) (t * 3) (9 * (n * n)) (t * 3) (t * 3) (t * (-3)) (t * (-3)) 8 4 w ht hr lD lA lD lD lD lA lA lD lD hq E KL (by omega) (by omega) (by omega) (by omega) (by omega) (by omega) (by omega) (by omega) (by omega) (by omega) (by omega) (by rw [sqV_t, nt]; rfl) (by rw [sqV_t, nt]; rfl) (Dir.d4 (by omega) (by omega)) (Dir.d8 (by omega) (by omega)) (by decide)
theorem rn_20m0 (n t : Int) (r : Bool) (q0 q1 q2 : Int) (w : World) (ht : Tabs w) (hr : w.rangeAt 0 0 permL) (n0 : 1 ≤ n) (n1 : n ≤ 2000) (e : t = -n) (hq : permB q0 q1 q2 = true) (E : K19 2 n 0 r) (KL : K22 2 n 0 r (t * 1) (t * (-2)) (t * 1) (t * 1) (t * 1) (t * (-2)) (t * (-2)) (t * 1) (t * 1)) : K6 2 n 0 r 0 1 2 q0 q1 q2 w := by
  have nt : t * t = n * n := by rw [e]; exact Int.neg_mul_neg n n
  obtain ⟨lA, lB, lC, lD, lE⟩ := lims_t n0 n1 (show t = n ∨ t = -n by omega)
  exact ren_0 2 n 0 r q0 q1 q2 (t * 1) (t * (-2)) (t * 1) (t * 1) (t * 1) (t * (-2)) (t * (-2)) (t * 1) (t * 1) (t * 3) (t * 3) (9 * (n * n)) (t * 3) (t * 3) (t * 0) (t * (-3)) 4 8 w ht hr lD lA lD lD lD lA lA lD lD hq E KL (by omega) (by omega) (by omega) (by omega) (by omega) (by omega) (by omega) (by omega) (by omega) (by omega) (by omega) (by rw [sqV_t, nt]; rfl) (by rw [sqV_t, nt]; rfl) (Dir.d8 (by omega) (by omega)) (Dir.d4 (by omega) (by omega)) (by decide)
theorem rn_20m1 (n t : Int) (r : Bool) (q0 q1 q2 : Int) (w : World) (ht : Tabs w) (hr : w.rangeAt 0 0 permL) (n0 : 1 ≤ n) (n1 : n ≤ 2000) (e : t = -n) (hq : permB q0 q1 q2 = true) (E : K19 2 n 0 r) (KL : K22 2 n 0 r (t * 1) (t * (-2)) (t * 1) (t * 1) (t * 1) (t * (-2)) (t * (-2)) (t * 1) (t * 1)) : K6 2 n 0 r 0 2 1 q0 q1 q2 w := by
  have nt : t * t = n * n := by rw [e]; exact Int.neg_mul_neg n n
  obtain ⟨lA, lB, lC, lD, lE⟩ := lims_t n0 n1 (show t = n ∨ t = -n by omega)
  exact ren_1 2 n 0 r q0 q1 q2 (t * 1) (t * (-2)) (t * 1) (t * 1) (t * 1) (t * (-2)) (t * (-2)) (t * 1) (t * 1) (t * 3) (t * 0) (9 * (n * n)) (t * 3) (t * 3) (t * 0) (t * 3) 10 6 w ht hr lD lA lD lD lD lA lA lD lD hq E KL (by omega) (by omega) (by omega) (by omega) (by omega) (by omega) (by omega) (by omega) (by omega) (by omega) (by omega) (by rw [sqV_t, nt]; rfl) (by rw [sqV_t, nt]; rfl) (Dir.d6 (by omega) (by omega)) (Dir.d10 (by omega) (by omega)) (by decide)
theorem rn_20m2 (n t : Int) (r : Bool) (q0 q1 q2 : Int) (w : World) (ht : Tabs w) (hr : w.rangeAt 0 0 permL) (n0 : 1 ≤ n) (n1 : n ≤ 2000) (e : t = -n) (hq : permB q0 q1 q2 = true) (E : K19 2 n 0 r) (KL : K22 2 n 0 r (t * 1) (t * (-2)) (t * 1) (t * 1) (t * 1) (t * (-2)) (t * (-2)) (t * 1) (t * 1)) : K6 2 n 0 r 1 0 2 q0 q1 q2 w := by
  have nt : t * t = n * n := by rw [e]; exact Int.neg_mul_neg n n
  obtain ⟨lA, lB, lC, lD, lE⟩ := lims_t n0 n1 (show t = n ∨ t = -n by omega)
  exact ren_2 2 n 0 r q0 q1 q2 (t * 1) (t * (-2)) (t * 1) (t * 1) (t * 1) (t * (-2)) (t * (-2)) (t * 1) (t * 1) (t * (-3)) (t * (-3)) (9 * (n * n)) (t * 3) (t * 3) (t * 3) (t * 0) 6 2 w ht hr lD lA lD lD lD lA lA lD lD hq E KL (by omega) (by omega) (by omega) (by omega) (by omega) (by omega) (by omega) (by omega) (by omega) (by omega) (by omega) (by rw [sqV_t, nt]; rfl) (by rw [sqV_t, nt]; rfl) (Dir.d2 (by omega) (by omega)) (Dir.d6 (by omega) (by omega)) (by decide)
theorem rn_20m3 (n t : Int) (r : Bool) (q0 q1 q2 : Int) (w : World) (ht : Tabs w) (hr : w.rangeAt 0 0 permL) (n0 : 1 ≤ n) (n1 : n ≤ 2000) (e : t = -n) (hq : permB q0 q1 q2 = true) (E : K19 2 n 0 r) (KL : K22 2 n 0 r (t * 1) (t * (-2)) (t * 1) (t * 1) (t * 1) (t * (-2)) (t * (-2)) (t * 1) (t * 1)) : K6 2 n 0 r 1 2 0 q0 q1 q2 w := by
  have nt : t * t = n * n := by rw [e]; exact Int.neg_mul_neg n n
  obtain ⟨lA, lB, lC, lD, lE⟩ := lims_t n0 n1 (show t = n ∨ t = -n by omega)
  exact ren_3 2 n 0 r q0 q1 q2 (t * 1) (t * (-2)) (t * 1) (t * 1) (t * 1) (t * (-2)) (t * (-2)) (t * 1) (t * 1) (t * 0) (t * (-3)) (9 * (n * n)) (t * 3) (t * 3) (t * (-3)) (t * 0) 0 4 w ht hr lD lA lD lD lD lA lA lD lD hq E KL (by omega) (by omega) (by omega) (by omega) (by omega) (by omega) (by omega) (by omega) (by omega) (by omega) (by omega) (by rw [sqV_t, nt]; rfl) (by rw [sqV_t, nt]; rfl) (Dir.d4 (by omega) (by omega)) (Dir.d0 (by omega) (by omega)) (by decide)
theorem rn_20m4 (n t : Int) (r : Bool) (q0 q1 q2 : Int) (w : World) (ht : Tabs w) (hr : w.rangeAt 0 0 permL) (n0 : 1 ≤ n) (n1 : n ≤ 2000) (e : t = -n) (hq : permB q0 q1 q2 = true) (E : K19 2 n 0 r) (KL : K22 2 n 0 r (t * 1) (t * (-2)) (t * 1) (t * 1) (t * 1) (t * (-2)) (t * (-2)) (t * 1) (t * 1)) : K6 2 n 0 r 2 0 1 q0 q1 q2 w := by
  have nt : t * t = n * n := by rw [e]; exact Int.neg_mul_neg n n
  obtain ⟨lA, lB, lC, lD, lE⟩ := lims_t n0 n1 (show t = n ∨ t = -n by omega)
  exact ren_4 2 n 0 r q0 q1 q2 (t * 1) (t * (-2)) (t * 1) (t * 1) (t * 1) (t * (-2)) (t * (-2)) (t * 1) (t * 1) (t * (-3)) (t * 0) (9 * (n * n)) (t * 3) (t * 3) (t * 3) (t * 3) 8 0 w ht hr lD lA lD lD lD lA lA lD lD hq E KL (by omega) (by omega) (by omega) (by omega) (by omega) (by omega) (by omega) (by omega) (by omega) (by omega) (by omega) (by rw [sqV_t, nt]; rfl) (by rw [sqV_t, nt]; rfl) (Dir.d0 (by omega) (by omega)) (Dir.d8 (by omega) (by omega)) (by decide)
theorem rn_20m5 (n t : Int) (r : Bool) (q0 q1 q2 : Int) (w : World) (ht : Tabs w) (hr : w.rangeAt 0 0 permL) (n0 : 1 ≤ n) (n1 : n ≤ 2000) (e : t = -n) (hq : permB q0 q1 q2 = true) (E : K19 2 n 0 r) (KL : K22 2 n 0 r (t * 1) (t * (-2)) (t * 1) (t * 1) (t * 1) (t * (-2)) (t * (-2)) (t * 1) (t * 1)) : K6 2 n 0 r 2 1 0 q0 q1 q2 w := by
  have nt : t * t = n * n := by rw [e]; exact Int.neg_mul_neg n n
  obtain ⟨lA, lB, lC, lD, lE⟩ := lims_t n0 n1 (show t = n ∨ t = -n by omega)
  exact ren_5 2 n 0 r q0 q1 q2 (t * 1) (t * (-2)) (t * 1) (t * 1) (t * 1) (t * (-2)) (t * (-2)) (t * 1) (t * 1) (t * 0) (t * 3) (9 * (n * n)) (t * 3) (t * 3) (t * (-3)) (t * (-3)) 2 10 w ht hr lD lA lD lD lD lA lA lD lD hq E KL (by omega) (by omega) (by omega) (by omega) (by omega) (by omega) (by omega) (by omega) (by omega) (by omega) (by omega) (by rw [sqV_t, nt]; rfl) (by rw [sqV_t, nt]; rfl) (Dir.d10 (by omega) (by omega)) (Dir.d2 (by omega) (by omega)) (by decide)
theorem rn_21p0 (n t : Int) (r : Bool) (q0 q1 q2 : Int) (w : World) (ht : Tabs w) (hr : w.rangeAt 0 0 permL) (n0 : 1 ≤ n) (n1 : n ≤ 2000) (e : t = n) (hq : permB q0 q1 q2 = true) (E : K19 2 n 1 r) (KL : K22 2 n 1 r (t * 1) (t * 1) (t * (-2)) (t * (-2)) (t * 1) (t * 1) (t * 1) (t * (-2)) (t * 1)) : K6 2 n 1 r 0 1 2 q0 q1 q2 w := by
  have nt : t * t = n * n := by rw [e]
  obtain ⟨lA, lB, lC, lD, lE⟩ := lims_t n0 n1 (show t = n ∨ t = -n by omega)
  exact ren_0 2 n 1 r q0 q1 q2 (t * 1) (t * 1) (t * (-2)) (t * (-2)) (t * 1) (t * 1) (t * 1) (t * (-2)) (t * 1) (t * 0) (t * (-3)) (9 * (n * n)) (t * 0) (t * (-3)) (t * (-3)) (t * 0) 6 10 w ht hr lD lD lA lA lD lD lD lA lD hq E KL (by omega) (by omega) (by omega) (by omega) (by omega) (by omega) (by omega) (by omega) (by omega) (by omega) (by omega) (by rw [sqV_t, nt]; rfl) (by rw [sqV_t, nt]; rfl) (Dir.d10 (by omega) (by omega)) (Dir.d6 (by omega) (by omega)) (by decide)
theorem rn_21p1 (n t : Int) (r : Bool) (q0 q1 q2 : Int) (w : World) (ht : Tabs w) (hr : w.rangeAt 0 0 permL) (n0 : 1 ≤ n) (n1 : n ≤ 2000) (e : t = n) (hq : permB q0 q1 q2 = true) (E : K19 2 n 1 r) (KL : K22 2 n 1 r (t * 1) (t * 1) (t * (-2)) (t * (-2)) (t * 1) (t * 1) (t * 1) (t * (-2)) (t * 1)) : K6 2 n 1 r 0 2 1 q0 q1 q2 w := by
  have nt : t * t = n * n := by rw [e]
  obtain ⟨lA, lB, lC, lD, lE⟩ := lims_t n0 n1 (show t = n ∨ t = -n by omega)
  exact ren_1 2 n 1 r q0 q1 q2 (t * 1) (t * 1) (t * (-2)) (t * (-2)) (t * 1) (t * 1) (t * 1) (t * (-2)) (t * 1) (t * (-3)) (t * (-3)) (9 * (n * n)) (t * 0) (t * (-3)) (t * 3) (t * 0) 0 8 w ht hr lD lD lA lA lD lD lD lA lD hq E KL (by omega) (by omega) (by omega) (by omega) (by omega) (by omega) (by omega) (by omega) (by omega) (by omega) (by omega) (by rw [sqV_t, nt]; rfl) (by rw [sqV_t, nt]; rfl) (Dir.d8 (by omega) (by omega)) (Dir.d0 (by omega) (by omega)) (by decide)
theorem rn_21p2 (n t : Int) (r : Bool) (q0 q1 q2 : Int) (w : World) (ht : Tabs w) (hr : w.rangeAt 0 0 permL) (n0 : 1 ≤ n) (n1 : n ≤ 2000) (e : t = n) (hq : permB q0 q1 q2 = true) (E : K19 2 n 1 r) (KL : K22 2 n 1 r (t * 1) (t * 1) (t * (-2)) (t * (-2)) (t * 1) (t * 1) (t * 1) (t * (-2)) (t * 1)) : K6 2 n 1 r 1 0 2 q0 q1 q2 w := by
  have nt : t * t = n * n := by rw [e]
  obtain ⟨lA, lB, lC, lD, lE⟩ := lims_t n0 n1 (show t = n ∨ t = -n by omega)
  exact ren_2 2 n 1 r q0 q1 q2 (t * 1) (t * 1) (t * (-2)) (t * (-2)) (t * 1) (t * 1) (t * 1) (t * (-2)) (t * 1) (t * 0) (t * 3) (9 * (n * n)) (t * 0) (t * (-3)) (t * (-3)) (t * (-3)) 8 4 w ht hr lD lD lA lA lD lD lD lA lD hq E KL (by omega) (by omega) (by omega) (by omega) (by omega) (by omega) (by omega) (by omega) (by omega) (by omega) (by omega) (by rw [sqV_t, nt]; rfl) (by rw [sqV_t, nt]; rfl) (Dir.d4 (by omega) (by omega)) (Dir.d8 (by omega) (by omega)) (by decide)
theorem rn_21p3 (n t : Int) (r : Bool) (q0 q1 q2 : Int) (w : World) (ht : Tabs w) (hr : w.rangeAt 0 0 permL) (n0 : 1 ≤ n) (n1 : n ≤ 2000) (e : t = n) (hq : permB q0 q1 q2 = true) (E : K19 2 n 1 r) (KL : K22 2 n 1 r (t * 1) (t * 1) (t * (-2)) (t * (-2)) (t * 1) (t * 1) (t * 1) (t * (-2)) (t * 1)) : K6 2 n 1 r 1 2 0 q0 q1 q2 w := by
  have nt : t * t = n * n := by rw [e]
  obtain ⟨lA, lB, lC, lD, lE⟩ := lims_t n0 n1 (show t = n ∨ t = -n by omega)
  exact ren_3 2 n 1 r q0 q1 q2 (t * 1) (t * 1) (t * (-2)) (t * (-2)) (t * 1) (t * 1) (t * 1) (t * (-2)) (t * 1) (t * (-3)) (t * 0) (9 * (n * n)) (t * 0) (t * (-3)) (t * 3) (t * 3) 2 6 w ht hr lD lD lA lA lD lD lD lA lD hq E KL (by omega) (by omega) (by omega) (by omega) (by omega) (by omega) (by omega) (by omega) (by omega) (by omega) (by omega) (by rw [sqV_t, nt]; rfl) (by rw [sqV_t, nt]; rfl) (Dir.d6 (by omega) (by omega)) (Dir.d2 (by omega) (by omega)) (by decide)
theorem rn_21p4 (n t : Int) (r : Bool) (q0 q1 q2 : Int) (w : World) (ht : Tabs w) (hr : w.rangeAt 0 0 permL) (n0 : 1 ≤ n) (n1 : n ≤ 2000) (e : t = n) (hq : permB q0 q1 q2 = true) (E : K19 2 n 1 r) (KL : K22 2 n 1 r (t * 1) (t * 1) (t * (-2)) (t * (-2)) (t * 1) (t * 1) (t * 1) (t * (-2)) (t * 1)) : K6 2 n 1 r 2 0 1 q0 q1 q2 w := by
  have nt : t * t = n * n := by rw [e]
  obtain ⟨lA, lB, lC, lD, lE⟩ := lims_t n0 n1 (show t = n ∨ t = -n by omega)
  exact ren_4 2 n 1 r q0 q1 q2 (t * 1) (t * 1) (t * (-2)) (t * (-2)) (t * 1) (t * 1) (t * 1) (t * (-2)) (t * 1) (t * 3) (t * 3) (9 * (n * n)) (t * 0) (t * (-3)) (t * 0) (t * (-3)) 10 2 w ht hr lD lD lA lA lD lD lD lA lD hq E KL (by omega) (by omega) (by omega) (by omega) (by omega) (by omega) (by omega) (by omega) (by omega) (by omega) (by omega) (by rw [sqV_t, nt]; rfl) (by rw [sqV_t, nt]; rfl) (Dir.d2 (by omega) (by omega)) (Dir.d10 (by omega) (by omega)) (by decide)
theorem rn_21p5 (n t : Int) (r : Bool) (q0 q1 q2 : Int) (w : World) (ht : Tabs w) (hr : w.rangeAt 0 0 permL) (n0 : 1 ≤ n) (n1 : n ≤ 2000) (e : t = n) (hq : permB q0 q1 q2 = true) (E : K19 2 n 1 r) (KL : K22 2 n 1 r (t * 1) (t * 1) (t * (-2)) (t * (-2)) (t * 1) (t * 1) (t * 1) (t * (-2)) (t * 1)) : K6 2 n 1 r 2 1 0 q0 q1 q2 w := by
  have nt : t * t = n * n := by rw [e]
  obtain ⟨lA, lB, lC, lD, lE⟩ := lims_t n0 n1 (show t = n ∨ t = -n by omega)
  exact ren_5 2 n 1 r q0 q1 q2 (t * 1) (t * 1) (t * (-2)) (t * (-2)) (t * 1) (t * 1) (t * 1) (t * (-2)) (t * 1) (t * 3) (t * 0) (9 * (n * n)) (t * 0) (t * (-3)) (t * 0) (t * 3) 4 0 w ht hr lD lD lA lA lD lD lD lA lD hq E KL (by omega) (by omega) (by omega) (by omega) (by omega) (by omega) (by omega) (by omega) (by omega) (by omega) (by omega) (by rw [sqV_t, nt]; rfl) (by rw [sqV_t, nt]; rfl) (Dir.d0 (by omega) (by omega)) (Dir.d4 (by omega) (by omega)) (by decide)
theorem rn_21m0 (n t : Int) (r : Bool) (q0 q1 q2 : Int) (w : World) (ht : Tabs w) (hr : w.rangeAt 0 0 permL) (n0 : 1 ≤ n) (n1 : n ≤ 2000) (e : t = -n) (hq : permB q0 q1 q2 = true) (E : K19 2 n 1 r) (KL : K22 2 n 1 r (t * 1) (t * 1) (t * (-2)) (t * (-2)) (t * 1) (t * 1) (t * 1) (t * (-2)) (t * 1)) : K6 2 n 1 r 0 1 2 q0 q1 q2 w := by
  have nt : t * t = n * n := by rw [e]; exact Int.neg_mul_neg n n
  obtain ⟨lA, lB, lC, lD, lE⟩ := lims_t n0 n1 (show t = n ∨ t = -n by omega)
  exact ren_0 2 n 1 r q0 q1 q2 (t * 1) (t * 1) (t * (-2)) (t * (-2)) (t * 1) (t * 1) (t * 1) (t * (-2)) (t * 1) (t * 0) (t * (-3)) (9 * (n * n)) (t * 0) (t * (-3)) (t * (-3)) (t * 0) 0 4 w ht hr lD lD lA lA lD lD lD lA lD hq E KL (by omega) (by omega) (by omega) (by omega) (by omega) (by omega) (by omega) (by omega) (by omega) (by omega) (by omega) (by rw [sqV_t, nt]; rfl) (by rw [sqV_t, nt]; rfl) (Dir.d4 (by omega) (by omega)) (Dir.d0 (by omega) (by omega)) (by decide)
theorem rn_21m1 (n t : Int) (r : Bool) (q0 q1 q2 : Int) (w : World) (ht : Tabs w) (hr : w.rangeAt 0 0 permL) (n0 : 1 ≤ n) (n1 : n ≤ 2000) (e : t = -n) (hq : permB q0 q1 q2 = true) (E : K19 2 n 1 r) (KL : K22 2 n 1 r (t * 1) (t * 1) (t * (-2)) (t * (-2)) (t * 1) (t * 1) (t * 1) (t * (-2)) (t * 1)) : K6 2 n 1 r 0 2 1 q0 q1 q2 w := by
  have nt : t * t = n * n := by rw [e]; exact Int.neg_mul_neg n n
  obtain ⟨lA, lB, lC, lD, lE⟩ := lims_t n0 n1 (show t = n ∨ t = -n by omega)
  exact ren_1 2 n 1 r q0 q1 q2 (t * 1) (t * 1) (t * (-2)) (t * (-2)) (t * 1) (t * 1) (t * 1) (t * (-2)) (t * 1) (t * (-3)) (t * (-3)) (9 * (n * n)) (t * 0) (t * (-3)) (t * 3) (t * 0) 6 2 w ht hr lD lD lA lA lD lD lD lA lD hq E KL (by omega) (by omega) (by omega) (by omega) (by omega) (by omega) (by omega) (by omega) (by omega) (by omega) (by omega) (by rw [sqV_t, nt]; rfl) (by rw [sqV_t, nt]; rfl) (Dir.d2 (by omega) (by omega)) (Dir.d6 (by omega) (by omega)) (by decide)
theorem rn_21m2 (n t : Int) (r : Bool) (q0 q1 q2 : Int) (w : World) (ht : Tabs w) (hr : w.rangeAt 0 0 permL) (n0 : 1 ≤ n) (n1 : n ≤ 2000) (e : t = -n) (hq : permB q0 q1 q2 = true) (E : K19 2 n 1 r) (KL : K22 2 n 1 r (t * 1) (t * 1) (t * (-2)) (t * (-2)) (t * 1) (t * 1) (t * 1) (t * (-2)) (t * 1)) : K6 2 n 1 r 1 0 2 q0 q1 q2 w := by
  have nt : t * t = n * n := by rw [e]; exact Int.neg_mul_neg n n
  obtain ⟨lA, lB, lC, lD, lE⟩ := lims_t n0 n1 (show t = n ∨ t = -n by omega)
  exact ren_2 2 n 1 r q0 q1 q2 (t * 1) (t * 1) (t * (-2)) (t * (-2)) (t * 1) (t * 1) (t * 1) (t * (-2)) (t * 1) (t * 0) (t * 3) (9 * (n * n)) (t * 0) (t * (-3)) (t * (-3)) (t * (-3)) 2 10 w ht hr lD lD lA lA lD lD lD lA lD hq E KL (by omega) (by omega) (by omega) (by omega) (by omega) (by omega) (by omega) (by omega) (by omega) (by omega) (by omega) (by rw [sqV_t, nt]; rfl) (by rw [sqV_t, nt]; rfl) (Dir.d10 (by omega) (by omega)) (Dir.d2 (by omega) (by omega)) (by decide)
theorem rn_21m3 (n t : Int) (r : Bool) (q0 q1 q2 : Int) (w : World) (ht : Tabs w) (hr : w.rangeAt 0 0 permL) (n0 : 1 ≤ n) (n1 : n ≤ 2000) (e : t = -n) (hq : permB q0 q1 q2 = true) (E : K19 2 n 1 r) (KL : K22 2 n 1 r (t * 1) (t * 1) (t * (-2)) (t * (-2)) (t * 1) (t * 1) (t * 1) (t * (-2)) (t * 1)) : K6 2 n 1 r 1 2 0 q0 q1 q2 w := by
  have nt : t * t = n * n := by rw [e]; exact Int.neg_mul_neg n n
  obtain ⟨lA, lB, lC, lD, lE⟩ := lims_t n0 n1 (show t = n ∨ t = -n by omega)
  exact ren_3 2 n 1 r q0 q1 q2 (t * 1) (t * 1) (t * (-2)) (t * (-2)) (t * 1) (t * 1) (t * 1) (t * (-2)) (t * 1) (t * (-3)) (t * 0) (9 * (n * n)) (t * 0) (t * (-3)) (t * 3) (t * 3) 8 0 w ht hr lD lD lA lA lD lD lD lA lD hq E KL (by omega) (by omega) (by omega) (by omega) (by omega) (by omega) (by omega) (by omega) (by omega) (by omega) (by omega) (by rw [sqV_t, nt]; rfl) (by rw [sqV_t, nt]; rfl) (Dir.d0 (by omega) (by omega)) (Dir.d8 (by omega) (by omega)) (by decide)
theorem rn_21m4 (n t : Int) (r : Bool) (q0 q1 q2 : Int) (w : World) (ht : Tabs w) (hr : w.rangeAt 0 0 permL) (n0 : 1 ≤ n) (n1 : n ≤ 2000) (e : t = -n) (hq : permB q0 q1 q2 = true) (E : K19 2 n 1 r) (KL : K22 2 n 1 r (t * 1) (t * 1) (t * (-2)) (t * (-2)) (t * 1) (t * 1) (t * 1) (t * (-2)) (t * 1)) : K6 2 n 1 r 2 0 1 q0 q1 q2 w := by
  have nt : t * t = n * n := by rw [e]; exact Int.neg_mul_neg n n
  obtain ⟨lA, lB, lC, lD, lE⟩ := lims_t n0 n1 (show t = n ∨ t = -n by omega)
  exact ren_4 2 n 1 r q0 q1 q2 (t * 1) (t * 1) (t * (-2)) (t * (-2)) (t * 1) (t * 1) (t * 1) (t * (-2)) (t * 1) (t * 3) (t * 3) (9 * (n * n)) (t * 0) (t * (-3)) (t * 0) (t * (-3)) 4 8 w ht hr lD lD lA lA lD lD lD lA lD hq E KL (by omega) (by omega) (by omega) (by omega) (by omega) (by omega) (by omega) (by omega) (by omega) (by omega) (by omega) (by rw [sqV_t, nt]; rfl) (by rw [sqV_t, nt]; rfl) (Dir.d8 (by omega) (by omega)) (Dir.d4 (by omega) (by omega)) (by decide)
theorem rn_21m5 (n t : Int) (r : Bool) (q0 q1 q2 : Int) (w : World) (ht : Tabs w) (hr : w.rangeAt 0 0 permL) (n0 : 1 ≤ n) (n1 : n ≤ 2000) (e : t = -n) (hq : permB q0 q1 q2 = true) (E : K19 2 n 1 r) (KL : K22 2 n 1 r (t * 1) (t * 1) (t * (-2)) (t * (-2)) (t * 1) (t * 1) (t * 1) (t * (-2)) (t * 1)) : K6 2 n 1 r 2 1 0 q0 q1 q2 w := by
  have nt : t * t = n * n := by rw [e]; exact Int.neg_mul_neg n n
  obtain ⟨lA, lB, lC, lD, lE⟩ := lims_t n0 n1 (show t = n ∨ t = -n by omega)
  exact ren_5 2 n 1 r q0 q1 q2 (t * 1) (t * 1) (t * (-2)) (t * (-2)) (t * 1) (t * 1) (t * 1) (t * (-2)) (t * 1) (t * 3) (t * 0) (9 * (n * n)) (t * 0) (t * (-3)) (t * 0) (t * 3) 10 6 w ht hr lD lD lA lA lD lD lD lA lD hq E KL (by omega) (by omega) (by omega) (by omega) (by omega) (by omega) (by omega) (by omega) (by omega) (by omega) (by omega) (by rw [sqV_t, nt]; rfl) (by rw [sqV_t, nt]; rfl) (Dir.d6 (by omega) (by omega)) (Dir.d10 (by omega) (by omega)) (by decide)
theorem rn_22p0 (n t : Int) (r : Bool) (q0 q1 q2 : Int) (w : World) (ht : Tabs w) (hr : w.rangeAt 0 0 permL) (n0 : 1 ≤ n) (n1 : n ≤ 2000) (e : t = n) (hq : permB q0 q1 q2 = true) (E : K19 2 n 2 r) (KL : K22 2 n 2 r (t * (-2)) (t * 1) (t * 1) (t * 1) (t * (-2)) (t * 1) (t * 1) (t * 1) (t * (-2))) : K6 2 n 2 r 0 1 2 q0 q1 q2 w := by
  have nt : t * t = n * n := by rw [e]
  obtain ⟨lA, lB, lC, lD, lE⟩ := lims_t n0 n1 (show t = n ∨ t = -n by omega)
  exact ren_0 2 n 2 r q0 q1 q2 (t * (-2)) (t * 1) (t * 1) (t * 1) (t * (-2)) (t * 1) (t * 1) (t * 1) (t * (-2)) (t * (-3)) (t * 0) (9 * (n * n)) (t * (-3)) (t * 0) (t * 3) (t * 3) 2 6 w ht hr lA lD lD lD lA lD lD lD lA hq E KL (by omega) (by omega) (by omega) (by omega) (by omega) (by omega) (by omega) (by omega) (by omega) (by omega) (by omega) (by rw [sqV_t, nt]; rfl) (by rw [sqV_t, nt]; rfl) (Dir.d6 (by omega) (by omega)) (Dir.d2 (by omega) (by omega)) (by decide)
theorem rn_22p1 (n t : Int) (r : Bool) (q0 q1 q2 : Int) (w : World) (ht : Tabs w) (hr : w.rangeAt 0 0 permL) (n0 : 1 ≤ n) (n1 : n ≤ 2000) (e : t = n) (hq : permB q0 q1 q2 = true) (E : K19 2 n 2 r) (KL : K22 2 n 2 r (t * (-2)) (t * 1) (t * 1) (t * 1) (t * (-2)) (t * 1) (t * 1) (t * 1) (t * (-2))) : K6 2 n 2 r 0 2 1 q0 q1 q2 w := by
  have nt : t * t = n * n := by rw [e]
  obtain ⟨lA, lB, lC, lD, lE⟩ := lims_t n0 n1 (show t = n ∨ t = -n by omega)
  exact ren_1 2 n 2 r q0 q1 q2 (t * (-2)) (t * 1) (t * 1) (t * 1) (t * (-2)) (t * 1) (t * 1) (t * 1) (t * (-2)) (t * 0) (t * 3) (9 * (n * n)) (t * (-3)) (t * 0) (t * (-3)) (t * (-3)) 8 4 w ht hr lA lD lD lD lA lD lD lD lA hq E KL (by omega) (by omega) (by omega) (by omega) (by omega) (by omega) (by omega) (by omega) (by omega) (by omega) (by omega) (by rw [sqV_t, nt]; rfl) (by rw [sqV_t, nt]; rfl) (Dir.d4 (by omega) (by omega)) (Dir.d8 (by omega) (by omega)) (by decide)
theorem rn_22p2 (n t : Int) (r : Bool) (q0 q1 q2 : Int) (w : World) (ht : Tabs w) (hr : w.rangeAt 0 0 permL) (n0 : 1 ≤ n) (n1 : n ≤ 2000) (e : t = n) (hq : permB q0 q1 q2 = true) (E : K19 2 n 2 r) (KL : K22 2 n 2 r (t * (-2)) (t * 1) (t * 1) (t * 1) (t * (-2)) (t * 1) (t * 1) (t * 1) (t * (-2))) : K6 2 n 2 r 1 0 2 q0 q1 q2 w := by
  have nt : t * t = n * n := by rw [e]
  obtain ⟨lA, lB, lC, lD, lE⟩ := lims_t n0 n1 (show t = n ∨ t = -n by omega)
  exact ren_2 2 n 2 r q0 q1 q2 (t * (-2)) (t * 1) (t * 1) (t * 1) (t * (-2)) (t * 1) (t * 1) (t * 1) (t * (-2)) (t * 3) (t * 0) (9 * (n * n)) (t * (-3)) (t * 0) (t * 0) (t * 3) 4 0 w ht hr lA lD lD lD lA lD lD lD lA hq E KL (by omega) (by omega) (by omega) (by omega) (by omega) (by omega) (by omega) (by omega) (by omega) (by omega) (by omega) (by rw [sqV_t, nt]; rfl) (by rw [sqV_t, nt]; rfl) (Dir.d0 (by omega) (by omega)) (Dir.d4 (by omega) (by omega)) (by decide)
theorem rn_22p3 (n t : Int) (r : Bool) (q0 q1 q2 : Int) (w : World) (ht : Tabs w) (hr : w.rangeAt 0 0 permL) (n0 : 1 ≤ n) (n1 : n ≤ 2000) (e : t = n) (hq : permB q0 q1 q2 = true) (E : K19 2 n 2 r) (KL : K22 2 n 2 r (t * (-2)) (t * 1) (t * 1) (t * 1) (t * (-2)) (t * 1) (t * 1) (t * 1) (t * (-2))) : K6 2 n 2 r 1 2 0 q0 q1 q2 w := by
  have nt : t * t = n * n := by rw [e]
  obtain ⟨lA, lB, lC, lD, lE⟩ := lims_t n0 n1 (show t = n ∨ t = -n by omega)
  exact ren_3 2 n 2 r q0 q1 q2 (t * (-2)) (t * 1) (t * 1) (t * 1) (t * (-2)) (t * 1) (t * 1) (t * 1) (t * (-2)) (t * 3) (t * 3) (9 * (n * n)) (t * (-3)) (t * 0) (t * 0) (t * (-3)) 10 2 w ht hr lA lD lD lD lA lD lD lD lA hq E KL (by omega) (by omega) (by omega) (by omega) (by omega) (by omega) (by omega) (by omega) (by omega) (by omega) (by omega) (by rw [sqV_t, nt]; rfl) (by rw [sqV_t, nt]; rfl) (Dir.d2 (by omega) (by omega)) (Dir.d10 (by omega) (by omega)) (by decide)
theorem rn_22p4 (n t : Int) (r : Bool) (q0 q1 q2 : Int) (w : World) (ht : Tabs w) (hr : w.rangeAt 0 0 permL) (n0 : 1 ≤ n) (n1 : n ≤ 2000) (e : t = n) (hq : permB q0 q1 q2 = true) (E : K19 2 n 2 r) (KL : K22 2 n 2 r (t * (-2)) (t * 1) (t * 1) (t * 1) (t * (-2)) (t * 1) (t * 1) (t * 1) (t * (-2))) : K6 2 n 2 r 2 0 1 q0 q1 q2 w := by
  have nt : t * t = n * n := by rw [e]
  obtain ⟨lA, lB, lC, lD, lE⟩ := lims_t n0 n1 (show t = n ∨ t = -n by omega)
  exact ren_4 2 n 2 r q0 q1 q2 (t * (-2)) (t * 1) (t * 1) (t * 1) (t * (-2)) (t * 1) (t * 1) (t * 1) (t * (-2)) (t * 0) (t * (-3)) (9 * (n * n)) (t * (-3)) (t * 0) (t * (-3)) (t * 0) 6 10 w ht hr lA lD lD lD lA lD lD lD lA hq E KL (by omega) (by omega) (by omega) (by omega) (by omega) (by omega) (by omega) (by omega) (by omega) (by omega) (by omega) (by rw [sqV_t, nt]; rfl) (by rw [sqV_t, nt]; rfl) (Dir.d10 (by omega) (by omega)) (Dir.d6 (by omega) (by omega)) (by decide)
theorem rn_22p5 (n t : Int) (r : Bool) (q0 q1 q2 : Int) (w : World) (ht : Tabs w) (hr : w.rangeAt 0 0 permL) (n0 : 1 ≤ n) (n1 : n ≤ 2000) (e : t = n) (hq : permB q0 q1 q2 = true) (E : K19 2 n 2 r) (KL : K22 2 n 2 r (t * (-2)) (t * 1) (t * 1) (t * 1) (t * (-2)) (t * 1) (t * 1) (t * 1) (t * (-2))) : K6 2 n 2 r 2 1 0 q0 q1 q2 w := by
  have nt : t * t = n * n := by rw [e]
  obtain ⟨lA, lB, lC, lD, lE⟩ := lims_t n0 n1 (show t = n ∨ t = -n by omega)
  exact ren_5 2 n 2 r q0 q1 q2 (t * (-2)) (t * 1) (t * 1) (t * 1) (t * (-2)) (t * 1) (t * 1) (t * 1) (t * (-2)) (t * (-3)) (t * (-3)) (9 * (n * n)) (t * (-3)) (t * 0) (t * 3) (t * 0) 0 8 w ht hr lA lD lD lD lA lD lD lD lA hq E KL (by omega) (by omega) (by omega) (by omega) (by omega) (by omega) (by omega) (by omega) (by omega) (by omega) (by omega) (by rw [sqV_t, nt]; rfl) (by rw [sqV_t, nt]; rfl) (Dir.d8 (by omega) (by omega)) (Dir.d0 (by omega) (by omega)) (by decide)
theorem rn_22m0 (n t : Int) (r : Bool) (q0 q1 q2 : Int) (w : World) (ht : Tabs w) (hr : w.rangeAt 0 0 permL) (n0 : 1 ≤ n) (n1 : n ≤ 2000) (e : t = -n) (hq : permB q0 q1 q2 = true) (E : K19 2 n 2 r) (KL : K22 2 n 2 r (t * (-2)) (t * 1) (t * 1) (t * 1) (t * (-2)) (t * 1) (t * 1) (t * 1) (t * (-2))) : K6 2 n 2 r 0 1 2 q0 q1 q2 w := by
  have nt : t * t = n * n := by rw [e]; exact Int.neg_mul_neg n n
  obtain ⟨lA, lB, lC, lD, lE⟩ := lims_t n0 n1 (show t = n ∨ t = -n by omega)
  exact ren_0 2 n 2 r q0 q1 q2 (t * (-2)) (t * 1) (t * 1) (t * 1) (t * (-2)) (t * 1) (t * 1) (t * 1) (t * (-2)) (t * (-3)) (t * 0) (9 * (n * n)) (t * (-3)) (t * 0) (t * 3) (t * 3) 8 0 w ht hr lA lD lD lD lA lD lD lD lA hq E KL (by omega) (by omega) (by omega) (by omega) (by omega) (by omega) (by omega) (by omega) (by omega) (by omega) (by omega) (by rw [sqV_t, nt]; rfl) (by rw [sqV_t, nt]; rfl) (Dir.d0 (by omega) (by omega)) (Dir.d8 (by omega) (by omega)) (by decide)
theorem rn_22m1 (n t : Int) (r : Bool) (q0 q1 q2 : Int) (w : World) (ht : Tabs w) (hr : w.rangeAt 0 0 permL) (n0 : 1 ≤ n) (n1 : n ≤ 2000) (e : t = -n) (hq : permB q0 q1 q2 = true) (E : K19 2 n 2 r) (KL : K22 2 n 2 r (t * (-2)) (t * 1) (t * 1) (t * 1) (t * (-2)) (t * 1) (t * 1) (t * 1) (t * (-2))) : K6 2 n 2 r 0 2 1 q0 q1 q2 w := by
  have nt : t * t = n * n := by rw [e]; exact Int.neg_mul_neg n n
  obtain ⟨lA, lB, lC, lD, lE⟩ := lims_t n0 n1 (show t = n ∨ t = -n by omega)
  exact ren_1 2 n 2 r q0 q1 q2 (t * (-2)) (t * 1) (t * 1) (t * 1) (t * (-2)) (t * 1) (t * 1) (t * 1) (t * (-2)) (t * 0) (t * 3) (9 * (n * n)) (t * (-3)) (t * 0) (t * (-3)) (t * (-3)) 2 10 w ht hr lA lD lD lD lA lD lD lD lA hq E KL (by omega) (by omega) (by omega) (by omega) (by omega) (by omega) (by omega) (by omega) (by omega) (by omega) (by omega) (by rw [sqV_t, nt]; rfl) (by rw [sqV_t, nt]; rfl) (Dir.d10 (by omega) (by omega)) (Dir.d2 (by omega) (by omega)) (by decide)
theorem rn_22m2 (n t : Int) (r : Bool) (q0 q1 q2 : Int) (w : World) (ht : Tabs w) (hr : w.rangeAt 0 0 permL) (n0 : 1 ≤ n) (n1 : n ≤ 2000) (e : t = -n) (hq : permB q0 q1 q2 = true) (E : K19 2 n 2 r) (KL : K22 2 n 2 r (t * (-2)) (t * 1) (t * 1) (t * 1) (t * (-2)) (t * 1) (t * 1) (t * 1) (t * (-2))) : K6 2 n 2 r 1 0 2 q0 q1 q2 w := by
  have nt : t * t = n * n := by rw [e]; exact Int.neg_mul_neg n n
  obtain ⟨lA, lB, lC, lD, lE⟩ := lims_t n0 n1 (show t = n ∨ t = -n by omega)
  exact ren_2 2 n 2 r q0 q1 q2 (t * (-2)) (t * 1) (t * 1) (t * 1) (t * (-2)) (t * 1) (t * 1) (t * 1) (t * (-2)) (t * 3) (t * 0) (9 * (n * n)) (t * (-3)) (t * 0) (t * 0) (t * 3) 10 6 w ht hr lA lD lD lD lA lD lD lD lA hq E KL (by omega) (by omega) (by omega) (by omega) (by omega) (by omega) (by omega) (by omega) (by omega) (by omega) (by omega) (by rw [sqV_t, nt]; rfl) (by rw [sqV_t, nt]; rfl) (Dir.d6 (by omega) (by omega)) (Dir.d10 (by omega) (by omega)) (by decide)
theorem rn_22m3 (n t : Int) (r : Bool) (q0 q1 q2 : Int) (w : World) (ht : Tabs w) (hr : w.rangeAt 0 0 permL) (n0 : 1 ≤ n) (n1 : n ≤ 2000) (e : t = -n) (hq : permB q0 q1 q2 = true) (E : K19 2 n 2 r) (KL : K22 2 n 2 r (t * (-2)) (t * 1) (t * 1) (t * 1) (t * (-2)) (t * 1) (t * 1) (t * 1) (t * (-2))) : K6 2 n 2 r 1 2 0 q0 q1 q2 w := by
  have nt : t * t = n * n := by rw [e]; exact Int.neg_mul_neg n n
  obtain ⟨lA, lB, lC, lD, lE⟩ := lims_t n0 n1 (show t = n ∨ t = -n by omega)
  exact ren_3 2 n 2 r q0 q1 q2 (t * (-2)) (t * 1) (t * 1) (t * 1) (t * (-2)) (t * 1) (t * 1) (t * 1) (t * (-2)) (t * 3) (t * 3) (9 * (n * n)) (t * (-3)) (t * 0) (t * 0) (t * (-3)) 4 8 w ht hr lA lD lD lD lA lD lD lD lA hq E KL (by omega) (by omega) (by omega) (by omega) (by omega) (by omega) (by omega) (by omega) (by omega) (by omega) (by omega) (by rw [sqV_t, nt]; rfl) (by rw [sqV_t, nt]; rfl) (Dir.d8 (by omega) (by omega)) (Dir.d4 (by omega) (by omega)) (by decide)
theorem rn_22m4 (n t : Int) (r : Bool) (q0 q1 q2 : Int) (w : World) (ht : Tabs w) (hr : w.rangeAt 0 0 permL) (n0 : 1 ≤ n) (n1 : n ≤ 2000) (e : t = -n) (hq : permB q0 q1 q2 = true) (E : K19 2 n 2 r) (KL : K22 2 n 2 r (t * (-2)) (t * 1) (t * 1) (t * 1) (t * (-2)) (t * 1) (t * 1) (t * 1) (t * (-2))) : K6 2 n 2 r 2 0 1 q0 q1 q2 w := by
  have nt : t * t = n * n := by rw [e]; exact Int.neg_mul_neg n n
  obtain ⟨lA, lB, lC, lD, lE⟩ := lims_t n0 n1 (show t = n ∨ t = -n by omega)
  exact ren_4 2 n 2 r q0 q1 q2 (t * (-2)) (t * 1) (t * 1) (t * 1) (t * (-2)) (t * 1) (t * 1) (t * 1) (t * (-2)) (t * 0) (t * (-3)) (9 * (n * n)) (t * (-3)) (t * 0) (t * (-3)) (t * 0) 0 4 w ht hr lA lD lD lD lA lD lD lD lA hq E KL (by omega) (by omega) (by omega) (by omega) (by omega) (by omega) (by omega) (by omega) (by omega) (by omega) (by omega) (by rw [sqV_t, nt]; rfl) (by rw [sqV_t, nt]; rfl) (Dir.d4 (by omega) (by omega)) (Dir.d0 (by omega) (by omega)) (by decide)
theorem rn_22m5 (n t : Int) (r : Bool) (q0 q1 q2 : Int) (w : World) (ht : Tabs w) (hr : w.rangeAt 0 0 permL) (n0 : 1 ≤ n) (n1 : n ≤ 2000) (e : t = -n) (hq : permB q0 q1 q2 = true) (E : K19 2 n 2 r) (KL : K22 2 n 2 r (t * (-2)) (t * 1) (t * 1) (t * 1) (t * (-2)) (t * 1) (t * 1) (t * 1) (t * (-2))) : K6 2 n 2 r 2 1 0 q0 q1 q2 w := by
  have nt : t * t = n * n := by rw [e]; exact Int.neg_mul_neg n n
  obtain ⟨lA, lB, lC, lD, lE⟩ := lims_t n0 n1 (show t = n ∨ t = -n by omega)
  exact ren_5 2 n 2 r q0 q1 q2 (t * (-2)) (t * 1) (t * 1) (t * 1) (t * (-2)) (t * 1) (t * 1) (t * 1) (t * (-2)) (t * (-3)) (t * (-3)) (9 * (n * n)) (t * (-3)) (t * 0) (t * 3) (t * 0) 6 2 w ht hr lA lD lD lD lA lD lD lD lA hq E KL (by omega) (by omega) (by omega) (by omega) (by omega) (by omega) (by omega) (by omega) (by omega) (by omega) (by omega) (by rw [sqV_t, nt]; rfl) (by rw [sqV_t, nt]; rfl) (Dir.d2 (by omega) (by omega)) (Dir.d6 (by omega) (by omega)) (by decide)
set_option maxRecDepth 100000 in
set_option maxHeartbeats 2000000 in
theorem renamed_badW (k n s E : Int) (r : Bool) (p0 p1 p2 q0 q1 q2 : Int) (w : World) (ht : Tabs w) (tE : (E != 0) = true) (KE : Hid (∀ w, Calls Tryd.prog 19 #[.agg #[.int .i64 k, .int .i64 n, .int .i64 s, .bool r]] w fun e w' => e = .returned (.int .i64 E) ∧ Below w.heap.size w w')) :
    Calls Tryd.prog 6 #[.agg #[.int .i64 k, .int .i64 n, .int .i64 s, .bool r], .agg #[.int .i64 p0, .int .i64 p1, .int .i64 p2], .agg #[.int .i64 q0, .int .i64 q1, .int .i64 q2]] w fun e w' => e = .returned (.bool true) ∧ Below w.heap.size w w' := by
  go_enter Tryd.func6, Tryd.ntmps6
  go_wp2_with fail
  refine (awake_any _ (ht.below (by go_grown))).mono ?_
  rintro e w1 ⟨rfl, hb1⟩
  have p1xb : Below w.heap.size w w1 := belowT (by first | (go_grown; done) | exact And.left (by assumption)) hb1
  have p1x0 : w1.cell? ⟨w.heap.size, 0, none⟩ = some (.int .i64 k) := keep1 hb1 (by first | (with_reducible assumption) | (go_simp; done) | ((repeat' (first | (with_reducible assumption) | refine allocC ?_ | refine drewC ?_)); done) | (go_keep; done))
  have p1x1 : w1.cell? ⟨w.heap.size, 1, none⟩ = some (.int .i64 n) := keep1 hb1 (by first | (with_reducible assumption) | (go_simp; done) | ((repeat' (first | (with_reducible assumption) | refine allocC ?_ | refine drewC ?_)); done) | (go_keep; done))
  have p1x2 : w1.cell? ⟨w.heap.size, 2, none⟩ = some (.int .i64 s) := keep1 hb1 (by first | (with_reducible assumption) | (go_simp; done) | ((repeat' (first | (with_reducible assumption) | refine allocC ?_ | refine drewC ?_)); done) | (go_keep; done))
  have p1x3 : w1.cell? ⟨w.heap.size, 3, none⟩ = some (.bool r) := keep1 hb1 (by first | (with_reducible assumption) | (go_simp; done) | ((repeat' (first | (with_reducible assumption) | refine allocC ?_ | refine drewC ?_)); done) | (go_keep; done))
  have p1x4 : w1.cell? ⟨w.heap.size + 1, 0, none⟩ = some (.int .i64 p0) := keep1 hb1 (by first | (with_reducible assumption) | (go_simp; done) | ((repeat' (first | (with_reducible assumption) | refine allocC ?_ | refine drewC ?_)); done) | (go_keep; done))
  have p1x5 : w1.cell? ⟨w.heap.size + 1, 1, none⟩ = some (.int .i64 p1) := keep1 hb1 (by first | (with_reducible assumption) | (go_simp; done) | ((repeat' (first | (with_reducible assumption) | refine allocC ?_ | refine drewC ?_)); done) | (go_keep; done))
  have p1x6 : w1.cell? ⟨w.heap.size + 1, 2, none⟩ = some (.int .i64 p2) := keep1 hb1 (by first | (with_reducible assumption) | (go_simp; done) | ((repeat' (first | (with_reducible assumption) | refine allocC ?_ | refine drewC ?_)); done) | (go_keep; done))
  have p1x7 : w1.cell? ⟨w.heap.size + 1 + 1, 0, none⟩ = some (.int .i64 q0) := keep1 hb1 (by first | (with_reducible assumption) | (go_simp; done) | ((repeat' (first | (with_reducible assumption) | refine allocC ?_ | refine drewC ?_)); done) | (go_keep; done))
  have p1x8 : w1.cell? ⟨w.heap.size + 1 + 1, 1, none⟩ = some (.int .i64 q1) := keep1 hb1 (by first | (with_reducible assumption) | (go_simp; done) | ((repeat' (first | (with_reducible assumption) | refine allocC ?_ | refine drewC ?_)); done) | (go_keep; done))
  have p1x9 : w1.cell? ⟨w.heap.size + 1 + 1, 2, none⟩ = some (.int .i64 q2) := keep1 hb1 (by first | (with_reducible assumption) | (go_simp; done) | ((repeat' (first | (with_reducible assumption) | refine allocC ?_ | refine drewC ?_)); done) | (go_keep; done))
  have p1xz0 : w.heap.size < w1.heap.size := block_lt p1x0
  have p1xz4 : w.heap.size + 1 < w1.heap.size := block_lt p1x4
  have p1xz7 : w.heap.size + 1 + 1 < w1.heap.size := block_lt p1x7
  have p1xs := p1xb.size
  go_wp2_with fail
  refine (KE.out _).mono ?_
  rintro e w2 ⟨rfl, hb2⟩
  have p2xb : Below w.heap.size w w2 := belowT (by first | (go_grown; done) | exact And.left (by assumption)) hb2
  have p2x0 : w2.cell? ⟨w.heap.size, 0, none⟩ = some (.int .i64 k) := keep1 hb2 (by first | (with_reducible assumption) | (go_simp; done) | ((repeat' (first | (with_reducible assumption) | refine allocC ?_ | refine drewC ?_)); done) | (go_keep; done))
  have p2x1 : w2.cell? ⟨w.heap.size, 1, none⟩ = some (.int .i64 n) := keep1 hb2 (by first | (with_reducible assumption) | (go_simp; done) | ((repeat' (first | (with_reducible assumption) | refine allocC ?_ | refine drewC ?_)); done) | (go_keep; done))
  have p2x2 : w2.cell? ⟨w.heap.size, 2, none⟩ = some (.int .i64 s) := keep1 hb2 (by first | (with_reducible assumption) | (go_simp; done) | ((repeat' (first | (with_reducible assumption) | refine allocC ?_ | refine drewC ?_)); done) | (go_keep; done))
  have p2x3 : w2.cell? ⟨w.heap.size, 3, none⟩ = some (.bool r) := keep1 hb2 (by first | (with_reducible assumption) | (go_simp; done) | ((repeat' (first | (with_reducible assumption) | refine allocC ?_ | refine drewC ?_)); done) | (go_keep; done))
  have p2x4 : w2.cell? ⟨w.heap.size + 1, 0, none⟩ = some (.int .i64 p0) := keep1 hb2 (by first | (with_reducible assumption) | (go_simp; done) | ((repeat' (first | (with_reducible assumption) | refine allocC ?_ | refine drewC ?_)); done) | (go_keep; done))
  have p2x5 : w2.cell? ⟨w.heap.size + 1, 1, none⟩ = some (.int .i64 p1) := keep1 hb2 (by first | (with_reducible assumption) | (go_simp; done) | ((repeat' (first | (with_reducible assumption) | refine allocC ?_ | refine drewC ?_)); done) | (go_keep; done))
  have p2x6 : w2.cell? ⟨w.heap.size + 1, 2, none⟩ = some (.int .i64 p2) := keep1 hb2 (by first | (with_reducible assumption) | (go_simp; done) | ((repeat' (first | (with_reducible assumption) | refine allocC ?_ | refine drewC ?_)); done) | (go_keep; done))
  have p2x7 : w2.cell? ⟨w.heap.size + 1 + 1, 0, none⟩ = some (.int .i64 q0) := keep1 hb2 (by first | (with_reducible assumption) | (go_simp; done) | ((repeat' (first | (with_reducible assumption) | refine allocC ?_ | refine drewC ?_)); done) | (go_keep; done))
  have p2x8 : w2.cell? ⟨w.heap.size + 1 + 1, 1, none⟩ = some (.int .i64 q1) := keep1 hb2 (by first | (with_reducible assumption) | (go_simp; done) | ((repeat' (first | (with_reducible assumption) | refine allocC ?_ | refine drewC ?_)); done) | (go_keep; done))
  have p2x9 : w2.cell? ⟨w.heap.size + 1 + 1, 2, none⟩ = some (.int .i64 q2) := keep1 hb2 (by first | (with_reducible assumption) | (go_simp; done) | ((repeat' (first | (with_reducible assumption) | refine allocC ?_ | refine drewC ?_)); done) | (go_keep; done))
  have p2xz0 : w.heap.size < w2.heap.size := block_lt p2x0
  have p2xz4 : w.heap.size + 1 < w2.heap.size := block_lt p2x4
  have p2xz7 : w.heap.size + 1 + 1 < w2.heap.size := block_lt p2x7
  have p2xs := p2xb.size
  go_wp2
  go_returns
  exact ⟨rfl, by first | (go_grown; done) | assumption⟩
set_option maxRecDepth 100000 in
set_option maxHeartbeats 2000000 in
theorem renamed_badP (k n s : Int) (r : Bool) (p0 p1 p2 q0 q1 q2 : Int) (w : World) (ht : Tabs w)  (KE : Hid (∀ w, Calls Tryd.prog 19 #[.agg #[.int .i64 k, .int .i64 n, .int .i64 s, .bool r]] w fun e w' => e = .returned (.int .i64 0) ∧ Below w.heap.size w w')) (KP : Hid (∀ w, Calls Tryd.prog 33 #[.agg #[.int .i64 p0, .int .i64 p1, .int .i64 p2]] w fun e w' => e = .returned (.bool false) ∧ Below w.heap.size w w')) :
    Calls Tryd.prog 6 #[.agg #[.int .i64 k, .int .i64 n, .int .i64 s, .bool r], .agg #[.int .i64 p0, .int .i64 p1, .int .i64 p2], .agg #[.int .i64 q0, .int .i64 q1, .int .i64 q2]] w fun e w' => e = .returned (.bool true) ∧ Below w.heap.size w w' := by
  go_enter Tryd.func6, Tryd.ntmps6
  go_wp2_with fail
  refine (awake_any _ (ht.below (by go_grown))).mono ?_
  rintro e w1 ⟨rfl, hb1⟩
  have p1xb : Below w.heap.size w w1 := belowT (by first | (go_grown; done) | exact And.left (by assumption)) hb1
  have p1x0 : w1.cell? ⟨w.heap.size, 0, none⟩ = some (.int .i64 k) := keep1 hb1 (by first | (with_reducible assumption) | (go_simp; done) | ((repeat' (first | (with_reducible assumption) | refine allocC ?_ | refine drewC ?_)); done) | (go_keep; done))
  have p1x1 : w1.cell? ⟨w.heap.size, 1, none⟩ = some (.int .i64 n) := keep1 hb1 (by first | (with_reducible assumption) | (go_simp; done) | ((repeat' (first | (with_reducible assumption) | refine allocC ?_ | refine drewC ?_)); done) | (go_keep; done))
  have p1x2 : w1.cell? ⟨w.heap.size, 2, none⟩ = some (.int .i64 s) := keep1 hb1 (by first | (with_reducible assumption) | (go_simp; done) | ((repeat' (first | (with_reducible assumption) | refine allocC ?_ | refine drewC ?_)); done) | (go_keep; done))
  have p1x3 : w1.cell? ⟨w.heap.size, 3, none⟩ = some (.bool r) := keep1 hb1 (by first | (with_reducible assumption) | (go_simp; done) | ((repeat' (first | (with_reducible assumption) | refine allocC ?_ | refine drewC ?_)); done) | (go_keep; done))
  have p1x4 : w1.cell? ⟨w.heap.size + 1, 0, none⟩ = some (.int .i64 p0) := keep1 hb1 (by first | (with_reducible assumption) | (go_simp; done) | ((repeat' (first | (with_reducible assumption) | refine allocC ?_ | refine drewC ?_)); done) | (go_keep; done))
  have p1x5 : w1.cell? ⟨w.heap.size + 1, 1, none⟩ = some (.int .i64 p1) := keep1 hb1 (by first | (with_reducible assumption) | (go_simp; done) | ((repeat' (first | (with_reducible assumption) | refine allocC ?_ | refine drewC ?_)); done) | (go_keep; done))
  have p1x6 : w1.cell? ⟨w.heap.size + 1, 2, none⟩ = some (.int .i64 p2) := keep1 hb1 (by first | (with_reducible assumption) | (go_simp; done) | ((repeat' (first | (with_reducible assumption) | refine allocC ?_ | refine drewC ?_)); done) | (go_keep; done))
  have p1x7 : w1.cell? ⟨w.heap.size + 1 + 1, 0, none⟩ = some (.int .i64 q0) := keep1 hb1 (by first | (with_reducible assumption) | (go_simp; done) | ((repeat' (first | (with_reducible assumption) | refine allocC ?_ | refine drewC ?_)); done) | (go_keep; done))
  have p1x8 : w1.cell? ⟨w.heap.size + 1 + 1, 1, none⟩ = some (.int .i64 q1) := keep1 hb1 (by first | (with_reducible assumption) | (go_simp; done) | ((repeat' (first | (with_reducible assumption) | refine allocC ?_ | refine drewC ?_)); done) | (go_keep; done))
  have p1x9 : w1.cell? ⟨w.heap.size + 1 + 1, 2, none⟩ = some (.int .i64 q2) := keep1 hb1 (by first | (with_reducible assumption) | (go_simp; done) | ((repeat' (first | (with_reducible assumption) | refine allocC ?_ | refine drewC ?_)); done) | (go_keep; done))
  have p1xz0 : w.heap.size < w1.heap.size := block_lt p1x0
  have p1xz4 : w.heap.size + 1 < w1.heap.size := block_lt p1x4
  have p1xz7 : w.heap.size + 1 + 1 < w1.heap.size := block_lt p1x7
  have p1xs := p1xb.size
  go_wp2_with fail
  refine (KE.out _).mono ?_
  rintro e w2 ⟨rfl, hb2⟩
  have p2xb : Below w.heap.size w w2 := belowT (by first | (go_grown; done) | exact And.left (by assumption)) hb2
  have p2x0 : w2.cell? ⟨w.heap.size, 0, none⟩ = some (.int .i64 k) := keep1 hb2 (by first | (with_reducible assumption) | (go_simp; done) | ((repeat' (first | (with_reducible assumption) | refine allocC ?_ | refine drewC ?_)); done) | (go_keep; done))
  have p2x1 : w2.cell? ⟨w.heap.size, 1, none⟩ = some (.int .i64 n) := keep1 hb2 (by first | (with_reducible assumption) | (go_simp; done) | ((repeat' (first | (with_reducible assumption) | refine allocC ?_ | refine drewC ?_)); done) | (go_keep; done))
  have p2x2 : w2.cell? ⟨w.heap.size, 2, none⟩ = some (.int .i64 s) := keep1 hb2 (by first | (with_reducible assumption) | (go_simp; done) | ((repeat' (first | (with_reducible assumption) | refine allocC ?_ | refine drewC ?_)); done) | (go_keep; done))
  have p2x3 : w2.cell? ⟨w.heap.size, 3, none⟩ = some (.bool r) := keep1 hb2 (by first | (with_reducible assumption) | (go_simp; done) | ((repeat' (first | (with_reducible assumption) | refine allocC ?_ | refine drewC ?_)); done) | (go_keep; done))
  have p2x4 : w2.cell? ⟨w.heap.size + 1, 0, none⟩ = some (.int .i64 p0) := keep1 hb2 (by first | (with_reducible assumption) | (go_simp; done) | ((repeat' (first | (with_reducible assumption) | refine allocC ?_ | refine drewC ?_)); done) | (go_keep; done))
  have p2x5 : w2.cell? ⟨w.heap.size + 1, 1, none⟩ = some (.int .i64 p1) := keep1 hb2 (by first | (with_reducible assumption) | (go_simp; done) | ((repeat' (first | (with_reducible assumption) | refine allocC ?_ | refine drewC ?_)); done) | (go_keep; done))
  have p2x6 : w2.cell? ⟨w.heap.size + 1, 2, none⟩ = some (.int .i64 p2) := keep1 hb2 (by first | (with_reducible assumption) | (go_simp; done) | ((repeat' (first | (with_reducible assumption) | refine allocC ?_ | refine drewC ?_)); done) | (go_keep; done))
  have p2x7 : w2.cell? ⟨w.heap.size + 1 + 1, 0, none⟩ = some (.int .i64 q0) := keep1 hb2 (by first | (with_reducible assumption) | (go_simp; done) | ((repeat' (first | (with_reducible assumption) | refine allocC ?_ | refine drewC ?_)); done) | (go_keep; done))
  have p2x8 : w2.cell? ⟨w.heap.size + 1 + 1, 1, none⟩ = some (.int .i64 q1) := keep1 hb2 (by first | (with_reducible assumption) | (go_simp; done) | ((repeat' (first | (with_reducible assumption) | refine allocC ?_ | refine drewC ?_)); done) | (go_keep; done))
  have p2x9 : w2.cell? ⟨w.heap.size + 1 + 1, 2, none⟩ = some (.int .i64 q2) := keep1 hb2 (by first | (with_reducible assumption) | (go_simp; done) | ((repeat' (first | (with_reducible assumption) | refine allocC ?_ | refine drewC ?_)); done) | (go_keep; done))
  have p2xz0 : w.heap.size < w2.heap.size := block_lt p2x0
  have p2xz4 : w.heap.size + 1 < w2.heap.size := block_lt p2x4
  have p2xz7 : w.heap.size + 1 + 1 < w2.heap.size := block_lt p2x7
  have p2xs := p2xb.size
  go_wp2_with fail
  refine (KP.out _).mono ?_
  rintro e w3 ⟨rfl, hb3⟩
  have p3xb : Below w.heap.size w w3 := belowT (by first | (go_grown; done) | exact And.left (by assumption)) hb3
  have p3x0 : w3.cell? ⟨w.heap.size, 0, none⟩ = some (.int .i64 k) := keep1 hb3 (by first | (with_reducible assumption) | (go_simp; done) | ((repeat' (first | (with_reducible assumption) | refine allocC ?_ | refine drewC ?_)); done) | (go_keep; done))
  have p3x1 : w3.cell? ⟨w.heap.size, 1, none⟩ = some (.int .i64 n) := keep1 hb3 (by first | (with_reducible assumption) | (go_simp; done) | ((repeat' (first | (with_reducible assumption) | refine allocC ?_ | refine drewC ?_)); done) | (go_keep; done))
  have p3x2 : w3.cell? ⟨w.heap.size, 2, none⟩ = some (.int .i64 s) := keep1 hb3 (by first | (with_reducible assumption) | (go_simp; done) | ((repeat' (first | (with_reducible assumption) | refine allocC ?_ | refine drewC ?_)); done) | (go_keep; done))
  have p3x3 : w3.cell? ⟨w.heap.size, 3, none⟩ = some (.bool r) := keep1 hb3 (by first | (with_reducible assumption) | (go_simp; done) | ((repeat' (first | (with_reducible assumption) | refine allocC ?_ | refine drewC ?_)); done) | (go_keep; done))
  have p3x4 : w3.cell? ⟨w.heap.size + 1, 0, none⟩ = some (.int .i64 p0) := keep1 hb3 (by first | (with_reducible assumption) | (go_simp; done) | ((repeat' (first | (with_reducible assumption) | refine allocC ?_ | refine drewC ?_)); done) | (go_keep; done))
  have p3x5 : w3.cell? ⟨w.heap.size + 1, 1, none⟩ = some (.int .i64 p1) := keep1 hb3 (by first | (with_reducible assumption) | (go_simp; done) | ((repeat' (first | (with_reducible assumption) | refine allocC ?_ | refine drewC ?_)); done) | (go_keep; done))
  have p3x6 : w3.cell? ⟨w.heap.size + 1, 2, none⟩ = some (.int .i64 p2) := keep1 hb3 (by first | (with_reducible assumption) | (go_simp; done) | ((repeat' (first | (with_reducible assumption) | refine allocC ?_ | refine drewC ?_)); done) | (go_keep; done))
  have p3x7 : w3.cell? ⟨w.heap.size + 1 + 1, 0, none⟩ = some (.int .i64 q0) := keep1 hb3 (by first | (with_reducible assumption) | (go_simp; done) | ((repeat' (first | (with_reducible assumption) | refine allocC ?_ | refine drewC ?_)); done) | (go_keep; done))
  have p3x8 : w3.cell? ⟨w.heap.size + 1 + 1, 1, none⟩ = some (.int .i64 q1) := keep1 hb3 (by first | (with_reducible assumption) | (go_simp; done) | ((repeat' (first | (with_reducible assumption) | refine allocC ?_ | refine drewC ?_)); done) | (go_keep; done))
  have p3x9 : w3.cell? ⟨w.heap.size + 1 + 1, 2, none⟩ = some (.int .i64 q2) := keep1 hb3 (by first | (with_reducible assumption) | (go_simp; done) | ((repeat' (first | (with_reducible assumption) | refine allocC ?_ | refine drewC ?_)); done) | (go_keep; done))
  have p3xz0 : w.heap.size < w3.heap.size := block_lt p3x0
  have p3xz4 : w.heap.size + 1 < w3.heap.size := block_lt p3x4
  have p3xz7 : w.heap.size + 1 + 1 < w3.heap.size := block_lt p3x7
  have p3xs := p3xb.size
  go_wp2
  go_returns
  exact ⟨rfl, by first | (go_grown; done) | assumption⟩
set_option maxRecDepth 100000 in
set_option maxHeartbeats 2000000 in
theorem renamed_badQ (k n s : Int) (r : Bool) (p0 p1 p2 q0 q1 q2 : Int) (w : World) (ht : Tabs w)  (KE : Hid (∀ w, Calls Tryd.prog 19 #[.agg #[.int .i64 k, .int .i64 n, .int .i64 s, .bool r]] w fun e w' => e = .returned (.int .i64 0) ∧ Below w.heap.size w w')) (KP : Hid (∀ w, Calls Tryd.prog 33 #[.agg #[.int .i64 p0, .int .i64 p1, .int .i64 p2]] w fun e w' => e = .returned (.bool true) ∧ Below w.heap.size w w')) (KQ : Hid (∀ w, Calls Tryd.prog 33 #[.agg #[.int .i64 q0, .int .i64 q1, .int .i64 q2]] w fun e w' => e = .returned (.bool false) ∧ Below w.heap.size w w')) :
    Calls Tryd.prog 6 #[.agg #[.int .i64 k, .int .i64 n, .int .i64 s, .bool r], .agg #[.int .i64 p0, .int .i64 p1, .int .i64 p2], .agg #[.int .i64 q0, .int .i64 q1, .int .i64 q2]] w fun e w' => e = .returned (.bool true) ∧ Below w.heap.size w w' := by
  go_enter Tryd.func6, Tryd.ntmps6
  go_wp2_with fail
  refine (awake_any _ (ht.below (by go_grown))).mono ?_
  rintro e w1 ⟨rfl, hb1⟩
  have p1xb : Below w.heap.size w w1 := belowT (by first | (go_grown; done) | exact And.left (by assumption)) hb1
  have p1x0 : w1.cell? ⟨w.heap.size, 0, none⟩ = some (.int .i64 k) := keep1 hb1 (by first | (with_reducible assumption) | (go_simp; done) | ((repeat' (first | (with_reducible assumption) | refine allocC ?_ | refine drewC ?_)); done) | (go_keep; done))
  have p1x1 : w1.cell? ⟨w.heap.size, 1, none⟩ = some (.int .i64 n) := keep1 hb1 (by first | (with_reducible assumption) | (go_simp; done) | ((repeat' (first | (with_reducible assumption) | refine allocC ?_ | refine drewC ?_)); done) | (go_keep; done))
  have p1x2 : w1.cell? ⟨w.heap.size, 2, none⟩ = some (.int .i64 s) := keep1 hb1 (by first | (with_reducible assumption) | (go_simp; done) | ((repeat' (first | (with_reducible assumption) | refine allocC ?_ | refine drewC ?_)); done) | (go_keep; done))
  have p1x3 : w1.cell? ⟨w.heap.size, 3, none⟩ = some (.bool r) := keep1 hb1 (by first | (with_reducible assumption) | (go_simp; done) | ((repeat' (first | (with_reducible assumption) | refine allocC ?_ | refine drewC ?_)); done) | (go_keep; done))
  have p1x4 : w1.cell? ⟨w.heap.size + 1, 0, none⟩ = some (.int .i64 p0) := keep1 hb1 (by first | (with_reducible assumption) | (go_simp; done) | ((repeat' (first | (with_reducible assumption) | refine allocC ?_ | refine drewC ?_)); done) | (go_keep; done))
  have p1x5 : w1.cell? ⟨w.heap.size + 1, 1, none⟩ = some (.int .i64 p1) := keep1 hb1 (by first | (with_reducible assumption) | (go_simp; done) | ((repeat' (first | (with_reducible assumption) | refine allocC ?_ | refine drewC ?_)); done) | (go_keep; done))
  have p1x6 : w1.cell? ⟨w.heap.size + 1, 2, none⟩ = some (.int .i64 p2) := keep1 hb1 (by first | (with_reducible assumption) | (go_simp; done) | ((repeat' (first | (with_reducible assumption) | refine allocC ?_ | refine drewC ?_)); done) | (go_keep; done))
  have p1x7 : w1.cell? ⟨w.heap.size + 1 + 1, 0, none⟩ = some (.int .i64 q0) := keep1 hb1 (by first | (with_reducible assumption) | (go_simp; done) | ((repeat' (first | (with_reducible assumption) | refine allocC ?_ | refine drewC ?_)); done) | (go_keep; done))
  have p1x8 : w1.cell? ⟨w.heap.size + 1 + 1, 1, none⟩ = some (.int .i64 q1) := keep1 hb1 (by first | (with_reducible assumption) | (go_simp; done) | ((repeat' (first | (with_reducible assumption) | refine allocC ?_ | refine drewC ?_)); done) | (go_keep; done))
  have p1x9 : w1.cell? ⟨w.heap.size + 1 + 1, 2, none⟩ = some (.int .i64 q2) := keep1 hb1 (by first | (with_reducible assumption) | (go_simp; done) | ((repeat' (first | (with_reducible assumption) | refine allocC ?_ | refine drewC ?_)); done) | (go_keep; done))
  have p1xz0 : w.heap.size < w1.heap.size := block_lt p1x0
  have p1xz4 : w.heap.size + 1 < w1.heap.size := block_lt p1x4
  have p1xz7 : w.heap.size + 1 + 1 < w1.heap.size := block_lt p1x7
  have p1xs := p1xb.size
  go_wp2_with fail
  refine (KE.out _).mono ?_
  rintro e w2 ⟨rfl, hb2⟩
  have p2xb : Below w.heap.size w w2 := belowT (by first | (go_grown; done) | exact And.left (by assumption)) hb2
  have p2x0 : w2.cell? ⟨w.heap.size, 0, none⟩ = some (.int .i64 k) := keep1 hb2 (by first | (with_reducible assumption) | (go_simp; done) | ((repeat' (first | (with_reducible assumption) | refine allocC ?_ | refine drewC ?_)); done) | (go_keep; done))
  have p2x1 : w2.cell? ⟨w.heap.size, 1, none⟩ = some (.int .i64 n) := keep1 hb2 (by first | (with_reducible assumption) | (go_simp; done) | ((repeat' (first | (with_reducible assumption) | refine allocC ?_ | refine drewC ?_)); done) | (go_keep; done))
  have p2x2 : w2.cell? ⟨w.heap.size, 2, none⟩ = some (.int .i64 s) := keep1 hb2 (by first | (with_reducible assumption) | (go_simp; done) | ((repeat' (first | (with_reducible assumption) | refine allocC ?_ | refine drewC ?_)); done) | (go_keep; done))
  have p2x3 : w2.cell? ⟨w.heap.size, 3, none⟩ = some (.bool r) := keep1 hb2 (by first | (with_reducible assumption) | (go_simp; done) | ((repeat' (first | (with_reducible assumption) | refine allocC ?_ | refine drewC ?_)); done) | (go_keep; done))
  have p2x4 : w2.cell? ⟨w.heap.size + 1, 0, none⟩ = some (.int .i64 p0) := keep1 hb2 (by first | (with_reducible assumption) | (go_simp; done) | ((repeat' (first | (with_reducible assumption) | refine allocC ?_ | refine drewC ?_)); done) | (go_keep; done))
  have p2x5 : w2.cell? ⟨w.heap.size + 1, 1, none⟩ = some (.int .i64 p1) := keep1 hb2 (by first | (with_reducible assumption) | (go_simp; done) | ((repeat' (first | (with_reducible assumption) | refine allocC ?_ | refine drewC ?_)); done) | (go_keep; done))
  have p2x6 : w2.cell? ⟨w.heap.size + 1, 2, none⟩ = some (.int .i64 p2) := keep1 hb2 (by first | (with_reducible assumption) | (go_simp; done) | ((repeat' (first | (with_reducible assumption) | refine allocC ?_ | refine drewC ?_)); done) | (go_keep; done))
  have p2x7 : w2.cell? ⟨w.heap.size + 1 + 1, 0, none⟩ = some (.int .i64 q0) := keep1 hb2 (by first | (with_reducible assumption) | (go_simp; done) | ((repeat' (first | (with_reducible assumption) | refine allocC ?_ | refine drewC ?_)); done) | (go_keep; done))
  have p2x8 : w2.cell? ⟨w.heap.size + 1 + 1, 1, none⟩ = some (.int .i64 q1) := keep1 hb2 (by first | (with_reducible assumption) | (go_simp; done) | ((repeat' (first | (with_reducible assumption) | refine allocC ?_ | refine drewC ?_)); done) | (go_keep; done))
  have p2x9 : w2.cell? ⟨w.heap.size + 1 + 1, 2, none⟩ = some (.int .i64 q2) := keep1 hb2 (by first | (with_reducible assumption) | (go_simp; done) | ((repeat' (first | (with_reducible assumption) | refine allocC ?_ | refine drewC ?_)); done) | (go_keep; done))
  have p2xz0 : w.heap.size < w2.heap.size := block_lt p2x0
  have p2xz4 : w.heap.size + 1 < w2.heap.size := block_lt p2x4
  have p2xz7 : w.heap.size + 1 + 1 < w2.heap.size := block_lt p2x7
  have p2xs := p2xb.size
  go_wp2_with fail
  refine (KP.out _).mono ?_
  rintro e w3 ⟨rfl, hb3⟩
  have p3xb : Below w.heap.size w w3 := belowT (by first | (go_grown; done) | exact And.left (by assumption)) hb3
  have p3x0 : w3.cell? ⟨w.heap.size, 0, none⟩ = some (.int .i64 k) := keep1 hb3 (by first | (with_reducible assumption) | (go_simp; done) | ((repeat' (first | (with_reducible assumption) | refine allocC ?_ | refine drewC ?_)); done) | (go_keep; done))
  have p3x1 : w3.cell? ⟨w.heap.size, 1, none⟩ = some (.int .i64 n) := keep1 hb3 (by first | (with_reducible assumption) | (go_simp; done) | ((repeat' (first | (with_reducible assumption) | refine allocC ?_ | refine drewC ?_)); done) | (go_keep; done))
  have p3x2 : w3.cell? ⟨w.heap.size, 2, none⟩ = some (.int .i64 s) := keep1 hb3 (by first | (with_reducible assumption) | (go_simp; done) | ((repeat' (first | (with_reducible assumption) | refine allocC ?_ | refine drewC ?_)); done) | (go_keep; done))
  have p3x3 : w3.cell? ⟨w.heap.size, 3, none⟩ = some (.bool r) := keep1 hb3 (by first | (with_reducible assumption) | (go_simp; done) | ((repeat' (first | (with_reducible assumption) | refine allocC ?_ | refine drewC ?_)); done) | (go_keep; done))
  have p3x4 : w3.cell? ⟨w.heap.size + 1, 0, none⟩ = some (.int .i64 p0) := keep1 hb3 (by first | (with_reducible assumption) | (go_simp; done) | ((repeat' (first | (with_reducible assumption) | refine allocC ?_ | refine drewC ?_)); done) | (go_keep; done))
  have p3x5 : w3.cell? ⟨w.heap.size + 1, 1, none⟩ = some (.int .i64 p1) := keep1 hb3 (by first | (with_reducible assumption) | (go_simp; done) | ((repeat' (first | (with_reducible assumption) | refine allocC ?_ | refine drewC ?_)); done) | (go_keep; done))
  have p3x6 : w3.cell? ⟨w.heap.size + 1, 2, none⟩ = some (.int .i64 p2) := keep1 hb3 (by first | (with_reducible assumption) | (go_simp; done) | ((repeat' (first | (with_reducible assumption) | refine allocC ?_ | refine drewC ?_)); done) | (go_keep; done))
  have p3x7 : w3.cell? ⟨w.heap.size + 1 + 1, 0, none⟩ = some (.int .i64 q0) := keep1 hb3 (by first | (with_reducible assumption) | (go_simp; done) | ((repeat' (first | (with_reducible assumption) | refine allocC ?_ | refine drewC ?_)); done) | (go_keep; done))
  have p3x8 : w3.cell? ⟨w.heap.size + 1 + 1, 1, none⟩ = some (.int .i64 q1) := keep1 hb3 (by first | (with_reducible assumption) | (go_simp; done) | ((repeat' (first | (with_reducible assumption) | refine allocC ?_ | refine drewC ?_)); done) | (go_keep; done))
  have p3x9 : w3.cell? ⟨w.heap.size + 1 + 1, 2, none⟩ = some (.int .i64 q2) := keep1 hb3 (by first | (with_reducible assumption) | (go_simp; done) | ((repeat' (first | (with_reducible assumption) | refine allocC ?_ | refine drewC ?_)); done) | (go_keep; done))
  have p3xz0 : w.heap.size < w3.heap.size := block_lt p3x0
  have p3xz4 : w.heap.size + 1 < w3.heap.size := block_lt p3x4
  have p3xz7 : w.heap.size + 1 + 1 < w3.heap.size := block_lt p3x7
  have p3xs := p3xb.size
  go_wp2_with fail
  refine (KQ.out _).mono ?_
  rintro e w4 ⟨rfl, hb4⟩
  have p4xb : Below w.heap.size w w4 := belowT (by first | (go_grown; done) | exact And.left (by assumption)) hb4
  have p4x0 : w4.cell? ⟨w.heap.size, 0, none⟩ = some (.int .i64 k) := keep1 hb4 (by first | (with_reducible assumption) | (go_simp; done) | ((repeat' (first | (with_reducible assumption) | refine allocC ?_ | refine drewC ?_)); done) | (go_keep; done))
  have p4x1 : w4.cell? ⟨w.heap.size, 1, none⟩ = some (.int .i64 n) := keep1 hb4 (by first | (with_reducible assumption) | (go_simp; done) | ((repeat' (first | (with_reducible assumption) | refine allocC ?_ | refine drewC ?_)); done) | (go_keep; done))
  have p4x2 : w4.cell? ⟨w.heap.size, 2, none⟩ = some (.int .i64 s) := keep1 hb4 (by first | (with_reducible assumption) | (go_simp; done) | ((repeat' (first | (with_reducible assumption) | refine allocC ?_ | refine drewC ?_)); done) | (go_keep; done))
  have p4x3 : w4.cell? ⟨w.heap.size, 3, none⟩ = some (.bool r) := keep1 hb4 (by first | (with_reducible assumption) | (go_simp; done) | ((repeat' (first | (with_reducible assumption) | refine allocC ?_ | refine drewC ?_)); done) | (go_keep; done))
  have p4x4 : w4.cell? ⟨w.heap.size + 1, 0, none⟩ = some (.int .i64 p0) := keep1 hb4 (by first | (with_reducible assumption) | (go_simp; done) | ((repeat' (first | (with_reducible assumption) | refine allocC ?_ | refine drewC ?_)); done) | (go_keep; done))
  have p4x5 : w4.cell? ⟨w.heap.size + 1, 1, none⟩ = some (.int .i64 p1) := keep1 hb4 (by first | (with_reducible assumption) | (go_simp; done) | ((repeat' (first | (with_reducible assumption) | refine allocC ?_ | refine drewC ?_)); done) | (go_keep; done))
  have p4x6 : w4.cell? ⟨w.heap.size + 1, 2, none⟩ = some (.int .i64 p2) := keep1 hb4 (by first | (with_reducible assumption) | (go_simp; done) | ((repeat' (first | (with_reducible assumption) | refine allocC ?_ | refine drewC ?_)); done) | (go_keep; done))
  have p4x7 : w4.cell? ⟨w.heap.size + 1 + 1, 0, none⟩ = some (.int .i64 q0) := keep1 hb4 (by first | (with_reducible assumption) | (go_simp; done) | ((repeat' (first | (with_reducible assumption) | refine allocC ?_ | refine drewC ?_)); done) | (go_keep; done))
  have p4x8 : w4.cell? ⟨w.heap.size + 1 + 1, 1, none⟩ = some (.int .i64 q1) := keep1 hb4 (by first | (with_reducible assumption) | (go_simp; done) | ((repeat' (first | (with_reducible assumption) | refine allocC ?_ | refine drewC ?_)); done) | (go_keep; done))
  have p4x9 : w4.cell? ⟨w.heap.size + 1 + 1, 2, none⟩ = some (.int .i64 q2) := keep1 hb4 (by first | (with_reducible assumption) | (go_simp; done) | ((repeat' (first | (with_reducible assumption) | refine allocC ?_ | refine drewC ?_)); done) | (go_keep; done))
  have p4xz0 : w.heap.size < w4.heap.size := block_lt p4x0
  have p4xz4 : w.heap.size + 1 < w4.heap.size := block_lt p4x4
  have p4xz7 : w.heap.size + 1 + 1 < w4.heap.size := block_lt p4x7
  have p4xs := p4xb.size
  go_wp2
  go_returns
  exact ⟨rfl, by first | (go_grown; done) | assumption⟩
theorem renamed_k0 (n s : Int) (r : Bool) (p0 p1 p2 q0 q1 q2 : Int) (w : World) (ht : Tabs w) (hr : w.rangeAt 0 0 permL) (n0 : 1 ≤ n) (n1 : n ≤ 2000) (s0 : 0 ≤ s) (s1 : s ≤ 2) (hp : permB p0 p1 p2 = true) (hq : permB q0 q1 q2 = true) : K6 0 n s r p0 p1 p2 q0 q1 q2 w := by
  have E : K19 0 n s r := fun w => by
    have := rwindingErr_any 0 n s r w
    rwa [wErr_ok (by decide) (by decide) n0 n1 s0 s1] at this
  have L := fun w => rlines_all 0 n s r w (by decide) (by decide) n0 n1 s0 s1
  have hs : s = 0 ∨ s = 1 ∨ s = 2 := by omega
  have hc : (p0 = 0 ∧ p1 = 1 ∧ p2 = 2) ∨ (p0 = 0 ∧ p1 = 2 ∧ p2 = 1) ∨ (p0 = 1 ∧ p1 = 0 ∧ p2 = 2) ∨ (p0 = 1 ∧ p1 = 2 ∧ p2 = 0) ∨ (p0 = 2 ∧ p1 = 0 ∧ p2 = 1) ∨ (p0 = 2 ∧ p1 = 1 ∧ p2 = 0) := by
    have := (permB_iff p0 p1 p2).1 hp
    omega
  rcases hs with rfl | rfl | rfl <;> cases r <;> rcases hc with ⟨rfl, rfl, rfl⟩ | ⟨rfl, rfl, rfl⟩ | ⟨rfl, rfl, rfl⟩ | ⟨rfl, rfl, rfl⟩ | ⟨rfl, rfl, rfl⟩ | ⟨rfl, rfl, rfl⟩
  · exact rn_00p0 n (sg n false) false q0 q1 q2 w ht hr n0 n1 rfl hq E L
  · exact rn_00p1 n (sg n false) false q0 q1 q2 w ht hr n0 n1 rfl hq E L
  · exact rn_00p2 n (sg n false) false q0 q1 q2 w ht hr n0 n1 rfl hq E L
  · exact rn_00p3 n (sg n false) false q0 q1 q2 w ht hr n0 n1 rfl hq E L
  · exact rn_00p4 n (sg n false) false q0 q1 q2 w ht hr n0 n1 rfl hq E L
  · exact rn_00p5 n (sg n false) false q0 q1 q2 w ht hr n0 n1 rfl hq E L
  · exact rn_00m0 n (sg n true) true q0 q1 q2 w ht hr n0 n1 rfl hq E L
  · exact rn_00m1 n (sg n true) true q0 q1 q2 w ht hr n0 n1 rfl hq E L
  · exact rn_00m2 n (sg n true) true q0 q1 q2 w ht hr n0 n1 rfl hq E L
  · exact rn_00m3 n (sg n true) true q0 q1 q2 w ht hr n0 n1 rfl hq E L
  · exact rn_00m4 n (sg n true) true q0 q1 q2 w ht hr n0 n1 rfl hq E L
  · exact rn_00m5 n (sg n true) true q0 q1 q2 w ht hr n0 n1 rfl hq E L
  · exact rn_01p0 n (sg n false) false q0 q1 q2 w ht hr n0 n1 rfl hq E L
  · exact rn_01p1 n (sg n false) false q0 q1 q2 w ht hr n0 n1 rfl hq E L
  · exact rn_01p2 n (sg n false) false q0 q1 q2 w ht hr n0 n1 rfl hq E L
  · exact rn_01p3 n (sg n false) false q0 q1 q2 w ht hr n0 n1 rfl hq E L
  · exact rn_01p4 n (sg n false) false q0 q1 q2 w ht hr n0 n1 rfl hq E L
  · exact rn_01p5 n (sg n false) false q0 q1 q2 w ht hr n0 n1 rfl hq E L
  · exact rn_01m0 n (sg n true) true q0 q1 q2 w ht hr n0 n1 rfl hq E L
  · exact rn_01m1 n (sg n true) true q0 q1 q2 w ht hr n0 n1 rfl hq E L
  · exact rn_01m2 n (sg n true) true q0 q1 q2 w ht hr n0 n1 rfl hq E L
  · exact rn_01m3 n (sg n true) true q0 q1 q2 w ht hr n0 n1 rfl hq E L
  · exact rn_01m4 n (sg n true) true q0 q1 q2 w ht hr n0 n1 rfl hq E L
  · exact rn_01m5 n (sg n true) true q0 q1 q2 w ht hr n0 n1 rfl hq E L
  · exact rn_02p0 n (sg n false) false q0 q1 q2 w ht hr n0 n1 rfl hq E L
  · exact rn_02p1 n (sg n false) false q0 q1 q2 w ht hr n0 n1 rfl hq E L
  · exact rn_02p2 n (sg n false) false q0 q1 q2 w ht hr n0 n1 rfl hq E L
  · exact rn_02p3 n (sg n false) false q0 q1 q2 w ht hr n0 n1 rfl hq E L
  · exact rn_02p4 n (sg n false) false q0 q1 q2 w ht hr n0 n1 rfl hq E L
  · exact rn_02p5 n (sg n false) false q0 q1 q2 w ht hr n0 n1 rfl hq E L
  · exact rn_02m0 n (sg n true) true q0 q1 q2 w ht hr n0 n1 rfl hq E L
  · exact rn_02m1 n (sg n true) true q0 q1 q2 w ht hr n0 n1 rfl hq E L
  · exact rn_02m2 n (sg n true) true q0 q1 q2 w ht hr n0 n1 rfl hq E L
  · exact rn_02m3 n (sg n true) true q0 q1 q2 w ht hr n0 n1 rfl hq E L
  · exact rn_02m4 n (sg n true) true q0 q1 q2 w ht hr n0 n1 rfl hq E L
  · exact rn_02m5 n (sg n true) true q0 q1 q2 w ht hr n0 n1 rfl hq E L
theorem renamed_k1 (n s : Int) (r : Bool) (p0 p1 p2 q0 q1 q2 : Int) (w : World) (ht : Tabs w) (hr : w.rangeAt 0 0 permL) (n0 : 1 ≤ n) (n1 : n ≤ 2000) (s0 : 0 ≤ s) (s1 : s ≤ 2) (hp : permB p0 p1 p2 = true) (hq : permB q0 q1 q2 = true) : K6 1 n s r p0 p1 p2 q0 q1 q2 w := by
  have E : K19 1 n s r := fun w => by
    have := rwindingErr_any 1 n s r w
    rwa [wErr_ok (by decide) (by decide) n0 n1 s0 s1] at this
  have L := fun w => rlines_all 1 n s r w (by decide) (by decide) n0 n1 s0 s1
  have hs : s = 0 ∨ s = 1 ∨ s = 2 := by omega
  have hc : (p0 = 0 ∧ p1 = 1 ∧ p2 = 2) ∨ (p0 = 0 ∧ p1 = 2 ∧ p2 = 1) ∨ (p0 = 1 ∧ p1 = 0 ∧ p2 = 2) ∨ (p0 = 1 ∧ p1 = 2 ∧ p2 = 0) ∨ (p0 = 2 ∧ p1 = 0 ∧ p2 = 1) ∨ (p0 = 2 ∧ p1 = 1 ∧ p2 = 0) := by
    have := (permB_iff p0 p1 p2).1 hp
    omega
  rcases hs with rfl | rfl | rfl <;> cases r <;> rcases hc with ⟨rfl, rfl, rfl⟩ | ⟨rfl, rfl, rfl⟩ | ⟨rfl, rfl, rfl⟩ | ⟨rfl, rfl, rfl⟩ | ⟨rfl, rfl, rfl⟩ | ⟨rfl, rfl, rfl⟩
  · exact rn_10p0 n (sg n false) false q0 q1 q2 w ht hr n0 n1 rfl hq E L
  · exact rn_10p1 n (sg n false) false q0 q1 q2 w ht hr n0 n1 rfl hq E L
  · exact rn_10p2 n (sg n false) false q0 q1 q2 w ht hr n0 n1 rfl hq E L
  · exact rn_10p3 n (sg n false) false q0 q1 q2 w ht hr n0 n1 rfl hq E L
  · exact rn_10p4 n (sg n false) false q0 q1 q2 w ht hr n0 n1 rfl hq E L
  · exact rn_10p5 n (sg n false) false q0 q1 q2 w ht hr n0 n1 rfl hq E L
  · exact rn_10m0 n (sg n true) true q0 q1 q2 w ht hr n0 n1 rfl hq E L
  · exact rn_10m1 n (sg n true) true q0 q1 q2 w ht hr n0 n1 rfl hq E L
  · exact rn_10m2 n (sg n true) true q0 q1 q2 w ht hr n0 n1 rfl hq E L
  · exact rn_10m3 n (sg n true) true q0 q1 q2 w ht hr n0 n1 rfl hq E L
  · exact rn_10m4 n (sg n true) true q0 q1 q2 w ht hr n0 n1 rfl hq E L
  · exact rn_10m5 n (sg n true) true q0 q1 q2 w ht hr n0 n1 rfl hq E L
  · exact rn_11p0 n (sg n false) false q0 q1 q2 w ht hr n0 n1 rfl hq E L
  · exact rn_11p1 n (sg n false) false q0 q1 q2 w ht hr n0 n1 rfl hq E L
  · exact rn_11p2 n (sg n false) false q0 q1 q2 w ht hr n0 n1 rfl hq E L
  · exact rn_11p3 n (sg n false) false q0 q1 q2 w ht hr n0 n1 rfl hq E L
  · exact rn_11p4 n (sg n false) false q0 q1 q2 w ht hr n0 n1 rfl hq E L
  · exact rn_11p5 n (sg n false) false q0 q1 q2 w ht hr n0 n1 rfl hq E L
  · exact rn_11m0 n (sg n true) true q0 q1 q2 w ht hr n0 n1 rfl hq E L
  · exact rn_11m1 n (sg n true) true q0 q1 q2 w ht hr n0 n1 rfl hq E L
  · exact rn_11m2 n (sg n true) true q0 q1 q2 w ht hr n0 n1 rfl hq E L
  · exact rn_11m3 n (sg n true) true q0 q1 q2 w ht hr n0 n1 rfl hq E L
  · exact rn_11m4 n (sg n true) true q0 q1 q2 w ht hr n0 n1 rfl hq E L
  · exact rn_11m5 n (sg n true) true q0 q1 q2 w ht hr n0 n1 rfl hq E L
  · exact rn_12p0 n (sg n false) false q0 q1 q2 w ht hr n0 n1 rfl hq E L
  · exact rn_12p1 n (sg n false) false q0 q1 q2 w ht hr n0 n1 rfl hq E L
  · exact rn_12p2 n (sg n false) false q0 q1 q2 w ht hr n0 n1 rfl hq E L
  · exact rn_12p3 n (sg n false) false q0 q1 q2 w ht hr n0 n1 rfl hq E L
  · exact rn_12p4 n (sg n false) false q0 q1 q2 w ht hr n0 n1 rfl hq E L
  · exact rn_12p5 n (sg n false) false q0 q1 q2 w ht hr n0 n1 rfl hq E L
  · exact rn_12m0 n (sg n true) true q0 q1 q2 w ht hr n0 n1 rfl hq E L
  · exact rn_12m1 n (sg n true) true q0 q1 q2 w ht hr n0 n1 rfl hq E L
  · exact rn_12m2 n (sg n true) true q0 q1 q2 w ht hr n0 n1 rfl hq E L
  · exact rn_12m3 n (sg n true) true q0 q1 q2 w ht hr n0 n1 rfl hq E L
  · exact rn_12m4 n (sg n true) true q0 q1 q2 w ht hr n0 n1 rfl hq E L
  · exact rn_12m5 n (sg n true) true q0 q1 q2 w ht hr n0 n1 rfl hq E L
theorem renamed_k2 (n s : Int) (r : Bool) (p0 p1 p2 q0 q1 q2 : Int) (w : World) (ht : Tabs w) (hr : w.rangeAt 0 0 permL) (n0 : 1 ≤ n) (n1 : n ≤ 2000) (s0 : 0 ≤ s) (s1 : s ≤ 2) (hp : permB p0 p1 p2 = true) (hq : permB q0 q1 q2 = true) : K6 2 n s r p0 p1 p2 q0 q1 q2 w := by
  have E : K19 2 n s r := fun w => by
    have := rwindingErr_any 2 n s r w
    rwa [wErr_ok (by decide) (by decide) n0 n1 s0 s1] at this
  have L := fun w => rlines_all 2 n s r w (by decide) (by decide) n0 n1 s0 s1
  have hs : s = 0 ∨ s = 1 ∨ s = 2 := by omega
  have hc : (p0 = 0 ∧ p1 = 1 ∧ p2 = 2) ∨ (p0 = 0 ∧ p1 = 2 ∧ p2 = 1) ∨ (p0 = 1 ∧ p1 = 0 ∧ p2 = 2) ∨ (p0 = 1 ∧ p1 = 2 ∧ p2 = 0) ∨ (p0 = 2 ∧ p1 = 0 ∧ p2 = 1) ∨ (p0 = 2 ∧ p1 = 1 ∧ p2 = 0) := by
    have := (permB_iff p0 p1 p2).1 hp
    omega
  rcases hs with rfl | rfl | rfl <;> cases r <;> rcases hc with ⟨rfl, rfl, rfl⟩ | ⟨rfl, rfl, rfl⟩ | ⟨rfl, rfl, rfl⟩ | ⟨rfl, rfl, rfl⟩ | ⟨rfl, rfl, rfl⟩ | ⟨rfl, rfl, rfl⟩
  · exact rn_20p0 n (sg n false) false q0 q1 q2 w ht hr n0 n1 rfl hq E L
  · exact rn_20p1 n (sg n false) false q0 q1 q2 w ht hr n0 n1 rfl hq E L
  · exact rn_20p2 n (sg n false) false q0 q1 q2 w ht hr n0 n1 rfl hq E L
  · exact rn_20p3 n (sg n false) false q0 q1 q2 w ht hr n0 n1 rfl hq E L
  · exact rn_20p4 n (sg n false) false q0 q1 q2 w ht hr n0 n1 rfl hq E L
  · exact rn_20p5 n (sg n false) false q0 q1 q2 w ht hr n0 n1 rfl hq E L
  · exact rn_20m0 n (sg n true) true q0 q1 q2 w ht hr n0 n1 rfl hq E L
  · exact rn_20m1 n (sg n true) true q0 q1 q2 w ht hr n0 n1 rfl hq E L
  · exact rn_20m2 n (sg n true) true q0 q1 q2 w ht hr n0 n1 rfl hq E L
  · exact rn_20m3 n (sg n true) true q0 q1 q2 w ht hr n0 n1 rfl hq E L
  · exact rn_20m4 n (sg n true) true q0 q1 q2 w ht hr n0 n1 rfl hq E L
  · exact rn_20m5 n (sg n true) true q0 q1 q2 w ht hr n0 n1 rfl hq E L
  · exact rn_21p0 n (sg n false) false q0 q1 q2 w ht hr n0 n1 rfl hq E L
  · exact rn_21p1 n (sg n false) false q0 q1 q2 w ht hr n0 n1 rfl hq E L
  · exact rn_21p2 n (sg n false) false q0 q1 q2 w ht hr n0 n1 rfl hq E L
  · exact rn_21p3 n (sg n false) false q0 q1 q2 w ht hr n0 n1 rfl hq E L
  · exact rn_21p4 n (sg n false) false q0 q1 q2 w ht hr n0 n1 rfl hq E L
  · exact rn_21p5 n (sg n false) false q0 q1 q2 w ht hr n0 n1 rfl hq E L
  · exact rn_21m0 n (sg n true) true q0 q1 q2 w ht hr n0 n1 rfl hq E L
  · exact rn_21m1 n (sg n true) true q0 q1 q2 w ht hr n0 n1 rfl hq E L
  · exact rn_21m2 n (sg n true) true q0 q1 q2 w ht hr n0 n1 rfl hq E L
  · exact rn_21m3 n (sg n true) true q0 q1 q2 w ht hr n0 n1 rfl hq E L
  · exact rn_21m4 n (sg n true) true q0 q1 q2 w ht hr n0 n1 rfl hq E L
  · exact rn_21m5 n (sg n true) true q0 q1 q2 w ht hr n0 n1 rfl hq E L
  · exact rn_22p0 n (sg n false) false q0 q1 q2 w ht hr n0 n1 rfl hq E L
  · exact rn_22p1 n (sg n false) false q0 q1 q2 w ht hr n0 n1 rfl hq E L
  · exact rn_22p2 n (sg n false) false q0 q1 q2 w ht hr n0 n1 rfl hq E L
  · exact rn_22p3 n (sg n false) false q0 q1 q2 w ht hr n0 n1 rfl hq E L
  · exact rn_22p4 n (sg n false) false q0 q1 q2 w ht hr n0 n1 rfl hq E L
  · exact rn_22p5 n (sg n false) false q0 q1 q2 w ht hr n0 n1 rfl hq E L
  · exact rn_22m0 n (sg n true) true q0 q1 q2 w ht hr n0 n1 rfl hq E L
  · exact rn_22m1 n (sg n true) true q0 q1 q2 w ht hr n0 n1 rfl hq E L
  · exact rn_22m2 n (sg n true) true q0 q1 q2 w ht hr n0 n1 rfl hq E L
  · exact rn_22m3 n (sg n true) true q0 q1 q2 w ht hr n0 n1 rfl hq E L
  · exact rn_22m4 n (sg n true) true q0 q1 q2 w ht hr n0 n1 rfl hq E L
  · exact rn_22m5 n (sg n true) true q0 q1 q2 w ht hr n0 n1 rfl hq E L
theorem renamed_law (k n s : Int) (r : Bool) (p0 p1 p2 q0 q1 q2 : Int) (w : World) (ht : Tabs w) (hr : w.rangeAt 0 0 permL) :
    Calls Tryd.prog 6 #[.agg #[.int .i64 k, .int .i64 n, .int .i64 s, .bool r], .agg #[.int .i64 p0, .int .i64 p1, .int .i64 p2], .agg #[.int .i64 q0, .int .i64 q1, .int .i64 q2]] w fun e w' => e = .returned (.bool true) ∧ Below w.heap.size w w' := by
  have E := fun w => rwindingErr_any k n s r w
  by_cases hE : wErr k n s = 0
  · obtain ⟨k0, k1, h1, h2, s0, s1⟩ := wErr_val hE
    rw [hE] at E
    have P := fun w => isPermutation_any p0 p1 p2 w
    have Q := fun w => isPermutation_any q0 q1 q2 w
    cases hp : permB p0 p1 p2 with
    | false =>
      rw [hp] at P
      exact renamed_badP k n s r p0 p1 p2 q0 q1 q2 w ht (Lib.hid E) (Lib.hid P)
    | true =>
      rw [hp] at P
      cases hq : permB q0 q1 q2 with
      | false =>
        rw [hq] at Q
        exact renamed_badQ k n s r p0 p1 p2 q0 q1 q2 w ht (Lib.hid E) (Lib.hid P) (Lib.hid Q)
      | true =>
        have hk : k = 0 ∨ k = 1 ∨ k = 2 := by omega
        rcases hk with rfl | rfl | rfl
        · exact renamed_k0 n s r p0 p1 p2 q0 q1 q2 w ht hr h1 h2 s0 s1 hp hq
        · exact renamed_k1 n s r p0 p1 p2 q0 q1 q2 w ht hr h1 h2 s0 s1 hp hq
        · exact renamed_k2 n s r p0 p1 p2 q0 q1 q2 w ht hr h1 h2 s0 s1 hp hq
  · exact renamed_badW k n s (wErr k n s) r p0 p1 p2 q0 q1 q2 w ht (by simpa using hE) (Lib.hid E)
end Go.Proofs.YtngdhmliohjigaaDoor
