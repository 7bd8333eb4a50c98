/- Hours of phasors, an hour at a time. -/
import Derived.Test.YtngdhmliohjigaaDoorJ
namespace Go.Proofs.YtngdhmliohjigaaDoor
open Go.RowKit

set_option maxRecDepth 100000 in
set_option maxHeartbeats 1000000 in
theorem hours4 (p q d : Int) (w : World) (hd0 : 1 ≤ d) (hd1 : d ≤ 1000000) (hp : p = d * 0) (hq : q = d * 1) (hr : w.rangeAt 3 0 hourL) :
    Calls Tryd.prog 92 #[.agg #[.int .i64 p, .int .i64 q]] w fun e w' => e = .returned (.tuple #[.int .i64 4, .int .i64 0]) ∧ Below w.heap.size w w' := by
  have hg : (Int.gcd p q : Int) = d := by
    rw [hp, hq, Int.gcd_mul_left]
    have : Int.gcd 0 1 = 1 := by decide
    rw [this]; omega
  have hx : p.tdiv d = 0 := by rw [hp]; exact Int.mul_tdiv_cancel_left _ (by omega)
  have hy : q.tdiv d = 1 := by rw [hq]; exact Int.mul_tdiv_cancel_left _ (by omega)
  have p0 : -1000000000000000000 ≤ p := by omega
  have p1 : p ≤ 1000000000000000000 := by omega
  have q0 : -1000000000000000000 ≤ q := by omega
  have q1 : q ≤ 1000000000000000000 := by omega
  have Hg := Lib.hid hg
  have d0 : ¬ d = 0 := by omega
  obtain rfl : p = 0 := by omega
  clear hx hp
  have qz : ¬ q = 0 := by omega
  clear hg
  clear hq
  have ix0 := hour_ix0
  have ix1 := hour_ix1
  have ix2 := hour_ix2
  have ix3 := hour_ix3
  have ix4 := hour_ix4
  go_enter Tryd.func92, Tryd.ntmps92
  go_wp2_with (go_at_call 141; refine (divisor_as _ _ d _ Hg.out (by omega) (by omega) (by omega) (by omega)).mono ?_; rintro e w1 ⟨rfl, hb⟩; have qb : Below w.heap.size w w1 := belowT (by first | (go_grown; done) | exact And.left (by assumption)) hb; have qz : w.heap.size < w1.heap.size := Nat.lt_of_lt_of_le (by first | omega | (simp; done)) hb.size; have q0 : w1.cell? ⟨w.heap.size, 0, none⟩ = some (.int .i64 0) := keep1 hb (by first | (go_simp; done) | (go_keep; done)); have q1 : w1.cell? ⟨w.heap.size, 1, none⟩ = some (.int .i64 q) := keep1 hb (by first | (go_simp; done) | (go_keep; done)); have hr1 := rangeB (belowT (by go_grown) hb) hr)
  go_region_held3 (fun W : World => Below w.heap.size w W ∧ W.cell? ⟨w.heap.size, 0, none⟩ = some (.int .i64 0) ∧ W.cell? ⟨w.heap.size, 1, none⟩ = some (.int .i64 q)) ((repeat' apply And.intro) <;> (first | (with_reducible assumption) | (refine belowT ?_ ‹_›; first | (go_grown; done) | exact And.left (by assumption)) | (refine belowT (And.left (by assumption)) ?_; go_grown; done) | (go_simp; done) | exact keep1 ‹_› (by first | (go_simp; done) | (go_keep; done)) | (go_keep; done) | omega | (go_grown; done) | (refine Nat.lt_of_lt_of_le ?_ (Below.size ‹_›); first | omega | (simp; done)) | exact keepF ‹_› (by first | omega | (simp; done)) (by first | (go_simp; done) | (go_keep; done)) | (simp; omega))) (first | fail)
  go_wp2_with (refine wpList_load_mid rfl 201 _ rfl 3 0 rfl hourL _ ?_ Tryd.underlying201 rfl hourInfo ?_; exact rangeB (w := w1) (by go_grown) hr1)
  refine wp_loop_rounds 13 ?_
  iterate 5 (rw [rounds_succ]; go_wp2)
  go_returns
  exact ⟨rfl, by go_grown⟩
set_option maxRecDepth 100000 in
set_option maxHeartbeats 1000000 in
theorem hours5 (p q d : Int) (w : World) (hd0 : 1 ≤ d) (hd1 : d ≤ 1000000) (hp : p = d * (-1)) (hq : q = d * 1) (hr : w.rangeAt 3 0 hourL) :
    Calls Tryd.prog 92 #[.agg #[.int .i64 p, .int .i64 q]] w fun e w' => e = .returned (.tuple #[.int .i64 5, .int .i64 0]) ∧ Below w.heap.size w w' := by
  have hg : (Int.gcd p q : Int) = d := by
    rw [hp, hq, Int.gcd_mul_left]
    have : Int.gcd (-1) 1 = 1 := by decide
    rw [this]; omega
  have hx : p.tdiv d = (-1) := by rw [hp]; exact Int.mul_tdiv_cancel_left _ (by omega)
  have hy : q.tdiv d = 1 := by rw [hq]; exact Int.mul_tdiv_cancel_left _ (by omega)
  have p0 : -1000000000000000000 ≤ p := by omega
  have p1 : p ≤ 1000000000000000000 := by omega
  have q0 : -1000000000000000000 ≤ q := by omega
  have q1 : q ≤ 1000000000000000000 := by omega
  have Hg := Lib.hid hg
  have d0 : ¬ d = 0 := by omega
  have pz : ¬ p = 0 := by omega
  have qz : ¬ q = 0 := by omega
  clear hg
  clear hp
  clear hq
  have ix0 := hour_ix0
  have ix1 := hour_ix1
  have ix2 := hour_ix2
  have ix3 := hour_ix3
  have ix4 := hour_ix4
  have ix5 := hour_ix5
  go_enter Tryd.func92, Tryd.ntmps92
  go_wp2_with (go_at_call 141; refine (divisor_as _ _ d _ Hg.out (by omega) (by omega) (by omega) (by omega)).mono ?_; rintro e w1 ⟨rfl, hb⟩; have qb : Below w.heap.size w w1 := belowT (by first | (go_grown; done) | exact And.left (by assumption)) hb; have qz : w.heap.size < w1.heap.size := Nat.lt_of_lt_of_le (by first | omega | (simp; done)) hb.size; have q0 : w1.cell? ⟨w.heap.size, 0, none⟩ = some (.int .i64 p) := keep1 hb (by first | (go_simp; done) | (go_keep; done)); have q1 : w1.cell? ⟨w.heap.size, 1, none⟩ = some (.int .i64 q) := keep1 hb (by first | (go_simp; done) | (go_keep; done)); have hr1 := rangeB (belowT (by go_grown) hb) hr)
  go_region_held3 (fun W : World => Below w.heap.size w W ∧ W.cell? ⟨w.heap.size, 0, none⟩ = some (.int .i64 p) ∧ W.cell? ⟨w.heap.size, 1, none⟩ = some (.int .i64 q)) ((repeat' apply And.intro) <;> (first | (with_reducible assumption) | (refine belowT ?_ ‹_›; first | (go_grown; done) | exact And.left (by assumption)) | (refine belowT (And.left (by assumption)) ?_; go_grown; done) | (go_simp; done) | exact keep1 ‹_› (by first | (go_simp; done) | (go_keep; done)) | (go_keep; done) | omega | (go_grown; done) | (refine Nat.lt_of_lt_of_le ?_ (Below.size ‹_›); first | omega | (simp; done)) | exact keepF ‹_› (by first | omega | (simp; done)) (by first | (go_simp; done) | (go_keep; done)) | (simp; omega))) (first | fail)
  go_wp2_with (refine wpList_load_mid rfl 201 _ rfl 3 0 rfl hourL _ ?_ Tryd.underlying201 rfl hourInfo ?_; exact rangeB (w := w1) (by go_grown) hr1)
  refine wp_loop_rounds 13 ?_
  iterate 6 (rw [rounds_succ]; go_wp2)
  go_returns
  exact ⟨rfl, by go_grown⟩
set_option maxRecDepth 100000 in
set_option maxHeartbeats 1000000 in
theorem hours6 (p q d : Int) (w : World) (hd0 : 1 ≤ d) (hd1 : d ≤ 1000000) (hp : p = d * (-1)) (hq : q = d * 0) (hr : w.rangeAt 3 0 hourL) :
    Calls Tryd.prog 92 #[.agg #[.int .i64 p, .int .i64 q]] w fun e w' => e = .returned (.tuple #[.int .i64 6, .int .i64 0]) ∧ Below w.heap.size w w' := by
  have hg : (Int.gcd p q : Int) = d := by
    rw [hp, hq, Int.gcd_mul_left]
    have : Int.gcd (-1) 0 = 1 := by decide
    rw [this]; omega
  have hx : p.tdiv d = (-1) := by rw [hp]; exact Int.mul_tdiv_cancel_left _ (by omega)
  have hy : q.tdiv d = 0 := by rw [hq]; exact Int.mul_tdiv_cancel_left _ (by omega)
  have p0 : -1000000000000000000 ≤ p := by omega
  have p1 : p ≤ 1000000000000000000 := by omega
  have q0 : -1000000000000000000 ≤ q := by omega
  have q1 : q ≤ 1000000000000000000 := by omega
  have Hg := Lib.hid hg
  have d0 : ¬ d = 0 := by omega
  have pz : ¬ p = 0 := by omega
  obtain rfl : q = 0 := by omega
  clear hy hq
  clear hg
  clear hp
  have ix0 := hour_ix0
  have ix1 := hour_ix1
  have ix2 := hour_ix2
  have ix3 := hour_ix3
  have ix4 := hour_ix4
  have ix5 := hour_ix5
  have ix6 := hour_ix6
  go_enter Tryd.func92, Tryd.ntmps92
  go_wp2_with (go_at_call 141; refine (divisor_as _ _ d _ Hg.out (by omega) (by omega) (by omega) (by omega)).mono ?_; rintro e w1 ⟨rfl, hb⟩; have qb : Below w.heap.size w w1 := belowT (by first | (go_grown; done) | exact And.left (by assumption)) hb; have qz : w.heap.size < w1.heap.size := Nat.lt_of_lt_of_le (by first | omega | (simp; done)) hb.size; have q0 : w1.cell? ⟨w.heap.size, 0, none⟩ = some (.int .i64 p) := keep1 hb (by first | (go_simp; done) | (go_keep; done)); have q1 : w1.cell? ⟨w.heap.size, 1, none⟩ = some (.int .i64 0) := keep1 hb (by first | (go_simp; done) | (go_keep; done)); have hr1 := rangeB (belowT (by go_grown) hb) hr)
  go_region_held3 (fun W : World => Below w.heap.size w W ∧ W.cell? ⟨w.heap.size, 0, none⟩ = some (.int .i64 p) ∧ W.cell? ⟨w.heap.size, 1, none⟩ = some (.int .i64 0)) ((repeat' apply And.intro) <;> (first | (with_reducible assumption) | (refine belowT ?_ ‹_›; first | (go_grown; done) | exact And.left (by assumption)) | (refine belowT (And.left (by assumption)) ?_; go_grown; done) | (go_simp; done) | exact keep1 ‹_› (by first | (go_simp; done) | (go_keep; done)) | (go_keep; done) | omega | (go_grown; done) | (refine Nat.lt_of_lt_of_le ?_ (Below.size ‹_›); first | omega | (simp; done)) | exact keepF ‹_› (by first | omega | (simp; done)) (by first | (go_simp; done) | (go_keep; done)) | (simp; omega))) (first | fail)
  go_wp2_with (refine wpList_load_mid rfl 201 _ rfl 3 0 rfl hourL _ ?_ Tryd.underlying201 rfl hourInfo ?_; exact rangeB (w := w1) (by go_grown) hr1)
  refine wp_loop_rounds 13 ?_
  iterate 7 (rw [rounds_succ]; go_wp2)
  go_returns
  exact ⟨rfl, by go_grown⟩
set_option maxRecDepth 100000 in
set_option maxHeartbeats 1000000 in
theorem hours7 (p q d : Int) (w : World) (hd0 : 1 ≤ d) (hd1 : d ≤ 1000000) (hp : p = d * (-2)) (hq : q = d * (-1)) (hr : w.rangeAt 3 0 hourL) :
    Calls Tryd.prog 92 #[.agg #[.int .i64 p, .int .i64 q]] w fun e w' => e = .returned (.tuple #[.int .i64 7, .int .i64 0]) ∧ Below w.heap.size w w' := by
  have hg : (Int.gcd p q : Int) = d := by
    rw [hp, hq, Int.gcd_mul_left]
    have : Int.gcd (-2) (-1) = 1 := by decide
    rw [this]; omega
  have hx : p.tdiv d = (-2) := by rw [hp]; exact Int.mul_tdiv_cancel_left _ (by omega)
  have hy : q.tdiv d = (-1) := by rw [hq]; exact Int.mul_tdiv_cancel_left _ (by omega)
  have p0 : -1000000000000000000 ≤ p := by omega
  have p1 : p ≤ 1000000000000000000 := by omega
  have q0 : -1000000000000000000 ≤ q := by omega
  have q1 : q ≤ 1000000000000000000 := by omega
  have Hg := Lib.hid hg
  have d0 : ¬ d = 0 := by omega
  have pz : ¬ p = 0 := by omega
  have qz : ¬ q = 0 := by omega
  clear hg
  clear hp
  clear hq
  have ix0 := hour_ix0
  have ix1 := hour_ix1
  have ix2 := hour_ix2
  have ix3 := hour_ix3
  have ix4 := hour_ix4
  have ix5 := hour_ix5
  have ix6 := hour_ix6
  have ix7 := hour_ix7
  go_enter Tryd.func92, Tryd.ntmps92
  go_wp2_with (go_at_call 141; refine (divisor_as _ _ d _ Hg.out (by omega) (by omega) (by omega) (by omega)).mono ?_; rintro e w1 ⟨rfl, hb⟩; have qb : Below w.heap.size w w1 := belowT (by first | (go_grown; done) | exact And.left (by assumption)) hb; have qz : w.heap.size < w1.heap.size := Nat.lt_of_lt_of_le (by first | omega | (simp; done)) hb.size; have q0 : w1.cell? ⟨w.heap.size, 0, none⟩ = some (.int .i64 p) := keep1 hb (by first | (go_simp; done) | (go_keep; done)); have q1 : w1.cell? ⟨w.heap.size, 1, none⟩ = some (.int .i64 q) := keep1 hb (by first | (go_simp; done) | (go_keep; done)); have hr1 := rangeB (belowT (by go_grown) hb) hr)
  go_region_held3 (fun W : World => Below w.heap.size w W ∧ W.cell? ⟨w.heap.size, 0, none⟩ = some (.int .i64 p) ∧ W.cell? ⟨w.heap.size, 1, none⟩ = some (.int .i64 q)) ((repeat' apply And.intro) <;> (first | (with_reducible assumption) | (refine belowT ?_ ‹_›; first | (go_grown; done) | exact And.left (by assumption)) | (refine belowT (And.left (by assumption)) ?_; go_grown; done) | (go_simp; done) | exact keep1 ‹_› (by first | (go_simp; done) | (go_keep; done)) | (go_keep; done) | omega | (go_grown; done) | (refine Nat.lt_of_lt_of_le ?_ (Below.size ‹_›); first | omega | (simp; done)) | exact keepF ‹_› (by first | omega | (simp; done)) (by first | (go_simp; done) | (go_keep; done)) | (simp; omega))) (first | fail)
  go_wp2_with (refine wpList_load_mid rfl 201 _ rfl 3 0 rfl hourL _ ?_ Tryd.underlying201 rfl hourInfo ?_; exact rangeB (w := w1) (by go_grown) hr1)
  refine wp_loop_rounds 13 ?_
  iterate 8 (rw [rounds_succ]; go_wp2)
  go_returns
  exact ⟨rfl, by go_grown⟩
end Go.Proofs.YtngdhmliohjigaaDoor
