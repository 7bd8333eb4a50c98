/- Contracts of hours. -/
import Derived.Test.YtngdhmliohjigaaDoorH
import Derived.Deep.MidRow
namespace Go.Proofs.YtngdhmliohjigaaDoor
open Go.RowKit

/-- What the table of hours holds. -/
def hourL : List Value := [.int .i64 1, .int .i64 0, .int .i64 2, .int .i64 1, .int .i64 1, .int .i64 1, .int .i64 1, .int .i64 2, .int .i64 0, .int .i64 1, .int .i64 (-1), .int .i64 1, .int .i64 (-1), .int .i64 0, .int .i64 (-2), .int .i64 (-1), .int .i64 (-1), .int .i64 (-1), .int .i64 (-1), .int .i64 (-2), .int .i64 0, .int .i64 (-1), .int .i64 1, .int .i64 (-1)]
theorem hourInfo : (Tryd.prog.info? 201).map (·.size) = some hourL.length := by kernel_rfl
theorem divisor_as (a b d : Int) (w : World) (hd : (Int.gcd a b : Int) = d) (a0 : -1000000000000000000 ≤ a) (a1 : a ≤ 1000000000000000000) (b0 : -1000000000000000000 ≤ b) (b1 : b ≤ 1000000000000000000) :
    Calls Tryd.prog 141 #[.int .i64 a, .int .i64 b] w fun e w' => e = .returned (.int .i64 d) ∧ Below w.heap.size w w' := by
  subst hd
  exact divisor_any a b w a0 a1 b0 b1
theorem rangeB {w w1 : World} {b o : Nat} {cs : List Value} (hb : Below w.heap.size w w1) (h : w.rangeAt b o cs) : w1.rangeAt b o cs := fun j v hv => keep1 hb (h j v hv)
theorem hour_ix0 (w : World) : (Instr.index 201 (.agg hourL.toArray) (.int .i64 0)).run Tryd.prog w = .ok (.agg #[.int .i64 1, .int .i64 0]) w := by kernel_rfl
theorem hour_ix1 (w : World) : (Instr.index 201 (.agg hourL.toArray) (.int .i64 1)).run Tryd.prog w = .ok (.agg #[.int .i64 2, .int .i64 1]) w := by kernel_rfl
theorem hour_ix2 (w : World) : (Instr.index 201 (.agg hourL.toArray) (.int .i64 2)).run Tryd.prog w = .ok (.agg #[.int .i64 1, .int .i64 1]) w := by kernel_rfl
theorem hour_ix3 (w : World) : (Instr.index 201 (.agg hourL.toArray) (.int .i64 3)).run Tryd.prog w = .ok (.agg #[.int .i64 1, .int .i64 2]) w := by kernel_rfl
theorem hour_ix4 (w : World) : (Instr.index 201 (.agg hourL.toArray) (.int .i64 4)).run Tryd.prog w = .ok (.agg #[.int .i64 0, .int .i64 1]) w := by kernel_rfl
theorem hour_ix5 (w : World) : (Instr.index 201 (.agg hourL.toArray) (.int .i64 5)).run Tryd.prog w = .ok (.agg #[.int .i64 (-1), .int .i64 1]) w := by kernel_rfl
theorem hour_ix6 (w : World) : (Instr.index 201 (.agg hourL.toArray) (.int .i64 6)).run Tryd.prog w = .ok (.agg #[.int .i64 (-1), .int .i64 0]) w := by kernel_rfl
theorem hour_ix7 (w : World) : (Instr.index 201 (.agg hourL.toArray) (.int .i64 7)).run Tryd.prog w = .ok (.agg #[.int .i64 (-2), .int .i64 (-1)]) w := by kernel_rfl
theorem hour_ix8 (w : World) : (Instr.index 201 (.agg hourL.toArray) (.int .i64 8)).run Tryd.prog w = .ok (.agg #[.int .i64 (-1), .int .i64 (-1)]) w := by kernel_rfl
theorem hour_ix9 (w : World) : (Instr.index 201 (.agg hourL.toArray) (.int .i64 9)).run Tryd.prog w = .ok (.agg #[.int .i64 (-1), .int .i64 (-2)]) w := by kernel_rfl
theorem hour_ix10 (w : World) : (Instr.index 201 (.agg hourL.toArray) (.int .i64 10)).run Tryd.prog w = .ok (.agg #[.int .i64 0, .int .i64 (-1)]) w := by kernel_rfl
theorem hour_ix11 (w : World) : (Instr.index 201 (.agg hourL.toArray) (.int .i64 11)).run Tryd.prog w = .ok (.agg #[.int .i64 1, .int .i64 (-1)]) w := by kernel_rfl
set_option maxRecDepth 100000 in
set_option maxHeartbeats 1000000 in
theorem hours0 (p q d : Int) (w : World) (hd0 : 1 ≤ d) (hd1 : d ≤ 1000000) (hp : p = d * 1) (hq : q = d * 0) (hr : w.rangeAt 3 0 hourL) :
    Calls Tryd.prog 92 #[.agg #[.int .i64 p, .int .i64 q]] w fun e w' => e = .returned (.tuple #[.int .i64 0, .int .i64 0]) ∧ Below w.heap.size w w' := by
  have hg : (Int.gcd p q : Int) = d := by
    rw [hp, hq, Int.gcd_mul_left]
    have : Int.gcd 1 0 = 1 := by decide
    rw [this]; omega
  have hx : p.tdiv d = 1 := by rw [hp]; exact Int.mul_tdiv_cancel_left _ (by omega)
  have hy : q.tdiv d = 0 := by rw [hq]; exact Int.mul_tdiv_cancel_left _ (by omega)
  have p0 : -1000000000000000000 ≤ p := by omega
  have p1 : p ≤ 1000000000000000000 := by omega
  have q0 : -1000000000000000000 ≤ q := by omega
  have q1 : q ≤ 1000000000000000000 := by omega
  have Hg := Lib.hid hg
  have d0 : ¬ d = 0 := by omega
  have pz : ¬ p = 0 := by omega
  obtain rfl : q = 0 := by omega
  clear hy hq
  clear hg
  clear hp
  have ix0 := hour_ix0
  go_enter Tryd.func92, Tryd.ntmps92
  go_wp2_with (go_at_call 141; refine (divisor_as _ _ d _ Hg.out (by omega) (by omega) (by omega) (by omega)).mono ?_; rintro e w1 ⟨rfl, hb⟩; have qb : Below w.heap.size w w1 := belowT (by first | (go_grown; done) | exact And.left (by assumption)) hb; have qz : w.heap.size < w1.heap.size := Nat.lt_of_lt_of_le (by first | omega | (simp; done)) hb.size; have q0 : w1.cell? ⟨w.heap.size, 0, none⟩ = some (.int .i64 p) := keep1 hb (by first | (go_simp; done) | (go_keep; done)); have q1 : w1.cell? ⟨w.heap.size, 1, none⟩ = some (.int .i64 0) := keep1 hb (by first | (go_simp; done) | (go_keep; done)); have hr1 := rangeB (belowT (by go_grown) hb) hr)
  go_region_held3 (fun W : World => Below w.heap.size w W ∧ W.cell? ⟨w.heap.size, 0, none⟩ = some (.int .i64 p) ∧ W.cell? ⟨w.heap.size, 1, none⟩ = some (.int .i64 0)) ((repeat' apply And.intro) <;> (first | (with_reducible assumption) | (refine belowT ?_ ‹_›; first | (go_grown; done) | exact And.left (by assumption)) | (refine belowT (And.left (by assumption)) ?_; go_grown; done) | (go_simp; done) | exact keep1 ‹_› (by first | (go_simp; done) | (go_keep; done)) | (go_keep; done) | omega | (go_grown; done) | (refine Nat.lt_of_lt_of_le ?_ (Below.size ‹_›); first | omega | (simp; done)) | exact keepF ‹_› (by first | omega | (simp; done)) (by first | (go_simp; done) | (go_keep; done)) | (simp; omega))) (first | fail)
  go_wp2_with (refine wpList_load_mid rfl 201 _ rfl 3 0 rfl hourL _ ?_ Tryd.underlying201 rfl hourInfo ?_; exact rangeB (w := w1) (by go_grown) hr1)
  refine wp_loop_rounds 13 ?_
  iterate 1 (rw [rounds_succ]; go_wp2)
  go_returns
  exact ⟨rfl, by go_grown⟩
set_option maxRecDepth 100000 in
set_option maxHeartbeats 1000000 in
theorem hours1 (p q d : Int) (w : World) (hd0 : 1 ≤ d) (hd1 : d ≤ 1000000) (hp : p = d * 2) (hq : q = d * 1) (hr : w.rangeAt 3 0 hourL) :
    Calls Tryd.prog 92 #[.agg #[.int .i64 p, .int .i64 q]] w fun e w' => e = .returned (.tuple #[.int .i64 1, .int .i64 0]) ∧ Below w.heap.size w w' := by
  have hg : (Int.gcd p q : Int) = d := by
    rw [hp, hq, Int.gcd_mul_left]
    have : Int.gcd 2 1 = 1 := by decide
    rw [this]; omega
  have hx : p.tdiv d = 2 := by rw [hp]; exact Int.mul_tdiv_cancel_left _ (by omega)
  have hy : q.tdiv d = 1 := by rw [hq]; exact Int.mul_tdiv_cancel_left _ (by omega)
  have p0 : -1000000000000000000 ≤ p := by omega
  have p1 : p ≤ 1000000000000000000 := by omega
  have q0 : -1000000000000000000 ≤ q := by omega
  have q1 : q ≤ 1000000000000000000 := by omega
  have Hg := Lib.hid hg
  have d0 : ¬ d = 0 := by omega
  have pz : ¬ p = 0 := by omega
  have qz : ¬ q = 0 := by omega
  clear hg
  clear hp
  clear hq
  have ix0 := hour_ix0
  have ix1 := hour_ix1
  go_enter Tryd.func92, Tryd.ntmps92
  go_wp2_with (go_at_call 141; refine (divisor_as _ _ d _ Hg.out (by omega) (by omega) (by omega) (by omega)).mono ?_; rintro e w1 ⟨rfl, hb⟩; have qb : Below w.heap.size w w1 := belowT (by first | (go_grown; done) | exact And.left (by assumption)) hb; have qz : w.heap.size < w1.heap.size := Nat.lt_of_lt_of_le (by first | omega | (simp; done)) hb.size; have q0 : w1.cell? ⟨w.heap.size, 0, none⟩ = some (.int .i64 p) := keep1 hb (by first | (go_simp; done) | (go_keep; done)); have q1 : w1.cell? ⟨w.heap.size, 1, none⟩ = some (.int .i64 q) := keep1 hb (by first | (go_simp; done) | (go_keep; done)); have hr1 := rangeB (belowT (by go_grown) hb) hr)
  go_region_held3 (fun W : World => Below w.heap.size w W ∧ W.cell? ⟨w.heap.size, 0, none⟩ = some (.int .i64 p) ∧ W.cell? ⟨w.heap.size, 1, none⟩ = some (.int .i64 q)) ((repeat' apply And.intro) <;> (first | (with_reducible assumption) | (refine belowT ?_ ‹_›; first | (go_grown; done) | exact And.left (by assumption)) | (refine belowT (And.left (by assumption)) ?_; go_grown; done) | (go_simp; done) | exact keep1 ‹_› (by first | (go_simp; done) | (go_keep; done)) | (go_keep; done) | omega | (go_grown; done) | (refine Nat.lt_of_lt_of_le ?_ (Below.size ‹_›); first | omega | (simp; done)) | exact keepF ‹_› (by first | omega | (simp; done)) (by first | (go_simp; done) | (go_keep; done)) | (simp; omega))) (first | fail)
  go_wp2_with (refine wpList_load_mid rfl 201 _ rfl 3 0 rfl hourL _ ?_ Tryd.underlying201 rfl hourInfo ?_; exact rangeB (w := w1) (by go_grown) hr1)
  refine wp_loop_rounds 13 ?_
  iterate 2 (rw [rounds_succ]; go_wp2)
  go_returns
  exact ⟨rfl, by go_grown⟩
set_option maxRecDepth 100000 in
set_option maxHeartbeats 1000000 in
theorem hours2 (p q d : Int) (w : World) (hd0 : 1 ≤ d) (hd1 : d ≤ 1000000) (hp : p = d * 1) (hq : q = d * 1) (hr : w.rangeAt 3 0 hourL) :
    Calls Tryd.prog 92 #[.agg #[.int .i64 p, .int .i64 q]] w fun e w' => e = .returned (.tuple #[.int .i64 2, .int .i64 0]) ∧ Below w.heap.size w w' := by
  have hg : (Int.gcd p q : Int) = d := by
    rw [hp, hq, Int.gcd_mul_left]
    have : Int.gcd 1 1 = 1 := by decide
    rw [this]; omega
  have hx : p.tdiv d = 1 := by rw [hp]; exact Int.mul_tdiv_cancel_left _ (by omega)
  have hy : q.tdiv d = 1 := by rw [hq]; exact Int.mul_tdiv_cancel_left _ (by omega)
  have p0 : -1000000000000000000 ≤ p := by omega
  have p1 : p ≤ 1000000000000000000 := by omega
  have q0 : -1000000000000000000 ≤ q := by omega
  have q1 : q ≤ 1000000000000000000 := by omega
  have Hg := Lib.hid hg
  have d0 : ¬ d = 0 := by omega
  have pz : ¬ p = 0 := by omega
  have qz : ¬ q = 0 := by omega
  clear hg
  clear hp
  clear hq
  have ix0 := hour_ix0
  have ix1 := hour_ix1
  have ix2 := hour_ix2
  go_enter Tryd.func92, Tryd.ntmps92
  go_wp2_with (go_at_call 141; refine (divisor_as _ _ d _ Hg.out (by omega) (by omega) (by omega) (by omega)).mono ?_; rintro e w1 ⟨rfl, hb⟩; have qb : Below w.heap.size w w1 := belowT (by first | (go_grown; done) | exact And.left (by assumption)) hb; have qz : w.heap.size < w1.heap.size := Nat.lt_of_lt_of_le (by first | omega | (simp; done)) hb.size; have q0 : w1.cell? ⟨w.heap.size, 0, none⟩ = some (.int .i64 p) := keep1 hb (by first | (go_simp; done) | (go_keep; done)); have q1 : w1.cell? ⟨w.heap.size, 1, none⟩ = some (.int .i64 q) := keep1 hb (by first | (go_simp; done) | (go_keep; done)); have hr1 := rangeB (belowT (by go_grown) hb) hr)
  go_region_held3 (fun W : World => Below w.heap.size w W ∧ W.cell? ⟨w.heap.size, 0, none⟩ = some (.int .i64 p) ∧ W.cell? ⟨w.heap.size, 1, none⟩ = some (.int .i64 q)) ((repeat' apply And.intro) <;> (first | (with_reducible assumption) | (refine belowT ?_ ‹_›; first | (go_grown; done) | exact And.left (by assumption)) | (refine belowT (And.left (by assumption)) ?_; go_grown; done) | (go_simp; done) | exact keep1 ‹_› (by first | (go_simp; done) | (go_keep; done)) | (go_keep; done) | omega | (go_grown; done) | (refine Nat.lt_of_lt_of_le ?_ (Below.size ‹_›); first | omega | (simp; done)) | exact keepF ‹_› (by first | omega | (simp; done)) (by first | (go_simp; done) | (go_keep; done)) | (simp; omega))) (first | fail)
  go_wp2_with (refine wpList_load_mid rfl 201 _ rfl 3 0 rfl hourL _ ?_ Tryd.underlying201 rfl hourInfo ?_; exact rangeB (w := w1) (by go_grown) hr1)
  refine wp_loop_rounds 13 ?_
  iterate 3 (rw [rounds_succ]; go_wp2)
  go_returns
  exact ⟨rfl, by go_grown⟩
set_option maxRecDepth 100000 in
set_option maxHeartbeats 1000000 in
theorem hours3 (p q d : Int) (w : World) (hd0 : 1 ≤ d) (hd1 : d ≤ 1000000) (hp : p = d * 1) (hq : q = d * 2) (hr : w.rangeAt 3 0 hourL) :
    Calls Tryd.prog 92 #[.agg #[.int .i64 p, .int .i64 q]] w fun e w' => e = .returned (.tuple #[.int .i64 3, .int .i64 0]) ∧ Below w.heap.size w w' := by
  have hg : (Int.gcd p q : Int) = d := by
    rw [hp, hq, Int.gcd_mul_left]
    have : Int.gcd 1 2 = 1 := by decide
    rw [this]; omega
  have hx : p.tdiv d = 1 := by rw [hp]; exact Int.mul_tdiv_cancel_left _ (by omega)
  have hy : q.tdiv d = 2 := by rw [hq]; exact Int.mul_tdiv_cancel_left _ (by omega)
  have p0 : -1000000000000000000 ≤ p := by omega
  have p1 : p ≤ 1000000000000000000 := by omega
  have q0 : -1000000000000000000 ≤ q := by omega
  have q1 : q ≤ 1000000000000000000 := by omega
  have Hg := Lib.hid hg
  have d0 : ¬ d = 0 := by omega
  have pz : ¬ p = 0 := by omega
  have qz : ¬ q = 0 := by omega
  clear hg
  clear hp
  clear hq
  have ix0 := hour_ix0
  have ix1 := hour_ix1
  have ix2 := hour_ix2
  have ix3 := hour_ix3
  go_enter Tryd.func92, Tryd.ntmps92
  go_wp2_with (go_at_call 141; refine (divisor_as _ _ d _ Hg.out (by omega) (by omega) (by omega) (by omega)).mono ?_; rintro e w1 ⟨rfl, hb⟩; have qb : Below w.heap.size w w1 := belowT (by first | (go_grown; done) | exact And.left (by assumption)) hb; have qz : w.heap.size < w1.heap.size := Nat.lt_of_lt_of_le (by first | omega | (simp; done)) hb.size; have q0 : w1.cell? ⟨w.heap.size, 0, none⟩ = some (.int .i64 p) := keep1 hb (by first | (go_simp; done) | (go_keep; done)); have q1 : w1.cell? ⟨w.heap.size, 1, none⟩ = some (.int .i64 q) := keep1 hb (by first | (go_simp; done) | (go_keep; done)); have hr1 := rangeB (belowT (by go_grown) hb) hr)
  go_region_held3 (fun W : World => Below w.heap.size w W ∧ W.cell? ⟨w.heap.size, 0, none⟩ = some (.int .i64 p) ∧ W.cell? ⟨w.heap.size, 1, none⟩ = some (.int .i64 q)) ((repeat' apply And.intro) <;> (first | (with_reducible assumption) | (refine belowT ?_ ‹_›; first | (go_grown; done) | exact And.left (by assumption)) | (refine belowT (And.left (by assumption)) ?_; go_grown; done) | (go_simp; done) | exact keep1 ‹_› (by first | (go_simp; done) | (go_keep; done)) | (go_keep; done) | omega | (go_grown; done) | (refine Nat.lt_of_lt_of_le ?_ (Below.size ‹_›); first | omega | (simp; done)) | exact keepF ‹_› (by first | omega | (simp; done)) (by first | (go_simp; done) | (go_keep; done)) | (simp; omega))) (first | fail)
  go_wp2_with (refine wpList_load_mid rfl 201 _ rfl 3 0 rfl hourL _ ?_ Tryd.underlying201 rfl hourInfo ?_; exact rangeB (w := w1) (by go_grown) hr1)
  refine wp_loop_rounds 13 ?_
  iterate 4 (rw [rounds_succ]; go_wp2)
  go_returns
  exact ⟨rfl, by go_grown⟩
end Go.Proofs.YtngdhmliohjigaaDoor
