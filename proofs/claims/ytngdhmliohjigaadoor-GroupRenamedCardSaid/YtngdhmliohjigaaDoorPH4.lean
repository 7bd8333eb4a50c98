/- The program's hours of every phasor. -/
import Derived.Test.YtngdhmliohjigaaDoorPH3
import Derived.Test.YtngdhmliohjigaaDoorK
import Derived.Test.YtngdhmliohjigaaDoorP
namespace Go.Proofs.YtngdhmliohjigaaDoor
open Go.RowKit
set_option maxHeartbeats 1000000 in
theorem hours_zero (w : World) :
    Calls Tryd.prog 92 #[.agg #[.int .i64 0, .int .i64 0]] w fun e w' => e = .returned (.tuple #[.int .i64 0, .int .i64 11]) ∧ Below w.heap.size w w' := by
  go_enter Tryd.func92, Tryd.ntmps92
  go_wp2
  go_returns
  exact ⟨rfl, by go_grown⟩
theorem eq142 (a b x y : Int) (w : World) : (Op.equalIn 10000 142 (.agg #[.int .i64 a, .int .i64 b]) (.agg #[.int .i64 x, .int .i64 y])).run Tryd.prog w = .ok (a == x && b == y) w := by
  have u3 := Tryd.underlying3
  have a3 := Tryd.isAgg3
  have z3 := Tryd.sizeOf3
  have hS : Tryd.prog.underlying 142 = some (.struct (Tryd.prog.fieldsOf 142)) := by kernel_rfl
  rw [show (10000 : Nat) = 9999 + 1 from rfl, run_equalIn_agg w 9999 142 _ _ hS (by kernel_rfl)]
  simp only [Program.fieldsOf, Tryd.underlying142]
  go_simp
  by_cases h1 : a = x <;> by_cases h2 : b = y <;> simp [h1, h2]
theorem neq142 (a b x y : Int) (h : ¬ (a = x ∧ b = y)) (w : World) : (binOp .eql 142 (.agg #[.int .i64 a, .int .i64 b]) (.agg #[.int .i64 x, .int .i64 y])).run Tryd.prog w = .ok (.bool false) w := by
  rw [run_eql_struct, eq142]
  have : (a == x && b == y) = false := Bool.eq_false_iff.2 (fun e => h (by simpa using e))
  rw [this]
  rfl
set_option maxRecDepth 100000 in
set_option maxHeartbeats 4000000 in
theorem hours_none (p q : Int) (w : World) (p0' : -1000000 ≤ p) (p1' : p ≤ 1000000) (q0' : -1000000 ≤ q) (q1' : q ≤ 1000000) (nz : ¬ (p = 0 ∧ q = 0)) (hn : hourIx p q = -1) (hr : w.rangeAt 3 0 hourL) :
    Calls Tryd.prog 92 #[.agg #[.int .i64 p, .int .i64 q]] w fun e w' => e = .returned (.tuple #[.int .i64 0, .int .i64 12]) ∧ Below w.heap.size w w' := by
  have no : ∀ i, ¬ Dir p q i := fun i hd => by
    have := dir_ix hd
    have := dir_bd hd
    omega
  obtain ⟨d, hg⟩ : ∃ d : Int, (Int.gcd p q : Int) = d := ⟨_, rfl⟩
  have hd0 : 1 ≤ d := by
    have : Int.gcd p q ≠ 0 := fun e => nz (Int.gcd_eq_zero_iff.1 e)
    omega
  have pz : ¬ p = 0 := fun e => by
    rcases Int.lt_or_gt_of_ne (fun f => nz ⟨e, f⟩ : q ≠ 0) with h | h
    · exact no _ (Dir.d10 h e)
    · exact no _ (Dir.d4 h e)
  have qz : ¬ q = 0 := fun e => by
    rcases Int.lt_or_gt_of_ne pz with h | h
    · exact no _ (Dir.d6 h e)
    · exact no _ (Dir.d0 h e)
  obtain ⟨x, hx⟩ : ∃ x : Int, p.tdiv d = x := ⟨_, rfl⟩
  obtain ⟨y, hy⟩ : ∃ y : Int, q.tdiv d = y := ⟨_, rfl⟩
  have ep : p = d * x := by rw [← hx, ← hg]; exact (Int.mul_tdiv_cancel' (Int.gcd_dvd_left p q)).symm
  have eq : q = d * y := by rw [← hy, ← hg]; exact (Int.mul_tdiv_cancel' (Int.gcd_dvd_right p q)).symm
  have no2 : ∀ i, ¬ Dir x y i := fun i h => no i (by have := mul_dir (d := d) (by omega) h; rwa [← ep, ← eq] at this)
  have n0 := neq142 x y 1 0 (fun h => no2 0 (Dir.d0 (by omega) (by omega)))
  have n1 := neq142 x y 2 1 (fun h => no2 1 (Dir.d1 (by omega) (by omega)))
  have n2 := neq142 x y 1 1 (fun h => no2 2 (Dir.d2 (by omega) (by omega)))
  have n3 := neq142 x y 1 2 (fun h => no2 3 (Dir.d3 (by omega) (by omega)))
  have n4 := neq142 x y 0 1 (fun h => no2 4 (Dir.d4 (by omega) (by omega)))
  have n5 := neq142 x y (-1) 1 (fun h => no2 5 (Dir.d5 (by omega) (by omega)))
  have n6 := neq142 x y (-1) 0 (fun h => no2 6 (Dir.d6 (by omega) (by omega)))
  have n7 := neq142 x y (-2) (-1) (fun h => no2 7 (Dir.d7 (by omega) (by omega)))
  have n8 := neq142 x y (-1) (-1) (fun h => no2 8 (Dir.d8 (by omega) (by omega)))
  have n9 := neq142 x y (-1) (-2) (fun h => no2 9 (Dir.d9 (by omega) (by omega)))
  have n10 := neq142 x y 0 (-1) (fun h => no2 10 (Dir.d10 (by omega) (by omega)))
  have n11 := neq142 x y 1 (-1) (fun h => no2 11 (Dir.d11 (by omega) (by omega)))
  have bd : ∀ z u : Int, u = d * z → -1000000 ≤ u → u ≤ 1000000 → -1000000 ≤ z ∧ z ≤ 1000000 := fun z u e l h => by
    by_cases hz : z < 0
    · have := Int.mul_le_mul_of_nonneg_right hd0 (show 0 ≤ -z by omega)
      rw [Int.one_mul, Int.mul_neg, ← e] at this
      omega
    · have := Int.mul_le_mul_of_nonneg_right hd0 (show 0 ≤ z by omega)
      rw [← e] at this
      omega
  have bx := bd x p ep p0' p1'
  have by' := bd y q eq q0' q1'
  have wx : IntKind.i64.wrap x = x := IntWalk.i64_in _ (by omega)
  have wy : IntKind.i64.wrap y = y := IntWalk.i64_in _ (by omega)
  clear bd
  have p0 : -1000000000000000000 ≤ p := by omega
  have p1 : p ≤ 1000000000000000000 := by omega
  have q0 : -1000000000000000000 ≤ q := by omega
  have q1 : q ≤ 1000000000000000000 := by omega
  have d0 : ¬ d = 0 := by omega
  have Hg := Lib.hid hg
  clear hg ep eq no no2 hn nz
  have ix0 := hour_ix0
  have ix1 := hour_ix1
  have ix2 := hour_ix2
  have ix3 := hour_ix3
  have ix4 := hour_ix4
  have ix5 := hour_ix5
  have ix6 := hour_ix6
  have ix7 := hour_ix7
  have ix8 := hour_ix8
  have ix9 := hour_ix9
  have ix10 := hour_ix10
  have ix11 := hour_ix11
  go_enter Tryd.func92, Tryd.ntmps92
  go_wp2_with (go_at_call 141; refine (divisor_as _ _ d _ Hg.out (by omega) (by omega) (by omega) (by omega)).mono ?_; rintro e w1 ⟨rfl, hb⟩; have qb : Below w.heap.size w w1 := belowT (by first | (go_grown; done) | exact And.left (by assumption)) hb; have qz : w.heap.size < w1.heap.size := Nat.lt_of_lt_of_le (by first | omega | (simp; done)) hb.size; have q0 : w1.cell? ⟨w.heap.size, 0, none⟩ = some (.int .i64 p) := keep1 hb (by first | (go_simp; done) | (go_keep; done)); have q1 : w1.cell? ⟨w.heap.size, 1, none⟩ = some (.int .i64 q) := keep1 hb (by first | (go_simp; done) | (go_keep; done)); have hr1 := rangeB (belowT (by go_grown) hb) hr)
  go_region_held3 (fun W : World => Below w.heap.size w W ∧ W.cell? ⟨w.heap.size, 0, none⟩ = some (.int .i64 p) ∧ W.cell? ⟨w.heap.size, 1, none⟩ = some (.int .i64 q)) ((repeat' apply And.intro) <;> (first | (with_reducible assumption) | (refine belowT ?_ ‹_›; first | (go_grown; done) | exact And.left (by assumption)) | (refine belowT (And.left (by assumption)) ?_; go_grown; done) | (go_simp; done) | exact keep1 ‹_› (by first | (go_simp; done) | (go_keep; done)) | (go_keep; done) | omega | (go_grown; done) | (refine Nat.lt_of_lt_of_le ?_ (Below.size ‹_›); first | omega | (simp; done)) | exact keepF ‹_› (by first | omega | (simp; done)) (by first | (go_simp; done) | (go_keep; done)) | (simp; omega))) (first | fail)
  go_wp2_with (refine wpList_load_mid rfl 201 _ rfl 3 0 rfl hourL _ ?_ Tryd.underlying201 rfl hourInfo ?_; exact rangeB (w := w1) (by go_grown) hr1)
  refine wp_loop_rounds 13 ?_
  iterate 12 (rw [rounds_succ]; go_wp2)
  rw [rounds_succ]
  go_wp2
  go_returns
  exact ⟨rfl, by go_grown⟩
theorem hours_all (p q : Int) (w : World) (p0 : -1000000 ≤ p) (p1 : p ≤ 1000000) (q0 : -1000000 ≤ q) (q1 : q ≤ 1000000) (ht : Tabs w) :
    Calls Tryd.prog 92 #[.agg #[.int .i64 p, .int .i64 q]] w fun e w' => e = .returned (.tuple #[.int .i64 (hourV p q), .int .i64 (hourE p q)]) ∧ Below w.heap.size w w' := by
  by_cases hz : p = 0 ∧ q = 0
  · obtain ⟨rfl, rfl⟩ := hz
    exact hours_zero w
  · rcases ix_dir p q with hn | hd
    · have e1 : hourV p q = 0 := by unfold hourV; rw [if_pos hn]
      have e2 : hourE p q = 12 := by unfold hourE; rw [if_neg hz, if_pos hn]
      rw [e1, e2]
      exact hours_none p q w p0 p1 q0 q1 hz hn ht.hrs
    · rw [hourV_dir hd, hourE_dir hd]
      generalize hourIx p q = i at hd
      rcases hd with ⟨rfl, a, b⟩ | ⟨rfl, a, b⟩ | ⟨rfl, a, b⟩ | ⟨rfl, a, b⟩ | ⟨rfl, a, b⟩ | ⟨rfl, a, b⟩ | ⟨rfl, a, b⟩ | ⟨rfl, a, b⟩ | ⟨rfl, a, b⟩ | ⟨rfl, a, b⟩ | ⟨rfl, a, b⟩ | ⟨rfl, a, b⟩
      · exact hours0 p q (p) w (by omega) (by omega) (by omega) (by omega) ht.hrs
      · exact hours1 p q (q) w (by omega) (by omega) (by omega) (by omega) ht.hrs
      · exact hours2 p q (q) w (by omega) (by omega) (by omega) (by omega) ht.hrs
      · exact hours3 p q (p) w (by omega) (by omega) (by omega) (by omega) ht.hrs
      · exact hours4 p q (q) w (by omega) (by omega) (by omega) (by omega) ht.hrs
      · exact hours5 p q (q) w (by omega) (by omega) (by omega) (by omega) ht.hrs
      · exact hours6 p q (-p) w (by omega) (by omega) (by omega) (by omega) ht.hrs
      · exact hours7 p q (-q) w (by omega) (by omega) (by omega) (by omega) ht.hrs
      · exact hours8 p q (-q) w (by omega) (by omega) (by omega) (by omega) ht.hrs
      · exact hours9 p q (-p) w (by omega) (by omega) (by omega) (by omega) ht.hrs
      · exact hours10 p q (-q) w (by omega) (by omega) (by omega) (by omega) ht.hrs
      · exact hours11 p q (-q) w (by omega) (by omega) (by omega) (by omega) ht.hrs
set_option maxHeartbeats 1000000 in
theorem checkPhasor_all (p q : Int) (w : World) : Calls Tryd.prog 90 #[.agg #[.int .i64 p, .int .i64 q]] w fun e w' => e = .returned (.int .i64 (pErr p q)) ∧ Below w.heap.size w w' := checkPhasor_any p q w
set_option maxHeartbeats 2000000 in
theorem squareOf_err (p q : Int) (w : World) (hE : pErr p q ≠ 0) :
    Calls Tryd.prog 25 #[.agg #[.int .i64 p, .int .i64 q]] w fun e w' => e = .returned (.tuple #[.int .i64 0, .int .i64 (pErr p q)]) ∧ Below w.heap.size w w' := by
  have hc := fun w => checkPhasor_all p q w
  generalize pErr p q = E at hc hE ⊢
  have Hc := Lib.hid hc
  have tE : (E != 0) = true := by simpa using hE
  clear hc hE
  go_enter Tryd.func25, Tryd.ntmps25
  go_wp2_with (go_at_call 90; refine (Hc.out _).mono ?_; rintro e w1 ⟨rfl, hb⟩; have qb : Below w.heap.size w w1 := belowT (by first | (go_grown; done) | exact And.left (by assumption)) hb; have qs := qb.size)
  go_returns
  exact ⟨rfl, by go_grown⟩
set_option maxHeartbeats 2000000 in
theorem squareOf_ok (p q : Int) (w : World) (hE : pErr p q = 0) :
    Calls Tryd.prog 25 #[.agg #[.int .i64 p, .int .i64 q]] w fun e w' => e = .returned (.tuple #[.int .i64 (sqV p q), .int .i64 0]) ∧ Below w.heap.size w w' := by
  have b := pErr_val hE
  have hc := fun w => checkPhasor_all p q w
  rw [hE] at hc
  have Hc := Lib.hid hc
  have Hi := Lib.hid (fun (w : World) => square_any p q w b.1 b.2.1 b.2.2.1 b.2.2.2)
  clear hc hE b
  go_enter Tryd.func25, Tryd.ntmps25
  go_wp2_with (first | (go_at_call 90; refine (Hc.out _).mono ?_; rintro e w1 ⟨rfl, hb⟩; have qb : Below w.heap.size w w1 := belowT (by first | (go_grown; done) | exact And.left (by assumption)) hb; have q0 : w1.cell? ⟨w.heap.size, 0, none⟩ = some (.int .i64 p) := keep1 hb (by first | (with_reducible assumption) | (go_simp; done) | ((repeat' (first | (with_reducible assumption) | refine allocC ?_ | refine drewC ?_)); done) | (go_keep; done)); have q1 : w1.cell? ⟨w.heap.size, 1, none⟩ = some (.int .i64 q) := keep1 hb (by first | (with_reducible assumption) | (go_simp; done) | ((repeat' (first | (with_reducible assumption) | refine allocC ?_ | refine drewC ?_)); done) | (go_keep; done)); have qs := qb.size) | (go_at_call 91; refine (Hi.out _).mono ?_; rintro e w2 ⟨rfl, hb2⟩; have pb : Below w.heap.size w w2 := belowT (by first | (with_reducible assumption) | (go_grown; done) | exact And.left (by assumption)) hb2; have ps := pb.size))
  go_returns
  exact ⟨rfl, by go_grown⟩
set_option maxHeartbeats 2000000 in
theorem hoursOf_err (p q : Int) (w : World) (hE : pErr p q ≠ 0) :
    Calls Tryd.prog 26 #[.agg #[.int .i64 p, .int .i64 q]] w fun e w' => e = .returned (.tuple #[.int .i64 0, .int .i64 (pErr p q)]) ∧ Below w.heap.size w w' := by
  have hc := fun w => checkPhasor_all p q w
  generalize pErr p q = E at hc hE ⊢
  have Hc := Lib.hid hc
  have tE : (E != 0) = true := by simpa using hE
  clear hc hE
  go_enter Tryd.func26, Tryd.ntmps26
  go_wp2_with (go_at_call 90; refine (Hc.out _).mono ?_; rintro e w1 ⟨rfl, hb⟩; have qb : Below w.heap.size w w1 := belowT (by first | (go_grown; done) | exact And.left (by assumption)) hb; have qs := qb.size)
  go_returns
  exact ⟨rfl, by go_grown⟩
set_option maxHeartbeats 2000000 in
theorem hoursOf_ok (p q : Int) (w : World) (hE : pErr p q = 0) (ht : Tabs w) :
    Calls Tryd.prog 26 #[.agg #[.int .i64 p, .int .i64 q]] w fun e w' => e = .returned (.tuple #[.int .i64 (hourV p q), .int .i64 (hourE p q)]) ∧ Below w.heap.size w w' := by
  have b := pErr_val hE
  have hc := fun w => checkPhasor_all p q w
  rw [hE] at hc
  have Hc := Lib.hid hc
  have Hi := Lib.hid (fun (w : World) (ht : Tabs w) => hours_all p q w b.1 b.2.1 b.2.2.1 b.2.2.2 ht)
  clear hc hE b
  go_enter Tryd.func26, Tryd.ntmps26
  go_wp2_with (first | (go_at_call 90; refine (Hc.out _).mono ?_; rintro e w1 ⟨rfl, hb⟩; have qb : Below w.heap.size w w1 := belowT (by first | (go_grown; done) | exact And.left (by assumption)) hb; have q0 : w1.cell? ⟨w.heap.size, 0, none⟩ = some (.int .i64 p) := keep1 hb (by first | (with_reducible assumption) | (go_simp; done) | ((repeat' (first | (with_reducible assumption) | refine allocC ?_ | refine drewC ?_)); done) | (go_keep; done)); have q1 : w1.cell? ⟨w.heap.size, 1, none⟩ = some (.int .i64 q) := keep1 hb (by first | (with_reducible assumption) | (go_simp; done) | ((repeat' (first | (with_reducible assumption) | refine allocC ?_ | refine drewC ?_)); done) | (go_keep; done)); have qs := qb.size) | (go_at_call 92; refine (Hi.out _ (ht.below (by first | (with_reducible assumption) | (go_grown; done)))).mono ?_; rintro e w2 ⟨rfl, hb2⟩; have pb : Below w.heap.size w w2 := belowT (by first | (with_reducible assumption) | (go_grown; done) | exact And.left (by assumption)) hb2; have ps := pb.size))
  go_returns
  exact ⟨rfl, by go_grown⟩
end Go.Proofs.YtngdhmliohjigaaDoor
