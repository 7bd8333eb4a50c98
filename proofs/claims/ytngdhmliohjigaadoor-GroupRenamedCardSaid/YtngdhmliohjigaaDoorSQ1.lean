/- The phasor of any line; PhasorOf. -/
import Derived.Test.YtngdhmliohjigaaDoorM
namespace Go.Proofs.YtngdhmliohjigaaDoor
open Go.RowKit
set_option maxRecDepth 100000 in
set_option maxHeartbeats 1000000 in
theorem phasorAt1 (x0 x1 x2 x3 x4 x5 x6 x7 x8 : Int) (w : World) (hx0 : -10000 ≤ x3 ∧ x3 ≤ 10000) (hx1 : -10000 ≤ x4 ∧ x4 ≤ 10000) (hx2 : -10000 ≤ x5 ∧ x5 ≤ 10000) (hs : 8 < w.heap.size) (g0 : w.cell? ⟨2, 0, none⟩ = some (.int .i64 1)) (g1 : w.cell? ⟨2, 1, none⟩ = some (.int .i64 0)) (g2 : w.cell? ⟨2, 2, none⟩ = some (.int .i64 (-1))) (g3 : w.cell? ⟨2, 3, none⟩ = some (.int .i64 (-1))) (g4 : w.cell? ⟨2, 4, none⟩ = some (.int .i64 0)) (g5 : w.cell? ⟨2, 5, none⟩ = some (.int .i64 1)) :
    Calls Tryd.prog 89 #[.agg #[.int .i64 x0, .int .i64 x1, .int .i64 x2, .int .i64 x3, .int .i64 x4, .int .i64 x5, .int .i64 x6, .int .i64 x7, .int .i64 x8], .int .i64 1] w fun e w' => e = .returned (.agg #[.int .i64 (x3 - x4), .int .i64 (x5 - x4)]) ∧ Below w.heap.size w w' := by
  have hs0 : 2 < w.heap.size := by omega
  have hs1 : 2 < w.heap.size + 1 := by omega
  have hs2 : 2 < w.heap.size + 1 + 1 := by omega
  have hs3 : 2 < w.heap.size + 1 + 1 + 1 := by omega
  have i0 : ∀ w, (Instr.index 25 (.agg #[.int .i64 x3, .int .i64 x4, .int .i64 x5]) (.int .i64 0)).run Tryd.prog w = .ok (.int .i64 x3) w := fun _ => by kernel_rfl
  have i1 : ∀ w, (Instr.index 25 (.agg #[.int .i64 x3, .int .i64 x4, .int .i64 x5]) (.int .i64 1)).run Tryd.prog w = .ok (.int .i64 x4) w := fun _ => by kernel_rfl
  have i2 : ∀ w, (Instr.index 25 (.agg #[.int .i64 x3, .int .i64 x4, .int .i64 x5]) (.int .i64 2)).run Tryd.prog w = .ok (.int .i64 x5) w := fun _ => by kernel_rfl
  go_enter Tryd.func89, Tryd.ntmps89
  go_wp2
  refine wp_loop_rounds 4 ?_
  iterate 3 (rw [rounds_succ]; go_wp2; go_region; go_wp2; go_region; go_wp2)
  rw [rounds_succ]
  go_wp2
  go_returns
  refine ⟨?_, by go_grown⟩
  rw [show x3 + -x4 = x3 - x4 from by omega, show -x4 + x5 = x5 - x4 from by omega]
set_option maxRecDepth 100000 in
set_option maxHeartbeats 1000000 in
theorem phasorAt2 (x0 x1 x2 x3 x4 x5 x6 x7 x8 : Int) (w : World) (hx0 : -10000 ≤ x6 ∧ x6 ≤ 10000) (hx1 : -10000 ≤ x7 ∧ x7 ≤ 10000) (hx2 : -10000 ≤ x8 ∧ x8 ≤ 10000) (hs : 8 < w.heap.size) (g0 : w.cell? ⟨2, 0, none⟩ = some (.int .i64 1)) (g1 : w.cell? ⟨2, 1, none⟩ = some (.int .i64 0)) (g2 : w.cell? ⟨2, 2, none⟩ = some (.int .i64 (-1))) (g3 : w.cell? ⟨2, 3, none⟩ = some (.int .i64 (-1))) (g4 : w.cell? ⟨2, 4, none⟩ = some (.int .i64 0)) (g5 : w.cell? ⟨2, 5, none⟩ = some (.int .i64 1)) :
    Calls Tryd.prog 89 #[.agg #[.int .i64 x0, .int .i64 x1, .int .i64 x2, .int .i64 x3, .int .i64 x4, .int .i64 x5, .int .i64 x6, .int .i64 x7, .int .i64 x8], .int .i64 2] w fun e w' => e = .returned (.agg #[.int .i64 (x6 - x7), .int .i64 (x8 - x7)]) ∧ Below w.heap.size w w' := by
  have hs0 : 2 < w.heap.size := by omega
  have hs1 : 2 < w.heap.size + 1 := by omega
  have hs2 : 2 < w.heap.size + 1 + 1 := by omega
  have hs3 : 2 < w.heap.size + 1 + 1 + 1 := by omega
  have i0 : ∀ w, (Instr.index 25 (.agg #[.int .i64 x6, .int .i64 x7, .int .i64 x8]) (.int .i64 0)).run Tryd.prog w = .ok (.int .i64 x6) w := fun _ => by kernel_rfl
  have i1 : ∀ w, (Instr.index 25 (.agg #[.int .i64 x6, .int .i64 x7, .int .i64 x8]) (.int .i64 1)).run Tryd.prog w = .ok (.int .i64 x7) w := fun _ => by kernel_rfl
  have i2 : ∀ w, (Instr.index 25 (.agg #[.int .i64 x6, .int .i64 x7, .int .i64 x8]) (.int .i64 2)).run Tryd.prog w = .ok (.int .i64 x8) w := fun _ => by kernel_rfl
  go_enter Tryd.func89, Tryd.ntmps89
  go_wp2
  refine wp_loop_rounds 4 ?_
  iterate 3 (rw [rounds_succ]; go_wp2; go_region; go_wp2; go_region; go_wp2)
  rw [rounds_succ]
  go_wp2
  go_returns
  refine ⟨?_, by go_grown⟩
  rw [show x6 + -x7 = x6 - x7 from by omega, show -x7 + x8 = x8 - x7 from by omega]
/-- A number of a line within its limits. -/
def Lim (x : Int) : Prop := -10000 ≤ x ∧ x ≤ 10000
/-- The error of lines. -/
def lErr (x0 x1 x2 x3 x4 x5 x6 x7 x8 : Int) : Int := fst3 (lineErr x0 x1 x2) (lineErr x3 x4 x5) (lineErr x6 x7 x8)
theorem lineErr_val {a b c : Int} (h : lineErr a b c = 0) : Lim a ∧ Lim b ∧ Lim c := by
  simp only [lineErr, fst3, outErr] at h
  refine ⟨⟨?_, ?_⟩, ⟨?_, ?_⟩, ⟨?_, ?_⟩⟩
  all_goals (repeat' split at h) <;> omega
theorem lineErr_ok {a b c : Int} (ha : Lim a) (hb : Lim b) (hc : Lim c) : lineErr a b c = 0 := by
  obtain ⟨a0, a1⟩ := ha
  obtain ⟨b0, b1⟩ := hb
  obtain ⟨c0, c1⟩ := hc
  simp only [lineErr, fst3, outErr]
  (repeat' split) <;> omega
theorem lErr_val {x0 x1 x2 x3 x4 x5 x6 x7 x8 : Int} (h : lErr x0 x1 x2 x3 x4 x5 x6 x7 x8 = 0) : (Lim x0 ∧ Lim x1 ∧ Lim x2) ∧ (Lim x3 ∧ Lim x4 ∧ Lim x5) ∧ (Lim x6 ∧ Lim x7 ∧ Lim x8) := by
  unfold lErr fst3 at h
  split at h
  · split at h
    · exact ⟨lineErr_val ‹_›, lineErr_val ‹_›, lineErr_val h⟩
    · exact absurd h ‹_›
  · exact absurd h ‹_›
theorem lErr_ok {x0 x1 x2 x3 x4 x5 x6 x7 x8 : Int} (h : (Lim x0 ∧ Lim x1 ∧ Lim x2) ∧ (Lim x3 ∧ Lim x4 ∧ Lim x5) ∧ (Lim x6 ∧ Lim x7 ∧ Lim x8)) : lErr x0 x1 x2 x3 x4 x5 x6 x7 x8 = 0 := by
  unfold lErr fst3
  rw [lineErr_ok h.1.1 h.1.2.1 h.1.2.2, lineErr_ok h.2.1.1 h.2.1.2.1 h.2.1.2.2, lineErr_ok h.2.2.1 h.2.2.2.1 h.2.2.2.2]
  rfl
theorem checkLines_all (x0 x1 x2 x3 x4 x5 x6 x7 x8 : Int) (w : World) : Calls Tryd.prog 30 #[.agg #[.int .i64 x0, .int .i64 x1, .int .i64 x2, .int .i64 x3, .int .i64 x4, .int .i64 x5, .int .i64 x6, .int .i64 x7, .int .i64 x8]] w fun e w' => e = .returned (.int .i64 (lErr x0 x1 x2 x3 x4 x5 x6 x7 x8)) ∧ Below w.heap.size w w' := checkLines_any x0 x1 x2 x3 x4 x5 x6 x7 x8 w
theorem phasor0_t (x0 x1 x2 x3 x4 x5 x6 x7 x8 : Int) (w : World) (h : Lim x0 ∧ Lim x1 ∧ Lim x2) (ht : Tabs w) : Calls Tryd.prog 89 #[.agg #[.int .i64 x0, .int .i64 x1, .int .i64 x2, .int .i64 x3, .int .i64 x4, .int .i64 x5, .int .i64 x6, .int .i64 x7, .int .i64 x8], .int .i64 0] w fun e w' => e = .returned (.agg #[.int .i64 (x0 - x1), .int .i64 (x2 - x1)]) ∧ Below w.heap.size w w' :=
  phasorAt0 x0 x1 x2 x3 x4 x5 x6 x7 x8 w h.1 h.2.1 h.2.2 (Nat.lt_of_succ_lt ht.size) (ht.limb 0 _ rfl) (ht.limb 1 _ rfl) (ht.limb 2 _ rfl) (ht.limb 3 _ rfl) (ht.limb 4 _ rfl) (ht.limb 5 _ rfl)
theorem phasor1_t (x0 x1 x2 x3 x4 x5 x6 x7 x8 : Int) (w : World) (h : Lim x3 ∧ Lim x4 ∧ Lim x5) (ht : Tabs w) : Calls Tryd.prog 89 #[.agg #[.int .i64 x0, .int .i64 x1, .int .i64 x2, .int .i64 x3, .int .i64 x4, .int .i64 x5, .int .i64 x6, .int .i64 x7, .int .i64 x8], .int .i64 1] w fun e w' => e = .returned (.agg #[.int .i64 (x3 - x4), .int .i64 (x5 - x4)]) ∧ Below w.heap.size w w' :=
  phasorAt1 x0 x1 x2 x3 x4 x5 x6 x7 x8 w h.1 h.2.1 h.2.2 (Nat.lt_of_succ_lt ht.size) (ht.limb 0 _ rfl) (ht.limb 1 _ rfl) (ht.limb 2 _ rfl) (ht.limb 3 _ rfl) (ht.limb 4 _ rfl) (ht.limb 5 _ rfl)
theorem phasor2_t (x0 x1 x2 x3 x4 x5 x6 x7 x8 : Int) (w : World) (h : Lim x6 ∧ Lim x7 ∧ Lim x8) (ht : Tabs w) : Calls Tryd.prog 89 #[.agg #[.int .i64 x0, .int .i64 x1, .int .i64 x2, .int .i64 x3, .int .i64 x4, .int .i64 x5, .int .i64 x6, .int .i64 x7, .int .i64 x8], .int .i64 2] w fun e w' => e = .returned (.agg #[.int .i64 (x6 - x7), .int .i64 (x8 - x7)]) ∧ Below w.heap.size w w' :=
  phasorAt2 x0 x1 x2 x3 x4 x5 x6 x7 x8 w h.1 h.2.1 h.2.2 (Nat.lt_of_succ_lt ht.size) (ht.limb 0 _ rfl) (ht.limb 1 _ rfl) (ht.limb 2 _ rfl) (ht.limb 3 _ rfl) (ht.limb 4 _ rfl) (ht.limb 5 _ rfl)
set_option maxHeartbeats 2000000 in
theorem phasorOf_err (x0 x1 x2 x3 x4 x5 x6 x7 x8 : Int) (w : World) (hE : lErr x0 x1 x2 x3 x4 x5 x6 x7 x8 ≠ 0) :
    Calls Tryd.prog 24 #[.agg #[.int .i64 x0, .int .i64 x1, .int .i64 x2, .int .i64 x3, .int .i64 x4, .int .i64 x5, .int .i64 x6, .int .i64 x7, .int .i64 x8]] w fun e w' => e = .returned (.tuple #[.agg #[.int .i64 0, .int .i64 0], .int .i64 (lErr x0 x1 x2 x3 x4 x5 x6 x7 x8)]) ∧ Below w.heap.size w w' := by
  have hc := fun w => checkLines_all x0 x1 x2 x3 x4 x5 x6 x7 x8 w
  generalize lErr x0 x1 x2 x3 x4 x5 x6 x7 x8 = E at hc hE ⊢
  have Hc := Lib.hid hc
  have tE : (E != 0) = true := by simpa using hE
  clear hc hE
  go_enter Tryd.func24, Tryd.ntmps24
  go_wp2_with (go_at_call 30; refine (Hc.out _).mono ?_; rintro e w1 ⟨rfl, hb⟩; have qb : Below w.heap.size w w1 := belowT (by first | (go_grown; done) | exact And.left (by assumption)) hb; have qz : w.heap.size + 1 < w1.heap.size := Nat.lt_of_lt_of_le (by first | omega | (simp; done) | (simp; omega)) hb.size; have q0 : w1.cell? ⟨w.heap.size, 0, none⟩ = some (.int .i64 x0) := keep1 hb (by first | (with_reducible assumption) | (go_simp; done) | ((repeat' (first | (with_reducible assumption) | refine allocC ?_ | refine drewC ?_)); done) | (go_keep; done)); have q1 : w1.cell? ⟨w.heap.size, 1, none⟩ = some (.int .i64 x1) := keep1 hb (by first | (with_reducible assumption) | (go_simp; done) | ((repeat' (first | (with_reducible assumption) | refine allocC ?_ | refine drewC ?_)); done) | (go_keep; done)); have q2 : w1.cell? ⟨w.heap.size, 2, none⟩ = some (.int .i64 x2) := keep1 hb (by first | (with_reducible assumption) | (go_simp; done) | ((repeat' (first | (with_reducible assumption) | refine allocC ?_ | refine drewC ?_)); done) | (go_keep; done)); have q3 : w1.cell? ⟨w.heap.size, 3, none⟩ = some (.int .i64 x3) := keep1 hb (by first | (with_reducible assumption) | (go_simp; done) | ((repeat' (first | (with_reducible assumption) | refine allocC ?_ | refine drewC ?_)); done) | (go_keep; done)); have q4 : w1.cell? ⟨w.heap.size, 4, none⟩ = some (.int .i64 x4) := keep1 hb (by first | (with_reducible assumption) | (go_simp; done) | ((repeat' (first | (with_reducible assumption) | refine allocC ?_ | refine drewC ?_)); done) | (go_keep; done)); have q5 : w1.cell? ⟨w.heap.size, 5, none⟩ = some (.int .i64 x5) := keep1 hb (by first | (with_reducible assumption) | (go_simp; done) | ((repeat' (first | (with_reducible assumption) | refine allocC ?_ | refine drewC ?_)); done) | (go_keep; done)); have q6 : w1.cell? ⟨w.heap.size, 6, none⟩ = some (.int .i64 x6) := keep1 hb (by first | (with_reducible assumption) | (go_simp; done) | ((repeat' (first | (with_reducible assumption) | refine allocC ?_ | refine drewC ?_)); done) | (go_keep; done)); have q7 : w1.cell? ⟨w.heap.size, 7, none⟩ = some (.int .i64 x7) := keep1 hb (by first | (with_reducible assumption) | (go_simp; done) | ((repeat' (first | (with_reducible assumption) | refine allocC ?_ | refine drewC ?_)); done) | (go_keep; done)); have q8 : w1.cell? ⟨w.heap.size, 8, none⟩ = some (.int .i64 x8) := keep1 hb (by first | (with_reducible assumption) | (go_simp; done) | ((repeat' (first | (with_reducible assumption) | refine allocC ?_ | refine drewC ?_)); done) | (go_keep; done)); have q9 : w1.cell? ⟨w.heap.size + 1, 0, none⟩ = some (.int .i64 0) := keep1 hb (by first | (with_reducible assumption) | (go_simp; done) | ((repeat' (first | (with_reducible assumption) | refine allocC ?_ | refine drewC ?_)); done) | (go_keep; done)); have q10 : w1.cell? ⟨w.heap.size + 1, 1, none⟩ = some (.int .i64 0) := keep1 hb (by first | (with_reducible assumption) | (go_simp; done) | ((repeat' (first | (with_reducible assumption) | refine allocC ?_ | refine drewC ?_)); done) | (go_keep; done)); have qf11 : w1.frozen? ⟨w.heap.size + 1, 0, none⟩ = false := keepF hb (by first | omega | (simp; done) | (simp; omega)) (by first | (with_reducible assumption) | (go_simp; done) | ((repeat' (first | (with_reducible assumption) | refine allocF ?_ ?_ | omega | (simp only [World.size_alloc, World.size_drew]; omega))); done)); have qf12 : w1.frozen? ⟨w.heap.size + 1, 1, none⟩ = false := keepF hb (by first | omega | (simp; done) | (simp; omega)) (by first | (with_reducible assumption) | (go_simp; done) | ((repeat' (first | (with_reducible assumption) | refine allocF ?_ ?_ | omega | (simp only [World.size_alloc, World.size_drew]; omega))); done)); have ql0 : w.heap.size < w1.heap.size := (by omega))
  have c0 := seto (b' := w.heap.size + 1) (o' := 1) (.int .i64 0) (by omega) (setc (.int .i64 0) q9)
  have c1 := setc (.int .i64 0) (seto (b' := w.heap.size + 1) (o' := 0) (.int .i64 0) (by omega) q10)
  refine bodyPost_ret (by simp [results, Tryd.results24, go_sem, c0, c1]; try rfl) rfl ?_
  exact ⟨by rfl, by go_grown⟩
set_option maxHeartbeats 2000000 in
theorem phasorOf_all (x0 x1 x2 x3 x4 x5 x6 x7 x8 : Int) (w : World) (hL : (Lim x0 ∧ Lim x1 ∧ Lim x2) ∧ (Lim x3 ∧ Lim x4 ∧ Lim x5) ∧ (Lim x6 ∧ Lim x7 ∧ Lim x8)) (ht : Tabs w) :
    Calls Tryd.prog 24 #[.agg #[.int .i64 x0, .int .i64 x1, .int .i64 x2, .int .i64 x3, .int .i64 x4, .int .i64 x5, .int .i64 x6, .int .i64 x7, .int .i64 x8]] w fun e w' => e = .returned (.tuple #[.agg #[.int .i64 (x0 - x1), .int .i64 (x2 - x1)], .int .i64 0]) ∧ Below w.heap.size w w' := by
  have hc := fun w => checkLines_all x0 x1 x2 x3 x4 x5 x6 x7 x8 w
  rw [lErr_ok hL] at hc
  have Hc := Lib.hid hc
  have Hi := Lib.hid (fun (w : World) (ht : Tabs w) => phasor0_t x0 x1 x2 x3 x4 x5 x6 x7 x8 w hL.1 ht)
  clear hc hL
  go_enter Tryd.func24, Tryd.ntmps24
  go_wp2_with (first | (go_at_call 30; refine (Hc.out _).mono ?_; rintro e w1 ⟨rfl, hb⟩; have qb : Below w.heap.size w w1 := belowT (by first | (go_grown; done) | exact And.left (by assumption)) hb; have qz : w.heap.size + 1 < w1.heap.size := Nat.lt_of_lt_of_le (by first | omega | (simp; done) | (simp; omega)) hb.size; have q0 : w1.cell? ⟨w.heap.size, 0, none⟩ = some (.int .i64 x0) := keep1 hb (by first | (with_reducible assumption) | (go_simp; done) | ((repeat' (first | (with_reducible assumption) | refine allocC ?_ | refine drewC ?_)); done) | (go_keep; done)); have q1 : w1.cell? ⟨w.heap.size, 1, none⟩ = some (.int .i64 x1) := keep1 hb (by first | (with_reducible assumption) | (go_simp; done) | ((repeat' (first | (with_reducible assumption) | refine allocC ?_ | refine drewC ?_)); done) | (go_keep; done)); have q2 : w1.cell? ⟨w.heap.size, 2, none⟩ = some (.int .i64 x2) := keep1 hb (by first | (with_reducible assumption) | (go_simp; done) | ((repeat' (first | (with_reducible assumption) | refine allocC ?_ | refine drewC ?_)); done) | (go_keep; done)); have q3 : w1.cell? ⟨w.heap.size, 3, none⟩ = some (.int .i64 x3) := keep1 hb (by first | (with_reducible assumption) | (go_simp; done) | ((repeat' (first | (with_reducible assumption) | refine allocC ?_ | refine drewC ?_)); done) | (go_keep; done)); have q4 : w1.cell? ⟨w.heap.size, 4, none⟩ = some (.int .i64 x4) := keep1 hb (by first | (with_reducible assumption) | (go_simp; done) | ((repeat' (first | (with_reducible assumption) | refine allocC ?_ | refine drewC ?_)); done) | (go_keep; done)); have q5 : w1.cell? ⟨w.heap.size, 5, none⟩ = some (.int .i64 x5) := keep1 hb (by first | (with_reducible assumption) | (go_simp; done) | ((repeat' (first | (with_reducible assumption) | refine allocC ?_ | refine drewC ?_)); done) | (go_keep; done)); have q6 : w1.cell? ⟨w.heap.size, 6, none⟩ = some (.int .i64 x6) := keep1 hb (by first | (with_reducible assumption) | (go_simp; done) | ((repeat' (first | (with_reducible assumption) | refine allocC ?_ | refine drewC ?_)); done) | (go_keep; done)); have q7 : w1.cell? ⟨w.heap.size, 7, none⟩ = some (.int .i64 x7) := keep1 hb (by first | (with_reducible assumption) | (go_simp; done) | ((repeat' (first | (with_reducible assumption) | refine allocC ?_ | refine drewC ?_)); done) | (go_keep; done)); have q8 : w1.cell? ⟨w.heap.size, 8, none⟩ = some (.int .i64 x8) := keep1 hb (by first | (with_reducible assumption) | (go_simp; done) | ((repeat' (first | (with_reducible assumption) | refine allocC ?_ | refine drewC ?_)); done) | (go_keep; done)); have q9 : w1.cell? ⟨w.heap.size + 1, 0, none⟩ = some (.int .i64 0) := keep1 hb (by first | (with_reducible assumption) | (go_simp; done) | ((repeat' (first | (with_reducible assumption) | refine allocC ?_ | refine drewC ?_)); done) | (go_keep; done)); have q10 : w1.cell? ⟨w.heap.size + 1, 1, none⟩ = some (.int .i64 0) := keep1 hb (by first | (with_reducible assumption) | (go_simp; done) | ((repeat' (first | (with_reducible assumption) | refine allocC ?_ | refine drewC ?_)); done) | (go_keep; done)); have qf11 : w1.frozen? ⟨w.heap.size + 1, 0, none⟩ = false := keepF hb (by first | omega | (simp; done) | (simp; omega)) (by first | (with_reducible assumption) | (go_simp; done) | ((repeat' (first | (with_reducible assumption) | refine allocF ?_ ?_ | omega | (simp only [World.size_alloc, World.size_drew]; omega))); done)); have qf12 : w1.frozen? ⟨w.heap.size + 1, 1, none⟩ = false := keepF hb (by first | omega | (simp; done) | (simp; omega)) (by first | (with_reducible assumption) | (go_simp; done) | ((repeat' (first | (with_reducible assumption) | refine allocF ?_ ?_ | omega | (simp only [World.size_alloc, World.size_drew]; omega))); done)); have ql0 : w.heap.size < w1.heap.size := (by omega)) | (go_at_call 89; refine (Hi.out _ (ht.below qb)).mono ?_; rintro e w2 ⟨rfl, hb2⟩; have rb : Below w.heap.size w w2 := belowT (by first | (go_grown; done) | exact And.left (by assumption)) hb2; have rz : w.heap.size + 1 < w2.heap.size := Nat.lt_of_lt_of_le (by first | omega | (simp; done) | (simp; omega)) hb2.size; have r0 : w2.cell? ⟨w.heap.size + 1, 0, none⟩ = some (.int .i64 0) := keep1 hb2 (by first | (with_reducible assumption) | (go_simp; done) | ((repeat' (first | (with_reducible assumption) | refine allocC ?_ | refine drewC ?_)); done) | (go_keep; done)); have r1 : w2.cell? ⟨w.heap.size + 1, 1, none⟩ = some (.int .i64 0) := keep1 hb2 (by first | (with_reducible assumption) | (go_simp; done) | ((repeat' (first | (with_reducible assumption) | refine allocC ?_ | refine drewC ?_)); done) | (go_keep; done)); have rf2 : w2.frozen? ⟨w.heap.size + 1, 0, none⟩ = false := keepF hb2 (by first | omega | (simp; done) | (simp; omega)) (by first | (with_reducible assumption) | (go_simp; done) | ((repeat' (first | (with_reducible assumption) | refine allocF ?_ ?_ | omega | (simp only [World.size_alloc, World.size_drew]; omega))); done)); have rf3 : w2.frozen? ⟨w.heap.size + 1, 1, none⟩ = false := keepF hb2 (by first | omega | (simp; done) | (simp; omega)) (by first | (with_reducible assumption) | (go_simp; done) | ((repeat' (first | (with_reducible assumption) | refine allocF ?_ ?_ | omega | (simp only [World.size_alloc, World.size_drew]; omega))); done)); have rl0 : w.heap.size < w2.heap.size := (by omega)))
  have c0 := seto (b' := w.heap.size + 1) (o' := 1) (.int .i64 (x2 - x1)) (by omega) (setc (.int .i64 (x0 - x1)) r0)
  have c1 := setc (.int .i64 (x2 - x1)) (seto (b' := w.heap.size + 1) (o' := 0) (.int .i64 (x0 - x1)) (by omega) r1)
  refine bodyPost_ret (by simp [results, Tryd.results24, go_sem, c0, c1]; try rfl) rfl ?_
  exact ⟨by rfl, by go_grown⟩
end Go.Proofs.YtngdhmliohjigaaDoor
