/- SequenceOf; the reference's error of lines. -/
import Derived.Test.YtngdhmliohjigaaDoorSQ4
namespace Go.Proofs.YtngdhmliohjigaaDoor
open Go.RowKit
set_option maxHeartbeats 2000000 in
theorem sequenceOf_err (x0 x1 x2 x3 x4 x5 x6 x7 x8 : Int) (w : World) (hE : lErr x0 x1 x2 x3 x4 x5 x6 x7 x8 ≠ 0) :
    Calls Tryd.prog 23 #[.agg #[.int .i64 x0, .int .i64 x1, .int .i64 x2, .int .i64 x3, .int .i64 x4, .int .i64 x5, .int .i64 x6, .int .i64 x7, .int .i64 x8]] w fun e w' => e = .returned (.tuple #[.int .i64 0, .int .i64 (lErr x0 x1 x2 x3 x4 x5 x6 x7 x8)]) ∧ Below w.heap.size w w' := by
  have hc := fun w => checkLines_all x0 x1 x2 x3 x4 x5 x6 x7 x8 w
  generalize lErr x0 x1 x2 x3 x4 x5 x6 x7 x8 = E at hc hE ⊢
  have Hc := Lib.hid hc
  have tE : (E != 0) = true := by simpa using hE
  clear hc hE
  go_enter Tryd.func23, Tryd.ntmps23
  go_wp2_with (go_at_call 30; refine (Hc.out _).mono ?_; rintro e w1 ⟨rfl, hb⟩; have qb : Below w.heap.size w w1 := belowT (by first | (go_grown; done) | exact And.left (by assumption)) hb; have qz : w.heap.size < w1.heap.size := Nat.lt_of_lt_of_le (by first | omega | (simp; done) | (simp; omega)) hb.size; have q0 : w1.cell? ⟨w.heap.size, 0, none⟩ = some (.int .i64 x0) := keep1 hb (by first | (with_reducible assumption) | (go_simp; done) | ((repeat' (first | (with_reducible assumption) | refine allocC ?_ | refine drewC ?_)); done) | (go_keep; done)); have q1 : w1.cell? ⟨w.heap.size, 1, none⟩ = some (.int .i64 x1) := keep1 hb (by first | (with_reducible assumption) | (go_simp; done) | ((repeat' (first | (with_reducible assumption) | refine allocC ?_ | refine drewC ?_)); done) | (go_keep; done)); have q2 : w1.cell? ⟨w.heap.size, 2, none⟩ = some (.int .i64 x2) := keep1 hb (by first | (with_reducible assumption) | (go_simp; done) | ((repeat' (first | (with_reducible assumption) | refine allocC ?_ | refine drewC ?_)); done) | (go_keep; done)); have q3 : w1.cell? ⟨w.heap.size, 3, none⟩ = some (.int .i64 x3) := keep1 hb (by first | (with_reducible assumption) | (go_simp; done) | ((repeat' (first | (with_reducible assumption) | refine allocC ?_ | refine drewC ?_)); done) | (go_keep; done)); have q4 : w1.cell? ⟨w.heap.size, 4, none⟩ = some (.int .i64 x4) := keep1 hb (by first | (with_reducible assumption) | (go_simp; done) | ((repeat' (first | (with_reducible assumption) | refine allocC ?_ | refine drewC ?_)); done) | (go_keep; done)); have q5 : w1.cell? ⟨w.heap.size, 5, none⟩ = some (.int .i64 x5) := keep1 hb (by first | (with_reducible assumption) | (go_simp; done) | ((repeat' (first | (with_reducible assumption) | refine allocC ?_ | refine drewC ?_)); done) | (go_keep; done)); have q6 : w1.cell? ⟨w.heap.size, 6, none⟩ = some (.int .i64 x6) := keep1 hb (by first | (with_reducible assumption) | (go_simp; done) | ((repeat' (first | (with_reducible assumption) | refine allocC ?_ | refine drewC ?_)); done) | (go_keep; done)); have q7 : w1.cell? ⟨w.heap.size, 7, none⟩ = some (.int .i64 x7) := keep1 hb (by first | (with_reducible assumption) | (go_simp; done) | ((repeat' (first | (with_reducible assumption) | refine allocC ?_ | refine drewC ?_)); done) | (go_keep; done)); have q8 : w1.cell? ⟨w.heap.size, 8, none⟩ = some (.int .i64 x8) := keep1 hb (by first | (with_reducible assumption) | (go_simp; done) | ((repeat' (first | (with_reducible assumption) | refine allocC ?_ | refine drewC ?_)); done) | (go_keep; done)))
  go_returns
  exact ⟨rfl, by go_grown⟩
set_option maxHeartbeats 2000000 in
theorem sequenceOf_ok (x0 x1 x2 x3 x4 x5 x6 x7 x8 : Int) (w : World) (hL : (Lim x0 ∧ Lim x1 ∧ Lim x2) ∧ (Lim x3 ∧ Lim x4 ∧ Lim x5) ∧ (Lim x6 ∧ Lim x7 ∧ Lim x8)) (ht : Tabs w) :
    Calls Tryd.prog 23 #[.agg #[.int .i64 x0, .int .i64 x1, .int .i64 x2, .int .i64 x3, .int .i64 x4, .int .i64 x5, .int .i64 x6, .int .i64 x7, .int .i64 x8]] w fun e w' => e = .returned (.tuple #[.int .i64 (seqV (x0 - x1) (x2 - x1) (x3 - x4) (x5 - x4) (x6 - x7) (x8 - x7)), .int .i64 (seqE (x0 - x1) (x2 - x1) (x3 - x4) (x5 - x4) (x6 - x7) (x8 - x7))]) ∧ Below w.heap.size w w' := by
  have hc := fun w => checkLines_all x0 x1 x2 x3 x4 x5 x6 x7 x8 w
  rw [lErr_ok hL] at hc
  have Hc := Lib.hid hc
  have Hi0 := fun (w : World) (ht : Tabs w) => sequence_any x0 x1 x2 x3 x4 x5 x6 x7 x8 w hL ht
  generalize seqV (x0 - x1) (x2 - x1) (x3 - x4) (x5 - x4) (x6 - x7) (x8 - x7) = V at Hi0 ⊢
  generalize seqE (x0 - x1) (x2 - x1) (x3 - x4) (x5 - x4) (x6 - x7) (x8 - x7) = E at Hi0 ⊢
  have Hi := Lib.hid Hi0
  clear hc hL Hi0
  go_enter Tryd.func23, Tryd.ntmps23
  go_wp2_with (first | (go_at_call 30; refine (Hc.out _).mono ?_; rintro e w1 ⟨rfl, hb⟩; have qb : Below w.heap.size w w1 := belowT (by first | (go_grown; done) | exact And.left (by assumption)) hb; have qz : w.heap.size < w1.heap.size := Nat.lt_of_lt_of_le (by first | omega | (simp; done) | (simp; omega)) hb.size; have q0 : w1.cell? ⟨w.heap.size, 0, none⟩ = some (.int .i64 x0) := keep1 hb (by first | (with_reducible assumption) | (go_simp; done) | ((repeat' (first | (with_reducible assumption) | refine allocC ?_ | refine drewC ?_)); done) | (go_keep; done)); have q1 : w1.cell? ⟨w.heap.size, 1, none⟩ = some (.int .i64 x1) := keep1 hb (by first | (with_reducible assumption) | (go_simp; done) | ((repeat' (first | (with_reducible assumption) | refine allocC ?_ | refine drewC ?_)); done) | (go_keep; done)); have q2 : w1.cell? ⟨w.heap.size, 2, none⟩ = some (.int .i64 x2) := keep1 hb (by first | (with_reducible assumption) | (go_simp; done) | ((repeat' (first | (with_reducible assumption) | refine allocC ?_ | refine drewC ?_)); done) | (go_keep; done)); have q3 : w1.cell? ⟨w.heap.size, 3, none⟩ = some (.int .i64 x3) := keep1 hb (by first | (with_reducible assumption) | (go_simp; done) | ((repeat' (first | (with_reducible assumption) | refine allocC ?_ | refine drewC ?_)); done) | (go_keep; done)); have q4 : w1.cell? ⟨w.heap.size, 4, none⟩ = some (.int .i64 x4) := keep1 hb (by first | (with_reducible assumption) | (go_simp; done) | ((repeat' (first | (with_reducible assumption) | refine allocC ?_ | refine drewC ?_)); done) | (go_keep; done)); have q5 : w1.cell? ⟨w.heap.size, 5, none⟩ = some (.int .i64 x5) := keep1 hb (by first | (with_reducible assumption) | (go_simp; done) | ((repeat' (first | (with_reducible assumption) | refine allocC ?_ | refine drewC ?_)); done) | (go_keep; done)); have q6 : w1.cell? ⟨w.heap.size, 6, none⟩ = some (.int .i64 x6) := keep1 hb (by first | (with_reducible assumption) | (go_simp; done) | ((repeat' (first | (with_reducible assumption) | refine allocC ?_ | refine drewC ?_)); done) | (go_keep; done)); have q7 : w1.cell? ⟨w.heap.size, 7, none⟩ = some (.int .i64 x7) := keep1 hb (by first | (with_reducible assumption) | (go_simp; done) | ((repeat' (first | (with_reducible assumption) | refine allocC ?_ | refine drewC ?_)); done) | (go_keep; done)); have q8 : w1.cell? ⟨w.heap.size, 8, none⟩ = some (.int .i64 x8) := keep1 hb (by first | (with_reducible assumption) | (go_simp; done) | ((repeat' (first | (with_reducible assumption) | refine allocC ?_ | refine drewC ?_)); done) | (go_keep; done))) | (go_at_call 88; refine (Hi.out _ (ht.below qb)).mono ?_; rintro e w2 ⟨rfl, hb2⟩; have rb : Below w.heap.size w w2 := belowT qb hb2))
  go_returns
  exact ⟨rfl, by first | (go_grown; done) | assumption⟩
def limB (x : Int) : Bool := withinB x (-10000) 10000
theorem limB_iff (x : Int) : limB x = true ↔ Lim x := by
  unfold limB withinB Lim
  simp
def allLim (x0 x1 x2 x3 x4 x5 x6 x7 x8 : Int) : Bool := limB x0 && limB x1 && limB x2 && limB x3 && limB x4 && limB x5 && limB x6 && limB x7 && limB x8
theorem lErr_all (x0 x1 x2 x3 x4 x5 x6 x7 x8 : Int) : lErr x0 x1 x2 x3 x4 x5 x6 x7 x8 = if allLim x0 x1 x2 x3 x4 x5 x6 x7 x8 then 0 else 2 := by
  by_cases h : allLim x0 x1 x2 x3 x4 x5 x6 x7 x8 = true
  · rw [if_pos h]
    simp only [allLim, Bool.and_eq_true, limB_iff] at h
    exact lErr_ok ⟨⟨h.1.1.1.1.1.1.1.1, h.1.1.1.1.1.1.1.2, h.1.1.1.1.1.1.2⟩, ⟨h.1.1.1.1.1.2, h.1.1.1.1.2, h.1.1.1.2⟩, ⟨h.1.1.2, h.1.2, h.2⟩⟩
  · rw [if_neg h]
    by_cases e : lErr x0 x1 x2 x3 x4 x5 x6 x7 x8 = 0
    · obtain ⟨⟨a0, a1, a2⟩, ⟨a3, a4, a5⟩, ⟨a6, a7, a8⟩⟩ := lErr_val e
      exact absurd (by simp only [allLim, Bool.and_eq_true, limB_iff]; exact ⟨⟨⟨⟨⟨⟨⟨⟨a0, a1⟩, a2⟩, a3⟩, a4⟩, a5⟩, a6⟩, a7⟩, a8⟩) h
    · have bd : ∀ a b c, lineErr a b c = 0 ∨ lineErr a b c = 2 := fun a b c => by
        simp only [lineErr, fst3, outErr]
        (repeat' split) <;> omega
      have b0 := bd x0 x1 x2
      have b1 := bd x3 x4 x5
      have b2 := bd x6 x7 x8
      unfold lErr fst3 at e ⊢
      (repeat' split at e) <;> (repeat' split) <;> omega
set_option maxRecDepth 100000 in
set_option maxHeartbeats 8000000 in
theorem rlinesErr_any (x0 x1 x2 x3 x4 x5 x6 x7 x8 : Int) (w : World) :
    Calls Tryd.prog 29 #[.agg #[.int .i64 x0, .int .i64 x1, .int .i64 x2, .int .i64 x3, .int .i64 x4, .int .i64 x5, .int .i64 x6, .int .i64 x7, .int .i64 x8]] w fun e w' => e = .returned (.int .i64 (lErr x0 x1 x2 x3 x4 x5 x6 x7 x8)) ∧ Below w.heap.size w w' := by
  rw [lErr_all]
  have K : ∀ (x : Int) (w : World), Calls Tryd.prog 27 #[.int .i64 x, .int .i64 (-10000), .int .i64 10000] w fun e w' => e = .returned (.bool (limB x)) ∧ w = w' := fun x w => (rwithin_any x (-10000) 10000 w).mono (by rintro e w1 ⟨rfl, rfl⟩; exact ⟨rfl, rfl⟩)
  have HK := Lib.hid K
  clear K
  obtain ⟨R, hR⟩ : ∃ R, (if allLim x0 x1 x2 x3 x4 x5 x6 x7 x8 then (0 : Int) else 2) = R := ⟨_, rfl⟩
  rw [hR]
  unfold allLim at hR
  generalize hx0 : limB x0 = t0 at hR
  generalize hx1 : limB x1 = t1 at hR
  generalize hx2 : limB x2 = t2 at hR
  generalize hx3 : limB x3 = t3 at hR
  generalize hx4 : limB x4 = t4 at hR
  generalize hx5 : limB x5 = t5 at hR
  generalize hx6 : limB x6 = t6 at hR
  generalize hx7 : limB x7 = t7 at hR
  generalize hx8 : limB x8 = t8 at hR
  have HR := Lib.hid hR
  clear hR
  have K0 : Hid (∀ w : World, Calls Tryd.prog 27 #[.int .i64 x0, .int .i64 (-10000), .int .i64 10000] w fun e w' => e = .returned (.bool t0) ∧ w = w') := Lib.hid (fun w => by rw [← hx0]; exact HK.out x0 w)
  have K1 : Hid (∀ w : World, Calls Tryd.prog 27 #[.int .i64 x1, .int .i64 (-10000), .int .i64 10000] w fun e w' => e = .returned (.bool t1) ∧ w = w') := Lib.hid (fun w => by rw [← hx1]; exact HK.out x1 w)
  have K2 : Hid (∀ w : World, Calls Tryd.prog 27 #[.int .i64 x2, .int .i64 (-10000), .int .i64 10000] w fun e w' => e = .returned (.bool t2) ∧ w = w') := Lib.hid (fun w => by rw [← hx2]; exact HK.out x2 w)
  have K3 : Hid (∀ w : World, Calls Tryd.prog 27 #[.int .i64 x3, .int .i64 (-10000), .int .i64 10000] w fun e w' => e = .returned (.bool t3) ∧ w = w') := Lib.hid (fun w => by rw [← hx3]; exact HK.out x3 w)
  have K4 : Hid (∀ w : World, Calls Tryd.prog 27 #[.int .i64 x4, .int .i64 (-10000), .int .i64 10000] w fun e w' => e = .returned (.bool t4) ∧ w = w') := Lib.hid (fun w => by rw [← hx4]; exact HK.out x4 w)
  have K5 : Hid (∀ w : World, Calls Tryd.prog 27 #[.int .i64 x5, .int .i64 (-10000), .int .i64 10000] w fun e w' => e = .returned (.bool t5) ∧ w = w') := Lib.hid (fun w => by rw [← hx5]; exact HK.out x5 w)
  have K6 : Hid (∀ w : World, Calls Tryd.prog 27 #[.int .i64 x6, .int .i64 (-10000), .int .i64 10000] w fun e w' => e = .returned (.bool t6) ∧ w = w') := Lib.hid (fun w => by rw [← hx6]; exact HK.out x6 w)
  have K7 : Hid (∀ w : World, Calls Tryd.prog 27 #[.int .i64 x7, .int .i64 (-10000), .int .i64 10000] w fun e w' => e = .returned (.bool t7) ∧ w = w') := Lib.hid (fun w => by rw [← hx7]; exact HK.out x7 w)
  have K8 : Hid (∀ w : World, Calls Tryd.prog 27 #[.int .i64 x8, .int .i64 (-10000), .int .i64 10000] w fun e w' => e = .returned (.bool t8) ∧ w = w') := Lib.hid (fun w => by rw [← hx8]; exact HK.out x8 w)
  clear HK hx0 hx1 hx2 hx3 hx4 hx5 hx6 hx7 hx8
  cases t0
  · obtain rfl : R = 2 := by have := HR.out; simp at this; exact this.symm
    go_enter Tryd.func29, Tryd.ntmps29
    go_wp2
    refine wp_loop_rounds 4 ?_
    rw [rounds_succ]
    go_wp2
    refine wp_loop_rounds 4 ?_
    rw [rounds_succ]
    go_wp2_with (go_at_call 27; refine (K0.out _).mono ?_; rintro e w1 ⟨rfl, rfl⟩)
    go_returns
    exact ⟨rfl, by go_grown⟩
  · cases t1
    · obtain rfl : R = 2 := by have := HR.out; simp at this; exact this.symm
      go_enter Tryd.func29, Tryd.ntmps29
      go_wp2
      refine wp_loop_rounds 4 ?_
      rw [rounds_succ]
      go_wp2
      refine wp_loop_rounds 4 ?_
      rw [rounds_succ]
      go_wp2_with (go_at_call 27; refine (K0.out _).mono ?_; rintro e w1 ⟨rfl, rfl⟩)
      rw [rounds_succ]
      go_wp2_with (go_at_call 27; refine (K1.out _).mono ?_; rintro e w1 ⟨rfl, rfl⟩)
      go_returns
      exact ⟨rfl, by go_grown⟩
    · cases t2
      · obtain rfl : R = 2 := by have := HR.out; simp at this; exact this.symm
        go_enter Tryd.func29, Tryd.ntmps29
        go_wp2
        refine wp_loop_rounds 4 ?_
        rw [rounds_succ]
        go_wp2
        refine wp_loop_rounds 4 ?_
        rw [rounds_succ]
        go_wp2_with (go_at_call 27; refine (K0.out _).mono ?_; rintro e w1 ⟨rfl, rfl⟩)
        rw [rounds_succ]
        go_wp2_with (go_at_call 27; refine (K1.out _).mono ?_; rintro e w1 ⟨rfl, rfl⟩)
        rw [rounds_succ]
        go_wp2_with (go_at_call 27; refine (K2.out _).mono ?_; rintro e w1 ⟨rfl, rfl⟩)
        go_returns
        exact ⟨rfl, by go_grown⟩
      · cases t3
        · obtain rfl : R = 2 := by have := HR.out; simp at this; exact this.symm
          go_enter Tryd.func29, Tryd.ntmps29
          go_wp2
          refine wp_loop_rounds 4 ?_
          rw [rounds_succ]
          go_wp2
          refine wp_loop_rounds 4 ?_
          rw [rounds_succ]
          go_wp2_with (go_at_call 27; refine (K0.out _).mono ?_; rintro e w1 ⟨rfl, rfl⟩)
          rw [rounds_succ]
          go_wp2_with (go_at_call 27; refine (K1.out _).mono ?_; rintro e w1 ⟨rfl, rfl⟩)
          rw [rounds_succ]
          go_wp2_with (go_at_call 27; refine (K2.out _).mono ?_; rintro e w1 ⟨rfl, rfl⟩)
          rw [rounds_succ]
          go_wp2
          rw [rounds_succ]
          go_wp2
          refine wp_loop_rounds 4 ?_
          rw [rounds_succ]
          go_wp2_with (go_at_call 27; refine (K3.out _).mono ?_; rintro e w1 ⟨rfl, rfl⟩)
          go_returns
          exact ⟨rfl, by go_grown⟩
        · cases t4
          · obtain rfl : R = 2 := by have := HR.out; simp at this; exact this.symm
            go_enter Tryd.func29, Tryd.ntmps29
            go_wp2
            refine wp_loop_rounds 4 ?_
            rw [rounds_succ]
            go_wp2
            refine wp_loop_rounds 4 ?_
            rw [rounds_succ]
            go_wp2_with (go_at_call 27; refine (K0.out _).mono ?_; rintro e w1 ⟨rfl, rfl⟩)
            rw [rounds_succ]
            go_wp2_with (go_at_call 27; refine (K1.out _).mono ?_; rintro e w1 ⟨rfl, rfl⟩)
            rw [rounds_succ]
            go_wp2_with (go_at_call 27; refine (K2.out _).mono ?_; rintro e w1 ⟨rfl, rfl⟩)
            rw [rounds_succ]
            go_wp2
            rw [rounds_succ]
            go_wp2
            refine wp_loop_rounds 4 ?_
            rw [rounds_succ]
            go_wp2_with (go_at_call 27; refine (K3.out _).mono ?_; rintro e w1 ⟨rfl, rfl⟩)
            rw [rounds_succ]
            go_wp2_with (go_at_call 27; refine (K4.out _).mono ?_; rintro e w1 ⟨rfl, rfl⟩)
            go_returns
            exact ⟨rfl, by go_grown⟩
          · cases t5
            · obtain rfl : R = 2 := by have := HR.out; simp at this; exact this.symm
              go_enter Tryd.func29, Tryd.ntmps29
              go_wp2
              refine wp_loop_rounds 4 ?_
              rw [rounds_succ]
              go_wp2
              refine wp_loop_rounds 4 ?_
              rw [rounds_succ]
              go_wp2_with (go_at_call 27; refine (K0.out _).mono ?_; rintro e w1 ⟨rfl, rfl⟩)
              rw [rounds_succ]
              go_wp2_with (go_at_call 27; refine (K1.out _).mono ?_; rintro e w1 ⟨rfl, rfl⟩)
              rw [rounds_succ]
              go_wp2_with (go_at_call 27; refine (K2.out _).mono ?_; rintro e w1 ⟨rfl, rfl⟩)
              rw [rounds_succ]
              go_wp2
              rw [rounds_succ]
              go_wp2
              refine wp_loop_rounds 4 ?_
              rw [rounds_succ]
              go_wp2_with (go_at_call 27; refine (K3.out _).mono ?_; rintro e w1 ⟨rfl, rfl⟩)
              rw [rounds_succ]
              go_wp2_with (go_at_call 27; refine (K4.out _).mono ?_; rintro e w1 ⟨rfl, rfl⟩)
              rw [rounds_succ]
              go_wp2_with (go_at_call 27; refine (K5.out _).mono ?_; rintro e w1 ⟨rfl, rfl⟩)
              go_returns
              exact ⟨rfl, by go_grown⟩
            · cases t6
              · obtain rfl : R = 2 := by have := HR.out; simp at this; exact this.symm
                go_enter Tryd.func29, Tryd.ntmps29
                go_wp2
                refine wp_loop_rounds 4 ?_
                rw [rounds_succ]
                go_wp2
                refine wp_loop_rounds 4 ?_
                rw [rounds_succ]
                go_wp2_with (go_at_call 27; refine (K0.out _).mono ?_; rintro e w1 ⟨rfl, rfl⟩)
                rw [rounds_succ]
                go_wp2_with (go_at_call 27; refine (K1.out _).mono ?_; rintro e w1 ⟨rfl, rfl⟩)
                rw [rounds_succ]
                go_wp2_with (go_at_call 27; refine (K2.out _).mono ?_; rintro e w1 ⟨rfl, rfl⟩)
                rw [rounds_succ]
                go_wp2
                rw [rounds_succ]
                go_wp2
                refine wp_loop_rounds 4 ?_
                rw [rounds_succ]
                go_wp2_with (go_at_call 27; refine (K3.out _).mono ?_; rintro e w1 ⟨rfl, rfl⟩)
                rw [rounds_succ]
                go_wp2_with (go_at_call 27; refine (K4.out _).mono ?_; rintro e w1 ⟨rfl, rfl⟩)
                rw [rounds_succ]
                go_wp2_with (go_at_call 27; refine (K5.out _).mono ?_; rintro e w1 ⟨rfl, rfl⟩)
                rw [rounds_succ]
                go_wp2
                rw [rounds_succ]
                go_wp2
                refine wp_loop_rounds 4 ?_
                rw [rounds_succ]
                go_wp2_with (go_at_call 27; refine (K6.out _).mono ?_; rintro e w1 ⟨rfl, rfl⟩)
                go_returns
                exact ⟨rfl, by go_grown⟩
              · cases t7
                · obtain rfl : R = 2 := by have := HR.out; simp at this; exact this.symm
                  go_enter Tryd.func29, Tryd.ntmps29
                  go_wp2
                  refine wp_loop_rounds 4 ?_
                  rw [rounds_succ]
                  go_wp2
                  refine wp_loop_rounds 4 ?_
                  rw [rounds_succ]
                  go_wp2_with (go_at_call 27; refine (K0.out _).mono ?_; rintro e w1 ⟨rfl, rfl⟩)
                  rw [rounds_succ]
                  go_wp2_with (go_at_call 27; refine (K1.out _).mono ?_; rintro e w1 ⟨rfl, rfl⟩)
                  rw [rounds_succ]
                  go_wp2_with (go_at_call 27; refine (K2.out _).mono ?_; rintro e w1 ⟨rfl, rfl⟩)
                  rw [rounds_succ]
                  go_wp2
                  rw [rounds_succ]
                  go_wp2
                  refine wp_loop_rounds 4 ?_
                  rw [rounds_succ]
                  go_wp2_with (go_at_call 27; refine (K3.out _).mono ?_; rintro e w1 ⟨rfl, rfl⟩)
                  rw [rounds_succ]
                  go_wp2_with (go_at_call 27; refine (K4.out _).mono ?_; rintro e w1 ⟨rfl, rfl⟩)
                  rw [rounds_succ]
                  go_wp2_with (go_at_call 27; refine (K5.out _).mono ?_; rintro e w1 ⟨rfl, rfl⟩)
                  rw [rounds_succ]
                  go_wp2
                  rw [rounds_succ]
                  go_wp2
                  refine wp_loop_rounds 4 ?_
                  rw [rounds_succ]
                  go_wp2_with (go_at_call 27; refine (K6.out _).mono ?_; rintro e w1 ⟨rfl, rfl⟩)
                  rw [rounds_succ]
                  go_wp2_with (go_at_call 27; refine (K7.out _).mono ?_; rintro e w1 ⟨rfl, rfl⟩)
                  go_returns
                  exact ⟨rfl, by go_grown⟩
                · cases t8
                  · obtain rfl : R = 2 := by have := HR.out; simp at this; exact this.symm
                    go_enter Tryd.func29, Tryd.ntmps29
                    go_wp2
                    refine wp_loop_rounds 4 ?_
                    rw [rounds_succ]
                    go_wp2
                    refine wp_loop_rounds 4 ?_
                    rw [rounds_succ]
                    go_wp2_with (go_at_call 27; refine (K0.out _).mono ?_; rintro e w1 ⟨rfl, rfl⟩)
                    rw [rounds_succ]
                    go_wp2_with (go_at_call 27; refine (K1.out _).mono ?_; rintro e w1 ⟨rfl, rfl⟩)
                    rw [rounds_succ]
                    go_wp2_with (go_at_call 27; refine (K2.out _).mono ?_; rintro e w1 ⟨rfl, rfl⟩)
                    rw [rounds_succ]
                    go_wp2
                    rw [rounds_succ]
                    go_wp2
                    refine wp_loop_rounds 4 ?_
                    rw [rounds_succ]
                    go_wp2_with (go_at_call 27; refine (K3.out _).mono ?_; rintro e w1 ⟨rfl, rfl⟩)
                    rw [rounds_succ]
                    go_wp2_with (go_at_call 27; refine (K4.out _).mono ?_; rintro e w1 ⟨rfl, rfl⟩)
                    rw [rounds_succ]
                    go_wp2_with (go_at_call 27; refine (K5.out _).mono ?_; rintro e w1 ⟨rfl, rfl⟩)
                    rw [rounds_succ]
                    go_wp2
                    rw [rounds_succ]
                    go_wp2
                    refine wp_loop_rounds 4 ?_
                    rw [rounds_succ]
                    go_wp2_with (go_at_call 27; refine (K6.out _).mono ?_; rintro e w1 ⟨rfl, rfl⟩)
                    rw [rounds_succ]
                    go_wp2_with (go_at_call 27; refine (K7.out _).mono ?_; rintro e w1 ⟨rfl, rfl⟩)
                    rw [rounds_succ]
                    go_wp2_with (go_at_call 27; refine (K8.out _).mono ?_; rintro e w1 ⟨rfl, rfl⟩)
                    go_returns
                    exact ⟨rfl, by go_grown⟩
                  · obtain rfl : R = 0 := by have := HR.out; simp at this; exact this.symm
                    go_enter Tryd.func29, Tryd.ntmps29
                    go_wp2
                    refine wp_loop_rounds 4 ?_
                    rw [rounds_succ]
                    go_wp2
                    refine wp_loop_rounds 4 ?_
                    rw [rounds_succ]
                    go_wp2_with (go_at_call 27; refine (K0.out _).mono ?_; rintro e w1 ⟨rfl, rfl⟩)
                    rw [rounds_succ]
                    go_wp2_with (go_at_call 27; refine (K1.out _).mono ?_; rintro e w1 ⟨rfl, rfl⟩)
                    rw [rounds_succ]
                    go_wp2_with (go_at_call 27; refine (K2.out _).mono ?_; rintro e w1 ⟨rfl, rfl⟩)
                    rw [rounds_succ]
                    go_wp2
                    rw [rounds_succ]
                    go_wp2
                    refine wp_loop_rounds 4 ?_
                    rw [rounds_succ]
                    go_wp2_with (go_at_call 27; refine (K3.out _).mono ?_; rintro e w1 ⟨rfl, rfl⟩)
                    rw [rounds_succ]
                    go_wp2_with (go_at_call 27; refine (K4.out _).mono ?_; rintro e w1 ⟨rfl, rfl⟩)
                    rw [rounds_succ]
                    go_wp2_with (go_at_call 27; refine (K5.out _).mono ?_; rintro e w1 ⟨rfl, rfl⟩)
                    rw [rounds_succ]
                    go_wp2
                    rw [rounds_succ]
                    go_wp2
                    refine wp_loop_rounds 4 ?_
                    rw [rounds_succ]
                    go_wp2_with (go_at_call 27; refine (K6.out _).mono ?_; rintro e w1 ⟨rfl, rfl⟩)
                    rw [rounds_succ]
                    go_wp2_with (go_at_call 27; refine (K7.out _).mono ?_; rintro e w1 ⟨rfl, rfl⟩)
                    rw [rounds_succ]
                    go_wp2_with (go_at_call 27; refine (K8.out _).mono ?_; rintro e w1 ⟨rfl, rfl⟩)
                    rw [rounds_succ]
                    go_wp2
                    rw [rounds_succ]
                    go_wp2
                    go_returns
                    exact ⟨rfl, by go_grown⟩
end Go.Proofs.YtngdhmliohjigaaDoor
