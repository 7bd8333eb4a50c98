/- More contracts of turns. -/
import Derived.Test.YtngdhmliohjigaaDoorC
namespace Go.Proofs.YtngdhmliohjigaaDoor
open Go.RowKit

set_option maxHeartbeats 1000000 in
theorem inverse_true (h : Int) (w : World) (h0 : 0 ≤ h) (h1 : h ≤ 11) :
    Calls Tryd.prog 55 #[.agg #[.int .i64 h, .bool true]] w fun e w' => e = .returned (.tuple #[.agg #[.int .i64 h, .bool true], .int .i64 0]) ∧ Below w.heap.size w w' := by
  have ht : (outErr 0 11 h != 0) = false := by simp [outErr]; omega
  go_enter Tryd.func55, Tryd.ntmps55
  go_wp2_with (first | (go_at_call 105; refine (checkTurn_any _ _ _).mono ?_; rintro e w1 ⟨rfl, hb⟩; have qb : Below w.heap.size w w1 := belowT (by first | (go_grown; done) | exact And.left (by assumption)) hb; have qz : w.heap.size + 1 < w1.heap.size := Nat.lt_of_lt_of_le (by first | omega | (simp; done)) hb.size; have q0 : w1.cell? ⟨w.heap.size, 0, none⟩ = some (.int .i64 h) := keep1 hb (by first | (go_simp; done) | (go_keep; done)); have q1 : w1.cell? ⟨w.heap.size, 1, none⟩ = some (.bool true) := keep1 hb (by first | (go_simp; done) | (go_keep; done)); have q2 : w1.cell? ⟨w.heap.size + 1, 0, none⟩ = some (.int .i64 0) := keep1 hb (by first | (go_simp; done) | (go_keep; done)); have q3 : w1.cell? ⟨w.heap.size + 1, 1, none⟩ = some (.bool false) := keep1 hb (by first | (go_simp; done) | (go_keep; done)); have qf4 : w1.frozen? ⟨w.heap.size + 1, 0, none⟩ = false := keepF hb (by first | omega | (simp; done)) (by first | (go_simp; done) | (go_keep; done)); have qf5 : w1.frozen? ⟨w.heap.size + 1, 1, none⟩ = false := keepF hb (by first | omega | (simp; done)) (by first | (go_simp; done) | (go_keep; done))) | (go_at_call 107; refine (modulo_any _ _ _ (by omega) (by omega)).mono ?_; rintro e w2 ⟨rfl, rfl⟩))
  have r0 := seto (b' := w.heap.size + 1) (o' := 1) (.bool true) (by omega) (setc (.int .i64 h) q2)
  have r1 := setc (.bool true) (seto (b' := w.heap.size + 1) (o' := 0) (.int .i64 h) (by omega) q3)
  refine bodyPost_ret (by simp [results, Tryd.results55, go_sem, r0, r1]; try rfl) rfl ?_
  exact ⟨by rfl, by go_grown⟩

set_option maxHeartbeats 1000000 in
theorem inverse_false (h : Int) (w : World) (h0 : 0 ≤ h) (h1 : h ≤ 11) :
    Calls Tryd.prog 55 #[.agg #[.int .i64 h, .bool false]] w fun e w' => e = .returned (.tuple #[.agg #[.int .i64 (-h % 12), .bool false], .int .i64 0]) ∧ Below w.heap.size w w' := by
  have ht : (outErr 0 11 h != 0) = false := by simp [outErr]; omega
  go_enter Tryd.func55, Tryd.ntmps55
  go_wp2_with (first | (go_at_call 105; refine (checkTurn_any _ _ _).mono ?_; rintro e w1 ⟨rfl, hb⟩; have qb : Below w.heap.size w w1 := belowT (by first | (go_grown; done) | exact And.left (by assumption)) hb; have qz : w.heap.size + 1 < w1.heap.size := Nat.lt_of_lt_of_le (by first | omega | (simp; done)) hb.size; have q0 : w1.cell? ⟨w.heap.size, 0, none⟩ = some (.int .i64 h) := keep1 hb (by first | (go_simp; done) | (go_keep; done)); have q1 : w1.cell? ⟨w.heap.size, 1, none⟩ = some (.bool false) := keep1 hb (by first | (go_simp; done) | (go_keep; done)); have q2 : w1.cell? ⟨w.heap.size + 1, 0, none⟩ = some (.int .i64 0) := keep1 hb (by first | (go_simp; done) | (go_keep; done)); have q3 : w1.cell? ⟨w.heap.size + 1, 1, none⟩ = some (.bool false) := keep1 hb (by first | (go_simp; done) | (go_keep; done)); have qf4 : w1.frozen? ⟨w.heap.size + 1, 0, none⟩ = false := keepF hb (by first | omega | (simp; done)) (by first | (go_simp; done) | (go_keep; done)); have qf5 : w1.frozen? ⟨w.heap.size + 1, 1, none⟩ = false := keepF hb (by first | omega | (simp; done)) (by first | (go_simp; done) | (go_keep; done))) | (go_at_call 107; refine (modulo_any _ _ _ (by omega) (by omega)).mono ?_; rintro e w2 ⟨rfl, rfl⟩))
  have r0 := seto (b' := w.heap.size + 1) (o' := 1) (.bool false) (by omega) (setc (.int .i64 (-h % 12)) q2)
  have r1 := setc (.bool false) (seto (b' := w.heap.size + 1) (o' := 0) (.int .i64 (-h % 12)) (by omega) q3)
  refine bodyPost_ret (by simp [results, Tryd.results55, go_sem, r0, r1]; try rfl) rfl ?_
  exact ⟨by rfl, by go_grown⟩

set_option maxHeartbeats 1000000 in
theorem inverse_err (h : Int) (m : Bool) (w : World) (he : outErr 0 11 h ≠ 0) :
    Calls Tryd.prog 55 #[.agg #[.int .i64 h, .bool m]] w fun e w' => e = .returned (.tuple #[.agg #[.int .i64 0, .bool false], .int .i64 (outErr 0 11 h)]) ∧ Below w.heap.size w w' := by
  have ht : (outErr 0 11 h != 0) = true := by simpa using he
  clear he
  go_enter Tryd.func55, Tryd.ntmps55
  go_wp2_with (first | (go_at_call 105; refine (checkTurn_any _ _ _).mono ?_; rintro e w1 ⟨rfl, hb⟩; have qb : Below w.heap.size w w1 := belowT (by first | (go_grown; done) | exact And.left (by assumption)) hb; have qz : w.heap.size + 1 < w1.heap.size := Nat.lt_of_lt_of_le (by first | omega | (simp; done)) hb.size; have q0 : w1.cell? ⟨w.heap.size, 0, none⟩ = some (.int .i64 h) := keep1 hb (by first | (go_simp; done) | (go_keep; done)); have q1 : w1.cell? ⟨w.heap.size, 1, none⟩ = some (.bool m) := keep1 hb (by first | (go_simp; done) | (go_keep; done)); have q2 : w1.cell? ⟨w.heap.size + 1, 0, none⟩ = some (.int .i64 0) := keep1 hb (by first | (go_simp; done) | (go_keep; done)); have q3 : w1.cell? ⟨w.heap.size + 1, 1, none⟩ = some (.bool false) := keep1 hb (by first | (go_simp; done) | (go_keep; done)); have qf4 : w1.frozen? ⟨w.heap.size + 1, 0, none⟩ = false := keepF hb (by first | omega | (simp; done)) (by first | (go_simp; done) | (go_keep; done)); have qf5 : w1.frozen? ⟨w.heap.size + 1, 1, none⟩ = false := keepF hb (by first | omega | (simp; done)) (by first | (go_simp; done) | (go_keep; done))))
  have r0 := seto (b' := w.heap.size + 1) (o' := 1) (.bool false) (by omega) (setc (.int .i64 0) q2)
  have r1 := setc (.bool false) (seto (b' := w.heap.size + 1) (o' := 0) (.int .i64 0) (by omega) q3)
  refine bodyPost_ret (by simp [results, Tryd.results55, go_sem, r0, r1]; try rfl) rfl ?_
  exact ⟨by rfl, by go_grown⟩

set_option maxHeartbeats 1000000 in
theorem order_err (h : Int) (m : Bool) (w : World) (he : outErr 0 11 h ≠ 0) :
    Calls Tryd.prog 56 #[.agg #[.int .i64 h, .bool m]] w fun e w' => e = .returned (.tuple #[.int .i64 0, .int .i64 (outErr 0 11 h)]) ∧ Below w.heap.size w w' := by
  have ht : (outErr 0 11 h != 0) = true := by simpa using he
  clear he
  go_enter Tryd.func56, Tryd.ntmps56
  go_wp2_with (first | (go_at_call 105; refine (checkTurn_any _ _ _).mono ?_; rintro e w1 ⟨rfl, hb⟩; have qb : Below w.heap.size w w1 := belowT (by first | (go_grown; done) | exact And.left (by assumption)) hb; have qz : w.heap.size < w1.heap.size := Nat.lt_of_lt_of_le (by first | omega | (simp; done)) hb.size; have q0 : w1.cell? ⟨w.heap.size, 0, none⟩ = some (.int .i64 h) := keep1 hb (by first | (go_simp; done) | (go_keep; done)); have q1 : w1.cell? ⟨w.heap.size, 1, none⟩ = some (.bool m) := keep1 hb (by first | (go_simp; done) | (go_keep; done))))
  go_returns
  exact ⟨rfl, by go_grown⟩
set_option maxHeartbeats 1000000 in
theorem order_mir (h : Int) (w : World) (h0 : 0 ≤ h) (h1 : h ≤ 11) :
    Calls Tryd.prog 56 #[.agg #[.int .i64 h, .bool true]] w fun e w' => e = .returned (.tuple #[.int .i64 2, .int .i64 0]) ∧ Below w.heap.size w w' := by
  have ht : (outErr 0 11 h != 0) = false := by simp [outErr]; omega
  go_enter Tryd.func56, Tryd.ntmps56
  go_wp2_with (go_at_call 105; refine (checkTurn_any _ _ _).mono ?_; rintro e w1 ⟨rfl, hb⟩; have qb : Below w.heap.size w w1 := belowT (by first | (go_grown; done) | exact And.left (by assumption)) hb; have qz : w.heap.size < w1.heap.size := Nat.lt_of_lt_of_le (by first | omega | (simp; done)) hb.size; have q0 : w1.cell? ⟨w.heap.size, 0, none⟩ = some (.int .i64 h) := keep1 hb (by first | (go_simp; done) | (go_keep; done)); have q1 : w1.cell? ⟨w.heap.size, 1, none⟩ = some (.bool true) := keep1 hb (by first | (go_simp; done) | (go_keep; done)))
  refine wp_loop_rounds 2 ?_
  rw [rounds_succ]
  go_wp2_with (go_at_call 106; refine (then_any _ _ _ _ _ (by omega) (by omega) (by omega) (by omega)).mono ?_; rintro e w3 ⟨rfl, hb3⟩; have pb : Below w.heap.size w w3 := belowT (by first | (go_grown; done) | exact And.left (by assumption)) hb3; have pz : w1.heap.size + 1 < w3.heap.size := Nat.lt_of_lt_of_le (by first | omega | (simp; done)) hb3.size; have p0 : w3.cell? ⟨w1.heap.size + 1, 0, none⟩ = some (.int .i64 h) := keep1 hb3 (by first | (go_simp; done) | (go_keep; done)); have p1 : w3.cell? ⟨w1.heap.size + 1, 1, none⟩ = some (.bool true) := keep1 hb3 (by first | (go_simp; done) | (go_keep; done)); have pf2 : w3.frozen? ⟨w1.heap.size + 1, 0, none⟩ = false := keepF hb3 (by first | omega | (simp; done)) (by first | (go_simp; done) | (go_keep; done)); have pf3 : w3.frozen? ⟨w1.heap.size + 1, 1, none⟩ = false := keepF hb3 (by first | omega | (simp; done)) (by first | (go_simp; done) | (go_keep; done)))
  have c0 := seto (b' := w1.heap.size + 1) (o' := 1) (.bool false) (by omega) (setc (.int .i64 (thenH h h true)) p0)
  have c1 := setc (.bool false) (seto (b' := w1.heap.size + 1) (o' := 0) (.int .i64 (thenH h h true)) (by omega) p1)
  have e0 : thenH h h true = 0 := by simp [thenH]
  rw [e0] at c0 c1 ⊢
  rw [rounds_succ]
  go_wp2
  go_returns
  exact ⟨rfl, by go_grown⟩
/-- The least number of times: what the loops find. -/
def Least (h : Int) (i : Nat) : Prop := 1 ≤ i ∧ i ≤ 12 ∧ ∀ j : Nat, 1 ≤ j → j < i → (j * h) % 12 ≠ 0
def Found (h : Int) (n : Int) : Prop := ∃ i : Nat, n = i ∧ Least h i ∧ ((i : Int) * h) % 12 = 0
theorem Found.uniq (h n m : Int) (a : Found h n) (b : Found h m) : n = m := by
  obtain ⟨i, rfl, hi, hi0⟩ := a
  obtain ⟨k, rfl, hk, hk0⟩ := b
  rcases Nat.lt_trichotomy i k with h1 | h1 | h1
  · exact absurd hi0 (hk.2.2 i hi.1 h1)
  · rw [h1]
  · exact absurd hk0 (hi.2.2 k hk.1 h1)
theorem Found.bd (h n : Int) (a : Found h n) : 1 ≤ n ∧ n ≤ 12 := by
  obtain ⟨i, rfl, hi, hi0⟩ := a
  have := hi.1
  have := hi.2.1
  omega
theorem Least.next (h : Int) (i : Nat) (a : Least h i) (hz : ((i : Int) * h) % 12 ≠ 0) : Least h (i + 1) := by
  obtain ⟨h1, h2, h3⟩ := a
  refine ⟨by omega, ?_, ?_⟩
  · rcases Nat.lt_or_ge i 12 with h4 | h4
    · omega
    · obtain rfl : i = 12 := by omega
      omega
  · intro j j1 j2
    rcases Nat.lt_or_ge j i with h4 | h4
    · exact h3 j j1 h4
    · obtain rfl : j = i := by omega
      exact hz
/-- The relation of the loop: so often made, the turn in its box. -/
def OrdRel (h : Int) (w : World) (n p : Value) (wr : World) : Prop :=
  ∃ (i b : Nat) (x : Int), Least h i ∧ x = ((i : Int) * h) % 12 ∧ n = .int .i64 i ∧ p = .pointer (some ⟨b, 0, none⟩) ∧ w.heap.size < b ∧ wr.cell? ⟨b, 0, none⟩ = some (.int .i64 x) ∧ wr.cell? ⟨b, 1, none⟩ = some (.bool false) ∧ wr.cell? ⟨w.heap.size, 0, none⟩ = some (.int .i64 h) ∧ wr.cell? ⟨w.heap.size, 1, none⟩ = some (.bool false) ∧ Below w.heap.size w wr
def OrdPost (h : Int) (w : World) (e : Ending) (w' : World) : Prop := (∃ n, e = .returned (.tuple #[.int .i64 n, .int .i64 0]) ∧ Found h n) ∧ Below w.heap.size w w'
theorem OrdPost.mk {h : Int} {w w' : World} {i : Nat} (hL : Least h i) (hz : (0 : Int) = ((i : Int) * h) % 12) (hB : Below w.heap.size w w') : OrdPost h w (.returned (.tuple #[.int .i64 i, .int .i64 0])) w' :=
  ⟨⟨_, rfl, i, rfl, hL, hz.symm⟩, hB⟩
theorem OrdRel.next {h : Int} {w wr : World} {i b : Nat} {x : Int} (hL : Least h i) (hx : x = ((i : Int) * h) % 12) (hz : x ≠ 0) (hb0 : w.heap.size < b) (c0 : wr.cell? ⟨b, 0, none⟩ = some (.int .i64 (thenH x h false))) (c1 : wr.cell? ⟨b, 1, none⟩ = some (.bool false)) (a0 : wr.cell? ⟨w.heap.size, 0, none⟩ = some (.int .i64 h)) (a1 : wr.cell? ⟨w.heap.size, 1, none⟩ = some (.bool false)) (hB : Below w.heap.size w wr) :
    OrdRel h w (.int .i64 ((i : Int) + 1)) (.pointer (some ⟨b, 0, none⟩)) wr := by
  refine ⟨i + 1, b, thenH x h false, hL.next h i (by omega), ?_, by rfl, rfl, hb0, c0, c1, a0, a1, hB⟩
  have e : ((i + 1 : Nat) : Int) * h = (i : Int) * h + h := by
    have := Int.add_mul (i : Int) 1 h
    simpa using this
  unfold thenH
  simp only [Bool.false_eq_true, if_false]
  rw [e]
  omega
set_option maxHeartbeats 1000000 in
theorem order_non (h : Int) (w : World) (h0 : 0 ≤ h) (h1 : h ≤ 11) :
    Calls Tryd.prog 56 #[.agg #[.int .i64 h, .bool false]] w (OrdPost h w) := by
  have ht : (outErr 0 11 h != 0) = false := by simp [outErr]; omega
  go_enter Tryd.func56, Tryd.ntmps56
  go_wp2_with (go_at_call 105; refine (checkTurn_any _ _ _).mono ?_; rintro e w1 ⟨rfl, hb⟩; have qb : Below w.heap.size w w1 := belowT (by first | (go_grown; done) | exact And.left (by assumption)) hb; have qz : w.heap.size < w1.heap.size := Nat.lt_of_lt_of_le (by first | omega | (simp; done)) hb.size; have q0 : w1.cell? ⟨w.heap.size, 0, none⟩ = some (.int .i64 h) := keep1 hb (by first | (go_simp; done) | (go_keep; done)); have q1 : w1.cell? ⟨w.heap.size, 1, none⟩ = some (.bool false) := keep1 hb (by first | (go_simp; done) | (go_keep; done)))
  go_loopw [5, 6] (fun n p wr => OrdRel h w n p wr) (fun n _ _ => 13 - (intOf n).toNat)
  case atStart =>
    refine ⟨1, w1.heap.size, h, ⟨by omega, by omega, fun j j1 j2 => by omega⟩, by omega, rfl, rfl, qz, by go_simp, by go_simp, ?_, ?_, by go_grown⟩
    · exact keep1 (by go_grown) q0
    · exact keep1 (by go_grown) q1
  case round =>
    obtain ⟨i, b, x, hL, hx, rfl, rfl, hb0, c0, c1, a0, a1, hB⟩ := hrel
    have Hx := Lib.hid hx
    have HL := Lib.hid hL
    have x0 : 0 ≤ x := by omega
    have x1 : x ≤ 11 := by omega
    have i1 : (i : Int) ≤ 12 := by have := hL.2.1; omega
    have i0 : 1 ≤ (i : Int) := by have := hL.1; omega
    have hlt := block_lt a0
    clear hx hL
    by_cases hz : x = 0
    · subst hz
      go_wp2
      go_returns
      exact OrdPost.mk HL.out Hx.out (by go_grown)
    · have tz : (x != 0) = true := by simpa using hz
      have Hz := Lib.hid hz
      clear hz
      go_wp2_with (go_at_call 106; refine (then_any _ _ _ _ _ x0 x1 h0 h1).mono ?_; rintro e w3 ⟨rfl, hb3⟩; have pb : Below w.heap.size w w3 := belowT (by first | (go_grown; done) | exact And.left (by assumption)) hb3; have pz : wr.heap.size < w3.heap.size := Nat.lt_of_lt_of_le (by first | omega | (simp; done)) hb3.size; have p0 : w3.cell? ⟨wr.heap.size, 0, none⟩ = some (.int .i64 x) := keep1 hb3 (by first | (go_simp; done) | (go_keep; done)); have p1 : w3.cell? ⟨wr.heap.size, 1, none⟩ = some (.bool false) := keep1 hb3 (by first | (go_simp; done) | (go_keep; done)); have p2 : w3.cell? ⟨w.heap.size, 0, none⟩ = some (.int .i64 h) := keep1 hb3 (by first | (go_simp; done) | (go_keep; done)); have p3 : w3.cell? ⟨w.heap.size, 1, none⟩ = some (.bool false) := keep1 hb3 (by first | (go_simp; done) | (go_keep; done)); have pf4 : w3.frozen? ⟨wr.heap.size, 0, none⟩ = false := keepF hb3 (by first | omega | (simp; done)) (by first | (go_simp; done) | (go_keep; done)); have pf5 : w3.frozen? ⟨wr.heap.size, 1, none⟩ = false := keepF hb3 (by first | omega | (simp; done)) (by first | (go_simp; done) | (go_keep; done)))
      have d0 := seto (b' := wr.heap.size) (o' := 1) (.bool false) (by omega) (setc (.int .i64 (thenH x h false)) p0)
      have d1 := setc (.bool false) (seto (b' := wr.heap.size) (o' := 0) (.int .i64 (thenH x h false)) (by omega) p1)
      have d2 := seto (b' := wr.heap.size) (o' := 1) (.bool false) (by omega) (seto (b' := wr.heap.size) (o' := 0) (.int .i64 (thenH x h false)) (by omega) p2)
      have d3 := seto (b' := wr.heap.size) (o' := 1) (.bool false) (by omega) (seto (b' := wr.heap.size) (o' := 0) (.int .i64 (thenH x h false)) (by omega) p3)
      have hB3 := (pb.setCell (p := ⟨wr.heap.size, 0, none⟩) (Nat.le_of_lt hlt) (.int .i64 (thenH x h false))).setCell (p := ⟨wr.heap.size, 1, none⟩) (Nat.le_of_lt hlt) (.bool false)
      go_roundw
      case rel => exact OrdRel.next HL.out Hx.out Hz.out hlt d0 d1 d2 d3 hB3
      case measure => simp [intOf]; omega
end Go.Proofs.YtngdhmliohjigaaDoor
