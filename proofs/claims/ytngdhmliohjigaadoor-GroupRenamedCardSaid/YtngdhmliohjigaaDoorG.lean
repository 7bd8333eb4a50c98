/- Contracts of the reference's turns. -/
import Derived.Test.YtngdhmliohjigaaDoorF
namespace Go.Proofs.YtngdhmliohjigaaDoor
open Go.RowKit

def withinB (n lo hi : Int) : Bool := decide (lo ≤ n) && decide (n ≤ hi)
set_option maxHeartbeats 400000 in
theorem rwithin_any (n lo hi : Int) (w : World) :
    Calls Tryd.prog 27 #[.int .i64 n, .int .i64 lo, .int .i64 hi] w fun e w' => e = .returned (.bool (withinB n lo hi)) ∧ w = w' := by
  by_cases h1 : lo ≤ n
  · by_cases h2 : n ≤ hi
    · go_enter Tryd.func27, Tryd.ntmps27
      go_wp2
      go_ret
      exact ⟨by simp [withinB, h1, h2], rfl⟩
    · go_enter Tryd.func27, Tryd.ntmps27
      go_wp2
      go_ret
      exact ⟨by simp [withinB, h1, h2], rfl⟩
  · go_enter Tryd.func27, Tryd.ntmps27
    go_wp2
    go_ret
    exact ⟨by simp [withinB]; omega, rfl⟩
set_option maxHeartbeats 400000 in
theorem rturnErr_any (h : Int) (m : Bool) (w : World) :
    Calls Tryd.prog 57 #[.agg #[.int .i64 h, .bool m]] w fun e w' => e = .returned (.int .i64 (outErr 0 11 h)) ∧ Below w.heap.size w w' := by
  by_cases hv : 0 ≤ h ∧ h ≤ 11
  · have hb1 : withinB h 0 11 = true := by simp [withinB, hv]
    go_enter Tryd.func57, Tryd.ntmps57
    go_wp2_with (go_at_call 27; refine (rwithin_any _ _ _ _).mono ?_; rintro e w1 ⟨rfl, rfl⟩)
    go_returns
    exact ⟨by simp [outErr]; omega, by go_grown⟩
  · have hb1 : withinB h 0 11 = false := by simp [withinB]; omega
    go_enter Tryd.func57, Tryd.ntmps57
    go_wp2_with (go_at_call 27; refine (rwithin_any _ _ _ _).mono ?_; rintro e w1 ⟨rfl, rfl⟩)
    go_returns
    exact ⟨by simp [outErr]; omega, by go_grown⟩
theorem rmod_lemma (n m : Int) (h3 : 1 ≤ m) : (n.tmod m < 0 → n.tmod m + m = n % m) ∧ (0 ≤ n.tmod m → n.tmod m = n % m) ∧ -m < n.tmod m ∧ n.tmod m < m := by
  have a1 := Int.tmod_lt_of_pos n (show 0 < m by omega)
  have a2 : -m < n.tmod m := by
    rcases Int.le_total 0 n with h | h
    · have := Int.tmod_nonneg m h; omega
    · have h5 := Int.tmod_lt_of_pos (-n) (show 0 < m by omega)
      rw [Int.neg_tmod] at h5; omega
  have e := Int.mul_tdiv_add_tmod n m
  have e2 : n = n.tmod m + m * (n.tdiv m) := by omega
  refine ⟨fun h => ?_, fun h => ?_, a2, a1⟩
  · have : n % m = (n.tmod m + m) % m := by
      rw [Int.add_emod_right]
      conv => lhs; rw [e2]
      rw [Int.add_mul_emod_self_left]
    rw [this, Int.emod_eq_of_lt (by omega) (by omega)]
  · conv => rhs; rw [e2]
    rw [Int.add_mul_emod_self_left, Int.emod_eq_of_lt h a1]
set_option maxHeartbeats 400000 in
theorem rmod_any (n m : Int) (w : World) (h3 : 1 ≤ m) (h4 : m ≤ 1000000000000) :
    Calls Tryd.prog 36 #[.int .i64 n, .int .i64 m] w fun e w' => e = .returned (.int .i64 (n % m)) ∧ w = w' := by
  obtain ⟨m1, m2, m3, m4⟩ := rmod_lemma n m h3
  by_cases hneg : n.tmod m < 0
  · have H := Lib.hid (m1 hneg)
    clear m1 m2
    go_enter Tryd.func36, Tryd.ntmps36
    go_wp2
    go_ret
    exact ⟨by rw [← H.out]; rfl, rfl⟩
  · have H := Lib.hid (m2 (by omega))
    clear m1 m2
    go_enter Tryd.func36, Tryd.ntmps36
    go_wp2
    go_ret
    exact ⟨by rw [← H.out]; rfl, rfl⟩
def madeH (h : Int) (m : Bool) (x : Int) : Int := if m then (h - x) % 12 else (h + x) % 12
theorem madeH_bd (h : Int) (m : Bool) (x : Int) : 0 ≤ madeH h m x ∧ madeH h m x ≤ 11 := by unfold madeH; split <;> omega
set_option maxHeartbeats 400000 in
theorem rmade_any (h x : Int) (m : Bool) (w : World) (h0 : 0 ≤ h) (h1 : h ≤ 11) (x0 : 0 ≤ x) (x1 : x ≤ 11) :
    Calls Tryd.prog 108 #[.agg #[.int .i64 h, .bool m], .int .i64 x] w fun e w' => e = .returned (.int .i64 (madeH h m x)) ∧ Below w.heap.size w w' := by
  cases m
  · go_enter Tryd.func108, Tryd.ntmps108
    go_wp2_with (go_at_call 36; refine (rmod_any _ _ _ (by omega) (by omega)).mono ?_; rintro e w1 ⟨rfl, rfl⟩)
    go_returns
    exact ⟨by simp [madeH], by go_grown⟩
  · go_enter Tryd.func108, Tryd.ntmps108
    go_wp2_with (go_at_call 36; refine (rmod_any _ _ _ (by omega) (by omega)).mono ?_; rintro e w1 ⟨rfl, rfl⟩)
    go_returns
    exact ⟨by simp [madeH], by go_grown⟩
theorem made_then (h k : Int) (m n : Bool) : madeH k n (madeH h m 0) = thenH h k n := by
  cases m <;> cases n <;> simp [madeH, thenH] <;> omega
theorem made_mir (h k : Int) (m n : Bool) : ((madeH k n (madeH h m 1) - thenH h k n) % 12 != 1) = (m ^^ n) := by
  cases m <;> cases n <;> simp [madeH, thenH] <;> omega
set_option maxHeartbeats 1000000 in
theorem rcomposed_any (h k : Int) (m n : Bool) (w : World) (h0 : 0 ≤ h) (h1 : h ≤ 11) (k0 : 0 ≤ k) (k1 : k ≤ 11) :
    Calls Tryd.prog 58 #[.agg #[.int .i64 h, .bool m], .agg #[.int .i64 k, .bool n]] w fun e w' => e = .returned (.agg #[.int .i64 (thenH h k n), .bool (m ^^ n)]) ∧ Below w.heap.size w w' := by
  have M0 := madeH_bd h m 0
  have M1 := madeH_bd h m 1
  have M2 := madeH_bd k n (madeH h m 0)
  have M3 := madeH_bd k n (madeH h m 1)
  go_enter Tryd.func58, Tryd.ntmps58
  go_wp2_with fail
  go_region_held3 (fun W : World => Below w.heap.size w W ∧ w.heap.size + 1 + 1 < W.heap.size ∧ W.cell? ⟨w.heap.size, 0, none⟩ = some (.int .i64 h) ∧ W.cell? ⟨w.heap.size, 1, none⟩ = some (.bool m) ∧ W.cell? ⟨w.heap.size + 1, 0, none⟩ = some (.int .i64 k) ∧ W.cell? ⟨w.heap.size + 1, 1, none⟩ = some (.bool n) ∧ W.cell? ⟨w.heap.size + 1 + 1, 0, none⟩ = some (.int .i64 0) ∧ W.cell? ⟨w.heap.size + 1 + 1, 1, none⟩ = some (.bool false) ∧ W.frozen? ⟨w.heap.size + 1 + 1, 0, none⟩ = false ∧ W.frozen? ⟨w.heap.size + 1 + 1, 1, none⟩ = false) ((repeat' apply And.intro) <;> (first | (with_reducible assumption) | (refine belowT ?_ ‹_›; first | (go_grown; done) | exact And.left (by assumption)) | (refine belowT (And.left (by assumption)) ?_; go_grown; done) | (go_simp; done) | exact keep1 ‹_› (by first | (go_simp; done) | (go_keep; done)) | (go_keep; done) | omega | (go_grown; done) | (refine Nat.lt_of_lt_of_le ?_ (Below.size ‹_›); first | omega | (simp; done)) | exact keepF ‹_› (by first | omega | (simp; done)) (by first | (go_simp; done) | (go_keep; done)) | (simp; omega))) (first | (go_at_call 108; refine (rmade_any _ _ _ _ (by omega) (by omega) (by omega) (by omega)).mono ?_; rintro e w1 ⟨rfl, hb⟩))
  obtain ⟨qb, qz, q0, q1, q2, q3, q4, q5, qf6, qf7⟩ := (by assumption : Below w.heap.size w _ ∧ _)
  go_wp2_with (go_at_call 36; refine (rmod_any _ _ _ (by omega) (by omega)).mono ?_; rintro e w3 ⟨rfl, rfl⟩)
  have E1 := made_then h k m n
  have E2 := made_mir h k m n
  rw [E1, E2]
  have r0 := seto (b' := w.heap.size + 1 + 1) (o' := 1) (.bool (m ^^ n)) (by omega) (setc (.int .i64 (thenH h k n)) q4)
  have r1 := setc (.bool (m ^^ n)) (seto (b' := w.heap.size + 1 + 1) (o' := 0) (.int .i64 (thenH h k n)) (by omega) q5)
  refine bodyPost_ret (by simp [results, Tryd.results58, go_sem, r0, r1]; try rfl) rfl ?_
  exact ⟨by rfl, by go_grown⟩
set_option maxHeartbeats 1000000 in
theorem rinverse_any (h : Int) (m : Bool) (w : World) (h0 : 0 ≤ h) (h1 : h ≤ 11) :
    Calls Tryd.prog 59 #[.agg #[.int .i64 h, .bool m]] w fun e w' => e = .returned (.agg #[.int .i64 (if m then h else -h % 12), .bool m]) ∧ Below w.heap.size w w' := by
  cases m
  · go_enter Tryd.func59, Tryd.ntmps59
    go_wp2_with (go_at_call 36; refine (rmod_any _ _ _ (by omega) (by omega)).mono ?_; rintro e w1 ⟨rfl, rfl⟩)
    go_returns
    exact ⟨rfl, by go_grown⟩
  · go_enter Tryd.func59, Tryd.ntmps59
    go_wp2
    go_returns
    exact ⟨rfl, by go_grown⟩
set_option maxHeartbeats 1000000 in
theorem rorder_mir (h : Int) (w : World) (h0 : 0 ≤ h) (h1 : h ≤ 11) :
    Calls Tryd.prog 60 #[.agg #[.int .i64 h, .bool true]] w fun e w' => e = .returned (.int .i64 2) ∧ Below w.heap.size w w' := by
  go_enter Tryd.func60, Tryd.ntmps60
  go_wp2
  go_region_held3 (fun W : World => Below w.heap.size w W ∧ W.cell? ⟨w.heap.size, 0, none⟩ = some (.int .i64 h) ∧ W.cell? ⟨w.heap.size, 1, none⟩ = some (.bool true)) ((repeat' apply And.intro) <;> (first | (with_reducible assumption) | (refine belowT ?_ ‹_›; first | (go_grown; done) | exact And.left (by assumption)) | (refine belowT (And.left (by assumption)) ?_; go_grown; done) | (go_simp; done) | exact keep1 ‹_› (by first | (go_simp; done) | (go_keep; done)) | (go_keep; done) | omega | (go_grown; done) | (refine Nat.lt_of_lt_of_le ?_ (Below.size ‹_›); first | omega | (simp; done)) | exact keepF ‹_› (by first | omega | (simp; done)) (by first | (go_simp; done) | (go_keep; done)) | (simp; omega))) (first | fail)
  go_wp2
  refine wp_loop_rounds 2 ?_
  rw [rounds_succ]
  go_wp2_with (go_at_call 58; refine (rcomposed_any _ _ _ _ _ h0 h1 h0 h1).mono ?_; rintro e w3 ⟨rfl, hb3⟩; have pb : Below w.heap.size w w3 := belowT (by first | (go_grown; done) | exact And.left (by assumption)) hb3; have pz : w.heap.size + 1 < w3.heap.size := Nat.lt_of_lt_of_le (by first | omega | (simp; done)) hb3.size; have p0 : w3.cell? ⟨w.heap.size + 1, 0, none⟩ = some (.int .i64 h) := keep1 hb3 (by first | (go_simp; done) | (go_keep; done)); have p1 : w3.cell? ⟨w.heap.size + 1, 1, none⟩ = some (.bool true) := keep1 hb3 (by first | (go_simp; done) | (go_keep; done)); have pf2 : w3.frozen? ⟨w.heap.size + 1, 0, none⟩ = false := keepF hb3 (by first | omega | (simp; done)) (by first | (go_simp; done) | (go_keep; done)); have pf3 : w3.frozen? ⟨w.heap.size + 1, 1, none⟩ = false := keepF hb3 (by first | omega | (simp; done)) (by first | (go_simp; done) | (go_keep; done)))
  have c0 := seto (b' := w.heap.size + 1) (o' := 1) (.bool false) (by omega) (setc (.int .i64 (thenH h h true)) p0)
  have c1 := setc (.bool false) (seto (b' := w.heap.size + 1) (o' := 0) (.int .i64 (thenH h h true)) (by omega) p1)
  have e0 : thenH h h true = 0 := by simp [thenH]
  rw [e0] at c0 c1 ⊢
  rw [rounds_succ]
  go_wp2
  go_returns
  exact ⟨rfl, by go_grown⟩
def OrdRel2 (h : Int) (w : World) (n : Value) (wr : World) : Prop :=
  ∃ (i : Nat) (x : Int), Least h i ∧ x = ((i : Int) * h) % 12 ∧ n = .int .i64 i ∧ wr.cell? ⟨w.heap.size + 1, 0, none⟩ = some (.int .i64 x) ∧ wr.cell? ⟨w.heap.size + 1, 1, none⟩ = some (.bool false) ∧ wr.frozen? ⟨w.heap.size + 1, 0, none⟩ = false ∧ wr.frozen? ⟨w.heap.size + 1, 1, none⟩ = false ∧ wr.cell? ⟨w.heap.size, 0, none⟩ = some (.int .i64 h) ∧ wr.cell? ⟨w.heap.size, 1, none⟩ = some (.bool false) ∧ Below w.heap.size w wr
def OrdPost2 (h : Int) (w : World) (e : Ending) (w' : World) : Prop := (∃ n, e = .returned (.int .i64 n) ∧ Found h n) ∧ Below w.heap.size w w'
theorem OrdPost2.mk {h : Int} {w w' : World} {i : Nat} (hL : Least h i) (hz : (0 : Int) = ((i : Int) * h) % 12) (hB : Below w.heap.size w w') : OrdPost2 h w (.returned (.int .i64 i)) w' :=
  ⟨⟨_, rfl, i, rfl, hL, hz.symm⟩, hB⟩
theorem OrdRel2.next {h : Int} {w wr : World} {i : Nat} {x : Int} (hL : Least h i) (hx : x = ((i : Int) * h) % 12) (hz : x ≠ 0) (c0 : wr.cell? ⟨w.heap.size + 1, 0, none⟩ = some (.int .i64 (thenH x h false))) (c1 : wr.cell? ⟨w.heap.size + 1, 1, none⟩ = some (.bool false)) (f0 : wr.frozen? ⟨w.heap.size + 1, 0, none⟩ = false) (f1 : wr.frozen? ⟨w.heap.size + 1, 1, none⟩ = false) (a0 : wr.cell? ⟨w.heap.size, 0, none⟩ = some (.int .i64 h)) (a1 : wr.cell? ⟨w.heap.size, 1, none⟩ = some (.bool false)) (hB : Below w.heap.size w wr) :
    OrdRel2 h w (.int .i64 ((i : Int) + 1)) wr := by
  refine ⟨i + 1, thenH x h false, hL.next h i (by omega), ?_, by rfl, c0, c1, f0, f1, a0, a1, hB⟩
  have e : ((i + 1 : Nat) : Int) * h = (i : Int) * h + h := by
    have := Int.add_mul (i : Int) 1 h
    simpa using this
  unfold thenH
  simp only [Bool.false_eq_true, if_false]
  rw [e]
  omega
set_option maxHeartbeats 1000000 in
theorem rorder_non (h : Int) (w : World) (h0 : 0 ≤ h) (h1 : h ≤ 11) :
    Calls Tryd.prog 60 #[.agg #[.int .i64 h, .bool false]] w (OrdPost2 h w) := by
  go_enter Tryd.func60, Tryd.ntmps60
  go_wp2
  go_region_held3 (fun W : World => Below w.heap.size w W ∧ W.cell? ⟨w.heap.size, 0, none⟩ = some (.int .i64 h) ∧ W.cell? ⟨w.heap.size, 1, none⟩ = some (.bool false)) ((repeat' apply And.intro) <;> (first | (with_reducible assumption) | (refine belowT ?_ ‹_›; first | (go_grown; done) | exact And.left (by assumption)) | (refine belowT (And.left (by assumption)) ?_; go_grown; done) | (go_simp; done) | exact keep1 ‹_› (by first | (go_simp; done) | (go_keep; done)) | (go_keep; done) | omega | (go_grown; done) | (refine Nat.lt_of_lt_of_le ?_ (Below.size ‹_›); first | omega | (simp; done)) | exact keepF ‹_› (by first | omega | (simp; done)) (by first | (go_simp; done) | (go_keep; done)) | (simp; omega))) (first | fail)
  go_wp2
  go_loopw [3] (fun n wr => OrdRel2 h w n wr) (fun n _ => 13 - (intOf n).toNat)
  case atStart =>
    refine ⟨1, h, ⟨by omega, by omega, fun j j1 j2 => by omega⟩, by omega, rfl, by go_simp, by go_simp, by go_simp, by go_simp, by go_simp, by go_simp, by go_grown⟩
  case round =>
    obtain ⟨i, x, hL, hx, rfl, c0, c1, f0, f1, a0, a1, hB⟩ := hrel
    have Hx := Lib.hid hx
    have HL := Lib.hid hL
    have x0 : 0 ≤ x := by omega
    have x1 : x ≤ 11 := by omega
    have i1 : (i : Int) ≤ 12 := by have := hL.2.1; omega
    have i0 : 1 ≤ (i : Int) := by have := hL.1; omega
    have hlt := block_lt c0
    clear hx hL
    by_cases hz : x = 0
    · subst hz
      go_wp2
      go_returns
      exact OrdPost2.mk HL.out Hx.out (by go_grown)
    · have tz : (x != 0) = true := by simpa using hz
      have Hz := Lib.hid hz
      clear hz
      go_wp2_with (go_at_call 58; refine (rcomposed_any _ _ _ _ _ x0 x1 h0 h1).mono ?_; rintro e w3 ⟨rfl, hb3⟩; have pb : Below w.heap.size w w3 := belowT (by first | (go_grown; done) | exact And.left (by assumption)) hb3; have pz : w.heap.size + 1 < w3.heap.size := Nat.lt_of_lt_of_le (by first | omega | (simp; done)) hb3.size; have p0 : w3.cell? ⟨w.heap.size + 1, 0, none⟩ = some (.int .i64 x) := keep1 hb3 (by first | (go_simp; done) | (go_keep; done)); have p1 : w3.cell? ⟨w.heap.size + 1, 1, none⟩ = some (.bool false) := keep1 hb3 (by first | (go_simp; done) | (go_keep; done)); have p2 : w3.cell? ⟨w.heap.size, 0, none⟩ = some (.int .i64 h) := keep1 hb3 (by first | (go_simp; done) | (go_keep; done)); have p3 : w3.cell? ⟨w.heap.size, 1, none⟩ = some (.bool false) := keep1 hb3 (by first | (go_simp; done) | (go_keep; done)); have pf4 : w3.frozen? ⟨w.heap.size + 1, 0, none⟩ = false := keepF hb3 (by first | omega | (simp; done)) (by first | (go_simp; done) | (go_keep; done)); have pf5 : w3.frozen? ⟨w.heap.size + 1, 1, none⟩ = false := keepF hb3 (by first | omega | (simp; done)) (by first | (go_simp; done) | (go_keep; done)))
      have d0 := seto (b' := w.heap.size + 1) (o' := 1) (.bool false) (by omega) (setc (.int .i64 (thenH x h false)) p0)
      have d1 := setc (.bool false) (seto (b' := w.heap.size + 1) (o' := 0) (.int .i64 (thenH x h false)) (by omega) p1)
      have d2 := seto (b' := w.heap.size + 1) (o' := 1) (.bool false) (by omega) (seto (b' := w.heap.size + 1) (o' := 0) (.int .i64 (thenH x h false)) (by omega) p2)
      have d3 := seto (b' := w.heap.size + 1) (o' := 1) (.bool false) (by omega) (seto (b' := w.heap.size + 1) (o' := 0) (.int .i64 (thenH x h false)) (by omega) p3)
      have e0 : ((w3.setCell ⟨w.heap.size + 1, 0, none⟩ (.int .i64 (thenH x h false))).setCell ⟨w.heap.size + 1, 1, none⟩ (.bool false)).frozen? ⟨w.heap.size + 1, 0, none⟩ = false := by go_simp
      have e1 : ((w3.setCell ⟨w.heap.size + 1, 0, none⟩ (.int .i64 (thenH x h false))).setCell ⟨w.heap.size + 1, 1, none⟩ (.bool false)).frozen? ⟨w.heap.size + 1, 1, none⟩ = false := by go_simp
      have hB3 := (pb.setCell (p := ⟨w.heap.size + 1, 0, none⟩) (Nat.le_succ _) (.int .i64 (thenH x h false))).setCell (p := ⟨w.heap.size + 1, 1, none⟩) (Nat.le_succ _) (.bool false)
      go_roundw
      case rel => exact OrdRel2.next HL.out Hx.out Hz.out d0 d1 e0 e1 d2 d3 hB3
      case measure => simp [intOf]; omega
end Go.Proofs.YtngdhmliohjigaaDoor
