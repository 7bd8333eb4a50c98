/- The reference's lines of windings: the walk. -/
import Derived.Test.YtngdhmliohjigaaDoorLF
import Derived.BigRegion
import Derived.Deep.RegionHeld3
import Derived.Test.YtngdhmliohjigaaDoorHM
namespace Go.Proofs.YtngdhmliohjigaaDoor
open Go.RowKit
def facRow (K : Int) (B : Nat) (W : World) : Prop := ∀ j : Nat, j < 3 → W.cell? ⟨B, j, none⟩ = some (.int .i64 (fac K j))
/-- What the loops keep. -/
structure RlKept (K n s t : Int) (r : Bool) (w : World) (RB : Nat) (W : World) : Prop where
  below : Below w.heap.size w W
  size : w.heap.size + 1 + 1 + 1 + 1 + 1 + 1 < W.heap.size
  b0 : W.cell? ⟨w.heap.size, 0, none⟩ = some (.int .i64 K)
  b1 : W.cell? ⟨w.heap.size, 1, none⟩ = some (.int .i64 n)
  b2 : W.cell? ⟨w.heap.size, 2, none⟩ = some (.int .i64 s)
  b3 : W.cell? ⟨w.heap.size, 3, none⟩ = some (.bool r)
  hdr : W.cell? ⟨w.heap.size + 1 + 1 + 1 + 1 + 1, K.toNat, none⟩ = some (.slice (some ⟨RB, 0, none⟩) 3 3)
  row : facRow K RB W
  res : OutAt K s t 0 0 (w.heap.size + 1) W
def RlIn (K n s t k : Int) (r : Bool) (w : World) (RB : Nat) (i : Value) (W : World) : Prop := ∃ m : Nat, i = .int .i64 m ∧ (m : Int) ≤ 3 ∧ RlKept K n s t r w RB W ∧ OutAt K s t k m (w.heap.size + 1 + 1 + 1 + 1 + 1 + 1) W
def RlOut (K n s t : Int) (r : Bool) (w : World) (RB : Nat) (k : Value) (W : World) : Prop := ∃ m : Nat, k = .int .i64 m ∧ (m : Int) ≤ 3 ∧ RlKept K n s t r w RB W ∧ OutAt K s t m 0 (w.heap.size + 1 + 1 + 1 + 1 + 1 + 1) W
set_option maxRecDepth 100000 in
set_option maxHeartbeats 8000000 in
theorem rlines_any (K n s t u : Int) (r : Bool) (w : World) (k0 : 0 ≤ K) (k1 : K ≤ 2) (_h1 : 1 ≤ n) (_h2 : n ≤ 2000) (s0 : 0 ≤ s) (s1 : s ≤ 2) (t1 : -2000 ≤ t) (t2 : t ≤ 2000) (hm : IntKind.i64.wrap (u * n) = t) (hu : sgn r = u) :
    Calls Tryd.prog 22 #[.agg #[.int .i64 K, .int .i64 n, .int .i64 s, .bool r]] w fun e w' => (∃ a : Array Value, a.size = 9 ∧ (∀ j, j < 9 → a[j]? = some (.int .i64 (lv K s t 3 0 j))) ∧ e = .returned (.agg a)) ∧ Below w.heap.size w w' := by
  have hg0 := fun w => rsign_any K n s r w
  rw [hu] at hg0
  have hg := Lib.hid hg0
  have Hm := Lib.hid hm
  clear hg0 hu hm
  go_enter Tryd.func22, Tryd.ntmps22
  go_wp2
  have hrb : ∃ RB : Nat, ∃ _ : RB = w.heap.size + 2 + K.toNat, True := ⟨_, rfl, trivial⟩
  obtain ⟨RB, hRB0, -⟩ := hrb
  have rbl : RB < w.heap.size + 1 + 1 + 1 + 1 + 1 := by omega
  have hRB := Lib.hid hRB0
  clear hRB0
  go_loopw [5] (fun k W => RlOut K n s t r w RB k W) (fun k _ => 3 - (intOf k).toNat)
  case atStart =>
    refine ⟨0, rfl, by omega, ⟨by go_grown, by simp, by go_simp, by go_simp, by go_simp, by go_simp, ?_, ?_, ?_⟩, ?_⟩
    · rw [hRB.out]
      obtain rfl | rfl | rfl : K = 0 ∨ K = 1 ∨ K = 2 := by omega
      all_goals (go_simp; try rfl)
    · rw [hRB.out]
      intro j hj
      obtain rfl | rfl | rfl : j = 0 ∨ j = 1 ∨ j = 2 := by omega
      all_goals
        obtain rfl | rfl | rfl : K = 0 ∨ K = 1 ∨ K = 2 := by omega
        all_goals (go_simp; try rfl)
    · intro j hj
      have e := filled_none s (mem3 s s0 s1) j (List.mem_range.2 hj)
      obtain rfl | rfl | rfl | rfl | rfl | rfl | rfl | rfl | rfl : j = 0 ∨ j = 1 ∨ j = 2 ∨ j = 3 ∨ j = 4 ∨ j = 5 ∨ j = 6 ∨ j = 7 ∨ j = 8 := by omega
      all_goals
        refine ⟨?_, by go_simp⟩
        simp only [lv, e]
        go_simp
    · intro j hj
      have e := filled_none s (mem3 s s0 s1) j (List.mem_range.2 hj)
      obtain rfl | rfl | rfl | rfl | rfl | rfl | rfl | rfl | rfl : j = 0 ∨ j = 1 ∨ j = 2 ∨ j = 3 ∨ j = 4 ∨ j = 5 ∨ j = 6 ∨ j = 7 ∨ j = 8 := by omega
      all_goals
        refine ⟨?_, by go_simp⟩
        simp only [lv, Int.natCast_zero, e]
        go_simp
  case round =>
    obtain ⟨k, rfl, kk, hK, hO⟩ := hrel
    by_cases hlt : (k : Int) < 3
    · go_wp2
      go_loopw [6] (fun i W => RlIn K n s t k r w RB i W) (fun i _ => 3 - (intOf i).toNat)
      case atStart => exact ⟨0, rfl, by omega, hK, hO⟩
      case round =>
        obtain ⟨i, rfl, ii, hK, hO⟩ := hrel
        by_cases hli : (i : Int) < 3
        · go_wp2
          obtain ⟨qb, qz, q0, q1, q2, q3, q4, q5r, q6r⟩ := hK
          have c0 := q5r i (by omega)
          obtain ⟨m, hme⟩ : ∃ m : Int, (k + i + s) % 3 = m := ⟨_, rfl⟩
          have m0 : 0 ≤ m := by omega
          have m1 : m ≤ 2 := by omega
          have fb := fac_bd K i
          have f1 : IntKind.i64.wrap ((k : Int) + i) = k + i := IntWalk.i64_in _ (by omega)
          have f2 : IntKind.i64.wrap ((k : Int) + i + s) = k + i + s := IntWalk.i64_in _ (by omega)
          have f3 : ((k : Int) + i + s).tmod 3 = m := by rw [Int.tmod_eq_emod_of_nonneg (by omega)]; exact hme
          have f4 : IntKind.i64.wrap (u * n) = t := Hm.out
          obtain ⟨v, hv⟩ : ∃ v : Int, t * fac K i = v := ⟨_, rfl⟩
          obtain ⟨vf, hvf⟩ : ∃ vf : Int, fac K i = vf := ⟨_, rfl⟩
          rw [hvf] at c0 hv fb
          have f5 : IntKind.i64.wrap (t * vf) = v := by
            have := mul_bd t1 t2 (show -2 ≤ vf by omega) (show vf ≤ 2 by omega)
            rw [hv] at this ⊢
            exact IntWalk.i64_in _ (by omega)
          have Hv := Lib.hid hv
          have Hvf := Lib.hid hvf
          have Hme := Lib.hid hme
          have Hrow := Lib.hid q5r
          have Hres := Lib.hid q6r
          clear hv hvf hme q5r q6r
          have kb : (k : Int) < 3 := hlt
          have kK : K < 3 := by omega
          have im : m < 3 := by omega
          obtain ⟨g0, g1⟩ := hO (k * 3 + m.toNat) (by omega)
          have HO := Lib.hid hO
          clear hO
          go_region_held3 (fun W : World => Below w.heap.size w W ∧ W.cell? ⟨w.heap.size, 0, none⟩ = some (.int .i64 K) ∧ W.cell? ⟨w.heap.size, 1, none⟩ = some (.int .i64 n) ∧ W.cell? ⟨w.heap.size, 2, none⟩ = some (.int .i64 s) ∧ W.cell? ⟨w.heap.size, 3, none⟩ = some (.bool r) ∧ W.cell? ⟨w.heap.size + 1 + 1 + 1 + 1 + 1, K.toNat, none⟩ = some (.slice (some ⟨RB, 0, none⟩) 3 3) ∧ W.cell? ⟨RB, i, none⟩ = some (.int .i64 vf) ∧ W.frozen? ⟨w.heap.size + 1 + 1 + 1 + 1 + 1 + 1, k * 3 + m.toNat, none⟩ = false) ((repeat' apply And.intro) <;> (first | (with_reducible assumption) | (go_grown; done) | ((repeat' (first | (with_reducible assumption) | refine acell ?_ | refine dcell ?_ | refine seto _ (Or.inl (by omega)) ?_)); done) | (refine (World.frozen?_alloc_lt _ _ _ ?_).trans ?_ <;> first | (with_reducible assumption) | omega) | (simp only [World.size_alloc, World.size_drew, World.size_setCell]; omega) | (go_simp; done))) (first | (go_at_call 87; refine (hg.out _).mono ?_; rintro e w1 ⟨rfl, rfl⟩))
          obtain ⟨z0, z1, z2, z3, z4, z5, z6, z7⟩ := (by assumption : Below w.heap.size w _ ∧ _)
          go_wp2
          go_roundw
          case rel =>
            refine ⟨i + 1, rfl, by omega, ⟨z0, by simp; omega, z1, z2, z3, z4, z5, ?_, OutAt.drew (OutAt.alloc (OutAt.set (by omega) Hres.out))⟩, ?_⟩
            · intro j hj
              have := Hrow.out j hj
              (repeat' (first | (with_reducible assumption) | refine acell ?_ | refine dcell ?_ | refine seto _ (Or.inl (by omega)) ?_))
            · refine OutAt.drew (OutAt.alloc ?_)
              rw [← Hv.out, ← Hvf.out]
              exact out_step (by omega) (by omega) (by omega) (by omega) s0 s1 HO.out (by have := Hme.out; omega)
          case measure => simp [intOf]; omega
        · obtain rfl : i = 3 := by omega
          go_wp2
          go_roundw
          case rel => exact ⟨k + 1, rfl, by omega, hK, out_row (by omega) (by omega) s0 s1 hO⟩
          case measure => simp [intOf]; omega
    · have hk3 : k = 3 := by omega
      have Hk3 := Lib.hid hk3
      clear hk3
      have o0 := (hO 0 (by decide)).1
      have o1 := (hO 1 (by decide)).1
      have o2 := (hO 2 (by decide)).1
      have o3 := (hO 3 (by decide)).1
      have o4 := (hO 4 (by decide)).1
      have o5 := (hO 5 (by decide)).1
      have o6 := (hO 6 (by decide)).1
      have o7 := (hO 7 (by decide)).1
      have o8 := (hO 8 (by decide)).1
      obtain ⟨qb, qz, -, -, -, -, -, -, q6r⟩ := hK
      obtain ⟨r0, f0⟩ := q6r 0 (by decide)
      obtain ⟨r1, f1⟩ := q6r 1 (by decide)
      obtain ⟨r2, f2⟩ := q6r 2 (by decide)
      obtain ⟨r3, f3⟩ := q6r 3 (by decide)
      obtain ⟨r4, f4⟩ := q6r 4 (by decide)
      obtain ⟨r5, f5⟩ := q6r 5 (by decide)
      obtain ⟨r6, f6⟩ := q6r 6 (by decide)
      obtain ⟨r7, f7⟩ := q6r 7 (by decide)
      obtain ⟨r8, f8⟩ := q6r 8 (by decide)
      have HO := Lib.hid hO
      have zz : w.heap.size + 1 < wr.heap.size := by omega
      clear q6r hO
      go_wp2
      have c0 := seto (b' := (w.heap.size + 1)) (o' := 8) (.int .i64 (lv K s t (k : Int) 0 8)) (by omega) (seto (b' := (w.heap.size + 1)) (o' := 7) (.int .i64 (lv K s t (k : Int) 0 7)) (by omega) (seto (b' := (w.heap.size + 1)) (o' := 6) (.int .i64 (lv K s t (k : Int) 0 6)) (by omega) (seto (b' := (w.heap.size + 1)) (o' := 5) (.int .i64 (lv K s t (k : Int) 0 5)) (by omega) (seto (b' := (w.heap.size + 1)) (o' := 4) (.int .i64 (lv K s t (k : Int) 0 4)) (by omega) (seto (b' := (w.heap.size + 1)) (o' := 3) (.int .i64 (lv K s t (k : Int) 0 3)) (by omega) (seto (b' := (w.heap.size + 1)) (o' := 2) (.int .i64 (lv K s t (k : Int) 0 2)) (by omega) (seto (b' := (w.heap.size + 1)) (o' := 1) (.int .i64 (lv K s t (k : Int) 0 1)) (by omega) (setc (.int .i64 (lv K s t (k : Int) 0 0)) r0))))))))
      have c1 := seto (b' := (w.heap.size + 1)) (o' := 8) (.int .i64 (lv K s t (k : Int) 0 8)) (by omega) (seto (b' := (w.heap.size + 1)) (o' := 7) (.int .i64 (lv K s t (k : Int) 0 7)) (by omega) (seto (b' := (w.heap.size + 1)) (o' := 6) (.int .i64 (lv K s t (k : Int) 0 6)) (by omega) (seto (b' := (w.heap.size + 1)) (o' := 5) (.int .i64 (lv K s t (k : Int) 0 5)) (by omega) (seto (b' := (w.heap.size + 1)) (o' := 4) (.int .i64 (lv K s t (k : Int) 0 4)) (by omega) (seto (b' := (w.heap.size + 1)) (o' := 3) (.int .i64 (lv K s t (k : Int) 0 3)) (by omega) (seto (b' := (w.heap.size + 1)) (o' := 2) (.int .i64 (lv K s t (k : Int) 0 2)) (by omega) (setc (.int .i64 (lv K s t (k : Int) 0 1)) (seto (b' := (w.heap.size + 1)) (o' := 0) (.int .i64 (lv K s t (k : Int) 0 0)) (by omega) r1))))))))
      have c2 := seto (b' := (w.heap.size + 1)) (o' := 8) (.int .i64 (lv K s t (k : Int) 0 8)) (by omega) (seto (b' := (w.heap.size + 1)) (o' := 7) (.int .i64 (lv K s t (k : Int) 0 7)) (by omega) (seto (b' := (w.heap.size + 1)) (o' := 6) (.int .i64 (lv K s t (k : Int) 0 6)) (by omega) (seto (b' := (w.heap.size + 1)) (o' := 5) (.int .i64 (lv K s t (k : Int) 0 5)) (by omega) (seto (b' := (w.heap.size + 1)) (o' := 4) (.int .i64 (lv K s t (k : Int) 0 4)) (by omega) (seto (b' := (w.heap.size + 1)) (o' := 3) (.int .i64 (lv K s t (k : Int) 0 3)) (by omega) (setc (.int .i64 (lv K s t (k : Int) 0 2)) (seto (b' := (w.heap.size + 1)) (o' := 1) (.int .i64 (lv K s t (k : Int) 0 1)) (by omega) (seto (b' := (w.heap.size + 1)) (o' := 0) (.int .i64 (lv K s t (k : Int) 0 0)) (by omega) r2))))))))
      have c3 := seto (b' := (w.heap.size + 1)) (o' := 8) (.int .i64 (lv K s t (k : Int) 0 8)) (by omega) (seto (b' := (w.heap.size + 1)) (o' := 7) (.int .i64 (lv K s t (k : Int) 0 7)) (by omega) (seto (b' := (w.heap.size + 1)) (o' := 6) (.int .i64 (lv K s t (k : Int) 0 6)) (by omega) (seto (b' := (w.heap.size + 1)) (o' := 5) (.int .i64 (lv K s t (k : Int) 0 5)) (by omega) (seto (b' := (w.heap.size + 1)) (o' := 4) (.int .i64 (lv K s t (k : Int) 0 4)) (by omega) (setc (.int .i64 (lv K s t (k : Int) 0 3)) (seto (b' := (w.heap.size + 1)) (o' := 2) (.int .i64 (lv K s t (k : Int) 0 2)) (by omega) (seto (b' := (w.heap.size + 1)) (o' := 1) (.int .i64 (lv K s t (k : Int) 0 1)) (by omega) (seto (b' := (w.heap.size + 1)) (o' := 0) (.int .i64 (lv K s t (k : Int) 0 0)) (by omega) r3))))))))
      have c4 := seto (b' := (w.heap.size + 1)) (o' := 8) (.int .i64 (lv K s t (k : Int) 0 8)) (by omega) (seto (b' := (w.heap.size + 1)) (o' := 7) (.int .i64 (lv K s t (k : Int) 0 7)) (by omega) (seto (b' := (w.heap.size + 1)) (o' := 6) (.int .i64 (lv K s t (k : Int) 0 6)) (by omega) (seto (b' := (w.heap.size + 1)) (o' := 5) (.int .i64 (lv K s t (k : Int) 0 5)) (by omega) (setc (.int .i64 (lv K s t (k : Int) 0 4)) (seto (b' := (w.heap.size + 1)) (o' := 3) (.int .i64 (lv K s t (k : Int) 0 3)) (by omega) (seto (b' := (w.heap.size + 1)) (o' := 2) (.int .i64 (lv K s t (k : Int) 0 2)) (by omega) (seto (b' := (w.heap.size + 1)) (o' := 1) (.int .i64 (lv K s t (k : Int) 0 1)) (by omega) (seto (b' := (w.heap.size + 1)) (o' := 0) (.int .i64 (lv K s t (k : Int) 0 0)) (by omega) r4))))))))
      have c5 := seto (b' := (w.heap.size + 1)) (o' := 8) (.int .i64 (lv K s t (k : Int) 0 8)) (by omega) (seto (b' := (w.heap.size + 1)) (o' := 7) (.int .i64 (lv K s t (k : Int) 0 7)) (by omega) (seto (b' := (w.heap.size + 1)) (o' := 6) (.int .i64 (lv K s t (k : Int) 0 6)) (by omega) (setc (.int .i64 (lv K s t (k : Int) 0 5)) (seto (b' := (w.heap.size + 1)) (o' := 4) (.int .i64 (lv K s t (k : Int) 0 4)) (by omega) (seto (b' := (w.heap.size + 1)) (o' := 3) (.int .i64 (lv K s t (k : Int) 0 3)) (by omega) (seto (b' := (w.heap.size + 1)) (o' := 2) (.int .i64 (lv K s t (k : Int) 0 2)) (by omega) (seto (b' := (w.heap.size + 1)) (o' := 1) (.int .i64 (lv K s t (k : Int) 0 1)) (by omega) (seto (b' := (w.heap.size + 1)) (o' := 0) (.int .i64 (lv K s t (k : Int) 0 0)) (by omega) r5))))))))
      have c6 := seto (b' := (w.heap.size + 1)) (o' := 8) (.int .i64 (lv K s t (k : Int) 0 8)) (by omega) (seto (b' := (w.heap.size + 1)) (o' := 7) (.int .i64 (lv K s t (k : Int) 0 7)) (by omega) (setc (.int .i64 (lv K s t (k : Int) 0 6)) (seto (b' := (w.heap.size + 1)) (o' := 5) (.int .i64 (lv K s t (k : Int) 0 5)) (by omega) (seto (b' := (w.heap.size + 1)) (o' := 4) (.int .i64 (lv K s t (k : Int) 0 4)) (by omega) (seto (b' := (w.heap.size + 1)) (o' := 3) (.int .i64 (lv K s t (k : Int) 0 3)) (by omega) (seto (b' := (w.heap.size + 1)) (o' := 2) (.int .i64 (lv K s t (k : Int) 0 2)) (by omega) (seto (b' := (w.heap.size + 1)) (o' := 1) (.int .i64 (lv K s t (k : Int) 0 1)) (by omega) (seto (b' := (w.heap.size + 1)) (o' := 0) (.int .i64 (lv K s t (k : Int) 0 0)) (by omega) r6))))))))
      have c7 := seto (b' := (w.heap.size + 1)) (o' := 8) (.int .i64 (lv K s t (k : Int) 0 8)) (by omega) (setc (.int .i64 (lv K s t (k : Int) 0 7)) (seto (b' := (w.heap.size + 1)) (o' := 6) (.int .i64 (lv K s t (k : Int) 0 6)) (by omega) (seto (b' := (w.heap.size + 1)) (o' := 5) (.int .i64 (lv K s t (k : Int) 0 5)) (by omega) (seto (b' := (w.heap.size + 1)) (o' := 4) (.int .i64 (lv K s t (k : Int) 0 4)) (by omega) (seto (b' := (w.heap.size + 1)) (o' := 3) (.int .i64 (lv K s t (k : Int) 0 3)) (by omega) (seto (b' := (w.heap.size + 1)) (o' := 2) (.int .i64 (lv K s t (k : Int) 0 2)) (by omega) (seto (b' := (w.heap.size + 1)) (o' := 1) (.int .i64 (lv K s t (k : Int) 0 1)) (by omega) (seto (b' := (w.heap.size + 1)) (o' := 0) (.int .i64 (lv K s t (k : Int) 0 0)) (by omega) r7))))))))
      have c8 := setc (.int .i64 (lv K s t (k : Int) 0 8)) (seto (b' := (w.heap.size + 1)) (o' := 7) (.int .i64 (lv K s t (k : Int) 0 7)) (by omega) (seto (b' := (w.heap.size + 1)) (o' := 6) (.int .i64 (lv K s t (k : Int) 0 6)) (by omega) (seto (b' := (w.heap.size + 1)) (o' := 5) (.int .i64 (lv K s t (k : Int) 0 5)) (by omega) (seto (b' := (w.heap.size + 1)) (o' := 4) (.int .i64 (lv K s t (k : Int) 0 4)) (by omega) (seto (b' := (w.heap.size + 1)) (o' := 3) (.int .i64 (lv K s t (k : Int) 0 3)) (by omega) (seto (b' := (w.heap.size + 1)) (o' := 2) (.int .i64 (lv K s t (k : Int) 0 2)) (by omega) (seto (b' := (w.heap.size + 1)) (o' := 1) (.int .i64 (lv K s t (k : Int) 0 1)) (by omega) (seto (b' := (w.heap.size + 1)) (o' := 0) (.int .i64 (lv K s t (k : Int) 0 0)) (by omega) r8))))))))
      refine bodyPost_ret (by simp [results, Tryd.results22, go_sem, c0, c1, c2, c3, c4, c5, c6, c7, c8]; try rfl) rfl ?_
      refine ⟨⟨#[.int .i64 (lv K s t (k : Int) 0 0), .int .i64 (lv K s t (k : Int) 0 1), .int .i64 (lv K s t (k : Int) 0 2), .int .i64 (lv K s t (k : Int) 0 3), .int .i64 (lv K s t (k : Int) 0 4), .int .i64 (lv K s t (k : Int) 0 5), .int .i64 (lv K s t (k : Int) 0 6), .int .i64 (lv K s t (k : Int) 0 7), .int .i64 (lv K s t (k : Int) 0 8)], by rfl, ?_, rfl⟩, by go_grown⟩
      have e3 : ((k : Nat) : Int) = 3 := by rw [Hk3.out]; rfl
      intro j hj
      rw [e3]
      obtain rfl | rfl | rfl | rfl | rfl | rfl | rfl | rfl | rfl : j = 0 ∨ j = 1 ∨ j = 2 ∨ j = 3 ∨ j = 4 ∨ j = 5 ∨ j = 6 ∨ j = 7 ∨ j = 8 := by omega
      all_goals rfl
end Go.Proofs.YtngdhmliohjigaaDoor
