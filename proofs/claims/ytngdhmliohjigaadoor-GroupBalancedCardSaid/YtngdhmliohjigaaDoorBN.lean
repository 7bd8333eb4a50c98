/- THE LAW OF BALANCED WINDINGS, for every winding. -/
import Derived.Test.YtngdhmliohjigaaDoorBN0
import Derived.Test.YtngdhmliohjigaaDoorBN1
import Derived.Test.YtngdhmliohjigaaDoorBN2
namespace Go.Proofs.YtngdhmliohjigaaDoor
open Go.RowKit
theorem pErr_in {p q : Int} (p0 : -1000000 ≤ p) (p1 : p ≤ 1000000) (q0 : -1000000 ≤ q) (q1 : q ≤ 1000000) : pErr p q = 0 := by
  unfold pErr fst2 outErr
  (repeat' split) <;> omega
theorem sqV_t (t a b : Int) : sqV (t * a) (t * b) = sqV a b * (t * t) := by
  unfold sqV
  rw [Int.add_mul, Int.sub_mul]
  have h1 : t * a * (t * a) = a * a * (t * t) := by ac_rfl
  have h2 : t * a * (t * b) = a * b * (t * t) := by ac_rfl
  have h3 : t * b * (t * b) = b * b * (t * t) := by ac_rfl
  rw [h1, h2, h3]
theorem wrap_in {x y : Int} (e : x = y) (a : -1000000000000 ≤ y) (b : y ≤ 1000000000000) : IntKind.i64.wrap x = y := by
  rw [e]
  exact IntWalk.i64_in _ (by omega)
theorem hourW (i : Int) (w : World) (a : 0 ≤ i) (b : i ≤ 11) : Calls Tryd.prog 27 #[.int .i64 i, .int .i64 0, .int .i64 11] w fun e w' => e = .returned (.bool true) ∧ w = w' := by
  have h : withinB i 0 11 = true := by simp [withinB, a, b]
  have := rwithin_any i 0 11 w
  rwa [h] at this
set_option maxRecDepth 100000 in
set_option maxHeartbeats 2000000 in
theorem bal_00p (n t : Int) (r : Bool) (w : World) (ht : Tabs w) (n0 : 1 ≤ n) (n1 : n ≤ 2000) (e : t = n) (E : ∀ w, Calls Tryd.prog 19 #[.agg #[.int .i64 0, .int .i64 n, .int .i64 0, .bool r]] w fun e w' => e = .returned (.int .i64 0) ∧ Below w.heap.size w w') (KL : ∀ w, Tabs w → Calls Tryd.prog 17 #[.agg #[.int .i64 0, .int .i64 n, .int .i64 0, .bool r]] w fun e w' => e = .returned (.tuple #[.agg #[.int .i64 (t * 1), .int .i64 (t * (-1)), .int .i64 (t * 0), .int .i64 (t * 0), .int .i64 (t * 1), .int .i64 (t * (-1)), .int .i64 (t * (-1)), .int .i64 (t * 0), .int .i64 (t * 1)], .int .i64 0]) ∧ Below w.heap.size w w') :
    Calls Tryd.prog 4 #[.agg #[.int .i64 0, .int .i64 n, .int .i64 0, .bool r]] w fun e w' => e = .returned (.bool true) ∧ Below w.heap.size w w' := by
  have t0 : -2000 ≤ t := by omega
  have t1 : t ≤ 2000 := by omega
  have tt : t * t = n * n := by rw [e]
  have nn := mul_bd (m := 2000) (n := 2000) (show -2000 ≤ n by omega) n1 (show -2000 ≤ n by omega) n1
  have lim : ∀ c : Int, -2 ≤ c → c ≤ 2 → Lim (t * c) := fun c a b => by
    have := mul_bd t0 t1 a b
    exact ⟨by omega, by omega⟩
  have S := fun w ht => sequenceOf_ok (t * 1) (t * (-1)) (t * 0) (t * 0) (t * 1) (t * (-1)) (t * (-1)) (t * 0) (t * 1) w ⟨⟨lim 1 (by decide) (by decide), lim (-1) (by decide) (by decide), lim 0 (by decide) (by decide)⟩, ⟨lim 0 (by decide) (by decide), lim 1 (by decide) (by decide), lim (-1) (by decide) (by decide)⟩, ⟨lim (-1) (by decide) (by decide), lim 0 (by decide) (by decide), lim 1 (by decide) (by decide)⟩⟩ ht
  have sv : seqV ((t * 1) - (t * (-1))) ((t * 0) - (t * (-1))) ((t * 0) - (t * 1)) ((t * (-1)) - (t * 1)) ((t * (-1)) - (t * 0)) ((t * 1) - (t * 0)) = 1 := by
    unfold seqV
    rw [if_neg (by simp <;> omega), if_pos (by simp [foB, fol1] <;> omega)]
  have se : seqE ((t * 1) - (t * (-1))) ((t * 0) - (t * (-1))) ((t * 0) - (t * 1)) ((t * (-1)) - (t * 1)) ((t * (-1)) - (t * 0)) ((t * 1) - (t * 0)) = 0 := by
    unfold seqE
    rw [if_neg (by simp <;> omega), if_pos (by simp [foB, fol1] <;> omega)]
  rw [sv, se] at S
  have F0 := fun w ht => phasorOf_all (t * 1) (t * (-1)) (t * 0) (t * 0) (t * 1) (t * (-1)) (t * (-1)) (t * 0) (t * 1) w ⟨⟨lim 1 (by decide) (by decide), lim (-1) (by decide) (by decide), lim 0 (by decide) (by decide)⟩, ⟨lim 0 (by decide) (by decide), lim 1 (by decide) (by decide), lim (-1) (by decide) (by decide)⟩, ⟨lim (-1) (by decide) (by decide), lim 0 (by decide) (by decide), lim 1 (by decide) (by decide)⟩⟩ ht
  rw [show (t * 1) - (t * (-1)) = t * 2 from by omega, show (t * 0) - (t * (-1)) = t * 1 from by omega] at F0
  have pe0 : pErr (t * 2) (t * 1) = 0 := pErr_in (by omega) (by omega) (by omega) (by omega)
  have Q0 := fun w => squareOf_ok (t * 2) (t * 1) w pe0
  rw [show sqV (t * 2) (t * 1) = 3 * (n * n) from by rw [sqV_t, tt]; rfl] at Q0
  have dd0 : Dir (t * 2) (t * 1) 1 := Dir.d1 (by omega) (by omega)
  have H0 := fun w ht => hoursOf_ok (t * 2) (t * 1) w pe0 ht
  rw [hourV_dir dd0, hourE_dir dd0] at H0
  have F1 := fun w ht => phasorOf_all (t * 0) (t * 1) (t * (-1)) (t * (-1)) (t * 0) (t * 1) (t * 1) (t * (-1)) (t * 0) w ⟨⟨lim 0 (by decide) (by decide), lim 1 (by decide) (by decide), lim (-1) (by decide) (by decide)⟩, ⟨lim (-1) (by decide) (by decide), lim 0 (by decide) (by decide), lim 1 (by decide) (by decide)⟩, ⟨lim 1 (by decide) (by decide), lim (-1) (by decide) (by decide), lim 0 (by decide) (by decide)⟩⟩ ht
  rw [show (t * 0) - (t * 1) = t * (-1) from by omega, show (t * (-1)) - (t * 1) = t * (-2) from by omega] at F1
  have pe1 : pErr (t * (-1)) (t * (-2)) = 0 := pErr_in (by omega) (by omega) (by omega) (by omega)
  have Q1 := fun w => squareOf_ok (t * (-1)) (t * (-2)) w pe1
  rw [show sqV (t * (-1)) (t * (-2)) = 3 * (n * n) from by rw [sqV_t, tt]; rfl] at Q1
  have dd1 : Dir (t * (-1)) (t * (-2)) 9 := Dir.d9 (by omega) (by omega)
  have H1 := fun w ht => hoursOf_ok (t * (-1)) (t * (-2)) w pe1 ht
  rw [hourV_dir dd1, hourE_dir dd1] at H1
  have F2 := fun w ht => phasorOf_all (t * (-1)) (t * 0) (t * 1) (t * 1) (t * (-1)) (t * 0) (t * 0) (t * 1) (t * (-1)) w ⟨⟨lim (-1) (by decide) (by decide), lim 0 (by decide) (by decide), lim 1 (by decide) (by decide)⟩, ⟨lim 1 (by decide) (by decide), lim (-1) (by decide) (by decide), lim 0 (by decide) (by decide)⟩, ⟨lim 0 (by decide) (by decide), lim 1 (by decide) (by decide), lim (-1) (by decide) (by decide)⟩⟩ ht
  rw [show (t * (-1)) - (t * 0) = t * (-1) from by omega, show (t * 1) - (t * 0) = t * 1 from by omega] at F2
  have pe2 : pErr (t * (-1)) (t * 1) = 0 := pErr_in (by omega) (by omega) (by omega) (by omega)
  have Q2 := fun w => squareOf_ok (t * (-1)) (t * 1) w pe2
  rw [show sqV (t * (-1)) (t * 1) = 3 * (n * n) from by rw [sqV_t, tt]; rfl] at Q2
  have dd2 : Dir (t * (-1)) (t * 1) 5 := Dir.d5 (by omega) (by omega)
  have H2 := fun w ht => hoursOf_ok (t * (-1)) (t * 1) w pe2 ht
  rw [hourV_dir dd2, hourE_dir dd2] at H2
  exact balanced_0 n 0 (t * 1) (t * (-1)) (t * 0) (t * 0) (t * 1) (t * (-1)) (t * (-1)) (t * 0) (t * 1) (t * 2) (t * 1) (t * (-1)) (t * (-2)) (t * (-1)) (t * 1) 1 9 5 (3 * (n * n)) (3 * n) (t * 1) (t * (-1)) (t * 1) (t * 0) (t * (-1)) r w ht (wrap_in rfl (by omega) (by omega)) (wrap_in (by rw [Int.mul_assoc]) (by omega) (by omega)) (wrap_in rfl (by omega) (by omega)) (wrap_in (by omega) (by omega) (by omega)) (wrap_in (by omega) (by omega) (by omega)) (wrap_in rfl (by omega) (by omega)) (wrap_in (by omega) (by omega) (by omega)) (wrap_in (by omega) (by omega) (by omega)) (wrap_in (by omega) (by omega) (by omega)) (wrap_in (by omega) (by omega) (by omega)) (wrap_in (by omega) (by omega) (by omega)) (wrap_in (by omega) (by omega) (by omega)) (wrap_in (by omega) (by omega) (by omega)) (wrap_in (by omega) (by omega) (by omega)) (Lib.hid E) (Lib.hid KL) (Lib.hid S) (Lib.hid F0) (Lib.hid Q0) (Lib.hid H0) (Lib.hid (fun w => hourW 1 w (by decide) (by decide))) (Lib.hid F1) (Lib.hid Q1) (Lib.hid H1) (Lib.hid (fun w => hourW 9 w (by decide) (by decide))) (Lib.hid F2) (Lib.hid Q2) (Lib.hid H2) (Lib.hid (fun w => hourW 5 w (by decide) (by decide)))
set_option maxRecDepth 100000 in
set_option maxHeartbeats 2000000 in
theorem bal_00m (n t : Int) (r : Bool) (w : World) (ht : Tabs w) (n0 : 1 ≤ n) (n1 : n ≤ 2000) (e : t = -n) (E : ∀ w, Calls Tryd.prog 19 #[.agg #[.int .i64 0, .int .i64 n, .int .i64 0, .bool r]] w fun e w' => e = .returned (.int .i64 0) ∧ Below w.heap.size w w') (KL : ∀ w, Tabs w → Calls Tryd.prog 17 #[.agg #[.int .i64 0, .int .i64 n, .int .i64 0, .bool r]] w fun e w' => e = .returned (.tuple #[.agg #[.int .i64 (t * 1), .int .i64 (t * (-1)), .int .i64 (t * 0), .int .i64 (t * 0), .int .i64 (t * 1), .int .i64 (t * (-1)), .int .i64 (t * (-1)), .int .i64 (t * 0), .int .i64 (t * 1)], .int .i64 0]) ∧ Below w.heap.size w w') :
    Calls Tryd.prog 4 #[.agg #[.int .i64 0, .int .i64 n, .int .i64 0, .bool r]] w fun e w' => e = .returned (.bool true) ∧ Below w.heap.size w w' := by
  have t0 : -2000 ≤ t := by omega
  have t1 : t ≤ 2000 := by omega
  have tt : t * t = n * n := by rw [e]; exact Int.neg_mul_neg n n
  have nn := mul_bd (m := 2000) (n := 2000) (show -2000 ≤ n by omega) n1 (show -2000 ≤ n by omega) n1
  have lim : ∀ c : Int, -2 ≤ c → c ≤ 2 → Lim (t * c) := fun c a b => by
    have := mul_bd t0 t1 a b
    exact ⟨by omega, by omega⟩
  have S := fun w ht => sequenceOf_ok (t * 1) (t * (-1)) (t * 0) (t * 0) (t * 1) (t * (-1)) (t * (-1)) (t * 0) (t * 1) w ⟨⟨lim 1 (by decide) (by decide), lim (-1) (by decide) (by decide), lim 0 (by decide) (by decide)⟩, ⟨lim 0 (by decide) (by decide), lim 1 (by decide) (by decide), lim (-1) (by decide) (by decide)⟩, ⟨lim (-1) (by decide) (by decide), lim 0 (by decide) (by decide), lim 1 (by decide) (by decide)⟩⟩ ht
  have sv : seqV ((t * 1) - (t * (-1))) ((t * 0) - (t * (-1))) ((t * 0) - (t * 1)) ((t * (-1)) - (t * 1)) ((t * (-1)) - (t * 0)) ((t * 1) - (t * 0)) = 1 := by
    unfold seqV
    rw [if_neg (by simp <;> omega), if_pos (by simp [foB, fol1] <;> omega)]
  have se : seqE ((t * 1) - (t * (-1))) ((t * 0) - (t * (-1))) ((t * 0) - (t * 1)) ((t * (-1)) - (t * 1)) ((t * (-1)) - (t * 0)) ((t * 1) - (t * 0)) = 0 := by
    unfold seqE
    rw [if_neg (by simp <;> omega), if_pos (by simp [foB, fol1] <;> omega)]
  rw [sv, se] at S
  have F0 := fun w ht => phasorOf_all (t * 1) (t * (-1)) (t * 0) (t * 0) (t * 1) (t * (-1)) (t * (-1)) (t * 0) (t * 1) w ⟨⟨lim 1 (by decide) (by decide), lim (-1) (by decide) (by decide), lim 0 (by decide) (by decide)⟩, ⟨lim 0 (by decide) (by decide), lim 1 (by decide) (by decide), lim (-1) (by decide) (by decide)⟩, ⟨lim (-1) (by decide) (by decide), lim 0 (by decide) (by decide), lim 1 (by decide) (by decide)⟩⟩ ht
  rw [show (t * 1) - (t * (-1)) = t * 2 from by omega, show (t * 0) - (t * (-1)) = t * 1 from by omega] at F0
  have pe0 : pErr (t * 2) (t * 1) = 0 := pErr_in (by omega) (by omega) (by omega) (by omega)
  have Q0 := fun w => squareOf_ok (t * 2) (t * 1) w pe0
  rw [show sqV (t * 2) (t * 1) = 3 * (n * n) from by rw [sqV_t, tt]; rfl] at Q0
  have dd0 : Dir (t * 2) (t * 1) 7 := Dir.d7 (by omega) (by omega)
  have H0 := fun w ht => hoursOf_ok (t * 2) (t * 1) w pe0 ht
  rw [hourV_dir dd0, hourE_dir dd0] at H0
  have F1 := fun w ht => phasorOf_all (t * 0) (t * 1) (t * (-1)) (t * (-1)) (t * 0) (t * 1) (t * 1) (t * (-1)) (t * 0) w ⟨⟨lim 0 (by decide) (by decide), lim 1 (by decide) (by decide), lim (-1) (by decide) (by decide)⟩, ⟨lim (-1) (by decide) (by decide), lim 0 (by decide) (by decide), lim 1 (by decide) (by decide)⟩, ⟨lim 1 (by decide) (by decide), lim (-1) (by decide) (by decide), lim 0 (by decide) (by decide)⟩⟩ ht
  rw [show (t * 0) - (t * 1) = t * (-1) from by omega, show (t * (-1)) - (t * 1) = t * (-2) from by omega] at F1
  have pe1 : pErr (t * (-1)) (t * (-2)) = 0 := pErr_in (by omega) (by omega) (by omega) (by omega)
  have Q1 := fun w => squareOf_ok (t * (-1)) (t * (-2)) w pe1
  rw [show sqV (t * (-1)) (t * (-2)) = 3 * (n * n) from by rw [sqV_t, tt]; rfl] at Q1
  have dd1 : Dir (t * (-1)) (t * (-2)) 3 := Dir.d3 (by omega) (by omega)
  have H1 := fun w ht => hoursOf_ok (t * (-1)) (t * (-2)) w pe1 ht
  rw [hourV_dir dd1, hourE_dir dd1] at H1
  have F2 := fun w ht => phasorOf_all (t * (-1)) (t * 0) (t * 1) (t * 1) (t * (-1)) (t * 0) (t * 0) (t * 1) (t * (-1)) w ⟨⟨lim (-1) (by decide) (by decide), lim 0 (by decide) (by decide), lim 1 (by decide) (by decide)⟩, ⟨lim 1 (by decide) (by decide), lim (-1) (by decide) (by decide), lim 0 (by decide) (by decide)⟩, ⟨lim 0 (by decide) (by decide), lim 1 (by decide) (by decide), lim (-1) (by decide) (by decide)⟩⟩ ht
  rw [show (t * (-1)) - (t * 0) = t * (-1) from by omega, show (t * 1) - (t * 0) = t * 1 from by omega] at F2
  have pe2 : pErr (t * (-1)) (t * 1) = 0 := pErr_in (by omega) (by omega) (by omega) (by omega)
  have Q2 := fun w => squareOf_ok (t * (-1)) (t * 1) w pe2
  rw [show sqV (t * (-1)) (t * 1) = 3 * (n * n) from by rw [sqV_t, tt]; rfl] at Q2
  have dd2 : Dir (t * (-1)) (t * 1) 11 := Dir.d11 (by omega) (by omega)
  have H2 := fun w ht => hoursOf_ok (t * (-1)) (t * 1) w pe2 ht
  rw [hourV_dir dd2, hourE_dir dd2] at H2
  exact balanced_0 n 0 (t * 1) (t * (-1)) (t * 0) (t * 0) (t * 1) (t * (-1)) (t * (-1)) (t * 0) (t * 1) (t * 2) (t * 1) (t * (-1)) (t * (-2)) (t * (-1)) (t * 1) 7 3 11 (3 * (n * n)) (3 * n) (t * 1) (t * (-1)) (t * 1) (t * 0) (t * (-1)) r w ht (wrap_in rfl (by omega) (by omega)) (wrap_in (by rw [Int.mul_assoc]) (by omega) (by omega)) (wrap_in rfl (by omega) (by omega)) (wrap_in (by omega) (by omega) (by omega)) (wrap_in (by omega) (by omega) (by omega)) (wrap_in rfl (by omega) (by omega)) (wrap_in (by omega) (by omega) (by omega)) (wrap_in (by omega) (by omega) (by omega)) (wrap_in (by omega) (by omega) (by omega)) (wrap_in (by omega) (by omega) (by omega)) (wrap_in (by omega) (by omega) (by omega)) (wrap_in (by omega) (by omega) (by omega)) (wrap_in (by omega) (by omega) (by omega)) (wrap_in (by omega) (by omega) (by omega)) (Lib.hid E) (Lib.hid KL) (Lib.hid S) (Lib.hid F0) (Lib.hid Q0) (Lib.hid H0) (Lib.hid (fun w => hourW 7 w (by decide) (by decide))) (Lib.hid F1) (Lib.hid Q1) (Lib.hid H1) (Lib.hid (fun w => hourW 3 w (by decide) (by decide))) (Lib.hid F2) (Lib.hid Q2) (Lib.hid H2) (Lib.hid (fun w => hourW 11 w (by decide) (by decide)))
set_option maxRecDepth 100000 in
set_option maxHeartbeats 2000000 in
theorem bal_01p (n t : Int) (r : Bool) (w : World) (ht : Tabs w) (n0 : 1 ≤ n) (n1 : n ≤ 2000) (e : t = n) (E : ∀ w, Calls Tryd.prog 19 #[.agg #[.int .i64 0, .int .i64 n, .int .i64 1, .bool r]] w fun e w' => e = .returned (.int .i64 0) ∧ Below w.heap.size w w') (KL : ∀ w, Tabs w → Calls Tryd.prog 17 #[.agg #[.int .i64 0, .int .i64 n, .int .i64 1, .bool r]] w fun e w' => e = .returned (.tuple #[.agg #[.int .i64 (t * 0), .int .i64 (t * 1), .int .i64 (t * (-1)), .int .i64 (t * (-1)), .int .i64 (t * 0), .int .i64 (t * 1), .int .i64 (t * 1), .int .i64 (t * (-1)), .int .i64 (t * 0)], .int .i64 0]) ∧ Below w.heap.size w w') :
    Calls Tryd.prog 4 #[.agg #[.int .i64 0, .int .i64 n, .int .i64 1, .bool r]] w fun e w' => e = .returned (.bool true) ∧ Below w.heap.size w w' := by
  have t0 : -2000 ≤ t := by omega
  have t1 : t ≤ 2000 := by omega
  have tt : t * t = n * n := by rw [e]
  have nn := mul_bd (m := 2000) (n := 2000) (show -2000 ≤ n by omega) n1 (show -2000 ≤ n by omega) n1
  have lim : ∀ c : Int, -2 ≤ c → c ≤ 2 → Lim (t * c) := fun c a b => by
    have := mul_bd t0 t1 a b
    exact ⟨by omega, by omega⟩
  have S := fun w ht => sequenceOf_ok (t * 0) (t * 1) (t * (-1)) (t * (-1)) (t * 0) (t * 1) (t * 1) (t * (-1)) (t * 0) w ⟨⟨lim 0 (by decide) (by decide), lim 1 (by decide) (by decide), lim (-1) (by decide) (by decide)⟩, ⟨lim (-1) (by decide) (by decide), lim 0 (by decide) (by decide), lim 1 (by decide) (by decide)⟩, ⟨lim 1 (by decide) (by decide), lim (-1) (by decide) (by decide), lim 0 (by decide) (by decide)⟩⟩ ht
  have sv : seqV ((t * 0) - (t * 1)) ((t * (-1)) - (t * 1)) ((t * (-1)) - (t * 0)) ((t * 1) - (t * 0)) ((t * 1) - (t * (-1))) ((t * 0) - (t * (-1))) = 1 := by
    unfold seqV
    rw [if_neg (by simp <;> omega), if_pos (by simp [foB, fol1] <;> omega)]
  have se : seqE ((t * 0) - (t * 1)) ((t * (-1)) - (t * 1)) ((t * (-1)) - (t * 0)) ((t * 1) - (t * 0)) ((t * 1) - (t * (-1))) ((t * 0) - (t * (-1))) = 0 := by
    unfold seqE
    rw [if_neg (by simp <;> omega), if_pos (by simp [foB, fol1] <;> omega)]
  rw [sv, se] at S
  have F0 := fun w ht => phasorOf_all (t * 0) (t * 1) (t * (-1)) (t * (-1)) (t * 0) (t * 1) (t * 1) (t * (-1)) (t * 0) w ⟨⟨lim 0 (by decide) (by decide), lim 1 (by decide) (by decide), lim (-1) (by decide) (by decide)⟩, ⟨lim (-1) (by decide) (by decide), lim 0 (by decide) (by decide), lim 1 (by decide) (by decide)⟩, ⟨lim 1 (by decide) (by decide), lim (-1) (by decide) (by decide), lim 0 (by decide) (by decide)⟩⟩ ht
  rw [show (t * 0) - (t * 1) = t * (-1) from by omega, show (t * (-1)) - (t * 1) = t * (-2) from by omega] at F0
  have pe0 : pErr (t * (-1)) (t * (-2)) = 0 := pErr_in (by omega) (by omega) (by omega) (by omega)
  have Q0 := fun w => squareOf_ok (t * (-1)) (t * (-2)) w pe0
  rw [show sqV (t * (-1)) (t * (-2)) = 3 * (n * n) from by rw [sqV_t, tt]; rfl] at Q0
  have dd0 : Dir (t * (-1)) (t * (-2)) 9 := Dir.d9 (by omega) (by omega)
  have H0 := fun w ht => hoursOf_ok (t * (-1)) (t * (-2)) w pe0 ht
  rw [hourV_dir dd0, hourE_dir dd0] at H0
  have F1 := fun w ht => phasorOf_all (t * (-1)) (t * 0) (t * 1) (t * 1) (t * (-1)) (t * 0) (t * 0) (t * 1) (t * (-1)) w ⟨⟨lim (-1) (by decide) (by decide), lim 0 (by decide) (by decide), lim 1 (by decide) (by decide)⟩, ⟨lim 1 (by decide) (by decide), lim (-1) (by decide) (by decide), lim 0 (by decide) (by decide)⟩, ⟨lim 0 (by decide) (by decide), lim 1 (by decide) (by decide), lim (-1) (by decide) (by decide)⟩⟩ ht
  rw [show (t * (-1)) - (t * 0) = t * (-1) from by omega, show (t * 1) - (t * 0) = t * 1 from by omega] at F1
  have pe1 : pErr (t * (-1)) (t * 1) = 0 := pErr_in (by omega) (by omega) (by omega) (by omega)
  have Q1 := fun w => squareOf_ok (t * (-1)) (t * 1) w pe1
  rw [show sqV (t * (-1)) (t * 1) = 3 * (n * n) from by rw [sqV_t, tt]; rfl] at Q1
  have dd1 : Dir (t * (-1)) (t * 1) 5 := Dir.d5 (by omega) (by omega)
  have H1 := fun w ht => hoursOf_ok (t * (-1)) (t * 1) w pe1 ht
  rw [hourV_dir dd1, hourE_dir dd1] at H1
  have F2 := fun w ht => phasorOf_all (t * 1) (t * (-1)) (t * 0) (t * 0) (t * 1) (t * (-1)) (t * (-1)) (t * 0) (t * 1) w ⟨⟨lim 1 (by decide) (by decide), lim (-1) (by decide) (by decide), lim 0 (by decide) (by decide)⟩, ⟨lim 0 (by decide) (by decide), lim 1 (by decide) (by decide), lim (-1) (by decide) (by decide)⟩, ⟨lim (-1) (by decide) (by decide), lim 0 (by decide) (by decide), lim 1 (by decide) (by decide)⟩⟩ ht
  rw [show (t * 1) - (t * (-1)) = t * 2 from by omega, show (t * 0) - (t * (-1)) = t * 1 from by omega] at F2
  have pe2 : pErr (t * 2) (t * 1) = 0 := pErr_in (by omega) (by omega) (by omega) (by omega)
  have Q2 := fun w => squareOf_ok (t * 2) (t * 1) w pe2
  rw [show sqV (t * 2) (t * 1) = 3 * (n * n) from by rw [sqV_t, tt]; rfl] at Q2
  have dd2 : Dir (t * 2) (t * 1) 1 := Dir.d1 (by omega) (by omega)
  have H2 := fun w ht => hoursOf_ok (t * 2) (t * 1) w pe2 ht
  rw [hourV_dir dd2, hourE_dir dd2] at H2
  exact balanced_0 n 1 (t * 0) (t * 1) (t * (-1)) (t * (-1)) (t * 0) (t * 1) (t * 1) (t * (-1)) (t * 0) (t * (-1)) (t * (-2)) (t * (-1)) (t * 1) (t * 2) (t * 1) 9 5 1 (3 * (n * n)) (3 * n) (t * (-2)) (t * (-1)) (t * (-1)) (t * 1) (t * 0) r w ht (wrap_in rfl (by omega) (by omega)) (wrap_in (by rw [Int.mul_assoc]) (by omega) (by omega)) (wrap_in rfl (by omega) (by omega)) (wrap_in (by omega) (by omega) (by omega)) (wrap_in (by omega) (by omega) (by omega)) (wrap_in rfl (by omega) (by omega)) (wrap_in (by omega) (by omega) (by omega)) (wrap_in (by omega) (by omega) (by omega)) (wrap_in (by omega) (by omega) (by omega)) (wrap_in (by omega) (by omega) (by omega)) (wrap_in (by omega) (by omega) (by omega)) (wrap_in (by omega) (by omega) (by omega)) (wrap_in (by omega) (by omega) (by omega)) (wrap_in (by omega) (by omega) (by omega)) (Lib.hid E) (Lib.hid KL) (Lib.hid S) (Lib.hid F0) (Lib.hid Q0) (Lib.hid H0) (Lib.hid (fun w => hourW 9 w (by decide) (by decide))) (Lib.hid F1) (Lib.hid Q1) (Lib.hid H1) (Lib.hid (fun w => hourW 5 w (by decide) (by decide))) (Lib.hid F2) (Lib.hid Q2) (Lib.hid H2) (Lib.hid (fun w => hourW 1 w (by decide) (by decide)))
set_option maxRecDepth 100000 in
set_option maxHeartbeats 2000000 in
theorem bal_01m (n t : Int) (r : Bool) (w : World) (ht : Tabs w) (n0 : 1 ≤ n) (n1 : n ≤ 2000) (e : t = -n) (E : ∀ w, Calls Tryd.prog 19 #[.agg #[.int .i64 0, .int .i64 n, .int .i64 1, .bool r]] w fun e w' => e = .returned (.int .i64 0) ∧ Below w.heap.size w w') (KL : ∀ w, Tabs w → Calls Tryd.prog 17 #[.agg #[.int .i64 0, .int .i64 n, .int .i64 1, .bool r]] w fun e w' => e = .returned (.tuple #[.agg #[.int .i64 (t * 0), .int .i64 (t * 1), .int .i64 (t * (-1)), .int .i64 (t * (-1)), .int .i64 (t * 0), .int .i64 (t * 1), .int .i64 (t * 1), .int .i64 (t * (-1)), .int .i64 (t * 0)], .int .i64 0]) ∧ Below w.heap.size w w') :
    Calls Tryd.prog 4 #[.agg #[.int .i64 0, .int .i64 n, .int .i64 1, .bool r]] w fun e w' => e = .returned (.bool true) ∧ Below w.heap.size w w' := by
  have t0 : -2000 ≤ t := by omega
  have t1 : t ≤ 2000 := by omega
  have tt : t * t = n * n := by rw [e]; exact Int.neg_mul_neg n n
  have nn := mul_bd (m := 2000) (n := 2000) (show -2000 ≤ n by omega) n1 (show -2000 ≤ n by omega) n1
  have lim : ∀ c : Int, -2 ≤ c → c ≤ 2 → Lim (t * c) := fun c a b => by
    have := mul_bd t0 t1 a b
    exact ⟨by omega, by omega⟩
  have S := fun w ht => sequenceOf_ok (t * 0) (t * 1) (t * (-1)) (t * (-1)) (t * 0) (t * 1) (t * 1) (t * (-1)) (t * 0) w ⟨⟨lim 0 (by decide) (by decide), lim 1 (by decide) (by decide), lim (-1) (by decide) (by decide)⟩, ⟨lim (-1) (by decide) (by decide), lim 0 (by decide) (by decide), lim 1 (by decide) (by decide)⟩, ⟨lim 1 (by decide) (by decide), lim (-1) (by decide) (by decide), lim 0 (by decide) (by decide)⟩⟩ ht
  have sv : seqV ((t * 0) - (t * 1)) ((t * (-1)) - (t * 1)) ((t * (-1)) - (t * 0)) ((t * 1) - (t * 0)) ((t * 1) - (t * (-1))) ((t * 0) - (t * (-1))) = 1 := by
    unfold seqV
    rw [if_neg (by simp <;> omega), if_pos (by simp [foB, fol1] <;> omega)]
  have se : seqE ((t * 0) - (t * 1)) ((t * (-1)) - (t * 1)) ((t * (-1)) - (t * 0)) ((t * 1) - (t * 0)) ((t * 1) - (t * (-1))) ((t * 0) - (t * (-1))) = 0 := by
    unfold seqE
    rw [if_neg (by simp <;> omega), if_pos (by simp [foB, fol1] <;> omega)]
  rw [sv, se] at S
  have F0 := fun w ht => phasorOf_all (t * 0) (t * 1) (t * (-1)) (t * (-1)) (t * 0) (t * 1) (t * 1) (t * (-1)) (t * 0) w ⟨⟨lim 0 (by decide) (by decide), lim 1 (by decide) (by decide), lim (-1) (by decide) (by decide)⟩, ⟨lim (-1) (by decide) (by decide), lim 0 (by decide) (by decide), lim 1 (by decide) (by decide)⟩, ⟨lim 1 (by decide) (by decide), lim (-1) (by decide) (by decide), lim 0 (by decide) (by decide)⟩⟩ ht
  rw [show (t * 0) - (t * 1) = t * (-1) from by omega, show (t * (-1)) - (t * 1) = t * (-2) from by omega] at F0
  have pe0 : pErr (t * (-1)) (t * (-2)) = 0 := pErr_in (by omega) (by omega) (by omega) (by omega)
  have Q0 := fun w => squareOf_ok (t * (-1)) (t * (-2)) w pe0
  rw [show sqV (t * (-1)) (t * (-2)) = 3 * (n * n) from by rw [sqV_t, tt]; rfl] at Q0
  have dd0 : Dir (t * (-1)) (t * (-2)) 3 := Dir.d3 (by omega) (by omega)
  have H0 := fun w ht => hoursOf_ok (t * (-1)) (t * (-2)) w pe0 ht
  rw [hourV_dir dd0, hourE_dir dd0] at H0
  have F1 := fun w ht => phasorOf_all (t * (-1)) (t * 0) (t * 1) (t * 1) (t * (-1)) (t * 0) (t * 0) (t * 1) (t * (-1)) w ⟨⟨lim (-1) (by decide) (by decide), lim 0 (by decide) (by decide), lim 1 (by decide) (by decide)⟩, ⟨lim 1 (by decide) (by decide), lim (-1) (by decide) (by decide), lim 0 (by decide) (by decide)⟩, ⟨lim 0 (by decide) (by decide), lim 1 (by decide) (by decide), lim (-1) (by decide) (by decide)⟩⟩ ht
  rw [show (t * (-1)) - (t * 0) = t * (-1) from by omega, show (t * 1) - (t * 0) = t * 1 from by omega] at F1
  have pe1 : pErr (t * (-1)) (t * 1) = 0 := pErr_in (by omega) (by omega) (by omega) (by omega)
  have Q1 := fun w => squareOf_ok (t * (-1)) (t * 1) w pe1
  rw [show sqV (t * (-1)) (t * 1) = 3 * (n * n) from by rw [sqV_t, tt]; rfl] at Q1
  have dd1 : Dir (t * (-1)) (t * 1) 11 := Dir.d11 (by omega) (by omega)
  have H1 := fun w ht => hoursOf_ok (t * (-1)) (t * 1) w pe1 ht
  rw [hourV_dir dd1, hourE_dir dd1] at H1
  have F2 := fun w ht => phasorOf_all (t * 1) (t * (-1)) (t * 0) (t * 0) (t * 1) (t * (-1)) (t * (-1)) (t * 0) (t * 1) w ⟨⟨lim 1 (by decide) (by decide), lim (-1) (by decide) (by decide), lim 0 (by decide) (by decide)⟩, ⟨lim 0 (by decide) (by decide), lim 1 (by decide) (by decide), lim (-1) (by decide) (by decide)⟩, ⟨lim (-1) (by decide) (by decide), lim 0 (by decide) (by decide), lim 1 (by decide) (by decide)⟩⟩ ht
  rw [show (t * 1) - (t * (-1)) = t * 2 from by omega, show (t * 0) - (t * (-1)) = t * 1 from by omega] at F2
  have pe2 : pErr (t * 2) (t * 1) = 0 := pErr_in (by omega) (by omega) (by omega) (by omega)
  have Q2 := fun w => squareOf_ok (t * 2) (t * 1) w pe2
  rw [show sqV (t * 2) (t * 1) = 3 * (n * n) from by rw [sqV_t, tt]; rfl] at Q2
  have dd2 : Dir (t * 2) (t * 1) 7 := Dir.d7 (by omega) (by omega)
  have H2 := fun w ht => hoursOf_ok (t * 2) (t * 1) w pe2 ht
  rw [hourV_dir dd2, hourE_dir dd2] at H2
  exact balanced_0 n 1 (t * 0) (t * 1) (t * (-1)) (t * (-1)) (t * 0) (t * 1) (t * 1) (t * (-1)) (t * 0) (t * (-1)) (t * (-2)) (t * (-1)) (t * 1) (t * 2) (t * 1) 3 11 7 (3 * (n * n)) (3 * n) (t * (-2)) (t * (-1)) (t * (-1)) (t * 1) (t * 0) r w ht (wrap_in rfl (by omega) (by omega)) (wrap_in (by rw [Int.mul_assoc]) (by omega) (by omega)) (wrap_in rfl (by omega) (by omega)) (wrap_in (by omega) (by omega) (by omega)) (wrap_in (by omega) (by omega) (by omega)) (wrap_in rfl (by omega) (by omega)) (wrap_in (by omega) (by omega) (by omega)) (wrap_in (by omega) (by omega) (by omega)) (wrap_in (by omega) (by omega) (by omega)) (wrap_in (by omega) (by omega) (by omega)) (wrap_in (by omega) (by omega) (by omega)) (wrap_in (by omega) (by omega) (by omega)) (wrap_in (by omega) (by omega) (by omega)) (wrap_in (by omega) (by omega) (by omega)) (Lib.hid E) (Lib.hid KL) (Lib.hid S) (Lib.hid F0) (Lib.hid Q0) (Lib.hid H0) (Lib.hid (fun w => hourW 3 w (by decide) (by decide))) (Lib.hid F1) (Lib.hid Q1) (Lib.hid H1) (Lib.hid (fun w => hourW 11 w (by decide) (by decide))) (Lib.hid F2) (Lib.hid Q2) (Lib.hid H2) (Lib.hid (fun w => hourW 7 w (by decide) (by decide)))
set_option maxRecDepth 100000 in
set_option maxHeartbeats 2000000 in
theorem bal_02p (n t : Int) (r : Bool) (w : World) (ht : Tabs w) (n0 : 1 ≤ n) (n1 : n ≤ 2000) (e : t = n) (E : ∀ w, Calls Tryd.prog 19 #[.agg #[.int .i64 0, .int .i64 n, .int .i64 2, .bool r]] w fun e w' => e = .returned (.int .i64 0) ∧ Below w.heap.size w w') (KL : ∀ w, Tabs w → Calls Tryd.prog 17 #[.agg #[.int .i64 0, .int .i64 n, .int .i64 2, .bool r]] w fun e w' => e = .returned (.tuple #[.agg #[.int .i64 (t * (-1)), .int .i64 (t * 0), .int .i64 (t * 1), .int .i64 (t * 1), .int .i64 (t * (-1)), .int .i64 (t * 0), .int .i64 (t * 0), .int .i64 (t * 1), .int .i64 (t * (-1))], .int .i64 0]) ∧ Below w.heap.size w w') :
    Calls Tryd.prog 4 #[.agg #[.int .i64 0, .int .i64 n, .int .i64 2, .bool r]] w fun e w' => e = .returned (.bool true) ∧ Below w.heap.size w w' := by
  have t0 : -2000 ≤ t := by omega
  have t1 : t ≤ 2000 := by omega
  have tt : t * t = n * n := by rw [e]
  have nn := mul_bd (m := 2000) (n := 2000) (show -2000 ≤ n by omega) n1 (show -2000 ≤ n by omega) n1
  have lim : ∀ c : Int, -2 ≤ c → c ≤ 2 → Lim (t * c) := fun c a b => by
    have := mul_bd t0 t1 a b
    exact ⟨by omega, by omega⟩
  have S := fun w ht => sequenceOf_ok (t * (-1)) (t * 0) (t * 1) (t * 1) (t * (-1)) (t * 0) (t * 0) (t * 1) (t * (-1)) w ⟨⟨lim (-1) (by decide) (by decide), lim 0 (by decide) (by decide), lim 1 (by decide) (by decide)⟩, ⟨lim 1 (by decide) (by decide), lim (-1) (by decide) (by decide), lim 0 (by decide) (by decide)⟩, ⟨lim 0 (by decide) (by decide), lim 1 (by decide) (by decide), lim (-1) (by decide) (by decide)⟩⟩ ht
  have sv : seqV ((t * (-1)) - (t * 0)) ((t * 1) - (t * 0)) ((t * 1) - (t * (-1))) ((t * 0) - (t * (-1))) ((t * 0) - (t * 1)) ((t * (-1)) - (t * 1)) = 1 := by
    unfold seqV
    rw [if_neg (by simp <;> omega), if_pos (by simp [foB, fol1] <;> omega)]
  have se : seqE ((t * (-1)) - (t * 0)) ((t * 1) - (t * 0)) ((t * 1) - (t * (-1))) ((t * 0) - (t * (-1))) ((t * 0) - (t * 1)) ((t * (-1)) - (t * 1)) = 0 := by
    unfold seqE
    rw [if_neg (by simp <;> omega), if_pos (by simp [foB, fol1] <;> omega)]
  rw [sv, se] at S
  have F0 := fun w ht => phasorOf_all (t * (-1)) (t * 0) (t * 1) (t * 1) (t * (-1)) (t * 0) (t * 0) (t * 1) (t * (-1)) w ⟨⟨lim (-1) (by decide) (by decide), lim 0 (by decide) (by decide), lim 1 (by decide) (by decide)⟩, ⟨lim 1 (by decide) (by decide), lim (-1) (by decide) (by decide), lim 0 (by decide) (by decide)⟩, ⟨lim 0 (by decide) (by decide), lim 1 (by decide) (by decide), lim (-1) (by decide) (by decide)⟩⟩ ht
  rw [show (t * (-1)) - (t * 0) = t * (-1) from by omega, show (t * 1) - (t * 0) = t * 1 from by omega] at F0
  have pe0 : pErr (t * (-1)) (t * 1) = 0 := pErr_in (by omega) (by omega) (by omega) (by omega)
  have Q0 := fun w => squareOf_ok (t * (-1)) (t * 1) w pe0
  rw [show sqV (t * (-1)) (t * 1) = 3 * (n * n) from by rw [sqV_t, tt]; rfl] at Q0
  have dd0 : Dir (t * (-1)) (t * 1) 5 := Dir.d5 (by omega) (by omega)
  have H0 := fun w ht => hoursOf_ok (t * (-1)) (t * 1) w pe0 ht
  rw [hourV_dir dd0, hourE_dir dd0] at H0
  have F1 := fun w ht => phasorOf_all (t * 1) (t * (-1)) (t * 0) (t * 0) (t * 1) (t * (-1)) (t * (-1)) (t * 0) (t * 1) w ⟨⟨lim 1 (by decide) (by decide), lim (-1) (by decide) (by decide), lim 0 (by decide) (by decide)⟩, ⟨lim 0 (by decide) (by decide), lim 1 (by decide) (by decide), lim (-1) (by decide) (by decide)⟩, ⟨lim (-1) (by decide) (by decide), lim 0 (by decide) (by decide), lim 1 (by decide) (by decide)⟩⟩ ht
  rw [show (t * 1) - (t * (-1)) = t * 2 from by omega, show (t * 0) - (t * (-1)) = t * 1 from by omega] at F1
  have pe1 : pErr (t * 2) (t * 1) = 0 := pErr_in (by omega) (by omega) (by omega) (by omega)
  have Q1 := fun w => squareOf_ok (t * 2) (t * 1) w pe1
  rw [show sqV (t * 2) (t * 1) = 3 * (n * n) from by rw [sqV_t, tt]; rfl] at Q1
  have dd1 : Dir (t * 2) (t * 1) 1 := Dir.d1 (by omega) (by omega)
  have H1 := fun w ht => hoursOf_ok (t * 2) (t * 1) w pe1 ht
  rw [hourV_dir dd1, hourE_dir dd1] at H1
  have F2 := fun w ht => phasorOf_all (t * 0) (t * 1) (t * (-1)) (t * (-1)) (t * 0) (t * 1) (t * 1) (t * (-1)) (t * 0) w ⟨⟨lim 0 (by decide) (by decide), lim 1 (by decide) (by decide), lim (-1) (by decide) (by decide)⟩, ⟨lim (-1) (by decide) (by decide), lim 0 (by decide) (by decide), lim 1 (by decide) (by decide)⟩, ⟨lim 1 (by decide) (by decide), lim (-1) (by decide) (by decide), lim 0 (by decide) (by decide)⟩⟩ ht
  rw [show (t * 0) - (t * 1) = t * (-1) from by omega, show (t * (-1)) - (t * 1) = t * (-2) from by omega] at F2
  have pe2 : pErr (t * (-1)) (t * (-2)) = 0 := pErr_in (by omega) (by omega) (by omega) (by omega)
  have Q2 := fun w => squareOf_ok (t * (-1)) (t * (-2)) w pe2
  rw [show sqV (t * (-1)) (t * (-2)) = 3 * (n * n) from by rw [sqV_t, tt]; rfl] at Q2
  have dd2 : Dir (t * (-1)) (t * (-2)) 9 := Dir.d9 (by omega) (by omega)
  have H2 := fun w ht => hoursOf_ok (t * (-1)) (t * (-2)) w pe2 ht
  rw [hourV_dir dd2, hourE_dir dd2] at H2
  exact balanced_0 n 2 (t * (-1)) (t * 0) (t * 1) (t * 1) (t * (-1)) (t * 0) (t * 0) (t * 1) (t * (-1)) (t * (-1)) (t * 1) (t * 2) (t * 1) (t * (-1)) (t * (-2)) 5 1 9 (3 * (n * n)) (3 * n) (t * 1) (t * 2) (t * 0) (t * (-1)) (t * 1) r w ht (wrap_in rfl (by omega) (by omega)) (wrap_in (by rw [Int.mul_assoc]) (by omega) (by omega)) (wrap_in rfl (by omega) (by omega)) (wrap_in (by omega) (by omega) (by omega)) (wrap_in (by omega) (by omega) (by omega)) (wrap_in rfl (by omega) (by omega)) (wrap_in (by omega) (by omega) (by omega)) (wrap_in (by omega) (by omega) (by omega)) (wrap_in (by omega) (by omega) (by omega)) (wrap_in (by omega) (by omega) (by omega)) (wrap_in (by omega) (by omega) (by omega)) (wrap_in (by omega) (by omega) (by omega)) (wrap_in (by omega) (by omega) (by omega)) (wrap_in (by omega) (by omega) (by omega)) (Lib.hid E) (Lib.hid KL) (Lib.hid S) (Lib.hid F0) (Lib.hid Q0) (Lib.hid H0) (Lib.hid (fun w => hourW 5 w (by decide) (by decide))) (Lib.hid F1) (Lib.hid Q1) (Lib.hid H1) (Lib.hid (fun w => hourW 1 w (by decide) (by decide))) (Lib.hid F2) (Lib.hid Q2) (Lib.hid H2) (Lib.hid (fun w => hourW 9 w (by decide) (by decide)))
set_option maxRecDepth 100000 in
set_option maxHeartbeats 2000000 in
theorem bal_02m (n t : Int) (r : Bool) (w : World) (ht : Tabs w) (n0 : 1 ≤ n) (n1 : n ≤ 2000) (e : t = -n) (E : ∀ w, Calls Tryd.prog 19 #[.agg #[.int .i64 0, .int .i64 n, .int .i64 2, .bool r]] w fun e w' => e = .returned (.int .i64 0) ∧ Below w.heap.size w w') (KL : ∀ w, Tabs w → Calls Tryd.prog 17 #[.agg #[.int .i64 0, .int .i64 n, .int .i64 2, .bool r]] w fun e w' => e = .returned (.tuple #[.agg #[.int .i64 (t * (-1)), .int .i64 (t * 0), .int .i64 (t * 1), .int .i64 (t * 1), .int .i64 (t * (-1)), .int .i64 (t * 0), .int .i64 (t * 0), .int .i64 (t * 1), .int .i64 (t * (-1))], .int .i64 0]) ∧ Below w.heap.size w w') :
    Calls Tryd.prog 4 #[.agg #[.int .i64 0, .int .i64 n, .int .i64 2, .bool r]] w fun e w' => e = .returned (.bool true) ∧ Below w.heap.size w w' := by
  have t0 : -2000 ≤ t := by omega
  have t1 : t ≤ 2000 := by omega
  have tt : t * t = n * n := by rw [e]; exact Int.neg_mul_neg n n
  have nn := mul_bd (m := 2000) (n := 2000) (show -2000 ≤ n by omega) n1 (show -2000 ≤ n by omega) n1
  have lim : ∀ c : Int, -2 ≤ c → c ≤ 2 → Lim (t * c) := fun c a b => by
    have := mul_bd t0 t1 a b
    exact ⟨by omega, by omega⟩
  have S := fun w ht => sequenceOf_ok (t * (-1)) (t * 0) (t * 1) (t * 1) (t * (-1)) (t * 0) (t * 0) (t * 1) (t * (-1)) w ⟨⟨lim (-1) (by decide) (by decide), lim 0 (by decide) (by decide), lim 1 (by decide) (by decide)⟩, ⟨lim 1 (by decide) (by decide), lim (-1) (by decide) (by decide), lim 0 (by decide) (by decide)⟩, ⟨lim 0 (by decide) (by decide), lim 1 (by decide) (by decide), lim (-1) (by decide) (by decide)⟩⟩ ht
  have sv : seqV ((t * (-1)) - (t * 0)) ((t * 1) - (t * 0)) ((t * 1) - (t * (-1))) ((t * 0) - (t * (-1))) ((t * 0) - (t * 1)) ((t * (-1)) - (t * 1)) = 1 := by
    unfold seqV
    rw [if_neg (by simp <;> omega), if_pos (by simp [foB, fol1] <;> omega)]
  have se : seqE ((t * (-1)) - (t * 0)) ((t * 1) - (t * 0)) ((t * 1) - (t * (-1))) ((t * 0) - (t * (-1))) ((t * 0) - (t * 1)) ((t * (-1)) - (t * 1)) = 0 := by
    unfold seqE
    rw [if_neg (by simp <;> omega), if_pos (by simp [foB, fol1] <;> omega)]
  rw [sv, se] at S
  have F0 := fun w ht => phasorOf_all (t * (-1)) (t * 0) (t * 1) (t * 1) (t * (-1)) (t * 0) (t * 0) (t * 1) (t * (-1)) w ⟨⟨lim (-1) (by decide) (by decide), lim 0 (by decide) (by decide), lim 1 (by decide) (by decide)⟩, ⟨lim 1 (by decide) (by decide), lim (-1) (by decide) (by decide), lim 0 (by decide) (by decide)⟩, ⟨lim 0 (by decide) (by decide), lim 1 (by decide) (by decide), lim (-1) (by decide) (by decide)⟩⟩ ht
  rw [show (t * (-1)) - (t * 0) = t * (-1) from by omega, show (t * 1) - (t * 0) = t * 1 from by omega] at F0
  have pe0 : pErr (t * (-1)) (t * 1) = 0 := pErr_in (by omega) (by omega) (by omega) (by omega)
  have Q0 := fun w => squareOf_ok (t * (-1)) (t * 1) w pe0
  rw [show sqV (t * (-1)) (t * 1) = 3 * (n * n) from by rw [sqV_t, tt]; rfl] at Q0
  have dd0 : Dir (t * (-1)) (t * 1) 11 := Dir.d11 (by omega) (by omega)
  have H0 := fun w ht => hoursOf_ok (t * (-1)) (t * 1) w pe0 ht
  rw [hourV_dir dd0, hourE_dir dd0] at H0
  have F1 := fun w ht => phasorOf_all (t * 1) (t * (-1)) (t * 0) (t * 0) (t * 1) (t * (-1)) (t * (-1)) (t * 0) (t * 1) w ⟨⟨lim 1 (by decide) (by decide), lim (-1) (by decide) (by decide), lim 0 (by decide) (by decide)⟩, ⟨lim 0 (by decide) (by decide), lim 1 (by decide) (by decide), lim (-1) (by decide) (by decide)⟩, ⟨lim (-1) (by decide) (by decide), lim 0 (by decide) (by decide), lim 1 (by decide) (by decide)⟩⟩ ht
  rw [show (t * 1) - (t * (-1)) = t * 2 from by omega, show (t * 0) - (t * (-1)) = t * 1 from by omega] at F1
  have pe1 : pErr (t * 2) (t * 1) = 0 := pErr_in (by omega) (by omega) (by omega) (by omega)
  have Q1 := fun w => squareOf_ok (t * 2) (t * 1) w pe1
  rw [show sqV (t * 2) (t * 1) = 3 * (n * n) from by rw [sqV_t, tt]; rfl] at Q1
  have dd1 : Dir (t * 2) (t * 1) 7 := Dir.d7 (by omega) (by omega)
  have H1 := fun w ht => hoursOf_ok (t * 2) (t * 1) w pe1 ht
  rw [hourV_dir dd1, hourE_dir dd1] at H1
  have F2 := fun w ht => phasorOf_all (t * 0) (t * 1) (t * (-1)) (t * (-1)) (t * 0) (t * 1) (t * 1) (t * (-1)) (t * 0) w ⟨⟨lim 0 (by decide) (by decide), lim 1 (by decide) (by decide), lim (-1) (by decide) (by decide)⟩, ⟨lim (-1) (by decide) (by decide), lim 0 (by decide) (by decide), lim 1 (by decide) (by decide)⟩, ⟨lim 1 (by decide) (by decide), lim (-1) (by decide) (by decide), lim 0 (by decide) (by decide)⟩⟩ ht
  rw [show (t * 0) - (t * 1) = t * (-1) from by omega, show (t * (-1)) - (t * 1) = t * (-2) from by omega] at F2
  have pe2 : pErr (t * (-1)) (t * (-2)) = 0 := pErr_in (by omega) (by omega) (by omega) (by omega)
  have Q2 := fun w => squareOf_ok (t * (-1)) (t * (-2)) w pe2
  rw [show sqV (t * (-1)) (t * (-2)) = 3 * (n * n) from by rw [sqV_t, tt]; rfl] at Q2
  have dd2 : Dir (t * (-1)) (t * (-2)) 3 := Dir.d3 (by omega) (by omega)
  have H2 := fun w ht => hoursOf_ok (t * (-1)) (t * (-2)) w pe2 ht
  rw [hourV_dir dd2, hourE_dir dd2] at H2
  exact balanced_0 n 2 (t * (-1)) (t * 0) (t * 1) (t * 1) (t * (-1)) (t * 0) (t * 0) (t * 1) (t * (-1)) (t * (-1)) (t * 1) (t * 2) (t * 1) (t * (-1)) (t * (-2)) 11 7 3 (3 * (n * n)) (3 * n) (t * 1) (t * 2) (t * 0) (t * (-1)) (t * 1) r w ht (wrap_in rfl (by omega) (by omega)) (wrap_in (by rw [Int.mul_assoc]) (by omega) (by omega)) (wrap_in rfl (by omega) (by omega)) (wrap_in (by omega) (by omega) (by omega)) (wrap_in (by omega) (by omega) (by omega)) (wrap_in rfl (by omega) (by omega)) (wrap_in (by omega) (by omega) (by omega)) (wrap_in (by omega) (by omega) (by omega)) (wrap_in (by omega) (by omega) (by omega)) (wrap_in (by omega) (by omega) (by omega)) (wrap_in (by omega) (by omega) (by omega)) (wrap_in (by omega) (by omega) (by omega)) (wrap_in (by omega) (by omega) (by omega)) (wrap_in (by omega) (by omega) (by omega)) (Lib.hid E) (Lib.hid KL) (Lib.hid S) (Lib.hid F0) (Lib.hid Q0) (Lib.hid H0) (Lib.hid (fun w => hourW 11 w (by decide) (by decide))) (Lib.hid F1) (Lib.hid Q1) (Lib.hid H1) (Lib.hid (fun w => hourW 7 w (by decide) (by decide))) (Lib.hid F2) (Lib.hid Q2) (Lib.hid H2) (Lib.hid (fun w => hourW 3 w (by decide) (by decide)))
set_option maxRecDepth 100000 in
set_option maxHeartbeats 2000000 in
theorem bal_10p (n t : Int) (r : Bool) (w : World) (ht : Tabs w) (n0 : 1 ≤ n) (n1 : n ≤ 2000) (e : t = n) (E : ∀ w, Calls Tryd.prog 19 #[.agg #[.int .i64 1, .int .i64 n, .int .i64 0, .bool r]] w fun e w' => e = .returned (.int .i64 0) ∧ Below w.heap.size w w') (KL : ∀ w, Tabs w → Calls Tryd.prog 17 #[.agg #[.int .i64 1, .int .i64 n, .int .i64 0, .bool r]] w fun e w' => e = .returned (.tuple #[.agg #[.int .i64 (t * 1), .int .i64 (t * 0), .int .i64 (t * 0), .int .i64 (t * 0), .int .i64 (t * 1), .int .i64 (t * 0), .int .i64 (t * 0), .int .i64 (t * 0), .int .i64 (t * 1)], .int .i64 0]) ∧ Below w.heap.size w w') :
    Calls Tryd.prog 4 #[.agg #[.int .i64 1, .int .i64 n, .int .i64 0, .bool r]] w fun e w' => e = .returned (.bool true) ∧ Below w.heap.size w w' := by
  have t0 : -2000 ≤ t := by omega
  have t1 : t ≤ 2000 := by omega
  have tt : t * t = n * n := by rw [e]
  have nn := mul_bd (m := 2000) (n := 2000) (show -2000 ≤ n by omega) n1 (show -2000 ≤ n by omega) n1
  have lim : ∀ c : Int, -2 ≤ c → c ≤ 2 → Lim (t * c) := fun c a b => by
    have := mul_bd t0 t1 a b
    exact ⟨by omega, by omega⟩
  have S := fun w ht => sequenceOf_ok (t * 1) (t * 0) (t * 0) (t * 0) (t * 1) (t * 0) (t * 0) (t * 0) (t * 1) w ⟨⟨lim 1 (by decide) (by decide), lim 0 (by decide) (by decide), lim 0 (by decide) (by decide)⟩, ⟨lim 0 (by decide) (by decide), lim 1 (by decide) (by decide), lim 0 (by decide) (by decide)⟩, ⟨lim 0 (by decide) (by decide), lim 0 (by decide) (by decide), lim 1 (by decide) (by decide)⟩⟩ ht
  have sv : seqV ((t * 1) - (t * 0)) ((t * 0) - (t * 0)) ((t * 0) - (t * 1)) ((t * 0) - (t * 1)) ((t * 0) - (t * 0)) ((t * 1) - (t * 0)) = 1 := by
    unfold seqV
    rw [if_neg (by simp <;> omega), if_pos (by simp [foB, fol1] <;> omega)]
  have se : seqE ((t * 1) - (t * 0)) ((t * 0) - (t * 0)) ((t * 0) - (t * 1)) ((t * 0) - (t * 1)) ((t * 0) - (t * 0)) ((t * 1) - (t * 0)) = 0 := by
    unfold seqE
    rw [if_neg (by simp <;> omega), if_pos (by simp [foB, fol1] <;> omega)]
  rw [sv, se] at S
  have F0 := fun w ht => phasorOf_all (t * 1) (t * 0) (t * 0) (t * 0) (t * 1) (t * 0) (t * 0) (t * 0) (t * 1) w ⟨⟨lim 1 (by decide) (by decide), lim 0 (by decide) (by decide), lim 0 (by decide) (by decide)⟩, ⟨lim 0 (by decide) (by decide), lim 1 (by decide) (by decide), lim 0 (by decide) (by decide)⟩, ⟨lim 0 (by decide) (by decide), lim 0 (by decide) (by decide), lim 1 (by decide) (by decide)⟩⟩ ht
  rw [show (t * 1) - (t * 0) = t * 1 from by omega, show (t * 0) - (t * 0) = t * 0 from by omega] at F0
  have pe0 : pErr (t * 1) (t * 0) = 0 := pErr_in (by omega) (by omega) (by omega) (by omega)
  have Q0 := fun w => squareOf_ok (t * 1) (t * 0) w pe0
  rw [show sqV (t * 1) (t * 0) = 1 * (n * n) from by rw [sqV_t, tt]; rfl] at Q0
  have dd0 : Dir (t * 1) (t * 0) 0 := Dir.d0 (by omega) (by omega)
  have H0 := fun w ht => hoursOf_ok (t * 1) (t * 0) w pe0 ht
  rw [hourV_dir dd0, hourE_dir dd0] at H0
  have F1 := fun w ht => phasorOf_all (t * 0) (t * 1) (t * 0) (t * 0) (t * 0) (t * 1) (t * 1) (t * 0) (t * 0) w ⟨⟨lim 0 (by decide) (by decide), lim 1 (by decide) (by decide), lim 0 (by decide) (by decide)⟩, ⟨lim 0 (by decide) (by decide), lim 0 (by decide) (by decide), lim 1 (by decide) (by decide)⟩, ⟨lim 1 (by decide) (by decide), lim 0 (by decide) (by decide), lim 0 (by decide) (by decide)⟩⟩ ht
  rw [show (t * 0) - (t * 1) = t * (-1) from by omega] at F1
  have pe1 : pErr (t * (-1)) (t * (-1)) = 0 := pErr_in (by omega) (by omega) (by omega) (by omega)
  have Q1 := fun w => squareOf_ok (t * (-1)) (t * (-1)) w pe1
  rw [show sqV (t * (-1)) (t * (-1)) = 1 * (n * n) from by rw [sqV_t, tt]; rfl] at Q1
  have dd1 : Dir (t * (-1)) (t * (-1)) 8 := Dir.d8 (by omega) (by omega)
  have H1 := fun w ht => hoursOf_ok (t * (-1)) (t * (-1)) w pe1 ht
  rw [hourV_dir dd1, hourE_dir dd1] at H1
  have F2 := fun w ht => phasorOf_all (t * 0) (t * 0) (t * 1) (t * 1) (t * 0) (t * 0) (t * 0) (t * 1) (t * 0) w ⟨⟨lim 0 (by decide) (by decide), lim 0 (by decide) (by decide), lim 1 (by decide) (by decide)⟩, ⟨lim 1 (by decide) (by decide), lim 0 (by decide) (by decide), lim 0 (by decide) (by decide)⟩, ⟨lim 0 (by decide) (by decide), lim 1 (by decide) (by decide), lim 0 (by decide) (by decide)⟩⟩ ht
  rw [show (t * 0) - (t * 0) = t * 0 from by omega, show (t * 1) - (t * 0) = t * 1 from by omega] at F2
  have pe2 : pErr (t * 0) (t * 1) = 0 := pErr_in (by omega) (by omega) (by omega) (by omega)
  have Q2 := fun w => squareOf_ok (t * 0) (t * 1) w pe2
  rw [show sqV (t * 0) (t * 1) = 1 * (n * n) from by rw [sqV_t, tt]; rfl] at Q2
  have dd2 : Dir (t * 0) (t * 1) 4 := Dir.d4 (by omega) (by omega)
  have H2 := fun w ht => hoursOf_ok (t * 0) (t * 1) w pe2 ht
  rw [hourV_dir dd2, hourE_dir dd2] at H2
  exact balanced_1 n 0 (t * 1) (t * 0) (t * 0) (t * 0) (t * 1) (t * 0) (t * 0) (t * 0) (t * 1) (t * 1) (t * 0) (t * (-1)) (t * (-1)) (t * 0) (t * 1) 0 8 4 (1 * (n * n)) 0 (t * 0) (t * (-1)) (t * 1) (t * 1) (t * 0) r w ht (wrap_in rfl (by omega) (by omega)) (wrap_in (by omega) (by omega) (by omega)) (wrap_in rfl (by omega) (by omega)) (wrap_in (by omega) (by omega) (by omega)) (wrap_in (by omega) (by omega) (by omega)) (wrap_in rfl (by omega) (by omega)) (wrap_in (by omega) (by omega) (by omega)) (wrap_in (by omega) (by omega) (by omega)) (Lib.hid E) (Lib.hid KL) (Lib.hid S) (Lib.hid F0) (Lib.hid Q0) (Lib.hid H0) (Lib.hid (fun w => hourW 0 w (by decide) (by decide))) (Lib.hid F1) (Lib.hid Q1) (Lib.hid H1) (Lib.hid (fun w => hourW 8 w (by decide) (by decide))) (Lib.hid F2) (Lib.hid Q2) (Lib.hid H2) (Lib.hid (fun w => hourW 4 w (by decide) (by decide)))
set_option maxRecDepth 100000 in
set_option maxHeartbeats 2000000 in
theorem bal_10m (n t : Int) (r : Bool) (w : World) (ht : Tabs w) (n0 : 1 ≤ n) (n1 : n ≤ 2000) (e : t = -n) (E : ∀ w, Calls Tryd.prog 19 #[.agg #[.int .i64 1, .int .i64 n, .int .i64 0, .bool r]] w fun e w' => e = .returned (.int .i64 0) ∧ Below w.heap.size w w') (KL : ∀ w, Tabs w → Calls Tryd.prog 17 #[.agg #[.int .i64 1, .int .i64 n, .int .i64 0, .bool r]] w fun e w' => e = .returned (.tuple #[.agg #[.int .i64 (t * 1), .int .i64 (t * 0), .int .i64 (t * 0), .int .i64 (t * 0), .int .i64 (t * 1), .int .i64 (t * 0), .int .i64 (t * 0), .int .i64 (t * 0), .int .i64 (t * 1)], .int .i64 0]) ∧ Below w.heap.size w w') :
    Calls Tryd.prog 4 #[.agg #[.int .i64 1, .int .i64 n, .int .i64 0, .bool r]] w fun e w' => e = .returned (.bool true) ∧ Below w.heap.size w w' := by
  have t0 : -2000 ≤ t := by omega
  have t1 : t ≤ 2000 := by omega
  have tt : t * t = n * n := by rw [e]; exact Int.neg_mul_neg n n
  have nn := mul_bd (m := 2000) (n := 2000) (show -2000 ≤ n by omega) n1 (show -2000 ≤ n by omega) n1
  have lim : ∀ c : Int, -2 ≤ c → c ≤ 2 → Lim (t * c) := fun c a b => by
    have := mul_bd t0 t1 a b
    exact ⟨by omega, by omega⟩
  have S := fun w ht => sequenceOf_ok (t * 1) (t * 0) (t * 0) (t * 0) (t * 1) (t * 0) (t * 0) (t * 0) (t * 1) w ⟨⟨lim 1 (by decide) (by decide), lim 0 (by decide) (by decide), lim 0 (by decide) (by decide)⟩, ⟨lim 0 (by decide) (by decide), lim 1 (by decide) (by decide), lim 0 (by decide) (by decide)⟩, ⟨lim 0 (by decide) (by decide), lim 0 (by decide) (by decide), lim 1 (by decide) (by decide)⟩⟩ ht
  have sv : seqV ((t * 1) - (t * 0)) ((t * 0) - (t * 0)) ((t * 0) - (t * 1)) ((t * 0) - (t * 1)) ((t * 0) - (t * 0)) ((t * 1) - (t * 0)) = 1 := by
    unfold seqV
    rw [if_neg (by simp <;> omega), if_pos (by simp [foB, fol1] <;> omega)]
  have se : seqE ((t * 1) - (t * 0)) ((t * 0) - (t * 0)) ((t * 0) - (t * 1)) ((t * 0) - (t * 1)) ((t * 0) - (t * 0)) ((t * 1) - (t * 0)) = 0 := by
    unfold seqE
    rw [if_neg (by simp <;> omega), if_pos (by simp [foB, fol1] <;> omega)]
  rw [sv, se] at S
  have F0 := fun w ht => phasorOf_all (t * 1) (t * 0) (t * 0) (t * 0) (t * 1) (t * 0) (t * 0) (t * 0) (t * 1) w ⟨⟨lim 1 (by decide) (by decide), lim 0 (by decide) (by decide), lim 0 (by decide) (by decide)⟩, ⟨lim 0 (by decide) (by decide), lim 1 (by decide) (by decide), lim 0 (by decide) (by decide)⟩, ⟨lim 0 (by decide) (by decide), lim 0 (by decide) (by decide), lim 1 (by decide) (by decide)⟩⟩ ht
  rw [show (t * 1) - (t * 0) = t * 1 from by omega, show (t * 0) - (t * 0) = t * 0 from by omega] at F0
  have pe0 : pErr (t * 1) (t * 0) = 0 := pErr_in (by omega) (by omega) (by omega) (by omega)
  have Q0 := fun w => squareOf_ok (t * 1) (t * 0) w pe0
  rw [show sqV (t * 1) (t * 0) = 1 * (n * n) from by rw [sqV_t, tt]; rfl] at Q0
  have dd0 : Dir (t * 1) (t * 0) 6 := Dir.d6 (by omega) (by omega)
  have H0 := fun w ht => hoursOf_ok (t * 1) (t * 0) w pe0 ht
  rw [hourV_dir dd0, hourE_dir dd0] at H0
  have F1 := fun w ht => phasorOf_all (t * 0) (t * 1) (t * 0) (t * 0) (t * 0) (t * 1) (t * 1) (t * 0) (t * 0) w ⟨⟨lim 0 (by decide) (by decide), lim 1 (by decide) (by decide), lim 0 (by decide) (by decide)⟩, ⟨lim 0 (by decide) (by decide), lim 0 (by decide) (by decide), lim 1 (by decide) (by decide)⟩, ⟨lim 1 (by decide) (by decide), lim 0 (by decide) (by decide), lim 0 (by decide) (by decide)⟩⟩ ht
  rw [show (t * 0) - (t * 1) = t * (-1) from by omega] at F1
  have pe1 : pErr (t * (-1)) (t * (-1)) = 0 := pErr_in (by omega) (by omega) (by omega) (by omega)
  have Q1 := fun w => squareOf_ok (t * (-1)) (t * (-1)) w pe1
  rw [show sqV (t * (-1)) (t * (-1)) = 1 * (n * n) from by rw [sqV_t, tt]; rfl] at Q1
  have dd1 : Dir (t * (-1)) (t * (-1)) 2 := Dir.d2 (by omega) (by omega)
  have H1 := fun w ht => hoursOf_ok (t * (-1)) (t * (-1)) w pe1 ht
  rw [hourV_dir dd1, hourE_dir dd1] at H1
  have F2 := fun w ht => phasorOf_all (t * 0) (t * 0) (t * 1) (t * 1) (t * 0) (t * 0) (t * 0) (t * 1) (t * 0) w ⟨⟨lim 0 (by decide) (by decide), lim 0 (by decide) (by decide), lim 1 (by decide) (by decide)⟩, ⟨lim 1 (by decide) (by decide), lim 0 (by decide) (by decide), lim 0 (by decide) (by decide)⟩, ⟨lim 0 (by decide) (by decide), lim 1 (by decide) (by decide), lim 0 (by decide) (by decide)⟩⟩ ht
  rw [show (t * 0) - (t * 0) = t * 0 from by omega, show (t * 1) - (t * 0) = t * 1 from by omega] at F2
  have pe2 : pErr (t * 0) (t * 1) = 0 := pErr_in (by omega) (by omega) (by omega) (by omega)
  have Q2 := fun w => squareOf_ok (t * 0) (t * 1) w pe2
  rw [show sqV (t * 0) (t * 1) = 1 * (n * n) from by rw [sqV_t, tt]; rfl] at Q2
  have dd2 : Dir (t * 0) (t * 1) 10 := Dir.d10 (by omega) (by omega)
  have H2 := fun w ht => hoursOf_ok (t * 0) (t * 1) w pe2 ht
  rw [hourV_dir dd2, hourE_dir dd2] at H2
  exact balanced_1 n 0 (t * 1) (t * 0) (t * 0) (t * 0) (t * 1) (t * 0) (t * 0) (t * 0) (t * 1) (t * 1) (t * 0) (t * (-1)) (t * (-1)) (t * 0) (t * 1) 6 2 10 (1 * (n * n)) 0 (t * 0) (t * (-1)) (t * 1) (t * 1) (t * 0) r w ht (wrap_in rfl (by omega) (by omega)) (wrap_in (by omega) (by omega) (by omega)) (wrap_in rfl (by omega) (by omega)) (wrap_in (by omega) (by omega) (by omega)) (wrap_in (by omega) (by omega) (by omega)) (wrap_in rfl (by omega) (by omega)) (wrap_in (by omega) (by omega) (by omega)) (wrap_in (by omega) (by omega) (by omega)) (Lib.hid E) (Lib.hid KL) (Lib.hid S) (Lib.hid F0) (Lib.hid Q0) (Lib.hid H0) (Lib.hid (fun w => hourW 6 w (by decide) (by decide))) (Lib.hid F1) (Lib.hid Q1) (Lib.hid H1) (Lib.hid (fun w => hourW 2 w (by decide) (by decide))) (Lib.hid F2) (Lib.hid Q2) (Lib.hid H2) (Lib.hid (fun w => hourW 10 w (by decide) (by decide)))
set_option maxRecDepth 100000 in
set_option maxHeartbeats 2000000 in
theorem bal_11p (n t : Int) (r : Bool) (w : World) (ht : Tabs w) (n0 : 1 ≤ n) (n1 : n ≤ 2000) (e : t = n) (E : ∀ w, Calls Tryd.prog 19 #[.agg #[.int .i64 1, .int .i64 n, .int .i64 1, .bool r]] w fun e w' => e = .returned (.int .i64 0) ∧ Below w.heap.size w w') (KL : ∀ w, Tabs w → Calls Tryd.prog 17 #[.agg #[.int .i64 1, .int .i64 n, .int .i64 1, .bool r]] w fun e w' => e = .returned (.tuple #[.agg #[.int .i64 (t * 0), .int .i64 (t * 1), .int .i64 (t * 0), .int .i64 (t * 0), .int .i64 (t * 0), .int .i64 (t * 1), .int .i64 (t * 1), .int .i64 (t * 0), .int .i64 (t * 0)], .int .i64 0]) ∧ Below w.heap.size w w') :
    Calls Tryd.prog 4 #[.agg #[.int .i64 1, .int .i64 n, .int .i64 1, .bool r]] w fun e w' => e = .returned (.bool true) ∧ Below w.heap.size w w' := by
  have t0 : -2000 ≤ t := by omega
  have t1 : t ≤ 2000 := by omega
  have tt : t * t = n * n := by rw [e]
  have nn := mul_bd (m := 2000) (n := 2000) (show -2000 ≤ n by omega) n1 (show -2000 ≤ n by omega) n1
  have lim : ∀ c : Int, -2 ≤ c → c ≤ 2 → Lim (t * c) := fun c a b => by
    have := mul_bd t0 t1 a b
    exact ⟨by omega, by omega⟩
  have S := fun w ht => sequenceOf_ok (t * 0) (t * 1) (t * 0) (t * 0) (t * 0) (t * 1) (t * 1) (t * 0) (t * 0) w ⟨⟨lim 0 (by decide) (by decide), lim 1 (by decide) (by decide), lim 0 (by decide) (by decide)⟩, ⟨lim 0 (by decide) (by decide), lim 0 (by decide) (by decide), lim 1 (by decide) (by decide)⟩, ⟨lim 1 (by decide) (by decide), lim 0 (by decide) (by decide), lim 0 (by decide) (by decide)⟩⟩ ht
  have sv : seqV ((t * 0) - (t * 1)) ((t * 0) - (t * 1)) ((t * 0) - (t * 0)) ((t * 1) - (t * 0)) ((t * 1) - (t * 0)) ((t * 0) - (t * 0)) = 1 := by
    unfold seqV
    rw [if_neg (by simp <;> omega), if_pos (by simp [foB, fol1] <;> omega)]
  have se : seqE ((t * 0) - (t * 1)) ((t * 0) - (t * 1)) ((t * 0) - (t * 0)) ((t * 1) - (t * 0)) ((t * 1) - (t * 0)) ((t * 0) - (t * 0)) = 0 := by
    unfold seqE
    rw [if_neg (by simp <;> omega), if_pos (by simp [foB, fol1] <;> omega)]
  rw [sv, se] at S
  have F0 := fun w ht => phasorOf_all (t * 0) (t * 1) (t * 0) (t * 0) (t * 0) (t * 1) (t * 1) (t * 0) (t * 0) w ⟨⟨lim 0 (by decide) (by decide), lim 1 (by decide) (by decide), lim 0 (by decide) (by decide)⟩, ⟨lim 0 (by decide) (by decide), lim 0 (by decide) (by decide), lim 1 (by decide) (by decide)⟩, ⟨lim 1 (by decide) (by decide), lim 0 (by decide) (by decide), lim 0 (by decide) (by decide)⟩⟩ ht
  rw [show (t * 0) - (t * 1) = t * (-1) from by omega] at F0
  have pe0 : pErr (t * (-1)) (t * (-1)) = 0 := pErr_in (by omega) (by omega) (by omega) (by omega)
  have Q0 := fun w => squareOf_ok (t * (-1)) (t * (-1)) w pe0
  rw [show sqV (t * (-1)) (t * (-1)) = 1 * (n * n) from by rw [sqV_t, tt]; rfl] at Q0
  have dd0 : Dir (t * (-1)) (t * (-1)) 8 := Dir.d8 (by omega) (by omega)
  have H0 := fun w ht => hoursOf_ok (t * (-1)) (t * (-1)) w pe0 ht
  rw [hourV_dir dd0, hourE_dir dd0] at H0
  have F1 := fun w ht => phasorOf_all (t * 0) (t * 0) (t * 1) (t * 1) (t * 0) (t * 0) (t * 0) (t * 1) (t * 0) w ⟨⟨lim 0 (by decide) (by decide), lim 0 (by decide) (by decide), lim 1 (by decide) (by decide)⟩, ⟨lim 1 (by decide) (by decide), lim 0 (by decide) (by decide), lim 0 (by decide) (by decide)⟩, ⟨lim 0 (by decide) (by decide), lim 1 (by decide) (by decide), lim 0 (by decide) (by decide)⟩⟩ ht
  rw [show (t * 0) - (t * 0) = t * 0 from by omega, show (t * 1) - (t * 0) = t * 1 from by omega] at F1
  have pe1 : pErr (t * 0) (t * 1) = 0 := pErr_in (by omega) (by omega) (by omega) (by omega)
  have Q1 := fun w => squareOf_ok (t * 0) (t * 1) w pe1
  rw [show sqV (t * 0) (t * 1) = 1 * (n * n) from by rw [sqV_t, tt]; rfl] at Q1
  have dd1 : Dir (t * 0) (t * 1) 4 := Dir.d4 (by omega) (by omega)
  have H1 := fun w ht => hoursOf_ok (t * 0) (t * 1) w pe1 ht
  rw [hourV_dir dd1, hourE_dir dd1] at H1
  have F2 := fun w ht => phasorOf_all (t * 1) (t * 0) (t * 0) (t * 0) (t * 1) (t * 0) (t * 0) (t * 0) (t * 1) w ⟨⟨lim 1 (by decide) (by decide), lim 0 (by decide) (by decide), lim 0 (by decide) (by decide)⟩, ⟨lim 0 (by decide) (by decide), lim 1 (by decide) (by decide), lim 0 (by decide) (by decide)⟩, ⟨lim 0 (by decide) (by decide), lim 0 (by decide) (by decide), lim 1 (by decide) (by decide)⟩⟩ ht
  rw [show (t * 1) - (t * 0) = t * 1 from by omega, show (t * 0) - (t * 0) = t * 0 from by omega] at F2
  have pe2 : pErr (t * 1) (t * 0) = 0 := pErr_in (by omega) (by omega) (by omega) (by omega)
  have Q2 := fun w => squareOf_ok (t * 1) (t * 0) w pe2
  rw [show sqV (t * 1) (t * 0) = 1 * (n * n) from by rw [sqV_t, tt]; rfl] at Q2
  have dd2 : Dir (t * 1) (t * 0) 0 := Dir.d0 (by omega) (by omega)
  have H2 := fun w ht => hoursOf_ok (t * 1) (t * 0) w pe2 ht
  rw [hourV_dir dd2, hourE_dir dd2] at H2
  exact balanced_1 n 1 (t * 0) (t * 1) (t * 0) (t * 0) (t * 0) (t * 1) (t * 1) (t * 0) (t * 0) (t * (-1)) (t * (-1)) (t * 0) (t * 1) (t * 1) (t * 0) 8 4 0 (1 * (n * n)) 0 (t * (-1)) (t * 0) (t * 0) (t * 1) (t * 1) r w ht (wrap_in rfl (by omega) (by omega)) (wrap_in (by omega) (by omega) (by omega)) (wrap_in rfl (by omega) (by omega)) (wrap_in (by omega) (by omega) (by omega)) (wrap_in (by omega) (by omega) (by omega)) (wrap_in rfl (by omega) (by omega)) (wrap_in (by omega) (by omega) (by omega)) (wrap_in (by omega) (by omega) (by omega)) (Lib.hid E) (Lib.hid KL) (Lib.hid S) (Lib.hid F0) (Lib.hid Q0) (Lib.hid H0) (Lib.hid (fun w => hourW 8 w (by decide) (by decide))) (Lib.hid F1) (Lib.hid Q1) (Lib.hid H1) (Lib.hid (fun w => hourW 4 w (by decide) (by decide))) (Lib.hid F2) (Lib.hid Q2) (Lib.hid H2) (Lib.hid (fun w => hourW 0 w (by decide) (by decide)))
set_option maxRecDepth 100000 in
set_option maxHeartbeats 2000000 in
theorem bal_11m (n t : Int) (r : Bool) (w : World) (ht : Tabs w) (n0 : 1 ≤ n) (n1 : n ≤ 2000) (e : t = -n) (E : ∀ w, Calls Tryd.prog 19 #[.agg #[.int .i64 1, .int .i64 n, .int .i64 1, .bool r]] w fun e w' => e = .returned (.int .i64 0) ∧ Below w.heap.size w w') (KL : ∀ w, Tabs w → Calls Tryd.prog 17 #[.agg #[.int .i64 1, .int .i64 n, .int .i64 1, .bool r]] w fun e w' => e = .returned (.tuple #[.agg #[.int .i64 (t * 0), .int .i64 (t * 1), .int .i64 (t * 0), .int .i64 (t * 0), .int .i64 (t * 0), .int .i64 (t * 1), .int .i64 (t * 1), .int .i64 (t * 0), .int .i64 (t * 0)], .int .i64 0]) ∧ Below w.heap.size w w') :
    Calls Tryd.prog 4 #[.agg #[.int .i64 1, .int .i64 n, .int .i64 1, .bool r]] w fun e w' => e = .returned (.bool true) ∧ Below w.heap.size w w' := by
  have t0 : -2000 ≤ t := by omega
  have t1 : t ≤ 2000 := by omega
  have tt : t * t = n * n := by rw [e]; exact Int.neg_mul_neg n n
  have nn := mul_bd (m := 2000) (n := 2000) (show -2000 ≤ n by omega) n1 (show -2000 ≤ n by omega) n1
  have lim : ∀ c : Int, -2 ≤ c → c ≤ 2 → Lim (t * c) := fun c a b => by
    have := mul_bd t0 t1 a b
    exact ⟨by omega, by omega⟩
  have S := fun w ht => sequenceOf_ok (t * 0) (t * 1) (t * 0) (t * 0) (t * 0) (t * 1) (t * 1) (t * 0) (t * 0) w ⟨⟨lim 0 (by decide) (by decide), lim 1 (by decide) (by decide), lim 0 (by decide) (by decide)⟩, ⟨lim 0 (by decide) (by decide), lim 0 (by decide) (by decide), lim 1 (by decide) (by decide)⟩, ⟨lim 1 (by decide) (by decide), lim 0 (by decide) (by decide), lim 0 (by decide) (by decide)⟩⟩ ht
  have sv : seqV ((t * 0) - (t * 1)) ((t * 0) - (t * 1)) ((t * 0) - (t * 0)) ((t * 1) - (t * 0)) ((t * 1) - (t * 0)) ((t * 0) - (t * 0)) = 1 := by
    unfold seqV
    rw [if_neg (by simp <;> omega), if_pos (by simp [foB, fol1] <;> omega)]
  have se : seqE ((t * 0) - (t * 1)) ((t * 0) - (t * 1)) ((t * 0) - (t * 0)) ((t * 1) - (t * 0)) ((t * 1) - (t * 0)) ((t * 0) - (t * 0)) = 0 := by
    unfold seqE
    rw [if_neg (by simp <;> omega), if_pos (by simp [foB, fol1] <;> omega)]
  rw [sv, se] at S
  have F0 := fun w ht => phasorOf_all (t * 0) (t * 1) (t * 0) (t * 0) (t * 0) (t * 1) (t * 1) (t * 0) (t * 0) w ⟨⟨lim 0 (by decide) (by decide), lim 1 (by decide) (by decide), lim 0 (by decide) (by decide)⟩, ⟨lim 0 (by decide) (by decide), lim 0 (by decide) (by decide), lim 1 (by decide) (by decide)⟩, ⟨lim 1 (by decide) (by decide), lim 0 (by decide) (by decide), lim 0 (by decide) (by decide)⟩⟩ ht
  rw [show (t * 0) - (t * 1) = t * (-1) from by omega] at F0
  have pe0 : pErr (t * (-1)) (t * (-1)) = 0 := pErr_in (by omega) (by omega) (by omega) (by omega)
  have Q0 := fun w => squareOf_ok (t * (-1)) (t * (-1)) w pe0
  rw [show sqV (t * (-1)) (t * (-1)) = 1 * (n * n) from by rw [sqV_t, tt]; rfl] at Q0
  have dd0 : Dir (t * (-1)) (t * (-1)) 2 := Dir.d2 (by omega) (by omega)
  have H0 := fun w ht => hoursOf_ok (t * (-1)) (t * (-1)) w pe0 ht
  rw [hourV_dir dd0, hourE_dir dd0] at H0
  have F1 := fun w ht => phasorOf_all (t * 0) (t * 0) (t * 1) (t * 1) (t * 0) (t * 0) (t * 0) (t * 1) (t * 0) w ⟨⟨lim 0 (by decide) (by decide), lim 0 (by decide) (by decide), lim 1 (by decide) (by decide)⟩, ⟨lim 1 (by decide) (by decide), lim 0 (by decide) (by decide), lim 0 (by decide) (by decide)⟩, ⟨lim 0 (by decide) (by decide), lim 1 (by decide) (by decide), lim 0 (by decide) (by decide)⟩⟩ ht
  rw [show (t * 0) - (t * 0) = t * 0 from by omega, show (t * 1) - (t * 0) = t * 1 from by omega] at F1
  have pe1 : pErr (t * 0) (t * 1) = 0 := pErr_in (by omega) (by omega) (by omega) (by omega)
  have Q1 := fun w => squareOf_ok (t * 0) (t * 1) w pe1
  rw [show sqV (t * 0) (t * 1) = 1 * (n * n) from by rw [sqV_t, tt]; rfl] at Q1
  have dd1 : Dir (t * 0) (t * 1) 10 := Dir.d10 (by omega) (by omega)
  have H1 := fun w ht => hoursOf_ok (t * 0) (t * 1) w pe1 ht
  rw [hourV_dir dd1, hourE_dir dd1] at H1
  have F2 := fun w ht => phasorOf_all (t * 1) (t * 0) (t * 0) (t * 0) (t * 1) (t * 0) (t * 0) (t * 0) (t * 1) w ⟨⟨lim 1 (by decide) (by decide), lim 0 (by decide) (by decide), lim 0 (by decide) (by decide)⟩, ⟨lim 0 (by decide) (by decide), lim 1 (by decide) (by decide), lim 0 (by decide) (by decide)⟩, ⟨lim 0 (by decide) (by decide), lim 0 (by decide) (by decide), lim 1 (by decide) (by decide)⟩⟩ ht
  rw [show (t * 1) - (t * 0) = t * 1 from by omega, show (t * 0) - (t * 0) = t * 0 from by omega] at F2
  have pe2 : pErr (t * 1) (t * 0) = 0 := pErr_in (by omega) (by omega) (by omega) (by omega)
  have Q2 := fun w => squareOf_ok (t * 1) (t * 0) w pe2
  rw [show sqV (t * 1) (t * 0) = 1 * (n * n) from by rw [sqV_t, tt]; rfl] at Q2
  have dd2 : Dir (t * 1) (t * 0) 6 := Dir.d6 (by omega) (by omega)
  have H2 := fun w ht => hoursOf_ok (t * 1) (t * 0) w pe2 ht
  rw [hourV_dir dd2, hourE_dir dd2] at H2
  exact balanced_1 n 1 (t * 0) (t * 1) (t * 0) (t * 0) (t * 0) (t * 1) (t * 1) (t * 0) (t * 0) (t * (-1)) (t * (-1)) (t * 0) (t * 1) (t * 1) (t * 0) 2 10 6 (1 * (n * n)) 0 (t * (-1)) (t * 0) (t * 0) (t * 1) (t * 1) r w ht (wrap_in rfl (by omega) (by omega)) (wrap_in (by omega) (by omega) (by omega)) (wrap_in rfl (by omega) (by omega)) (wrap_in (by omega) (by omega) (by omega)) (wrap_in (by omega) (by omega) (by omega)) (wrap_in rfl (by omega) (by omega)) (wrap_in (by omega) (by omega) (by omega)) (wrap_in (by omega) (by omega) (by omega)) (Lib.hid E) (Lib.hid KL) (Lib.hid S) (Lib.hid F0) (Lib.hid Q0) (Lib.hid H0) (Lib.hid (fun w => hourW 2 w (by decide) (by decide))) (Lib.hid F1) (Lib.hid Q1) (Lib.hid H1) (Lib.hid (fun w => hourW 10 w (by decide) (by decide))) (Lib.hid F2) (Lib.hid Q2) (Lib.hid H2) (Lib.hid (fun w => hourW 6 w (by decide) (by decide)))
set_option maxRecDepth 100000 in
set_option maxHeartbeats 2000000 in
theorem bal_12p (n t : Int) (r : Bool) (w : World) (ht : Tabs w) (n0 : 1 ≤ n) (n1 : n ≤ 2000) (e : t = n) (E : ∀ w, Calls Tryd.prog 19 #[.agg #[.int .i64 1, .int .i64 n, .int .i64 2, .bool r]] w fun e w' => e = .returned (.int .i64 0) ∧ Below w.heap.size w w') (KL : ∀ w, Tabs w → Calls Tryd.prog 17 #[.agg #[.int .i64 1, .int .i64 n, .int .i64 2, .bool r]] w fun e w' => e = .returned (.tuple #[.agg #[.int .i64 (t * 0), .int .i64 (t * 0), .int .i64 (t * 1), .int .i64 (t * 1), .int .i64 (t * 0), .int .i64 (t * 0), .int .i64 (t * 0), .int .i64 (t * 1), .int .i64 (t * 0)], .int .i64 0]) ∧ Below w.heap.size w w') :
    Calls Tryd.prog 4 #[.agg #[.int .i64 1, .int .i64 n, .int .i64 2, .bool r]] w fun e w' => e = .returned (.bool true) ∧ Below w.heap.size w w' := by
  have t0 : -2000 ≤ t := by omega
  have t1 : t ≤ 2000 := by omega
  have tt : t * t = n * n := by rw [e]
  have nn := mul_bd (m := 2000) (n := 2000) (show -2000 ≤ n by omega) n1 (show -2000 ≤ n by omega) n1
  have lim : ∀ c : Int, -2 ≤ c → c ≤ 2 → Lim (t * c) := fun c a b => by
    have := mul_bd t0 t1 a b
    exact ⟨by omega, by omega⟩
  have S := fun w ht => sequenceOf_ok (t * 0) (t * 0) (t * 1) (t * 1) (t * 0) (t * 0) (t * 0) (t * 1) (t * 0) w ⟨⟨lim 0 (by decide) (by decide), lim 0 (by decide) (by decide), lim 1 (by decide) (by decide)⟩, ⟨lim 1 (by decide) (by decide), lim 0 (by decide) (by decide), lim 0 (by decide) (by decide)⟩, ⟨lim 0 (by decide) (by decide), lim 1 (by decide) (by decide), lim 0 (by decide) (by decide)⟩⟩ ht
  have sv : seqV ((t * 0) - (t * 0)) ((t * 1) - (t * 0)) ((t * 1) - (t * 0)) ((t * 0) - (t * 0)) ((t * 0) - (t * 1)) ((t * 0) - (t * 1)) = 1 := by
    unfold seqV
    rw [if_neg (by simp <;> omega), if_pos (by simp [foB, fol1] <;> omega)]
  have se : seqE ((t * 0) - (t * 0)) ((t * 1) - (t * 0)) ((t * 1) - (t * 0)) ((t * 0) - (t * 0)) ((t * 0) - (t * 1)) ((t * 0) - (t * 1)) = 0 := by
    unfold seqE
    rw [if_neg (by simp <;> omega), if_pos (by simp [foB, fol1] <;> omega)]
  rw [sv, se] at S
  have F0 := fun w ht => phasorOf_all (t * 0) (t * 0) (t * 1) (t * 1) (t * 0) (t * 0) (t * 0) (t * 1) (t * 0) w ⟨⟨lim 0 (by decide) (by decide), lim 0 (by decide) (by decide), lim 1 (by decide) (by decide)⟩, ⟨lim 1 (by decide) (by decide), lim 0 (by decide) (by decide), lim 0 (by decide) (by decide)⟩, ⟨lim 0 (by decide) (by decide), lim 1 (by decide) (by decide), lim 0 (by decide) (by decide)⟩⟩ ht
  rw [show (t * 0) - (t * 0) = t * 0 from by omega, show (t * 1) - (t * 0) = t * 1 from by omega] at F0
  have pe0 : pErr (t * 0) (t * 1) = 0 := pErr_in (by omega) (by omega) (by omega) (by omega)
  have Q0 := fun w => squareOf_ok (t * 0) (t * 1) w pe0
  rw [show sqV (t * 0) (t * 1) = 1 * (n * n) from by rw [sqV_t, tt]; rfl] at Q0
  have dd0 : Dir (t * 0) (t * 1) 4 := Dir.d4 (by omega) (by omega)
  have H0 := fun w ht => hoursOf_ok (t * 0) (t * 1) w pe0 ht
  rw [hourV_dir dd0, hourE_dir dd0] at H0
  have F1 := fun w ht => phasorOf_all (t * 1) (t * 0) (t * 0) (t * 0) (t * 1) (t * 0) (t * 0) (t * 0) (t * 1) w ⟨⟨lim 1 (by decide) (by decide), lim 0 (by decide) (by decide), lim 0 (by decide) (by decide)⟩, ⟨lim 0 (by decide) (by decide), lim 1 (by decide) (by decide), lim 0 (by decide) (by decide)⟩, ⟨lim 0 (by decide) (by decide), lim 0 (by decide) (by decide), lim 1 (by decide) (by decide)⟩⟩ ht
  rw [show (t * 1) - (t * 0) = t * 1 from by omega, show (t * 0) - (t * 0) = t * 0 from by omega] at F1
  have pe1 : pErr (t * 1) (t * 0) = 0 := pErr_in (by omega) (by omega) (by omega) (by omega)
  have Q1 := fun w => squareOf_ok (t * 1) (t * 0) w pe1
  rw [show sqV (t * 1) (t * 0) = 1 * (n * n) from by rw [sqV_t, tt]; rfl] at Q1
  have dd1 : Dir (t * 1) (t * 0) 0 := Dir.d0 (by omega) (by omega)
  have H1 := fun w ht => hoursOf_ok (t * 1) (t * 0) w pe1 ht
  rw [hourV_dir dd1, hourE_dir dd1] at H1
  have F2 := fun w ht => phasorOf_all (t * 0) (t * 1) (t * 0) (t * 0) (t * 0) (t * 1) (t * 1) (t * 0) (t * 0) w ⟨⟨lim 0 (by decide) (by decide), lim 1 (by decide) (by decide), lim 0 (by decide) (by decide)⟩, ⟨lim 0 (by decide) (by decide), lim 0 (by decide) (by decide), lim 1 (by decide) (by decide)⟩, ⟨lim 1 (by decide) (by decide), lim 0 (by decide) (by decide), lim 0 (by decide) (by decide)⟩⟩ ht
  rw [show (t * 0) - (t * 1) = t * (-1) from by omega] at F2
  have pe2 : pErr (t * (-1)) (t * (-1)) = 0 := pErr_in (by omega) (by omega) (by omega) (by omega)
  have Q2 := fun w => squareOf_ok (t * (-1)) (t * (-1)) w pe2
  rw [show sqV (t * (-1)) (t * (-1)) = 1 * (n * n) from by rw [sqV_t, tt]; rfl] at Q2
  have dd2 : Dir (t * (-1)) (t * (-1)) 8 := Dir.d8 (by omega) (by omega)
  have H2 := fun w ht => hoursOf_ok (t * (-1)) (t * (-1)) w pe2 ht
  rw [hourV_dir dd2, hourE_dir dd2] at H2
  exact balanced_1 n 2 (t * 0) (t * 0) (t * 1) (t * 1) (t * 0) (t * 0) (t * 0) (t * 1) (t * 0) (t * 0) (t * 1) (t * 1) (t * 0) (t * (-1)) (t * (-1)) 4 0 8 (1 * (n * n)) 0 (t * 1) (t * 1) (t * 1) (t * 0) (t * 1) r w ht (wrap_in rfl (by omega) (by omega)) (wrap_in (by omega) (by omega) (by omega)) (wrap_in rfl (by omega) (by omega)) (wrap_in (by omega) (by omega) (by omega)) (wrap_in (by omega) (by omega) (by omega)) (wrap_in rfl (by omega) (by omega)) (wrap_in (by omega) (by omega) (by omega)) (wrap_in (by omega) (by omega) (by omega)) (Lib.hid E) (Lib.hid KL) (Lib.hid S) (Lib.hid F0) (Lib.hid Q0) (Lib.hid H0) (Lib.hid (fun w => hourW 4 w (by decide) (by decide))) (Lib.hid F1) (Lib.hid Q1) (Lib.hid H1) (Lib.hid (fun w => hourW 0 w (by decide) (by decide))) (Lib.hid F2) (Lib.hid Q2) (Lib.hid H2) (Lib.hid (fun w => hourW 8 w (by decide) (by decide)))
set_option maxRecDepth 100000 in
set_option maxHeartbeats 2000000 in
theorem bal_12m (n t : Int) (r : Bool) (w : World) (ht : Tabs w) (n0 : 1 ≤ n) (n1 : n ≤ 2000) (e : t = -n) (E : ∀ w, Calls Tryd.prog 19 #[.agg #[.int .i64 1, .int .i64 n, .int .i64 2, .bool r]] w fun e w' => e = .returned (.int .i64 0) ∧ Below w.heap.size w w') (KL : ∀ w, Tabs w → Calls Tryd.prog 17 #[.agg #[.int .i64 1, .int .i64 n, .int .i64 2, .bool r]] w fun e w' => e = .returned (.tuple #[.agg #[.int .i64 (t * 0), .int .i64 (t * 0), .int .i64 (t * 1), .int .i64 (t * 1), .int .i64 (t * 0), .int .i64 (t * 0), .int .i64 (t * 0), .int .i64 (t * 1), .int .i64 (t * 0)], .int .i64 0]) ∧ Below w.heap.size w w') :
    Calls Tryd.prog 4 #[.agg #[.int .i64 1, .int .i64 n, .int .i64 2, .bool r]] w fun e w' => e = .returned (.bool true) ∧ Below w.heap.size w w' := by
  have t0 : -2000 ≤ t := by omega
  have t1 : t ≤ 2000 := by omega
  have tt : t * t = n * n := by rw [e]; exact Int.neg_mul_neg n n
  have nn := mul_bd (m := 2000) (n := 2000) (show -2000 ≤ n by omega) n1 (show -2000 ≤ n by omega) n1
  have lim : ∀ c : Int, -2 ≤ c → c ≤ 2 → Lim (t * c) := fun c a b => by
    have := mul_bd t0 t1 a b
    exact ⟨by omega, by omega⟩
  have S := fun w ht => sequenceOf_ok (t * 0) (t * 0) (t * 1) (t * 1) (t * 0) (t * 0) (t * 0) (t * 1) (t * 0) w ⟨⟨lim 0 (by decide) (by decide), lim 0 (by decide) (by decide), lim 1 (by decide) (by decide)⟩, ⟨lim 1 (by decide) (by decide), lim 0 (by decide) (by decide), lim 0 (by decide) (by decide)⟩, ⟨lim 0 (by decide) (by decide), lim 1 (by decide) (by decide), lim 0 (by decide) (by decide)⟩⟩ ht
  have sv : seqV ((t * 0) - (t * 0)) ((t * 1) - (t * 0)) ((t * 1) - (t * 0)) ((t * 0) - (t * 0)) ((t * 0) - (t * 1)) ((t * 0) - (t * 1)) = 1 := by
    unfold seqV
    rw [if_neg (by simp <;> omega), if_pos (by simp [foB, fol1] <;> omega)]
  have se : seqE ((t * 0) - (t * 0)) ((t * 1) - (t * 0)) ((t * 1) - (t * 0)) ((t * 0) - (t * 0)) ((t * 0) - (t * 1)) ((t * 0) - (t * 1)) = 0 := by
    unfold seqE
    rw [if_neg (by simp <;> omega), if_pos (by simp [foB, fol1] <;> omega)]
  rw [sv, se] at S
  have F0 := fun w ht => phasorOf_all (t * 0) (t * 0) (t * 1) (t * 1) (t * 0) (t * 0) (t * 0) (t * 1) (t * 0) w ⟨⟨lim 0 (by decide) (by decide), lim 0 (by decide) (by decide), lim 1 (by decide) (by decide)⟩, ⟨lim 1 (by decide) (by decide), lim 0 (by decide) (by decide), lim 0 (by decide) (by decide)⟩, ⟨lim 0 (by decide) (by decide), lim 1 (by decide) (by decide), lim 0 (by decide) (by decide)⟩⟩ ht
  rw [show (t * 0) - (t * 0) = t * 0 from by omega, show (t * 1) - (t * 0) = t * 1 from by omega] at F0
  have pe0 : pErr (t * 0) (t * 1) = 0 := pErr_in (by omega) (by omega) (by omega) (by omega)
  have Q0 := fun w => squareOf_ok (t * 0) (t * 1) w pe0
  rw [show sqV (t * 0) (t * 1) = 1 * (n * n) from by rw [sqV_t, tt]; rfl] at Q0
  have dd0 : Dir (t * 0) (t * 1) 10 := Dir.d10 (by omega) (by omega)
  have H0 := fun w ht => hoursOf_ok (t * 0) (t * 1) w pe0 ht
  rw [hourV_dir dd0, hourE_dir dd0] at H0
  have F1 := fun w ht => phasorOf_all (t * 1) (t * 0) (t * 0) (t * 0) (t * 1) (t * 0) (t * 0) (t * 0) (t * 1) w ⟨⟨lim 1 (by decide) (by decide), lim 0 (by decide) (by decide), lim 0 (by decide) (by decide)⟩, ⟨lim 0 (by decide) (by decide), lim 1 (by decide) (by decide), lim 0 (by decide) (by decide)⟩, ⟨lim 0 (by decide) (by decide), lim 0 (by decide) (by decide), lim 1 (by decide) (by decide)⟩⟩ ht
  rw [show (t * 1) - (t * 0) = t * 1 from by omega, show (t * 0) - (t * 0) = t * 0 from by omega] at F1
  have pe1 : pErr (t * 1) (t * 0) = 0 := pErr_in (by omega) (by omega) (by omega) (by omega)
  have Q1 := fun w => squareOf_ok (t * 1) (t * 0) w pe1
  rw [show sqV (t * 1) (t * 0) = 1 * (n * n) from by rw [sqV_t, tt]; rfl] at Q1
  have dd1 : Dir (t * 1) (t * 0) 6 := Dir.d6 (by omega) (by omega)
  have H1 := fun w ht => hoursOf_ok (t * 1) (t * 0) w pe1 ht
  rw [hourV_dir dd1, hourE_dir dd1] at H1
  have F2 := fun w ht => phasorOf_all (t * 0) (t * 1) (t * 0) (t * 0) (t * 0) (t * 1) (t * 1) (t * 0) (t * 0) w ⟨⟨lim 0 (by decide) (by decide), lim 1 (by decide) (by decide), lim 0 (by decide) (by decide)⟩, ⟨lim 0 (by decide) (by decide), lim 0 (by decide) (by decide), lim 1 (by decide) (by decide)⟩, ⟨lim 1 (by decide) (by decide), lim 0 (by decide) (by decide), lim 0 (by decide) (by decide)⟩⟩ ht
  rw [show (t * 0) - (t * 1) = t * (-1) from by omega] at F2
  have pe2 : pErr (t * (-1)) (t * (-1)) = 0 := pErr_in (by omega) (by omega) (by omega) (by omega)
  have Q2 := fun w => squareOf_ok (t * (-1)) (t * (-1)) w pe2
  rw [show sqV (t * (-1)) (t * (-1)) = 1 * (n * n) from by rw [sqV_t, tt]; rfl] at Q2
  have dd2 : Dir (t * (-1)) (t * (-1)) 2 := Dir.d2 (by omega) (by omega)
  have H2 := fun w ht => hoursOf_ok (t * (-1)) (t * (-1)) w pe2 ht
  rw [hourV_dir dd2, hourE_dir dd2] at H2
  exact balanced_1 n 2 (t * 0) (t * 0) (t * 1) (t * 1) (t * 0) (t * 0) (t * 0) (t * 1) (t * 0) (t * 0) (t * 1) (t * 1) (t * 0) (t * (-1)) (t * (-1)) 10 6 2 (1 * (n * n)) 0 (t * 1) (t * 1) (t * 1) (t * 0) (t * 1) r w ht (wrap_in rfl (by omega) (by omega)) (wrap_in (by omega) (by omega) (by omega)) (wrap_in rfl (by omega) (by omega)) (wrap_in (by omega) (by omega) (by omega)) (wrap_in (by omega) (by omega) (by omega)) (wrap_in rfl (by omega) (by omega)) (wrap_in (by omega) (by omega) (by omega)) (wrap_in (by omega) (by omega) (by omega)) (Lib.hid E) (Lib.hid KL) (Lib.hid S) (Lib.hid F0) (Lib.hid Q0) (Lib.hid H0) (Lib.hid (fun w => hourW 10 w (by decide) (by decide))) (Lib.hid F1) (Lib.hid Q1) (Lib.hid H1) (Lib.hid (fun w => hourW 6 w (by decide) (by decide))) (Lib.hid F2) (Lib.hid Q2) (Lib.hid H2) (Lib.hid (fun w => hourW 2 w (by decide) (by decide)))
set_option maxRecDepth 100000 in
set_option maxHeartbeats 2000000 in
theorem bal_20p (n t : Int) (r : Bool) (w : World) (ht : Tabs w) (n0 : 1 ≤ n) (n1 : n ≤ 2000) (e : t = n) (E : ∀ w, Calls Tryd.prog 19 #[.agg #[.int .i64 2, .int .i64 n, .int .i64 0, .bool r]] w fun e w' => e = .returned (.int .i64 0) ∧ Below w.heap.size w w') (KL : ∀ w, Tabs w → Calls Tryd.prog 17 #[.agg #[.int .i64 2, .int .i64 n, .int .i64 0, .bool r]] w fun e w' => e = .returned (.tuple #[.agg #[.int .i64 (t * 1), .int .i64 (t * (-2)), .int .i64 (t * 1), .int .i64 (t * 1), .int .i64 (t * 1), .int .i64 (t * (-2)), .int .i64 (t * (-2)), .int .i64 (t * 1), .int .i64 (t * 1)], .int .i64 0]) ∧ Below w.heap.size w w') :
    Calls Tryd.prog 4 #[.agg #[.int .i64 2, .int .i64 n, .int .i64 0, .bool r]] w fun e w' => e = .returned (.bool true) ∧ Below w.heap.size w w' := by
  have t0 : -2000 ≤ t := by omega
  have t1 : t ≤ 2000 := by omega
  have tt : t * t = n * n := by rw [e]
  have nn := mul_bd (m := 2000) (n := 2000) (show -2000 ≤ n by omega) n1 (show -2000 ≤ n by omega) n1
  have lim : ∀ c : Int, -2 ≤ c → c ≤ 2 → Lim (t * c) := fun c a b => by
    have := mul_bd t0 t1 a b
    exact ⟨by omega, by omega⟩
  have S := fun w ht => sequenceOf_ok (t * 1) (t * (-2)) (t * 1) (t * 1) (t * 1) (t * (-2)) (t * (-2)) (t * 1) (t * 1) w ⟨⟨lim 1 (by decide) (by decide), lim (-2) (by decide) (by decide), lim 1 (by decide) (by decide)⟩, ⟨lim 1 (by decide) (by decide), lim 1 (by decide) (by decide), lim (-2) (by decide) (by decide)⟩, ⟨lim (-2) (by decide) (by decide), lim 1 (by decide) (by decide), lim 1 (by decide) (by decide)⟩⟩ ht
  have sv : seqV ((t * 1) - (t * (-2))) ((t * 1) - (t * (-2))) ((t * 1) - (t * 1)) ((t * (-2)) - (t * 1)) ((t * (-2)) - (t * 1)) ((t * 1) - (t * 1)) = 1 := by
    unfold seqV
    rw [if_neg (by simp <;> omega), if_pos (by simp [foB, fol1] <;> omega)]
  have se : seqE ((t * 1) - (t * (-2))) ((t * 1) - (t * (-2))) ((t * 1) - (t * 1)) ((t * (-2)) - (t * 1)) ((t * (-2)) - (t * 1)) ((t * 1) - (t * 1)) = 0 := by
    unfold seqE
    rw [if_neg (by simp <;> omega), if_pos (by simp [foB, fol1] <;> omega)]
  rw [sv, se] at S
  have F0 := fun w ht => phasorOf_all (t * 1) (t * (-2)) (t * 1) (t * 1) (t * 1) (t * (-2)) (t * (-2)) (t * 1) (t * 1) w ⟨⟨lim 1 (by decide) (by decide), lim (-2) (by decide) (by decide), lim 1 (by decide) (by decide)⟩, ⟨lim 1 (by decide) (by decide), lim 1 (by decide) (by decide), lim (-2) (by decide) (by decide)⟩, ⟨lim (-2) (by decide) (by decide), lim 1 (by decide) (by decide), lim 1 (by decide) (by decide)⟩⟩ ht
  rw [show (t * 1) - (t * (-2)) = t * 3 from by omega] at F0
  have pe0 : pErr (t * 3) (t * 3) = 0 := pErr_in (by omega) (by omega) (by omega) (by omega)
  have Q0 := fun w => squareOf_ok (t * 3) (t * 3) w pe0
  rw [show sqV (t * 3) (t * 3) = 9 * (n * n) from by rw [sqV_t, tt]; rfl] at Q0
  have dd0 : Dir (t * 3) (t * 3) 2 := Dir.d2 (by omega) (by omega)
  have H0 := fun w ht => hoursOf_ok (t * 3) (t * 3) w pe0 ht
  rw [hourV_dir dd0, hourE_dir dd0] at H0
  have F1 := fun w ht => phasorOf_all (t * 1) (t * 1) (t * (-2)) (t * (-2)) (t * 1) (t * 1) (t * 1) (t * (-2)) (t * 1) w ⟨⟨lim 1 (by decide) (by decide), lim 1 (by decide) (by decide), lim (-2) (by decide) (by decide)⟩, ⟨lim (-2) (by decide) (by decide), lim 1 (by decide) (by decide), lim 1 (by decide) (by decide)⟩, ⟨lim 1 (by decide) (by decide), lim (-2) (by decide) (by decide), lim 1 (by decide) (by decide)⟩⟩ ht
  rw [show (t * 1) - (t * 1) = t * 0 from by omega, show (t * (-2)) - (t * 1) = t * (-3) from by omega] at F1
  have pe1 : pErr (t * 0) (t * (-3)) = 0 := pErr_in (by omega) (by omega) (by omega) (by omega)
  have Q1 := fun w => squareOf_ok (t * 0) (t * (-3)) w pe1
  rw [show sqV (t * 0) (t * (-3)) = 9 * (n * n) from by rw [sqV_t, tt]; rfl] at Q1
  have dd1 : Dir (t * 0) (t * (-3)) 10 := Dir.d10 (by omega) (by omega)
  have H1 := fun w ht => hoursOf_ok (t * 0) (t * (-3)) w pe1 ht
  rw [hourV_dir dd1, hourE_dir dd1] at H1
  have F2 := fun w ht => phasorOf_all (t * (-2)) (t * 1) (t * 1) (t * 1) (t * (-2)) (t * 1) (t * 1) (t * 1) (t * (-2)) w ⟨⟨lim (-2) (by decide) (by decide), lim 1 (by decide) (by decide), lim 1 (by decide) (by decide)⟩, ⟨lim 1 (by decide) (by decide), lim (-2) (by decide) (by decide), lim 1 (by decide) (by decide)⟩, ⟨lim 1 (by decide) (by decide), lim 1 (by decide) (by decide), lim (-2) (by decide) (by decide)⟩⟩ ht
  rw [show (t * (-2)) - (t * 1) = t * (-3) from by omega, show (t * 1) - (t * 1) = t * 0 from by omega] at F2
  have pe2 : pErr (t * (-3)) (t * 0) = 0 := pErr_in (by omega) (by omega) (by omega) (by omega)
  have Q2 := fun w => squareOf_ok (t * (-3)) (t * 0) w pe2
  rw [show sqV (t * (-3)) (t * 0) = 9 * (n * n) from by rw [sqV_t, tt]; rfl] at Q2
  have dd2 : Dir (t * (-3)) (t * 0) 6 := Dir.d6 (by omega) (by omega)
  have H2 := fun w ht => hoursOf_ok (t * (-3)) (t * 0) w pe2 ht
  rw [hourV_dir dd2, hourE_dir dd2] at H2
  exact balanced_2 n 0 (t * 1) (t * (-2)) (t * 1) (t * 1) (t * 1) (t * (-2)) (t * (-2)) (t * 1) (t * 1) (t * 3) (t * 3) (t * 0) (t * (-3)) (t * (-3)) (t * 0) 2 10 6 (9 * (n * n)) (9 * n) (t * 3) (t * 0) (t * 2) (t * (-1)) (t * (-1)) r w ht (wrap_in rfl (by omega) (by omega)) (wrap_in (by rw [Int.mul_assoc]) (by omega) (by omega)) (wrap_in rfl (by omega) (by omega)) (wrap_in (by omega) (by omega) (by omega)) (wrap_in (by omega) (by omega) (by omega)) (wrap_in rfl (by omega) (by omega)) (wrap_in (by omega) (by omega) (by omega)) (wrap_in (by omega) (by omega) (by omega)) (wrap_in (by omega) (by omega) (by omega)) (wrap_in (by omega) (by omega) (by omega)) (wrap_in (by omega) (by omega) (by omega)) (wrap_in (by omega) (by omega) (by omega)) (wrap_in (by omega) (by omega) (by omega)) (wrap_in (by omega) (by omega) (by omega)) (Lib.hid E) (Lib.hid KL) (Lib.hid S) (Lib.hid F0) (Lib.hid Q0) (Lib.hid H0) (Lib.hid (fun w => hourW 2 w (by decide) (by decide))) (Lib.hid F1) (Lib.hid Q1) (Lib.hid H1) (Lib.hid (fun w => hourW 10 w (by decide) (by decide))) (Lib.hid F2) (Lib.hid Q2) (Lib.hid H2) (Lib.hid (fun w => hourW 6 w (by decide) (by decide)))
set_option maxRecDepth 100000 in
set_option maxHeartbeats 2000000 in
theorem bal_20m (n t : Int) (r : Bool) (w : World) (ht : Tabs w) (n0 : 1 ≤ n) (n1 : n ≤ 2000) (e : t = -n) (E : ∀ w, Calls Tryd.prog 19 #[.agg #[.int .i64 2, .int .i64 n, .int .i64 0, .bool r]] w fun e w' => e = .returned (.int .i64 0) ∧ Below w.heap.size w w') (KL : ∀ w, Tabs w → Calls Tryd.prog 17 #[.agg #[.int .i64 2, .int .i64 n, .int .i64 0, .bool r]] w fun e w' => e = .returned (.tuple #[.agg #[.int .i64 (t * 1), .int .i64 (t * (-2)), .int .i64 (t * 1), .int .i64 (t * 1), .int .i64 (t * 1), .int .i64 (t * (-2)), .int .i64 (t * (-2)), .int .i64 (t * 1), .int .i64 (t * 1)], .int .i64 0]) ∧ Below w.heap.size w w') :
    Calls Tryd.prog 4 #[.agg #[.int .i64 2, .int .i64 n, .int .i64 0, .bool r]] w fun e w' => e = .returned (.bool true) ∧ Below w.heap.size w w' := by
  have t0 : -2000 ≤ t := by omega
  have t1 : t ≤ 2000 := by omega
  have tt : t * t = n * n := by rw [e]; exact Int.neg_mul_neg n n
  have nn := mul_bd (m := 2000) (n := 2000) (show -2000 ≤ n by omega) n1 (show -2000 ≤ n by omega) n1
  have lim : ∀ c : Int, -2 ≤ c → c ≤ 2 → Lim (t * c) := fun c a b => by
    have := mul_bd t0 t1 a b
    exact ⟨by omega, by omega⟩
  have S := fun w ht => sequenceOf_ok (t * 1) (t * (-2)) (t * 1) (t * 1) (t * 1) (t * (-2)) (t * (-2)) (t * 1) (t * 1) w ⟨⟨lim 1 (by decide) (by decide), lim (-2) (by decide) (by decide), lim 1 (by decide) (by decide)⟩, ⟨lim 1 (by decide) (by decide), lim 1 (by decide) (by decide), lim (-2) (by decide) (by decide)⟩, ⟨lim (-2) (by decide) (by decide), lim 1 (by decide) (by decide), lim 1 (by decide) (by decide)⟩⟩ ht
  have sv : seqV ((t * 1) - (t * (-2))) ((t * 1) - (t * (-2))) ((t * 1) - (t * 1)) ((t * (-2)) - (t * 1)) ((t * (-2)) - (t * 1)) ((t * 1) - (t * 1)) = 1 := by
    unfold seqV
    rw [if_neg (by simp <;> omega), if_pos (by simp [foB, fol1] <;> omega)]
  have se : seqE ((t * 1) - (t * (-2))) ((t * 1) - (t * (-2))) ((t * 1) - (t * 1)) ((t * (-2)) - (t * 1)) ((t * (-2)) - (t * 1)) ((t * 1) - (t * 1)) = 0 := by
    unfold seqE
    rw [if_neg (by simp <;> omega), if_pos (by simp [foB, fol1] <;> omega)]
  rw [sv, se] at S
  have F0 := fun w ht => phasorOf_all (t * 1) (t * (-2)) (t * 1) (t * 1) (t * 1) (t * (-2)) (t * (-2)) (t * 1) (t * 1) w ⟨⟨lim 1 (by decide) (by decide), lim (-2) (by decide) (by decide), lim 1 (by decide) (by decide)⟩, ⟨lim 1 (by decide) (by decide), lim 1 (by decide) (by decide), lim (-2) (by decide) (by decide)⟩, ⟨lim (-2) (by decide) (by decide), lim 1 (by decide) (by decide), lim 1 (by decide) (by decide)⟩⟩ ht
  rw [show (t * 1) - (t * (-2)) = t * 3 from by omega] at F0
  have pe0 : pErr (t * 3) (t * 3) = 0 := pErr_in (by omega) (by omega) (by omega) (by omega)
  have Q0 := fun w => squareOf_ok (t * 3) (t * 3) w pe0
  rw [show sqV (t * 3) (t * 3) = 9 * (n * n) from by rw [sqV_t, tt]; rfl] at Q0
  have dd0 : Dir (t * 3) (t * 3) 8 := Dir.d8 (by omega) (by omega)
  have H0 := fun w ht => hoursOf_ok (t * 3) (t * 3) w pe0 ht
  rw [hourV_dir dd0, hourE_dir dd0] at H0
  have F1 := fun w ht => phasorOf_all (t * 1) (t * 1) (t * (-2)) (t * (-2)) (t * 1) (t * 1) (t * 1) (t * (-2)) (t * 1) w ⟨⟨lim 1 (by decide) (by decide), lim 1 (by decide) (by decide), lim (-2) (by decide) (by decide)⟩, ⟨lim (-2) (by decide) (by decide), lim 1 (by decide) (by decide), lim 1 (by decide) (by decide)⟩, ⟨lim 1 (by decide) (by decide), lim (-2) (by decide) (by decide), lim 1 (by decide) (by decide)⟩⟩ ht
  rw [show (t * 1) - (t * 1) = t * 0 from by omega, show (t * (-2)) - (t * 1) = t * (-3) from by omega] at F1
  have pe1 : pErr (t * 0) (t * (-3)) = 0 := pErr_in (by omega) (by omega) (by omega) (by omega)
  have Q1 := fun w => squareOf_ok (t * 0) (t * (-3)) w pe1
  rw [show sqV (t * 0) (t * (-3)) = 9 * (n * n) from by rw [sqV_t, tt]; rfl] at Q1
  have dd1 : Dir (t * 0) (t * (-3)) 4 := Dir.d4 (by omega) (by omega)
  have H1 := fun w ht => hoursOf_ok (t * 0) (t * (-3)) w pe1 ht
  rw [hourV_dir dd1, hourE_dir dd1] at H1
  have F2 := fun w ht => phasorOf_all (t * (-2)) (t * 1) (t * 1) (t * 1) (t * (-2)) (t * 1) (t * 1) (t * 1) (t * (-2)) w ⟨⟨lim (-2) (by decide) (by decide), lim 1 (by decide) (by decide), lim 1 (by decide) (by decide)⟩, ⟨lim 1 (by decide) (by decide), lim (-2) (by decide) (by decide), lim 1 (by decide) (by decide)⟩, ⟨lim 1 (by decide) (by decide), lim 1 (by decide) (by decide), lim (-2) (by decide) (by decide)⟩⟩ ht
  rw [show (t * (-2)) - (t * 1) = t * (-3) from by omega, show (t * 1) - (t * 1) = t * 0 from by omega] at F2
  have pe2 : pErr (t * (-3)) (t * 0) = 0 := pErr_in (by omega) (by omega) (by omega) (by omega)
  have Q2 := fun w => squareOf_ok (t * (-3)) (t * 0) w pe2
  rw [show sqV (t * (-3)) (t * 0) = 9 * (n * n) from by rw [sqV_t, tt]; rfl] at Q2
  have dd2 : Dir (t * (-3)) (t * 0) 0 := Dir.d0 (by omega) (by omega)
  have H2 := fun w ht => hoursOf_ok (t * (-3)) (t * 0) w pe2 ht
  rw [hourV_dir dd2, hourE_dir dd2] at H2
  exact balanced_2 n 0 (t * 1) (t * (-2)) (t * 1) (t * 1) (t * 1) (t * (-2)) (t * (-2)) (t * 1) (t * 1) (t * 3) (t * 3) (t * 0) (t * (-3)) (t * (-3)) (t * 0) 8 4 0 (9 * (n * n)) (9 * n) (t * 3) (t * 0) (t * 2) (t * (-1)) (t * (-1)) r w ht (wrap_in rfl (by omega) (by omega)) (wrap_in (by rw [Int.mul_assoc]) (by omega) (by omega)) (wrap_in rfl (by omega) (by omega)) (wrap_in (by omega) (by omega) (by omega)) (wrap_in (by omega) (by omega) (by omega)) (wrap_in rfl (by omega) (by omega)) (wrap_in (by omega) (by omega) (by omega)) (wrap_in (by omega) (by omega) (by omega)) (wrap_in (by omega) (by omega) (by omega)) (wrap_in (by omega) (by omega) (by omega)) (wrap_in (by omega) (by omega) (by omega)) (wrap_in (by omega) (by omega) (by omega)) (wrap_in (by omega) (by omega) (by omega)) (wrap_in (by omega) (by omega) (by omega)) (Lib.hid E) (Lib.hid KL) (Lib.hid S) (Lib.hid F0) (Lib.hid Q0) (Lib.hid H0) (Lib.hid (fun w => hourW 8 w (by decide) (by decide))) (Lib.hid F1) (Lib.hid Q1) (Lib.hid H1) (Lib.hid (fun w => hourW 4 w (by decide) (by decide))) (Lib.hid F2) (Lib.hid Q2) (Lib.hid H2) (Lib.hid (fun w => hourW 0 w (by decide) (by decide)))
set_option maxRecDepth 100000 in
set_option maxHeartbeats 2000000 in
theorem bal_21p (n t : Int) (r : Bool) (w : World) (ht : Tabs w) (n0 : 1 ≤ n) (n1 : n ≤ 2000) (e : t = n) (E : ∀ w, Calls Tryd.prog 19 #[.agg #[.int .i64 2, .int .i64 n, .int .i64 1, .bool r]] w fun e w' => e = .returned (.int .i64 0) ∧ Below w.heap.size w w') (KL : ∀ w, Tabs w → Calls Tryd.prog 17 #[.agg #[.int .i64 2, .int .i64 n, .int .i64 1, .bool r]] w fun e w' => e = .returned (.tuple #[.agg #[.int .i64 (t * 1), .int .i64 (t * 1), .int .i64 (t * (-2)), .int .i64 (t * (-2)), .int .i64 (t * 1), .int .i64 (t * 1), .int .i64 (t * 1), .int .i64 (t * (-2)), .int .i64 (t * 1)], .int .i64 0]) ∧ Below w.heap.size w w') :
    Calls Tryd.prog 4 #[.agg #[.int .i64 2, .int .i64 n, .int .i64 1, .bool r]] w fun e w' => e = .returned (.bool true) ∧ Below w.heap.size w w' := by
  have t0 : -2000 ≤ t := by omega
  have t1 : t ≤ 2000 := by omega
  have tt : t * t = n * n := by rw [e]
  have nn := mul_bd (m := 2000) (n := 2000) (show -2000 ≤ n by omega) n1 (show -2000 ≤ n by omega) n1
  have lim : ∀ c : Int, -2 ≤ c → c ≤ 2 → Lim (t * c) := fun c a b => by
    have := mul_bd t0 t1 a b
    exact ⟨by omega, by omega⟩
  have S := fun w ht => sequenceOf_ok (t * 1) (t * 1) (t * (-2)) (t * (-2)) (t * 1) (t * 1) (t * 1) (t * (-2)) (t * 1) w ⟨⟨lim 1 (by decide) (by decide), lim 1 (by decide) (by decide), lim (-2) (by decide) (by decide)⟩, ⟨lim (-2) (by decide) (by decide), lim 1 (by decide) (by decide), lim 1 (by decide) (by decide)⟩, ⟨lim 1 (by decide) (by decide), lim (-2) (by decide) (by decide), lim 1 (by decide) (by decide)⟩⟩ ht
  have sv : seqV ((t * 1) - (t * 1)) ((t * (-2)) - (t * 1)) ((t * (-2)) - (t * 1)) ((t * 1) - (t * 1)) ((t * 1) - (t * (-2))) ((t * 1) - (t * (-2))) = 1 := by
    unfold seqV
    rw [if_neg (by simp <;> omega), if_pos (by simp [foB, fol1] <;> omega)]
  have se : seqE ((t * 1) - (t * 1)) ((t * (-2)) - (t * 1)) ((t * (-2)) - (t * 1)) ((t * 1) - (t * 1)) ((t * 1) - (t * (-2))) ((t * 1) - (t * (-2))) = 0 := by
    unfold seqE
    rw [if_neg (by simp <;> omega), if_pos (by simp [foB, fol1] <;> omega)]
  rw [sv, se] at S
  have F0 := fun w ht => phasorOf_all (t * 1) (t * 1) (t * (-2)) (t * (-2)) (t * 1) (t * 1) (t * 1) (t * (-2)) (t * 1) w ⟨⟨lim 1 (by decide) (by decide), lim 1 (by decide) (by decide), lim (-2) (by decide) (by decide)⟩, ⟨lim (-2) (by decide) (by decide), lim 1 (by decide) (by decide), lim 1 (by decide) (by decide)⟩, ⟨lim 1 (by decide) (by decide), lim (-2) (by decide) (by decide), lim 1 (by decide) (by decide)⟩⟩ ht
  rw [show (t * 1) - (t * 1) = t * 0 from by omega, show (t * (-2)) - (t * 1) = t * (-3) from by omega] at F0
  have pe0 : pErr (t * 0) (t * (-3)) = 0 := pErr_in (by omega) (by omega) (by omega) (by omega)
  have Q0 := fun w => squareOf_ok (t * 0) (t * (-3)) w pe0
  rw [show sqV (t * 0) (t * (-3)) = 9 * (n * n) from by rw [sqV_t, tt]; rfl] at Q0
  have dd0 : Dir (t * 0) (t * (-3)) 10 := Dir.d10 (by omega) (by omega)
  have H0 := fun w ht => hoursOf_ok (t * 0) (t * (-3)) w pe0 ht
  rw [hourV_dir dd0, hourE_dir dd0] at H0
  have F1 := fun w ht => phasorOf_all (t * (-2)) (t * 1) (t * 1) (t * 1) (t * (-2)) (t * 1) (t * 1) (t * 1) (t * (-2)) w ⟨⟨lim (-2) (by decide) (by decide), lim 1 (by decide) (by decide), lim 1 (by decide) (by decide)⟩, ⟨lim 1 (by decide) (by decide), lim (-2) (by decide) (by decide), lim 1 (by decide) (by decide)⟩, ⟨lim 1 (by decide) (by decide), lim 1 (by decide) (by decide), lim (-2) (by decide) (by decide)⟩⟩ ht
  rw [show (t * (-2)) - (t * 1) = t * (-3) from by omega, show (t * 1) - (t * 1) = t * 0 from by omega] at F1
  have pe1 : pErr (t * (-3)) (t * 0) = 0 := pErr_in (by omega) (by omega) (by omega) (by omega)
  have Q1 := fun w => squareOf_ok (t * (-3)) (t * 0) w pe1
  rw [show sqV (t * (-3)) (t * 0) = 9 * (n * n) from by rw [sqV_t, tt]; rfl] at Q1
  have dd1 : Dir (t * (-3)) (t * 0) 6 := Dir.d6 (by omega) (by omega)
  have H1 := fun w ht => hoursOf_ok (t * (-3)) (t * 0) w pe1 ht
  rw [hourV_dir dd1, hourE_dir dd1] at H1
  have F2 := fun w ht => phasorOf_all (t * 1) (t * (-2)) (t * 1) (t * 1) (t * 1) (t * (-2)) (t * (-2)) (t * 1) (t * 1) w ⟨⟨lim 1 (by decide) (by decide), lim (-2) (by decide) (by decide), lim 1 (by decide) (by decide)⟩, ⟨lim 1 (by decide) (by decide), lim 1 (by decide) (by decide), lim (-2) (by decide) (by decide)⟩, ⟨lim (-2) (by decide) (by decide), lim 1 (by decide) (by decide), lim 1 (by decide) (by decide)⟩⟩ ht
  rw [show (t * 1) - (t * (-2)) = t * 3 from by omega] at F2
  have pe2 : pErr (t * 3) (t * 3) = 0 := pErr_in (by omega) (by omega) (by omega) (by omega)
  have Q2 := fun w => squareOf_ok (t * 3) (t * 3) w pe2
  rw [show sqV (t * 3) (t * 3) = 9 * (n * n) from by rw [sqV_t, tt]; rfl] at Q2
  have dd2 : Dir (t * 3) (t * 3) 2 := Dir.d2 (by omega) (by omega)
  have H2 := fun w ht => hoursOf_ok (t * 3) (t * 3) w pe2 ht
  rw [hourV_dir dd2, hourE_dir dd2] at H2
  exact balanced_2 n 1 (t * 1) (t * 1) (t * (-2)) (t * (-2)) (t * 1) (t * 1) (t * 1) (t * (-2)) (t * 1) (t * 0) (t * (-3)) (t * (-3)) (t * 0) (t * 3) (t * 3) 10 6 2 (9 * (n * n)) (9 * n) (t * (-3)) (t * (-3)) (t * (-1)) (t * 2) (t * (-1)) r w ht (wrap_in rfl (by omega) (by omega)) (wrap_in (by rw [Int.mul_assoc]) (by omega) (by omega)) (wrap_in rfl (by omega) (by omega)) (wrap_in (by omega) (by omega) (by omega)) (wrap_in (by omega) (by omega) (by omega)) (wrap_in rfl (by omega) (by omega)) (wrap_in (by omega) (by omega) (by omega)) (wrap_in (by omega) (by omega) (by omega)) (wrap_in (by omega) (by omega) (by omega)) (wrap_in (by omega) (by omega) (by omega)) (wrap_in (by omega) (by omega) (by omega)) (wrap_in (by omega) (by omega) (by omega)) (wrap_in (by omega) (by omega) (by omega)) (wrap_in (by omega) (by omega) (by omega)) (Lib.hid E) (Lib.hid KL) (Lib.hid S) (Lib.hid F0) (Lib.hid Q0) (Lib.hid H0) (Lib.hid (fun w => hourW 10 w (by decide) (by decide))) (Lib.hid F1) (Lib.hid Q1) (Lib.hid H1) (Lib.hid (fun w => hourW 6 w (by decide) (by decide))) (Lib.hid F2) (Lib.hid Q2) (Lib.hid H2) (Lib.hid (fun w => hourW 2 w (by decide) (by decide)))
set_option maxRecDepth 100000 in
set_option maxHeartbeats 2000000 in
theorem bal_21m (n t : Int) (r : Bool) (w : World) (ht : Tabs w) (n0 : 1 ≤ n) (n1 : n ≤ 2000) (e : t = -n) (E : ∀ w, Calls Tryd.prog 19 #[.agg #[.int .i64 2, .int .i64 n, .int .i64 1, .bool r]] w fun e w' => e = .returned (.int .i64 0) ∧ Below w.heap.size w w') (KL : ∀ w, Tabs w → Calls Tryd.prog 17 #[.agg #[.int .i64 2, .int .i64 n, .int .i64 1, .bool r]] w fun e w' => e = .returned (.tuple #[.agg #[.int .i64 (t * 1), .int .i64 (t * 1), .int .i64 (t * (-2)), .int .i64 (t * (-2)), .int .i64 (t * 1), .int .i64 (t * 1), .int .i64 (t * 1), .int .i64 (t * (-2)), .int .i64 (t * 1)], .int .i64 0]) ∧ Below w.heap.size w w') :
    Calls Tryd.prog 4 #[.agg #[.int .i64 2, .int .i64 n, .int .i64 1, .bool r]] w fun e w' => e = .returned (.bool true) ∧ Below w.heap.size w w' := by
  have t0 : -2000 ≤ t := by omega
  have t1 : t ≤ 2000 := by omega
  have tt : t * t = n * n := by rw [e]; exact Int.neg_mul_neg n n
  have nn := mul_bd (m := 2000) (n := 2000) (show -2000 ≤ n by omega) n1 (show -2000 ≤ n by omega) n1
  have lim : ∀ c : Int, -2 ≤ c → c ≤ 2 → Lim (t * c) := fun c a b => by
    have := mul_bd t0 t1 a b
    exact ⟨by omega, by omega⟩
  have S := fun w ht => sequenceOf_ok (t * 1) (t * 1) (t * (-2)) (t * (-2)) (t * 1) (t * 1) (t * 1) (t * (-2)) (t * 1) w ⟨⟨lim 1 (by decide) (by decide), lim 1 (by decide) (by decide), lim (-2) (by decide) (by decide)⟩, ⟨lim (-2) (by decide) (by decide), lim 1 (by decide) (by decide), lim 1 (by decide) (by decide)⟩, ⟨lim 1 (by decide) (by decide), lim (-2) (by decide) (by decide), lim 1 (by decide) (by decide)⟩⟩ ht
  have sv : seqV ((t * 1) - (t * 1)) ((t * (-2)) - (t * 1)) ((t * (-2)) - (t * 1)) ((t * 1) - (t * 1)) ((t * 1) - (t * (-2))) ((t * 1) - (t * (-2))) = 1 := by
    unfold seqV
    rw [if_neg (by simp <;> omega), if_pos (by simp [foB, fol1] <;> omega)]
  have se : seqE ((t * 1) - (t * 1)) ((t * (-2)) - (t * 1)) ((t * (-2)) - (t * 1)) ((t * 1) - (t * 1)) ((t * 1) - (t * (-2))) ((t * 1) - (t * (-2))) = 0 := by
    unfold seqE
    rw [if_neg (by simp <;> omega), if_pos (by simp [foB, fol1] <;> omega)]
  rw [sv, se] at S
  have F0 := fun w ht => phasorOf_all (t * 1) (t * 1) (t * (-2)) (t * (-2)) (t * 1) (t * 1) (t * 1) (t * (-2)) (t * 1) w ⟨⟨lim 1 (by decide) (by decide), lim 1 (by decide) (by decide), lim (-2) (by decide) (by decide)⟩, ⟨lim (-2) (by decide) (by decide), lim 1 (by decide) (by decide), lim 1 (by decide) (by decide)⟩, ⟨lim 1 (by decide) (by decide), lim (-2) (by decide) (by decide), lim 1 (by decide) (by decide)⟩⟩ ht
  rw [show (t * 1) - (t * 1) = t * 0 from by omega, show (t * (-2)) - (t * 1) = t * (-3) from by omega] at F0
  have pe0 : pErr (t * 0) (t * (-3)) = 0 := pErr_in (by omega) (by omega) (by omega) (by omega)
  have Q0 := fun w => squareOf_ok (t * 0) (t * (-3)) w pe0
  rw [show sqV (t * 0) (t * (-3)) = 9 * (n * n) from by rw [sqV_t, tt]; rfl] at Q0
  have dd0 : Dir (t * 0) (t * (-3)) 4 := Dir.d4 (by omega) (by omega)
  have H0 := fun w ht => hoursOf_ok (t * 0) (t * (-3)) w pe0 ht
  rw [hourV_dir dd0, hourE_dir dd0] at H0
  have F1 := fun w ht => phasorOf_all (t * (-2)) (t * 1) (t * 1) (t * 1) (t * (-2)) (t * 1) (t * 1) (t * 1) (t * (-2)) w ⟨⟨lim (-2) (by decide) (by decide), lim 1 (by decide) (by decide), lim 1 (by decide) (by decide)⟩, ⟨lim 1 (by decide) (by decide), lim (-2) (by decide) (by decide), lim 1 (by decide) (by decide)⟩, ⟨lim 1 (by decide) (by decide), lim 1 (by decide) (by decide), lim (-2) (by decide) (by decide)⟩⟩ ht
  rw [show (t * (-2)) - (t * 1) = t * (-3) from by omega, show (t * 1) - (t * 1) = t * 0 from by omega] at F1
  have pe1 : pErr (t * (-3)) (t * 0) = 0 := pErr_in (by omega) (by omega) (by omega) (by omega)
  have Q1 := fun w => squareOf_ok (t * (-3)) (t * 0) w pe1
  rw [show sqV (t * (-3)) (t * 0) = 9 * (n * n) from by rw [sqV_t, tt]; rfl] at Q1
  have dd1 : Dir (t * (-3)) (t * 0) 0 := Dir.d0 (by omega) (by omega)
  have H1 := fun w ht => hoursOf_ok (t * (-3)) (t * 0) w pe1 ht
  rw [hourV_dir dd1, hourE_dir dd1] at H1
  have F2 := fun w ht => phasorOf_all (t * 1) (t * (-2)) (t * 1) (t * 1) (t * 1) (t * (-2)) (t * (-2)) (t * 1) (t * 1) w ⟨⟨lim 1 (by decide) (by decide), lim (-2) (by decide) (by decide), lim 1 (by decide) (by decide)⟩, ⟨lim 1 (by decide) (by decide), lim 1 (by decide) (by decide), lim (-2) (by decide) (by decide)⟩, ⟨lim (-2) (by decide) (by decide), lim 1 (by decide) (by decide), lim 1 (by decide) (by decide)⟩⟩ ht
  rw [show (t * 1) - (t * (-2)) = t * 3 from by omega] at F2
  have pe2 : pErr (t * 3) (t * 3) = 0 := pErr_in (by omega) (by omega) (by omega) (by omega)
  have Q2 := fun w => squareOf_ok (t * 3) (t * 3) w pe2
  rw [show sqV (t * 3) (t * 3) = 9 * (n * n) from by rw [sqV_t, tt]; rfl] at Q2
  have dd2 : Dir (t * 3) (t * 3) 8 := Dir.d8 (by omega) (by omega)
  have H2 := fun w ht => hoursOf_ok (t * 3) (t * 3) w pe2 ht
  rw [hourV_dir dd2, hourE_dir dd2] at H2
  exact balanced_2 n 1 (t * 1) (t * 1) (t * (-2)) (t * (-2)) (t * 1) (t * 1) (t * 1) (t * (-2)) (t * 1) (t * 0) (t * (-3)) (t * (-3)) (t * 0) (t * 3) (t * 3) 4 0 8 (9 * (n * n)) (9 * n) (t * (-3)) (t * (-3)) (t * (-1)) (t * 2) (t * (-1)) r w ht (wrap_in rfl (by omega) (by omega)) (wrap_in (by rw [Int.mul_assoc]) (by omega) (by omega)) (wrap_in rfl (by omega) (by omega)) (wrap_in (by omega) (by omega) (by omega)) (wrap_in (by omega) (by omega) (by omega)) (wrap_in rfl (by omega) (by omega)) (wrap_in (by omega) (by omega) (by omega)) (wrap_in (by omega) (by omega) (by omega)) (wrap_in (by omega) (by omega) (by omega)) (wrap_in (by omega) (by omega) (by omega)) (wrap_in (by omega) (by omega) (by omega)) (wrap_in (by omega) (by omega) (by omega)) (wrap_in (by omega) (by omega) (by omega)) (wrap_in (by omega) (by omega) (by omega)) (Lib.hid E) (Lib.hid KL) (Lib.hid S) (Lib.hid F0) (Lib.hid Q0) (Lib.hid H0) (Lib.hid (fun w => hourW 4 w (by decide) (by decide))) (Lib.hid F1) (Lib.hid Q1) (Lib.hid H1) (Lib.hid (fun w => hourW 0 w (by decide) (by decide))) (Lib.hid F2) (Lib.hid Q2) (Lib.hid H2) (Lib.hid (fun w => hourW 8 w (by decide) (by decide)))
set_option maxRecDepth 100000 in
set_option maxHeartbeats 2000000 in
theorem bal_22p (n t : Int) (r : Bool) (w : World) (ht : Tabs w) (n0 : 1 ≤ n) (n1 : n ≤ 2000) (e : t = n) (E : ∀ w, Calls Tryd.prog 19 #[.agg #[.int .i64 2, .int .i64 n, .int .i64 2, .bool r]] w fun e w' => e = .returned (.int .i64 0) ∧ Below w.heap.size w w') (KL : ∀ w, Tabs w → Calls Tryd.prog 17 #[.agg #[.int .i64 2, .int .i64 n, .int .i64 2, .bool r]] w fun e w' => e = .returned (.tuple #[.agg #[.int .i64 (t * (-2)), .int .i64 (t * 1), .int .i64 (t * 1), .int .i64 (t * 1), .int .i64 (t * (-2)), .int .i64 (t * 1), .int .i64 (t * 1), .int .i64 (t * 1), .int .i64 (t * (-2))], .int .i64 0]) ∧ Below w.heap.size w w') :
    Calls Tryd.prog 4 #[.agg #[.int .i64 2, .int .i64 n, .int .i64 2, .bool r]] w fun e w' => e = .returned (.bool true) ∧ Below w.heap.size w w' := by
  have t0 : -2000 ≤ t := by omega
  have t1 : t ≤ 2000 := by omega
  have tt : t * t = n * n := by rw [e]
  have nn := mul_bd (m := 2000) (n := 2000) (show -2000 ≤ n by omega) n1 (show -2000 ≤ n by omega) n1
  have lim : ∀ c : Int, -2 ≤ c → c ≤ 2 → Lim (t * c) := fun c a b => by
    have := mul_bd t0 t1 a b
    exact ⟨by omega, by omega⟩
  have S := fun w ht => sequenceOf_ok (t * (-2)) (t * 1) (t * 1) (t * 1) (t * (-2)) (t * 1) (t * 1) (t * 1) (t * (-2)) w ⟨⟨lim (-2) (by decide) (by decide), lim 1 (by decide) (by decide), lim 1 (by decide) (by decide)⟩, ⟨lim 1 (by decide) (by decide), lim (-2) (by decide) (by decide), lim 1 (by decide) (by decide)⟩, ⟨lim 1 (by decide) (by decide), lim 1 (by decide) (by decide), lim (-2) (by decide) (by decide)⟩⟩ ht
  have sv : seqV ((t * (-2)) - (t * 1)) ((t * 1) - (t * 1)) ((t * 1) - (t * (-2))) ((t * 1) - (t * (-2))) ((t * 1) - (t * 1)) ((t * (-2)) - (t * 1)) = 1 := by
    unfold seqV
    rw [if_neg (by simp <;> omega), if_pos (by simp [foB, fol1] <;> omega)]
  have se : seqE ((t * (-2)) - (t * 1)) ((t * 1) - (t * 1)) ((t * 1) - (t * (-2))) ((t * 1) - (t * (-2))) ((t * 1) - (t * 1)) ((t * (-2)) - (t * 1)) = 0 := by
    unfold seqE
    rw [if_neg (by simp <;> omega), if_pos (by simp [foB, fol1] <;> omega)]
  rw [sv, se] at S
  have F0 := fun w ht => phasorOf_all (t * (-2)) (t * 1) (t * 1) (t * 1) (t * (-2)) (t * 1) (t * 1) (t * 1) (t * (-2)) w ⟨⟨lim (-2) (by decide) (by decide), lim 1 (by decide) (by decide), lim 1 (by decide) (by decide)⟩, ⟨lim 1 (by decide) (by decide), lim (-2) (by decide) (by decide), lim 1 (by decide) (by decide)⟩, ⟨lim 1 (by decide) (by decide), lim 1 (by decide) (by decide), lim (-2) (by decide) (by decide)⟩⟩ ht
  rw [show (t * (-2)) - (t * 1) = t * (-3) from by omega, show (t * 1) - (t * 1) = t * 0 from by omega] at F0
  have pe0 : pErr (t * (-3)) (t * 0) = 0 := pErr_in (by omega) (by omega) (by omega) (by omega)
  have Q0 := fun w => squareOf_ok (t * (-3)) (t * 0) w pe0
  rw [show sqV (t * (-3)) (t * 0) = 9 * (n * n) from by rw [sqV_t, tt]; rfl] at Q0
  have dd0 : Dir (t * (-3)) (t * 0) 6 := Dir.d6 (by omega) (by omega)
  have H0 := fun w ht => hoursOf_ok (t * (-3)) (t * 0) w pe0 ht
  rw [hourV_dir dd0, hourE_dir dd0] at H0
  have F1 := fun w ht => phasorOf_all (t * 1) (t * (-2)) (t * 1) (t * 1) (t * 1) (t * (-2)) (t * (-2)) (t * 1) (t * 1) w ⟨⟨lim 1 (by decide) (by decide), lim (-2) (by decide) (by decide), lim 1 (by decide) (by decide)⟩, ⟨lim 1 (by decide) (by decide), lim 1 (by decide) (by decide), lim (-2) (by decide) (by decide)⟩, ⟨lim (-2) (by decide) (by decide), lim 1 (by decide) (by decide), lim 1 (by decide) (by decide)⟩⟩ ht
  rw [show (t * 1) - (t * (-2)) = t * 3 from by omega] at F1
  have pe1 : pErr (t * 3) (t * 3) = 0 := pErr_in (by omega) (by omega) (by omega) (by omega)
  have Q1 := fun w => squareOf_ok (t * 3) (t * 3) w pe1
  rw [show sqV (t * 3) (t * 3) = 9 * (n * n) from by rw [sqV_t, tt]; rfl] at Q1
  have dd1 : Dir (t * 3) (t * 3) 2 := Dir.d2 (by omega) (by omega)
  have H1 := fun w ht => hoursOf_ok (t * 3) (t * 3) w pe1 ht
  rw [hourV_dir dd1, hourE_dir dd1] at H1
  have F2 := fun w ht => phasorOf_all (t * 1) (t * 1) (t * (-2)) (t * (-2)) (t * 1) (t * 1) (t * 1) (t * (-2)) (t * 1) w ⟨⟨lim 1 (by decide) (by decide), lim 1 (by decide) (by decide), lim (-2) (by decide) (by decide)⟩, ⟨lim (-2) (by decide) (by decide), lim 1 (by decide) (by decide), lim 1 (by decide) (by decide)⟩, ⟨lim 1 (by decide) (by decide), lim (-2) (by decide) (by decide), lim 1 (by decide) (by decide)⟩⟩ ht
  rw [show (t * 1) - (t * 1) = t * 0 from by omega, show (t * (-2)) - (t * 1) = t * (-3) from by omega] at F2
  have pe2 : pErr (t * 0) (t * (-3)) = 0 := pErr_in (by omega) (by omega) (by omega) (by omega)
  have Q2 := fun w => squareOf_ok (t * 0) (t * (-3)) w pe2
  rw [show sqV (t * 0) (t * (-3)) = 9 * (n * n) from by rw [sqV_t, tt]; rfl] at Q2
  have dd2 : Dir (t * 0) (t * (-3)) 10 := Dir.d10 (by omega) (by omega)
  have H2 := fun w ht => hoursOf_ok (t * 0) (t * (-3)) w pe2 ht
  rw [hourV_dir dd2, hourE_dir dd2] at H2
  exact balanced_2 n 2 (t * (-2)) (t * 1) (t * 1) (t * 1) (t * (-2)) (t * 1) (t * 1) (t * 1) (t * (-2)) (t * (-3)) (t * 0) (t * 3) (t * 3) (t * 0) (t * (-3)) 6 2 10 (9 * (n * n)) (9 * n) (t * 0) (t * 3) (t * (-1)) (t * (-1)) (t * 2) r w ht (wrap_in rfl (by omega) (by omega)) (wrap_in (by rw [Int.mul_assoc]) (by omega) (by omega)) (wrap_in rfl (by omega) (by omega)) (wrap_in (by omega) (by omega) (by omega)) (wrap_in (by omega) (by omega) (by omega)) (wrap_in rfl (by omega) (by omega)) (wrap_in (by omega) (by omega) (by omega)) (wrap_in (by omega) (by omega) (by omega)) (wrap_in (by omega) (by omega) (by omega)) (wrap_in (by omega) (by omega) (by omega)) (wrap_in (by omega) (by omega) (by omega)) (wrap_in (by omega) (by omega) (by omega)) (wrap_in (by omega) (by omega) (by omega)) (wrap_in (by omega) (by omega) (by omega)) (Lib.hid E) (Lib.hid KL) (Lib.hid S) (Lib.hid F0) (Lib.hid Q0) (Lib.hid H0) (Lib.hid (fun w => hourW 6 w (by decide) (by decide))) (Lib.hid F1) (Lib.hid Q1) (Lib.hid H1) (Lib.hid (fun w => hourW 2 w (by decide) (by decide))) (Lib.hid F2) (Lib.hid Q2) (Lib.hid H2) (Lib.hid (fun w => hourW 10 w (by decide) (by decide)))
set_option maxRecDepth 100000 in
set_option maxHeartbeats 2000000 in
theorem bal_22m (n t : Int) (r : Bool) (w : World) (ht : Tabs w) (n0 : 1 ≤ n) (n1 : n ≤ 2000) (e : t = -n) (E : ∀ w, Calls Tryd.prog 19 #[.agg #[.int .i64 2, .int .i64 n, .int .i64 2, .bool r]] w fun e w' => e = .returned (.int .i64 0) ∧ Below w.heap.size w w') (KL : ∀ w, Tabs w → Calls Tryd.prog 17 #[.agg #[.int .i64 2, .int .i64 n, .int .i64 2, .bool r]] w fun e w' => e = .returned (.tuple #[.agg #[.int .i64 (t * (-2)), .int .i64 (t * 1), .int .i64 (t * 1), .int .i64 (t * 1), .int .i64 (t * (-2)), .int .i64 (t * 1), .int .i64 (t * 1), .int .i64 (t * 1), .int .i64 (t * (-2))], .int .i64 0]) ∧ Below w.heap.size w w') :
    Calls Tryd.prog 4 #[.agg #[.int .i64 2, .int .i64 n, .int .i64 2, .bool r]] w fun e w' => e = .returned (.bool true) ∧ Below w.heap.size w w' := by
  have t0 : -2000 ≤ t := by omega
  have t1 : t ≤ 2000 := by omega
  have tt : t * t = n * n := by rw [e]; exact Int.neg_mul_neg n n
  have nn := mul_bd (m := 2000) (n := 2000) (show -2000 ≤ n by omega) n1 (show -2000 ≤ n by omega) n1
  have lim : ∀ c : Int, -2 ≤ c → c ≤ 2 → Lim (t * c) := fun c a b => by
    have := mul_bd t0 t1 a b
    exact ⟨by omega, by omega⟩
  have S := fun w ht => sequenceOf_ok (t * (-2)) (t * 1) (t * 1) (t * 1) (t * (-2)) (t * 1) (t * 1) (t * 1) (t * (-2)) w ⟨⟨lim (-2) (by decide) (by decide), lim 1 (by decide) (by decide), lim 1 (by decide) (by decide)⟩, ⟨lim 1 (by decide) (by decide), lim (-2) (by decide) (by decide), lim 1 (by decide) (by decide)⟩, ⟨lim 1 (by decide) (by decide), lim 1 (by decide) (by decide), lim (-2) (by decide) (by decide)⟩⟩ ht
  have sv : seqV ((t * (-2)) - (t * 1)) ((t * 1) - (t * 1)) ((t * 1) - (t * (-2))) ((t * 1) - (t * (-2))) ((t * 1) - (t * 1)) ((t * (-2)) - (t * 1)) = 1 := by
    unfold seqV
    rw [if_neg (by simp <;> omega), if_pos (by simp [foB, fol1] <;> omega)]
  have se : seqE ((t * (-2)) - (t * 1)) ((t * 1) - (t * 1)) ((t * 1) - (t * (-2))) ((t * 1) - (t * (-2))) ((t * 1) - (t * 1)) ((t * (-2)) - (t * 1)) = 0 := by
    unfold seqE
    rw [if_neg (by simp <;> omega), if_pos (by simp [foB, fol1] <;> omega)]
  rw [sv, se] at S
  have F0 := fun w ht => phasorOf_all (t * (-2)) (t * 1) (t * 1) (t * 1) (t * (-2)) (t * 1) (t * 1) (t * 1) (t * (-2)) w ⟨⟨lim (-2) (by decide) (by decide), lim 1 (by decide) (by decide), lim 1 (by decide) (by decide)⟩, ⟨lim 1 (by decide) (by decide), lim (-2) (by decide) (by decide), lim 1 (by decide) (by decide)⟩, ⟨lim 1 (by decide) (by decide), lim 1 (by decide) (by decide), lim (-2) (by decide) (by decide)⟩⟩ ht
  rw [show (t * (-2)) - (t * 1) = t * (-3) from by omega, show (t * 1) - (t * 1) = t * 0 from by omega] at F0
  have pe0 : pErr (t * (-3)) (t * 0) = 0 := pErr_in (by omega) (by omega) (by omega) (by omega)
  have Q0 := fun w => squareOf_ok (t * (-3)) (t * 0) w pe0
  rw [show sqV (t * (-3)) (t * 0) = 9 * (n * n) from by rw [sqV_t, tt]; rfl] at Q0
  have dd0 : Dir (t * (-3)) (t * 0) 0 := Dir.d0 (by omega) (by omega)
  have H0 := fun w ht => hoursOf_ok (t * (-3)) (t * 0) w pe0 ht
  rw [hourV_dir dd0, hourE_dir dd0] at H0
  have F1 := fun w ht => phasorOf_all (t * 1) (t * (-2)) (t * 1) (t * 1) (t * 1) (t * (-2)) (t * (-2)) (t * 1) (t * 1) w ⟨⟨lim 1 (by decide) (by decide), lim (-2) (by decide) (by decide), lim 1 (by decide) (by decide)⟩, ⟨lim 1 (by decide) (by decide), lim 1 (by decide) (by decide), lim (-2) (by decide) (by decide)⟩, ⟨lim (-2) (by decide) (by decide), lim 1 (by decide) (by decide), lim 1 (by decide) (by decide)⟩⟩ ht
  rw [show (t * 1) - (t * (-2)) = t * 3 from by omega] at F1
  have pe1 : pErr (t * 3) (t * 3) = 0 := pErr_in (by omega) (by omega) (by omega) (by omega)
  have Q1 := fun w => squareOf_ok (t * 3) (t * 3) w pe1
  rw [show sqV (t * 3) (t * 3) = 9 * (n * n) from by rw [sqV_t, tt]; rfl] at Q1
  have dd1 : Dir (t * 3) (t * 3) 8 := Dir.d8 (by omega) (by omega)
  have H1 := fun w ht => hoursOf_ok (t * 3) (t * 3) w pe1 ht
  rw [hourV_dir dd1, hourE_dir dd1] at H1
  have F2 := fun w ht => phasorOf_all (t * 1) (t * 1) (t * (-2)) (t * (-2)) (t * 1) (t * 1) (t * 1) (t * (-2)) (t * 1) w ⟨⟨lim 1 (by decide) (by decide), lim 1 (by decide) (by decide), lim (-2) (by decide) (by decide)⟩, ⟨lim (-2) (by decide) (by decide), lim 1 (by decide) (by decide), lim 1 (by decide) (by decide)⟩, ⟨lim 1 (by decide) (by decide), lim (-2) (by decide) (by decide), lim 1 (by decide) (by decide)⟩⟩ ht
  rw [show (t * 1) - (t * 1) = t * 0 from by omega, show (t * (-2)) - (t * 1) = t * (-3) from by omega] at F2
  have pe2 : pErr (t * 0) (t * (-3)) = 0 := pErr_in (by omega) (by omega) (by omega) (by omega)
  have Q2 := fun w => squareOf_ok (t * 0) (t * (-3)) w pe2
  rw [show sqV (t * 0) (t * (-3)) = 9 * (n * n) from by rw [sqV_t, tt]; rfl] at Q2
  have dd2 : Dir (t * 0) (t * (-3)) 4 := Dir.d4 (by omega) (by omega)
  have H2 := fun w ht => hoursOf_ok (t * 0) (t * (-3)) w pe2 ht
  rw [hourV_dir dd2, hourE_dir dd2] at H2
  exact balanced_2 n 2 (t * (-2)) (t * 1) (t * 1) (t * 1) (t * (-2)) (t * 1) (t * 1) (t * 1) (t * (-2)) (t * (-3)) (t * 0) (t * 3) (t * 3) (t * 0) (t * (-3)) 0 8 4 (9 * (n * n)) (9 * n) (t * 0) (t * 3) (t * (-1)) (t * (-1)) (t * 2) r w ht (wrap_in rfl (by omega) (by omega)) (wrap_in (by rw [Int.mul_assoc]) (by omega) (by omega)) (wrap_in rfl (by omega) (by omega)) (wrap_in (by omega) (by omega) (by omega)) (wrap_in (by omega) (by omega) (by omega)) (wrap_in rfl (by omega) (by omega)) (wrap_in (by omega) (by omega) (by omega)) (wrap_in (by omega) (by omega) (by omega)) (wrap_in (by omega) (by omega) (by omega)) (wrap_in (by omega) (by omega) (by omega)) (wrap_in (by omega) (by omega) (by omega)) (wrap_in (by omega) (by omega) (by omega)) (wrap_in (by omega) (by omega) (by omega)) (wrap_in (by omega) (by omega) (by omega)) (Lib.hid E) (Lib.hid KL) (Lib.hid S) (Lib.hid F0) (Lib.hid Q0) (Lib.hid H0) (Lib.hid (fun w => hourW 0 w (by decide) (by decide))) (Lib.hid F1) (Lib.hid Q1) (Lib.hid H1) (Lib.hid (fun w => hourW 8 w (by decide) (by decide))) (Lib.hid F2) (Lib.hid Q2) (Lib.hid H2) (Lib.hid (fun w => hourW 4 w (by decide) (by decide)))
theorem balanced_bad (k n s E : Int) (r : Bool) (w : World) (ht : Tabs w) (tE : (E != 0) = true) (KE : Hid (∀ w, Calls Tryd.prog 19 #[.agg #[.int .i64 k, .int .i64 n, .int .i64 s, .bool r]] w fun e w' => e = .returned (.int .i64 E) ∧ Below w.heap.size w w')) :
    Calls Tryd.prog 4 #[.agg #[.int .i64 k, .int .i64 n, .int .i64 s, .bool r]] w fun e w' => e = .returned (.bool true) ∧ Below w.heap.size w w' := by
  go_enter Tryd.func4, Tryd.ntmps4
  go_wp2_with fail
  refine (awake_any _ (ht.below (by go_grown))).mono ?_
  rintro e w1 ⟨rfl, hb1⟩
  have p1xb : Below w.heap.size w w1 := belowT (by first | (go_grown; done) | exact And.left (by assumption)) hb1
  have p1x0 : w1.cell? ⟨w.heap.size, 0, none⟩ = some (.int .i64 k) := keep1 hb1 (by first | (with_reducible assumption) | (go_simp; done) | ((repeat' (first | (with_reducible assumption) | refine allocC ?_ | refine drewC ?_)); done) | (go_keep; done))
  have p1x1 : w1.cell? ⟨w.heap.size, 1, none⟩ = some (.int .i64 n) := keep1 hb1 (by first | (with_reducible assumption) | (go_simp; done) | ((repeat' (first | (with_reducible assumption) | refine allocC ?_ | refine drewC ?_)); done) | (go_keep; done))
  have p1x2 : w1.cell? ⟨w.heap.size, 2, none⟩ = some (.int .i64 s) := keep1 hb1 (by first | (with_reducible assumption) | (go_simp; done) | ((repeat' (first | (with_reducible assumption) | refine allocC ?_ | refine drewC ?_)); done) | (go_keep; done))
  have p1x3 : w1.cell? ⟨w.heap.size, 3, none⟩ = some (.bool r) := keep1 hb1 (by first | (with_reducible assumption) | (go_simp; done) | ((repeat' (first | (with_reducible assumption) | refine allocC ?_ | refine drewC ?_)); done) | (go_keep; done))
  have p1xz0 : w.heap.size < w1.heap.size := block_lt p1x0
  have p1xs := p1xb.size
  go_wp2_with fail
  refine (KE.out _).mono ?_
  rintro e w2 ⟨rfl, hb2⟩
  have p2xb : Below w.heap.size w w2 := belowT (by first | (go_grown; done) | exact And.left (by assumption)) hb2
  have p2x0 : w2.cell? ⟨w.heap.size, 0, none⟩ = some (.int .i64 k) := keep1 hb2 (by first | (with_reducible assumption) | (go_simp; done) | ((repeat' (first | (with_reducible assumption) | refine allocC ?_ | refine drewC ?_)); done) | (go_keep; done))
  have p2x1 : w2.cell? ⟨w.heap.size, 1, none⟩ = some (.int .i64 n) := keep1 hb2 (by first | (with_reducible assumption) | (go_simp; done) | ((repeat' (first | (with_reducible assumption) | refine allocC ?_ | refine drewC ?_)); done) | (go_keep; done))
  have p2x2 : w2.cell? ⟨w.heap.size, 2, none⟩ = some (.int .i64 s) := keep1 hb2 (by first | (with_reducible assumption) | (go_simp; done) | ((repeat' (first | (with_reducible assumption) | refine allocC ?_ | refine drewC ?_)); done) | (go_keep; done))
  have p2x3 : w2.cell? ⟨w.heap.size, 3, none⟩ = some (.bool r) := keep1 hb2 (by first | (with_reducible assumption) | (go_simp; done) | ((repeat' (first | (with_reducible assumption) | refine allocC ?_ | refine drewC ?_)); done) | (go_keep; done))
  have p2xz0 : w.heap.size < w2.heap.size := block_lt p2x0
  have p2xs := p2xb.size
  go_wp2
  go_returns
  exact ⟨rfl, by first | (go_grown; done) | assumption⟩
set_option maxRecDepth 100000 in
theorem balanced_law (k n s : Int) (r : Bool) (w : World) (ht : Tabs w) :
    Calls Tryd.prog 4 #[.agg #[.int .i64 k, .int .i64 n, .int .i64 s, .bool r]] w fun e w' => e = .returned (.bool true) ∧ Below w.heap.size w w' := by
  by_cases hE : wErr k n s = 0
  · obtain ⟨k0, k1, h1, h2, s0, s1⟩ := wErr_val hE
    have E := fun w => rwindingErr_any k n s r w
    rw [hE] at E
    have L := fun w ht => linesOf_ok k n s r w k0 k1 h1 h2 s0 s1 ht
    have hk : k = 0 ∨ k = 1 ∨ k = 2 := by omega
    have hs : s = 0 ∨ s = 1 ∨ s = 2 := by omega
    rcases hk with rfl | rfl | rfl <;> rcases hs with rfl | rfl | rfl <;> cases r
    · exact bal_00p n (sg n false) false w ht h1 h2 rfl E L
    · exact bal_00m n (sg n true) true w ht h1 h2 rfl E L
    · exact bal_01p n (sg n false) false w ht h1 h2 rfl E L
    · exact bal_01m n (sg n true) true w ht h1 h2 rfl E L
    · exact bal_02p n (sg n false) false w ht h1 h2 rfl E L
    · exact bal_02m n (sg n true) true w ht h1 h2 rfl E L
    · exact bal_10p n (sg n false) false w ht h1 h2 rfl E L
    · exact bal_10m n (sg n true) true w ht h1 h2 rfl E L
    · exact bal_11p n (sg n false) false w ht h1 h2 rfl E L
    · exact bal_11m n (sg n true) true w ht h1 h2 rfl E L
    · exact bal_12p n (sg n false) false w ht h1 h2 rfl E L
    · exact bal_12m n (sg n true) true w ht h1 h2 rfl E L
    · exact bal_20p n (sg n false) false w ht h1 h2 rfl E L
    · exact bal_20m n (sg n true) true w ht h1 h2 rfl E L
    · exact bal_21p n (sg n false) false w ht h1 h2 rfl E L
    · exact bal_21m n (sg n true) true w ht h1 h2 rfl E L
    · exact bal_22p n (sg n false) false w ht h1 h2 rfl E L
    · exact bal_22m n (sg n true) true w ht h1 h2 rfl E L
  · exact balanced_bad k n s (wErr k n s) r w ht (by simpa using hE) (Lib.hid (fun w => rwindingErr_any k n s r w))
end Go.Proofs.YtngdhmliohjigaaDoor
