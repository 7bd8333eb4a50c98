/- HOURS OF PHASORS, AS NUMBERS: the twelve directions, their products, and the squares of sizes. No program is named here. -/
import Derived.Lib.Hide
namespace Go.Proofs.YtngdhmliohjigaaDoor
/-- The hour of a phasor, or -1. -/
def hourIx (p q : Int) : Int :=
  if 0 < p ∧ q = 0 then 0 else
  if 0 < q ∧ p = 2 * q then 1 else
  if 0 < q ∧ p = q then 2 else
  if 0 < p ∧ q = 2 * p then 3 else
  if 0 < q ∧ p = 0 then 4 else
  if 0 < q ∧ p = -q then 5 else
  if p < 0 ∧ q = 0 then 6 else
  if q < 0 ∧ p = 2 * q then 7 else
  if q < 0 ∧ p = q then 8 else
  if p < 0 ∧ q = 2 * p then 9 else
  if q < 0 ∧ p = 0 then 10 else
  if q < 0 ∧ p = -q then 11 else -1
def hourV (p q : Int) : Int := if hourIx p q = -1 then 0 else hourIx p q
def hourE (p q : Int) : Int := if p = 0 ∧ q = 0 then 11 else if hourIx p q = -1 then 12 else 0
/-- A phasor has the direction of an hour. -/
def Dir (p q i : Int) : Prop := (i = 0 ∧ 0 < p ∧ q = 0) ∨ (i = 1 ∧ 0 < q ∧ p = 2 * q) ∨ (i = 2 ∧ 0 < q ∧ p = q) ∨ (i = 3 ∧ 0 < p ∧ q = 2 * p) ∨ (i = 4 ∧ 0 < q ∧ p = 0) ∨ (i = 5 ∧ 0 < q ∧ p = -q) ∨ (i = 6 ∧ p < 0 ∧ q = 0) ∨ (i = 7 ∧ q < 0 ∧ p = 2 * q) ∨ (i = 8 ∧ q < 0 ∧ p = q) ∨ (i = 9 ∧ p < 0 ∧ q = 2 * p) ∨ (i = 10 ∧ q < 0 ∧ p = 0) ∨ (i = 11 ∧ q < 0 ∧ p = -q)
theorem Dir.d0 {p q : Int} (a : 0 < p) (b : q = 0) : Dir p q 0 := Or.inl ⟨rfl, a, b⟩
theorem Dir.d1 {p q : Int} (a : 0 < q) (b : p = 2 * q) : Dir p q 1 := Or.inr (Or.inl ⟨rfl, a, b⟩)
theorem Dir.d2 {p q : Int} (a : 0 < q) (b : p = q) : Dir p q 2 := Or.inr (Or.inr (Or.inl ⟨rfl, a, b⟩))
theorem Dir.d3 {p q : Int} (a : 0 < p) (b : q = 2 * p) : Dir p q 3 := Or.inr (Or.inr (Or.inr (Or.inl ⟨rfl, a, b⟩)))
theorem Dir.d4 {p q : Int} (a : 0 < q) (b : p = 0) : Dir p q 4 := Or.inr (Or.inr (Or.inr (Or.inr (Or.inl ⟨rfl, a, b⟩))))
theorem Dir.d5 {p q : Int} (a : 0 < q) (b : p = -q) : Dir p q 5 := Or.inr (Or.inr (Or.inr (Or.inr (Or.inr (Or.inl ⟨rfl, a, b⟩)))))
theorem Dir.d6 {p q : Int} (a : p < 0) (b : q = 0) : Dir p q 6 := Or.inr (Or.inr (Or.inr (Or.inr (Or.inr (Or.inr (Or.inl ⟨rfl, a, b⟩))))))
theorem Dir.d7 {p q : Int} (a : q < 0) (b : p = 2 * q) : Dir p q 7 := Or.inr (Or.inr (Or.inr (Or.inr (Or.inr (Or.inr (Or.inr (Or.inl ⟨rfl, a, b⟩)))))))
theorem Dir.d8 {p q : Int} (a : q < 0) (b : p = q) : Dir p q 8 := Or.inr (Or.inr (Or.inr (Or.inr (Or.inr (Or.inr (Or.inr (Or.inr (Or.inl ⟨rfl, a, b⟩))))))))
theorem Dir.d9 {p q : Int} (a : p < 0) (b : q = 2 * p) : Dir p q 9 := Or.inr (Or.inr (Or.inr (Or.inr (Or.inr (Or.inr (Or.inr (Or.inr (Or.inr (Or.inl ⟨rfl, a, b⟩)))))))))
theorem Dir.d10 {p q : Int} (a : q < 0) (b : p = 0) : Dir p q 10 := Or.inr (Or.inr (Or.inr (Or.inr (Or.inr (Or.inr (Or.inr (Or.inr (Or.inr (Or.inr (Or.inl ⟨rfl, a, b⟩))))))))))
theorem Dir.d11 {p q : Int} (a : q < 0) (b : p = -q) : Dir p q 11 := Or.inr (Or.inr (Or.inr (Or.inr (Or.inr (Or.inr (Or.inr (Or.inr (Or.inr (Or.inr (Or.inr (⟨rfl, a, b⟩)))))))))))
theorem ix0 {p q : Int} (a : 0 < p) (b : q = 0) : hourIx p q = 0 := by
  unfold hourIx
  rw [if_pos ⟨a, b⟩]
theorem ix1 {p q : Int} (a : 0 < q) (b : p = 2 * q) : hourIx p q = 1 := by
  unfold hourIx
  rw [if_neg (by omega), if_pos ⟨a, b⟩]
theorem ix2 {p q : Int} (a : 0 < q) (b : p = q) : hourIx p q = 2 := by
  unfold hourIx
  rw [if_neg (by omega), if_neg (by omega), if_pos ⟨a, b⟩]
theorem ix3 {p q : Int} (a : 0 < p) (b : q = 2 * p) : hourIx p q = 3 := by
  unfold hourIx
  rw [if_neg (by omega), if_neg (by omega), if_neg (by omega), if_pos ⟨a, b⟩]
theorem ix4 {p q : Int} (a : 0 < q) (b : p = 0) : hourIx p q = 4 := by
  unfold hourIx
  rw [if_neg (by omega), if_neg (by omega), if_neg (by omega), if_neg (by omega), if_pos ⟨a, b⟩]
theorem ix5 {p q : Int} (a : 0 < q) (b : p = -q) : hourIx p q = 5 := by
  unfold hourIx
  rw [if_neg (by omega), if_neg (by omega), if_neg (by omega), if_neg (by omega), if_neg (by omega), if_pos ⟨a, b⟩]
theorem ix6 {p q : Int} (a : p < 0) (b : q = 0) : hourIx p q = 6 := by
  unfold hourIx
  rw [if_neg (by omega), if_neg (by omega), if_neg (by omega), if_neg (by omega), if_neg (by omega), if_neg (by omega), if_pos ⟨a, b⟩]
theorem ix7 {p q : Int} (a : q < 0) (b : p = 2 * q) : hourIx p q = 7 := by
  unfold hourIx
  rw [if_neg (by omega), if_neg (by omega), if_neg (by omega), if_neg (by omega), if_neg (by omega), if_neg (by omega), if_neg (by omega), if_pos ⟨a, b⟩]
theorem ix8 {p q : Int} (a : q < 0) (b : p = q) : hourIx p q = 8 := by
  unfold hourIx
  rw [if_neg (by omega), if_neg (by omega), if_neg (by omega), if_neg (by omega), if_neg (by omega), if_neg (by omega), if_neg (by omega), if_neg (by omega), if_pos ⟨a, b⟩]
theorem ix9 {p q : Int} (a : p < 0) (b : q = 2 * p) : hourIx p q = 9 := by
  unfold hourIx
  rw [if_neg (by omega), if_neg (by omega), if_neg (by omega), if_neg (by omega), if_neg (by omega), if_neg (by omega), if_neg (by omega), if_neg (by omega), if_neg (by omega), if_pos ⟨a, b⟩]
theorem ix10 {p q : Int} (a : q < 0) (b : p = 0) : hourIx p q = 10 := by
  unfold hourIx
  rw [if_neg (by omega), if_neg (by omega), if_neg (by omega), if_neg (by omega), if_neg (by omega), if_neg (by omega), if_neg (by omega), if_neg (by omega), if_neg (by omega), if_neg (by omega), if_pos ⟨a, b⟩]
theorem ix11 {p q : Int} (a : q < 0) (b : p = -q) : hourIx p q = 11 := by
  unfold hourIx
  rw [if_neg (by omega), if_neg (by omega), if_neg (by omega), if_neg (by omega), if_neg (by omega), if_neg (by omega), if_neg (by omega), if_neg (by omega), if_neg (by omega), if_neg (by omega), if_neg (by omega), if_pos ⟨a, b⟩]
theorem dir_ix {p q i : Int} (h : Dir p q i) : hourIx p q = i := by
  rcases h with ⟨rfl, a, b⟩ | ⟨rfl, a, b⟩ | ⟨rfl, a, b⟩ | ⟨rfl, a, b⟩ | ⟨rfl, a, b⟩ | ⟨rfl, a, b⟩ | ⟨rfl, a, b⟩ | ⟨rfl, a, b⟩ | ⟨rfl, a, b⟩ | ⟨rfl, a, b⟩ | ⟨rfl, a, b⟩ | ⟨rfl, a, b⟩
  · exact ix0 a b
  · exact ix1 a b
  · exact ix2 a b
  · exact ix3 a b
  · exact ix4 a b
  · exact ix5 a b
  · exact ix6 a b
  · exact ix7 a b
  · exact ix8 a b
  · exact ix9 a b
  · exact ix10 a b
  · exact ix11 a b
theorem ix_dir (p q : Int) : hourIx p q = -1 ∨ Dir p q (hourIx p q) := by
  by_cases c0 : 0 < p ∧ q = 0
  · rw [ix0 c0.1 c0.2]; exact Or.inr (.d0 c0.1 c0.2)
  by_cases c1 : 0 < q ∧ p = 2 * q
  · rw [ix1 c1.1 c1.2]; exact Or.inr (.d1 c1.1 c1.2)
  by_cases c2 : 0 < q ∧ p = q
  · rw [ix2 c2.1 c2.2]; exact Or.inr (.d2 c2.1 c2.2)
  by_cases c3 : 0 < p ∧ q = 2 * p
  · rw [ix3 c3.1 c3.2]; exact Or.inr (.d3 c3.1 c3.2)
  by_cases c4 : 0 < q ∧ p = 0
  · rw [ix4 c4.1 c4.2]; exact Or.inr (.d4 c4.1 c4.2)
  by_cases c5 : 0 < q ∧ p = -q
  · rw [ix5 c5.1 c5.2]; exact Or.inr (.d5 c5.1 c5.2)
  by_cases c6 : p < 0 ∧ q = 0
  · rw [ix6 c6.1 c6.2]; exact Or.inr (.d6 c6.1 c6.2)
  by_cases c7 : q < 0 ∧ p = 2 * q
  · rw [ix7 c7.1 c7.2]; exact Or.inr (.d7 c7.1 c7.2)
  by_cases c8 : q < 0 ∧ p = q
  · rw [ix8 c8.1 c8.2]; exact Or.inr (.d8 c8.1 c8.2)
  by_cases c9 : p < 0 ∧ q = 2 * p
  · rw [ix9 c9.1 c9.2]; exact Or.inr (.d9 c9.1 c9.2)
  by_cases c10 : q < 0 ∧ p = 0
  · rw [ix10 c10.1 c10.2]; exact Or.inr (.d10 c10.1 c10.2)
  by_cases c11 : q < 0 ∧ p = -q
  · rw [ix11 c11.1 c11.2]; exact Or.inr (.d11 c11.1 c11.2)
  exact Or.inl (by unfold hourIx; rw [if_neg c0, if_neg c1, if_neg c2, if_neg c3, if_neg c4, if_neg c5, if_neg c6, if_neg c7, if_neg c8, if_neg c9, if_neg c10, if_neg c11])
theorem dir_bd {p q i : Int} (h : Dir p q i) : 0 ≤ i ∧ i ≤ 11 ∧ ¬ (p = 0 ∧ q = 0) := by
  rcases h with ⟨rfl, a, b⟩ | ⟨rfl, a, b⟩ | ⟨rfl, a, b⟩ | ⟨rfl, a, b⟩ | ⟨rfl, a, b⟩ | ⟨rfl, a, b⟩ | ⟨rfl, a, b⟩ | ⟨rfl, a, b⟩ | ⟨rfl, a, b⟩ | ⟨rfl, a, b⟩ | ⟨rfl, a, b⟩ | ⟨rfl, a, b⟩ <;> omega
theorem hour_bd (p q : Int) : 0 ≤ hourV p q ∧ hourV p q ≤ 11 := by
  unfold hourV
  rcases ix_dir p q with h | h
  · rw [if_pos h]; decide
  · have := dir_bd h
    rw [if_neg (by omega)]; omega
theorem hourV_dir {p q i : Int} (h : Dir p q i) : hourV p q = i := by
  have h1 := dir_ix h
  have h2 := dir_bd h
  unfold hourV
  rw [h1, if_neg (by omega)]
theorem hourE_dir {p q i : Int} (h : Dir p q i) : hourE p q = 0 := by
  have h1 := dir_ix h
  have h2 := dir_bd h
  unfold hourE
  rw [h1, if_neg h2.2.2, if_neg (by omega)]
theorem hourE_ok {p q : Int} (h : hourE p q = 0) : Dir p q (hourV p q) := by
  unfold hourE at h
  split at h
  · cases h
  split at h
  · cases h
  rename_i h1
  unfold hourV
  rw [if_neg h1]
  exact (ix_dir p q).resolve_left h1
/-- A phasor of an hour is that many times the hour's own one. -/
theorem dir_mul {p q i : Int} (h : Dir p q i) : ∃ d x y : Int, 0 < d ∧ p = d * x ∧ q = d * y ∧ Dir x y i ∧ -2 ≤ x ∧ x ≤ 2 ∧ -2 ≤ y ∧ y ≤ 2 := by
  rcases h with ⟨rfl, a, b⟩ | ⟨rfl, a, b⟩ | ⟨rfl, a, b⟩ | ⟨rfl, a, b⟩ | ⟨rfl, a, b⟩ | ⟨rfl, a, b⟩ | ⟨rfl, a, b⟩ | ⟨rfl, a, b⟩ | ⟨rfl, a, b⟩ | ⟨rfl, a, b⟩ | ⟨rfl, a, b⟩ | ⟨rfl, a, b⟩
  · exact ⟨p, 1, 0, by omega, by omega, by omega, .d0 (by decide) (by decide), by decide⟩
  · exact ⟨q, 2, 1, by omega, by omega, by omega, .d1 (by decide) (by decide), by decide⟩
  · exact ⟨q, 1, 1, by omega, by omega, by omega, .d2 (by decide) (by decide), by decide⟩
  · exact ⟨p, 1, 2, by omega, by omega, by omega, .d3 (by decide) (by decide), by decide⟩
  · exact ⟨q, 0, 1, by omega, by omega, by omega, .d4 (by decide) (by decide), by decide⟩
  · exact ⟨q, -1, 1, by omega, by omega, by omega, .d5 (by decide) (by decide), by decide⟩
  · exact ⟨-p, -1, 0, by omega, by omega, by omega, .d6 (by decide) (by decide), by decide⟩
  · exact ⟨-q, -2, -1, by omega, by omega, by omega, .d7 (by decide) (by decide), by decide⟩
  · exact ⟨-q, -1, -1, by omega, by omega, by omega, .d8 (by decide) (by decide), by decide⟩
  · exact ⟨-p, -1, -2, by omega, by omega, by omega, .d9 (by decide) (by decide), by decide⟩
  · exact ⟨-q, 0, -1, by omega, by omega, by omega, .d10 (by decide) (by decide), by decide⟩
  · exact ⟨-q, 1, -1, by omega, by omega, by omega, .d11 (by decide) (by decide), by decide⟩
theorem mul_dir {d x y i : Int} (hd : 0 < d) (h : Dir x y i) : Dir (d * x) (d * y) i := by
  have pos : ∀ z : Int, 0 < z → 0 < d * z := fun z hz => Int.mul_pos hd hz
  have neg : ∀ z : Int, z < 0 → d * z < 0 := fun z hz => Int.mul_neg_of_pos_of_neg hd hz
  rcases h with ⟨rfl, a, b⟩ | ⟨rfl, a, b⟩ | ⟨rfl, a, b⟩ | ⟨rfl, a, b⟩ | ⟨rfl, a, b⟩ | ⟨rfl, a, b⟩ | ⟨rfl, a, b⟩ | ⟨rfl, a, b⟩ | ⟨rfl, a, b⟩ | ⟨rfl, a, b⟩ | ⟨rfl, a, b⟩ | ⟨rfl, a, b⟩
  · exact .d0 (pos _ a) (by rw [b, Int.mul_zero])
  · exact .d1 (pos _ a) (by rw [b, Int.mul_left_comm])
  · exact .d2 (pos _ a) (by rw [b])
  · exact .d3 (pos _ a) (by rw [b, Int.mul_left_comm])
  · exact .d4 (pos _ a) (by rw [b, Int.mul_zero])
  · exact .d5 (pos _ a) (by rw [b, Int.mul_neg])
  · exact .d6 (neg _ a) (by rw [b, Int.mul_zero])
  · exact .d7 (neg _ a) (by rw [b, Int.mul_left_comm])
  · exact .d8 (neg _ a) (by rw [b])
  · exact .d9 (neg _ a) (by rw [b, Int.mul_left_comm])
  · exact .d10 (neg _ a) (by rw [b, Int.mul_zero])
  · exact .d11 (neg _ a) (by rw [b, Int.mul_neg])
/-- The hours of a product of small ones, case by case. -/
theorem dir_small : ∀ x ∈ [(-2 : Int), -1, 0, 1, 2], ∀ y ∈ [(-2 : Int), -1, 0, 1, 2], ∀ u ∈ [(-2 : Int), -1, 0, 1, 2], ∀ v ∈ [(-2 : Int), -1, 0, 1, 2], hourIx x y = -1 ∨ hourIx u v = -1 ∨ hourIx (x * u - y * v) (x * v + y * u - y * v) = (hourIx x y + hourIx u v) % 12 := by
  decide +kernel
theorem mem5 (x : Int) (h0 : -2 ≤ x) (h1 : x ≤ 2) : x ∈ [(-2 : Int), -1, 0, 1, 2] := by
  simp
  omega
theorem dir_prod {p q r s i j : Int} (h : Dir p q i) (k : Dir r s j) : Dir (p * r - q * s) (p * s + q * r - q * s) ((i + j) % 12) := by
  obtain ⟨d, x, y, hd, rfl, rfl, hx, x0, x1, y0, y1⟩ := dir_mul h
  obtain ⟨e, u, v, he, rfl, rfl, hu, u0, u1, v0, v1⟩ := dir_mul k
  have key := dir_small x (mem5 x x0 x1) y (mem5 y y0 y1) u (mem5 u u0 u1) v (mem5 v v0 v1)
  rw [dir_ix hx, dir_ix hu] at key
  have bi := dir_bd hx
  have bj := dir_bd hu
  have key := (key.resolve_left (by omega)).resolve_left (by omega)
  have hz := (ix_dir (x * u - y * v) (x * v + y * u - y * v)).resolve_left (by rw [key]; omega)
  rw [key] at hz
  have := mul_dir (d := d * e) (Int.mul_pos hd he) hz
  rw [show d * x * (e * u) - d * y * (e * v) = d * e * (x * u - y * v) from by (simp only [Int.mul_sub, Int.mul_comm, Int.mul_left_comm]; try omega), show d * x * (e * v) + d * y * (e * u) - d * y * (e * v) = d * e * (x * v + y * u - y * v) from by (simp only [Int.mul_sub, Int.mul_add, Int.mul_comm, Int.mul_left_comm]; try omega)]
  exact this
/-- The square of a phasor's size, and of a product. -/
def sqV (p q : Int) : Int := p * p - p * q + q * q
theorem sq_prod (p q r s : Int) : sqV (p * r - q * s) (p * s + q * r - q * s) = sqV p q * sqV r s := by
  unfold sqV
  (simp only [Int.mul_sub, Int.mul_add, Int.mul_comm, Int.mul_left_comm]; omega)
theorem mul_bd {p q m n : Int} (p0 : -m ≤ p) (p1 : p ≤ m) (q0 : -n ≤ q) (q1 : q ≤ n) : -(m * n) ≤ p * q ∧ p * q ≤ m * n := by
  have hm : 0 ≤ m := by omega
  have hn : 0 ≤ n := by omega
  have e1 : 0 ≤ (m - p) * (n + q) := Int.mul_nonneg (by omega) (by omega)
  have e2 : 0 ≤ (m + p) * (n - q) := Int.mul_nonneg (by omega) (by omega)
  have e3 : 0 ≤ (m - p) * (n - q) := Int.mul_nonneg (by omega) (by omega)
  have e4 : 0 ≤ (m + p) * (n + q) := Int.mul_nonneg (by omega) (by omega)
  simp only [Int.sub_mul, Int.mul_sub, Int.add_mul, Int.mul_add] at e1 e2 e3 e4
  omega
/-- Times n: the phasor of a multiple has the same direction; its opposite, the other one. -/
theorem neg_dir {p q i : Int} (h : Dir p q i) : Dir (-p) (-q) ((i + 6) % 12) := by
  rcases h with ⟨rfl, a, b⟩ | ⟨rfl, a, b⟩ | ⟨rfl, a, b⟩ | ⟨rfl, a, b⟩ | ⟨rfl, a, b⟩ | ⟨rfl, a, b⟩ | ⟨rfl, a, b⟩ | ⟨rfl, a, b⟩ | ⟨rfl, a, b⟩ | ⟨rfl, a, b⟩ | ⟨rfl, a, b⟩ | ⟨rfl, a, b⟩
  · exact .d6 (by omega) (by omega)
  · exact .d7 (by omega) (by omega)
  · exact .d8 (by omega) (by omega)
  · exact .d9 (by omega) (by omega)
  · exact .d10 (by omega) (by omega)
  · exact .d11 (by omega) (by omega)
  · exact .d0 (by omega) (by omega)
  · exact .d1 (by omega) (by omega)
  · exact .d2 (by omega) (by omega)
  · exact .d3 (by omega) (by omega)
  · exact .d4 (by omega) (by omega)
  · exact .d5 (by omega) (by omega)
end Go.Proofs.YtngdhmliohjigaaDoor
