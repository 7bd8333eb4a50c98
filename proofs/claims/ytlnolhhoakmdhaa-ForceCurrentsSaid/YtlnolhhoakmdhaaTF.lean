/- For any fault, unit force and limit, valid or not, the law ForceCurrents of the program answers true, and its arguments read as they did. CONDITIONS: none. -/
import Derived.Test.YtlnolhhoakmdhaaTE
import Derived.Test.YtlnolhhoakmdhaaTD
import Derived.Test.YtlnolhhoakmdhaaTA
set_option linter.unusedVariables false
set_option linter.unusedSimpArgs false
set_option linter.unusedSectionVars false
set_option linter.unnecessarySimpa false
/- Peaks, forces, answers. -/
namespace Go.Proofs.Ytlnolhhoakmdhaa
open Go.Ev Go.RowKit
set_option maxRecDepth 100000
theorem sq_le {x k : Int} (h0 : 0 ≤ x) (h : x ≤ k) : 0 ≤ x * x ∧ x * x ≤ k * k := ⟨Int.mul_nonneg h0 h0, Int.mul_le_mul h h h0 (by omega)⟩
theorem mul2_le {x y k l : Int} (h0 : 0 ≤ x) (h : x ≤ k) (g0 : 0 ≤ y) (g : y ≤ l) : 0 ≤ x * y ∧ x * y ≤ k * l := ⟨Int.mul_nonneg h0 g0, Int.mul_le_mul h g g0 (by omega)⟩
theorem int_divInt (l : Int) : (l : Rat) = Rat.divInt l 1 := by
  have := Rat.num_divInt_den (l : Rat)
  rw [Rat.num_intCast, Rat.den_intCast] at this
  exact this.symm
/-- A whole number times the square of a fraction. -/
theorem int_mul_sq (u n d : Int) : (u : Rat) * (Rat.divInt n d * Rat.divInt n d) = Rat.divInt (u * (n * n)) (d * d) := by
  rw [Rat.divInt_mul_divInt]
  have : (u : Rat) = Rat.divInt u 1 := int_divInt u
  rw [this, Rat.divInt_mul_divInt, Int.one_mul]
theorem divInt_le_int {x y l : Int} (hy : 0 < y) : Rat.divInt x y ≤ (l : Rat) ↔ x ≤ l * y := by
  have e : (l : Rat) = Rat.divInt (l * y) y := by
    have h1 : (l : Rat) = Rat.divInt l 1 := int_divInt l
    rw [h1, Rat.divInt_eq_divInt_iff (by decide) (by omega), Int.mul_one]
  have h2 : (l : Rat) - Rat.divInt x y = Rat.divInt ((l * y - x) * y) (y * y) := by
    rw [e, Rat.sub_eq_add_neg, Rat.neg_divInt, Rat.divInt_add_divInt _ _ (by omega) (by omega)]
    congr 1
    rw [Int.sub_mul, Int.neg_mul, Int.sub_eq_add_neg]
  rw [Rat.le_iff_sub_nonneg, h2, Rat.divInt_nonneg_iff_of_pos_right (Int.mul_pos hy hy)]
  constructor
  · intro h
    rcases Int.lt_or_le (l * y - x) 0 with h3 | h3
    · have := Int.mul_neg_of_neg_of_pos h3 hy
      omega
    · omega
  · intro h
    exact Int.mul_nonneg (by omega) (by omega)
/-- Rounded up. -/
theorem ceil_le {x y l : Int} (hy : 0 < y) : (x + y - 1) / y ≤ l ↔ x ≤ l * y := by
  rw [Int.ediv_le_iff_le_mul hy]
  omega
theorem roundedUp_eq (n d : Int) (hn : 0 ≤ n) (hd : 0 < d) (hb : n + d < 9223372036854775808) : m_154 [iD n, iD d] = some (iD ((n + d - 1) / d)) := by
  have h0 : 0 ≤ (n + d - 1) / d := Int.ediv_nonneg (by omega) (by omega)
  have h1 : (n + d - 1) / d ≤ n + d - 1 := Int.ediv_le_self _ (by omega)
  rw [m_154_eq]
  unfold roundedUp_M
  rw [guardP_pos (by omega), wrapI (n + d) (by omega) hb, wrapI (n + d - 1) (by omega) (by omega), Int.tdiv_eq_ediv_of_nonneg (by omega), wrapI _ (by omega) (by omega)]
/-- The force, rounded up. -/
def upF (u n d : Int) : Int := (u * (n * n) + d * d - 1) / (d * d)
theorem forceAt_eq (u n d : Int) (hu : 0 ≤ u) (hu2 : u ≤ 10000000) (hn : 0 ≤ n) (hn2 : n ≤ 100000) (hd : 0 < d) (hd2 : d ≤ 100000) : m_144 [iD u, .agg [iD n, iD d]] = some (iD (upF u n d)) := by
  have a1 := mul2_le hu hu2 hn hn2
  have a2 := sq_le hn hn2
  have a3 := mul2_le hu hu2 a2.1 a2.2
  have a4 := sq_le (by omega) hd2
  have a5 : 0 < d * d := Int.mul_pos hd hd
  rw [m_144_eq]
  unfold forceAt_M
  have e : u * n * n = u * (n * n) := Int.mul_assoc u n n
  rw [wrapI (u * n) (by omega) (by omega), wrapI (u * n * n) (by omega) (by omega), wrapI (d * d) (by omega) (by omega), e, roundedUp_eq _ _ a3.1 a5 (by omega), pullI]
  rfl
/-- A valid fault. -/
structure FaultOK (a b c d n m : Int) : Prop where
  a0 : 0 ≤ a
  ab : a ≤ b
  b1 : b ≤ 1000
  c0 : 1 ≤ c
  cd : c ≤ d
  d1 : d ≤ 1000
  n0 : 1 ≤ n
  n1 : n ≤ 100
  m0 : 1 ≤ m
  m1 : m ≤ 100
theorem fault_ok {a b c d n m : Int} (h : faultE a b c d n m = 0) : FaultOK a b c d n m := by
  unfold faultE facE at h
  split at h
  · cases h
  split at h
  · cases h
  split at h
  · cases h
  split at h
  · cases h
  constructor <;> omega
/-- A bound, and why it is so: parts of peaks. -/
theorem peak_parts {x y k l : Int} (hx0 : 0 ≤ x) (hx : x ≤ k) (hy0 : 0 < y) (hy : y ≤ l) : 0 ≤ (Rat.divInt x y).num ∧ (Rat.divInt x y).num ≤ k ∧ (0 : Int) < ((Rat.divInt x y).den : Int) ∧ ((Rat.divInt x y).den : Int) ≤ l := by
  obtain ⟨p1, p2⟩ := low_parts x y hy0
  obtain ⟨b1, b2⟩ := low_bounds (n := x) hy0
  have h0 : 0 ≤ (Rat.divInt x y).num := by rw [p1]; exact Int.ediv_nonneg hx0 (by omega)
  have h3 := den_pos' (Rat.divInt x y)
  rw [← p1] at b1
  rw [← p2] at b2
  exact ⟨h0, by omega, h3, by omega⟩
abbrev loQ (a d n m : Int) : Rat := Rat.divInt (a * n) (d * m)
structure PB (q : Rat) : Prop where
  n0 : 0 ≤ q.num
  n1 : q.num ≤ 100000
  d0 : (0 : Int) < (q.den : Int)
  d1 : (q.den : Int) ≤ 100000
theorem FaultOK.lo {a b c d n m : Int} (h : FaultOK a b c d n m) : PB (loQ a d n m) := by
  obtain ⟨a0, ab, b1, c0, cd, d1, n0, n1, m0, m1⟩ := h
  have e1 := mul2_le a0 (show a ≤ 1000 by omega) (show 0 ≤ n by omega) n1
  have e2 := mul2_le (show 0 ≤ d by omega) d1 (show 0 ≤ m by omega) m1
  have e3 : 0 < d * m := Int.mul_pos (by omega) (by omega)
  obtain ⟨x1, x2, x3, x4⟩ := peak_parts e1.1 e1.2 e3 e2.2
  exact ⟨x1, Int.le_trans x2 (by decide), x3, Int.le_trans x4 (by decide)⟩
theorem FaultOK.hi {a b c d n m : Int} (h : FaultOK a b c d n m) : PB (loQ b c n m) := by
  obtain ⟨a0, ab, b1, c0, cd, d1, n0, n1, m0, m1⟩ := h
  have e1 := mul2_le (show 0 ≤ b by omega) b1 (show 0 ≤ n by omega) n1
  have e2 := mul2_le (show 0 ≤ c by omega) (show c ≤ 1000 by omega) (show 0 ≤ m by omega) m1
  have e3 : 0 < c * m := Int.mul_pos (by omega) (by omega)
  obtain ⟨x1, x2, x3, x4⟩ := peak_parts e1.1 e1.2 e3 e2.2
  exact ⟨x1, Int.le_trans x2 (by decide), x3, Int.le_trans x4 (by decide)⟩
/-- The peak, as a value in depth. -/
abbrev pkD (a b c d n m : Int) : D := .agg [iD (loQ a d n m).num, iD ((loQ a d n m).den : Int), iD (loQ b c n m).num, iD ((loQ b c n m).den : Int)]
theorem prods {a b c d n m : Int} (h : FaultOK a b c d n m) : IntKind.i64.wrap (a * n) = a * n ∧ IntKind.i64.wrap (d * m) = d * m ∧ IntKind.i64.wrap (b * n) = b * n ∧ IntKind.i64.wrap (c * m) = c * m ∧ 0 < d * m ∧ 0 < c * m ∧ (a * n).natAbs < 9223372036854775808 ∧ (b * n).natAbs < 9223372036854775808 ∧ d * m < 9223372036854775808 ∧ c * m < 9223372036854775808 := by
  obtain ⟨a0, ab, b1, c0, cd, d1, n0, n1, m0, m1⟩ := h
  have e1 := mul2_le a0 (show a ≤ 1000 by omega) (show 0 ≤ n by omega) n1
  have e2 := mul2_le (show 0 ≤ d by omega) d1 (show 0 ≤ m by omega) m1
  have e3 : 0 < d * m := Int.mul_pos (by omega) (by omega)
  have f1 := mul2_le (show 0 ≤ b by omega) b1 (show 0 ≤ n by omega) n1
  have f2 := mul2_le (show 0 ≤ c by omega) (show c ≤ 1000 by omega) (show 0 ≤ m by omega) m1
  have f3 : 0 < c * m := Int.mul_pos (by omega) (by omega)
  exact ⟨wrapI _ (by omega) (by omega), wrapI _ (by omega) (by omega), wrapI _ (by omega) (by omega), wrapI _ (by omega) (by omega), e3, f3, by omega, by omega, by omega, by omega⟩
theorem peak_eq {a b c d n m : Int} (h : FaultOK a b c d n m) : m_99 [.agg [iD a, iD b, iD c, iD d, iD n, iD m]] = some (pkD a b c d n m) := by
  obtain ⟨w1, w2, w3, w4, p1, p2, q1, q2, q3, q4⟩ := prods h
  rw [m_99_eq]
  unfold peak_M
  rw [w1, w2, w3, w4, reduced_eq _ _ p1 q1 q3, pullD_some ((loQ a d n m).num, ((loQ a d n m).den : Int)) (by rfl) (by rfl)]
  dsimp only
  rw [reduced_eq _ _ p2 q2 q4, pullD_some ((loQ b c n m).num, ((loQ b c n m).den : Int)) (by rfl) (by rfl)]
theorem peakR_eq {a b c d n m : Int} (h : FaultOK a b c d n m) : m_44 [.agg [iD a, iD b, iD c, iD d, iD n, iD m]] = some (pkD a b c d n m) := by
  obtain ⟨w1, w2, w3, w4, p1, p2, q1, q2, q3, q4⟩ := prods h
  rw [m_44_eq]
  unfold peakR_M
  rw [w1, w2, w3, w4, lowest_eq _ _ p1 q1 q3, pullD_some ((loQ a d n m).num, ((loQ a d n m).den : Int)) (by rfl) (by rfl)]
  dsimp only
  rw [lowest_eq _ _ p2 q2 q4, pullD_some ((loQ b c n m).num, ((loQ b c n m).den : Int)) (by rfl) (by rfl)]
/-- A force at a current, exactly. -/
def forceQ (u : Int) (q : Rat) : Rat := (u : Rat) * (q * q)
theorem forceQ_le {u l : Int} {q : Rat} : forceQ u q ≤ (l : Rat) ↔ upF u q.num (q.den : Int) ≤ l := by
  unfold forceQ upF
  have h1 := int_mul_sq u q.num (q.den : Int)
  rw [Rat.num_divInt_den] at h1
  have hd : (0 : Int) < (q.den : Int) * (q.den : Int) := Int.mul_pos (den_pos' q) (den_pos' q)
  rw [h1, divInt_le_int hd, ceil_le hd]
/-- Whether what stands against forces holds. -/
def ansV (lo hi : Int) (u : Int) (ql qh : Rat) : Int := if upF u qh.num (qh.den : Int) ≤ lo then 2 else if hi < upF u ql.num (ql.den : Int) then 0 else 1
theorem answerOf_eq (a b c d : Int) : m_117 [.agg [iD a, iD b], .agg [iD c, iD d]] = some (iD (if d ≤ a then 2 else if b < c then 0 else 1)) := by
  rw [m_117_eq]
  unfold answerOf_M
  repeat' split
  all_goals first | rfl | (exfalso; omega)
theorem forces_eq {a b c d n m u : Int} (h : FaultOK a b c d n m) (hu : 0 ≤ u) (hu2 : u ≤ 10000000) : m_118 [.agg [iD a, iD b, iD c, iD d, iD n, iD m], iD u] = some (.agg [iD (upF u (loQ a d n m).num ((loQ a d n m).den : Int)), iD (upF u (loQ b c n m).num ((loQ b c n m).den : Int))]) := by
  rw [m_118_eq]
  unfold forces_M
  obtain ⟨l1, l2, l3, l4⟩ := h.lo
  obtain ⟨h1, h2, h3, h4⟩ := h.hi
  have hp : m_99 [shNF1_1 a b c d n m] = some (pkD a b c d n m) := peak_eq h
  rw [hp, pullD_some ((loQ a d n m).num, ((loQ a d n m).den : Int), (loQ b c n m).num, ((loQ b c n m).den : Int)) (by rfl) (by rfl)]
  dsimp only
  rw [forceAt_eq u _ _ hu hu2 l1 l2 l3 l4, pullI, forceAt_eq u _ _ hu hu2 h1 h2 h3 h4, pullI]
theorem holds_eq {a b c d n m u : Int} (l : Int) (h : FaultOK a b c d n m) (hu : 0 ≤ u) (hu2 : u ≤ 10000000) : m_101 [.agg [iD a, iD b, iD c, iD d, iD n, iD m], iD u, iD l] = some (iD (ansV l l u (loQ a d n m) (loQ b c n m))) := by
  rw [m_101_eq]
  unfold holds_M
  have hp : m_118 [shNF1_1 a b c d n m, iD u] = _ := forces_eq h hu hu2
  rw [hp, pullD_some (upF u (loQ a d n m).num ((loQ a d n m).den : Int), upF u (loQ b c n m).num ((loQ b c n m).den : Int)) (by rfl) (by rfl)]
  dsimp only
  rw [answerOf_eq, pullI]
  rfl
theorem SQ.of_pb {q : Rat} (h : PB q) : SQ 3 q := by
  obtain ⟨a, b, c, d⟩ := h
  exact ⟨nd_i64 (by omega) (by omega), nd_i64 (by omega) (by omega)⟩
theorem cmpForce_eq {u l : Int} {q : Rat} (hq : PB q) (hu : 0 ≤ u) (hu2 : u ≤ 10000000) (hl : -9223372036854775808 < l) (hl2 : l < 9223372036854775808) : m_105 [iD u, .agg [iD q.num, iD (q.den : Int)], iD l] = some (iD (cmpQ (forceQ u q) (l : Rat))) := by
  rw [m_105_eq]
  unfold cmpForce_M
  have hs := SQ.of_pb hq
  have hr : m_69 [.agg [iD q.num, iD (q.den : Int)]] = some (rD q) := by
    have hq := hq
    obtain ⟨a, b, c, d⟩ := hq
    have := rFrom_eq q.num (q.den : Int) (by omega) (by omega) (by omega) (by omega) (by omega)
    rwa [Rat.num_divInt_den] at this
  have hI : SQ 3 (u : Rat) := SQ.int (nd_i64 (by omega) (by omega)) (by decide)
  have hL : SQ 3 (l : Rat) := SQ.int (nd_i64 hl hl2) (by decide)
  have hqq := SQ.mul hs hs
  have hf := SQ.mul hI hqq
  rw [rInt_eq u (by omega) (by omega), pullD_some ((u : Rat).num.sign, (dg (u : Rat).num.natAbs).length, (dg (u : Rat).num.natAbs).map iD, ((u : Rat).den : Int).sign, (dg ((u : Rat).den : Int).natAbs).length, (dg ((u : Rat).den : Int).natAbs).map iD) (by rfl) (by rfl)]
  dsimp only
  rw [hr, pullD_some (q.num.sign, (dg q.num.natAbs).length, (dg q.num.natAbs).map iD, (q.den : Int).sign, (dg (q.den : Int).natAbs).length, (dg (q.den : Int).natAbs).map iD) (by rfl) (by rfl)]
  dsimp only
  rw [pullD_some (q.num.sign, (dg q.num.natAbs).length, (dg q.num.natAbs).map iD, (q.den : Int).sign, (dg (q.den : Int).natAbs).length, (dg (q.den : Int).natAbs).map iD) (by rfl) (by rfl)]
  dsimp only
  rw [← rD_cells q, rMul_eq q q 3 3 hs hs (by decide)]
  generalize hr2 : q * q = r
  rw [pullD_some (r.num.sign, (dg r.num.natAbs).length, (dg r.num.natAbs).map iD, (r.den : Int).sign, (dg (r.den : Int).natAbs).length, (dg (r.den : Int).natAbs).map iD) (by rfl) (by rfl)]
  dsimp only
  rw [hr2] at hqq hf
  rw [← rD_cells r, ← rD_cells (u : Rat), rMul_eq (u : Rat) r 3 6 hI hqq (by decide)]
  have e : forceQ u q = (u : Rat) * r := by unfold forceQ; rw [hr2]
  rw [e]
  generalize (u : Rat) * r = f at *
  rw [pullD_some (f.num.sign, (dg f.num.natAbs).length, (dg f.num.natAbs).map iD, (f.den : Int).sign, (dg (f.den : Int).natAbs).length, (dg (f.den : Int).natAbs).map iD) (by rfl) (by rfl)]
  dsimp only
  rw [rInt_eq l hl hl2]
  generalize (l : Rat) = g at *
  rw [pullD_some (g.num.sign, (dg g.num.natAbs).length, (dg g.num.natAbs).map iD, (g.den : Int).sign, (dg (g.den : Int).natAbs).length, (dg (g.den : Int).natAbs).map iD) (by rfl) (by rfl)]
  dsimp only
  rw [← rD_cells f, ← rD_cells g, rCmp_eq f g 9 3 hf hL (by decide), pullI]
theorem holdsR_eq {a b c d n m u : Int} (l : Int) (h : FaultOK a b c d n m) (hu : 0 ≤ u) (hu2 : u ≤ 10000000) (hl : -9223372036854775808 < l) (hl2 : l < 9223372036854775808) : m_46 [.agg [iD a, iD b, iD c, iD d, iD n, iD m], iD u, iD l] = some (iD (ansV l l u (loQ a d n m) (loQ b c n m))) := by
  rw [m_46_eq]
  unfold holdsR_M
  have hp : m_44 [shNF1_1 a b c d n m] = _ := peakR_eq h
  rw [hp, pullD_some ((loQ a d n m).num, ((loQ a d n m).den : Int), (loQ b c n m).num, ((loQ b c n m).den : Int)) (by rfl) (by rfl)]
  dsimp only
  rw [cmpForce_eq h.hi hu hu2 hl hl2, pullI, cmpForce_eq h.lo hu hu2 hl hl2, pullI]
  unfold ansV
  have e1 := cmpQ_le (forceQ u (loQ b c n m)) (l : Rat)
  rw [forceQ_le] at e1
  have e2 := cmpQ_le (forceQ u (loQ a d n m)) (l : Rat)
  rw [forceQ_le] at e2
  by_cases h1 : cmpQ (forceQ u (loQ b c n m)) (l : Rat) ≤ 0
  · rw [if_pos h1, if_pos (e1.1 h1)]
  · rw [if_neg h1, if_neg (fun h2 => h1 (e1.2 h2))]
    by_cases h3 : cmpQ (forceQ u (loQ a d n m)) (l : Rat) ≤ 0
    · rw [if_neg (by omega), if_neg (by have := e2.1 h3; omega)]
    · rw [if_pos (by omega), if_pos (by have : ¬ upF u (loQ a d n m).num ((loQ a d n m).den : Int) ≤ l := fun h2 => h3 (e2.2 h2); omega)]
end Go.Proofs.Ytlnolhhoakmdhaa
/- The stage's examples hold. -/
namespace Go.Proofs.Ytlnolhhoakmdhaa
open Go.Ev Go.RowKit
set_option maxRecDepth 100000
noncomputable section
theorem aw_all : Con 13 [] (.one (.bool true)) :=
  con_ofK (S := [(80, 3000041)]) (K := []) (sp := []) (n := 60000) (ora := []) (res := []) (conds := [(false, false), (false, false), (false, false), (false, false), (false, false), (false, false), (false, false), (false, false), (false, false), (false, false), (false, false), (false, false), (false, false), (false, false), (false, false), (false, false), (false, false), (false, false), (false, false), (false, false), (false, false), (false, false)]) (cls := [])
    (by kernel_rfl) ⟨rfl, rfl, rfl, rfl, rfl, rfl, rfl, rfl, rfl, rfl, rfl, rfl, rfl, rfl, rfl, rfl, rfl, rfl, rfl, rfl, rfl, rfl, trivial⟩ trivial
def m_13 (ds : List D) : Option D := pullD (some (.tup ds)) (fun _ => ()) (fun _ => .tup []) fun _ => some (.one (.bool true))
theorem m_13_ok {ds : List D} {r : D} (h : m_13 ds = some r) : Con 13 ds r := by
  unfold m_13 at h
  obtain ⟨⟨⟩, e0, h0⟩ := pullD_elim h
  obtain rfl := tup_inj e0
  obtain rfl := Option.some.inj h0
  exact aw_all
theorem m_13_eq : m_13 [] = some (.one (.bool true)) := pullD_some () rfl rfl
end
end Go.Proofs.Ytlnolhhoakmdhaa
namespace Go.Proofs.Ytlnolhhoakmdhaa
open Go.Ev Go.RowKit
set_option maxRecDepth 100000
set_option maxHeartbeats 8000000
set_option linter.all false
noncomputable section
abbrev shNF2_0 (a0 : Int) (a1 : Int) (a2 : Int) (a3 : Int) : D := .agg [.one (.int .i64 a0), .one (.int .i64 a1), .one (.int .i64 a2), .one (.int .i64 a3)]
def shNF2_0P (d : D) : Int × Int × Int × Int := (D.vi (D.at d 0), D.vi (D.at d 1), D.vi (D.at d 2), D.vi (D.at d 3))
abbrev shNF2_1 (a0 : Int) (a1 : Int) (a2 : Int) (a3 : Int) (a4 : Int) (a5 : Int) : D := .agg [.one (.int .i64 a0), .one (.int .i64 a1), .one (.int .i64 a2), .one (.int .i64 a3), .one (.int .i64 a4), .one (.int .i64 a5)]
def law8_sp : List LSpec := []
def law8_M (a b c d n m u l : Int) : Option D := pullD (α := Bool) (m_13 []) (fun d => ((D.vb d))) (fun r0 => .one (.bool r0)) fun r0 => ((if r0 = false then some (.one (.bool false)) else pullD (α := Int × Int × Int × Int × Int) (m_40 [(shNF2_1 a b c d n m)]) (fun d => ((D.vi (D.at (D.at d 0) 0)), (D.vi (D.at (D.at d 0) 1)), (D.vi (D.at (D.at d 0) 2)), (D.vi (D.at (D.at d 0) 3)), (D.vi (D.at d 1)))) (fun (r1, r2, r3, r4, r5) => .tup [(shNF2_0 r1 r2 r3 r4), .one (.int .i64 r5)]) fun (r1, r2, r3, r4, r5) => (pullD (α := Int × Int) (m_41 [(shNF2_1 a b c d n m), .one (.int .i64 u), .one (.int .i64 l)]) (fun d => ((D.vi (D.at d 0)), (D.vi (D.at d 1)))) (fun (r6, r7) => .tup [.one (.int .i64 r6), .one (.int .i64 r7)]) fun (r6, r7) => (pullD (α := Int) (m_42 [(shNF2_1 a b c d n m)]) (fun d => ((D.vi d))) (fun r8 => .one (.int .i64 r8)) fun r8 => (pullD (α := Int) (m_43 [(shNF2_1 a b c d n m)]) (fun d => ((D.vi d))) (fun r9 => .one (.int .i64 r9)) fun r9 => ((if r9 ≠ r8 then some (.one (.bool false)) else (if r8 ≠ (0 : Int) then (if r5 = r8 then (if r7 = r8 then (if (r1 == (0 : Int) && (r2 == (0 : Int) && true) && (r3 == (0 : Int) && (r4 == (0 : Int) && true) && true)) = true then some (.one (.bool (r6 == (0 : Int)))) else some (.one (.bool false))) else some (.one (.bool false))) else some (.one (.bool false))) else (if r5 ≠ (0 : Int) then some (.one (.bool false)) else pullD (m_44 [(shNF2_1 a b c d n m)]) shNF2_0P (fun (r10, r11, r12, r13) => (shNF2_0 r10 r11 r12 r13)) fun (r10, r11, r12, r13) => ((if (!(r1 == r10 && (r2 == r11 && true) && (r3 == r12 && (r4 == r13 && true) && true))) = true then some (.one (.bool false)) else pullD (α := Int) (m_45 [.one (.int .i64 u)]) (fun d => ((D.vi d))) (fun r14 => .one (.int .i64 r14)) fun r14 => ((if r14 = (0 : Int) then pullD (α := Bool) (m_30 [.one (.int .i64 l), .one (.int .i64 (1 : Int)), .one (.int .i64 (100000000 : Int))]) (fun d => ((D.vb d))) (fun r15 => .one (.bool r15)) fun r15 => ((if r15 = false then (if r7 = (2 : Int) then some (.one (.bool (r6 == (0 : Int)))) else some (.one (.bool false))) else (if r7 = (0 : Int) then pullD (α := Int) (m_46 [(shNF2_1 a b c d n m), .one (.int .i64 u), .one (.int .i64 l)]) (fun d => ((D.vi d))) (fun r16 => .one (.int .i64 r16)) fun r16 => (some (.one (.bool (r6 == r16)))) else some (.one (.bool false))))) else (if r7 = r14 then some (.one (.bool (r6 == (0 : Int)))) else some (.one (.bool false))))))))))))))))
theorem law8_M_ok (a b c d n m u l : Int) {r : D} (h : law8_M a b c d n m u l = some r) : Con 8 [(shNF2_1 a b c d n m), .one (.int .i64 u), .one (.int .i64 l)] r := by
  unfold law8_M at h
  obtain ⟨r0, f1_, h2_⟩ := pullD_elim h
  replace f1_ := m_13_ok f1_
  by_cases b3_ : r0 = false
  · have h4_ := (if_pos b3_).symm.trans h2_
    obtain rfl := Option.some.inj h4_
    exact con_pc (op := true) (I := [8]) (sp := law8_sp) 3000 (bT 1 []) [.one (.bool r0)] [c_no b3_] [k_c f1_] (by kernel_rfl)
  · have h4_ := (if_neg b3_).symm.trans h2_
    have b5_ : r0 = true := by first | exact b3_ | simpa using b3_
    obtain ⟨⟨r1, r2, r3, r4, r5⟩, f6_, h7_⟩ := pullD_elim h4_
    replace f6_ := m_40_ok f6_
    obtain ⟨⟨r6, r7⟩, f8_, h9_⟩ := pullD_elim h7_
    replace f8_ := m_41_ok f8_
    obtain ⟨r8, f10_, h11_⟩ := pullD_elim h9_
    replace f10_ := m_42_ok f10_
    obtain ⟨r9, f12_, h13_⟩ := pullD_elim h11_
    replace f12_ := m_43_ok f12_
    by_cases b14_ : r9 ≠ r8
    · have h15_ := (if_pos b14_).symm.trans h13_
      obtain rfl := Option.some.inj h15_
      exact con_pc (op := true) (I := [8]) (sp := law8_sp) 3000 (bF 1 (bT 1 [])) [.one (.bool r0), .tup [(shNF2_0 r1 r2 r3 r4), .one (.int .i64 r5)], .tup [.one (.int .i64 r6), .one (.int .i64 r7)], .one (.int .i64 r8), .one (.int .i64 r9)] [c_nn b5_, c_b b14_] [k_c f1_, k_c f6_, k_c f8_, k_c f10_, k_c f12_] (by kernel_rfl)
    · have h15_ := (if_neg b14_).symm.trans h13_
      have b16_ : r9 = r8 := by first | exact b14_ | simpa using b14_
      by_cases b17_ : r8 ≠ (0 : Int)
      · have h18_ := (if_pos b17_).symm.trans h15_
        by_cases b19_ : r5 = r8
        · have h20_ := (if_pos b19_).symm.trans h18_
          by_cases b21_ : r7 = r8
          · have h22_ := (if_pos b21_).symm.trans h20_
            by_cases b23_ : (r1 == (0 : Int) && (r2 == (0 : Int) && true) && (r3 == (0 : Int) && (r4 == (0 : Int) && true) && true)) = true
            · have h24_ := (if_pos b23_).symm.trans h22_
              obtain rfl := Option.some.inj h24_
              exact con_pc (op := true) (I := [8]) (sp := law8_sp) 3000 (bF 2 (bT 12 [])) [.one (.bool r0), .tup [(shNF2_0 r1 r2 r3 r4), .one (.int .i64 r5)], .tup [.one (.int .i64 r6), .one (.int .i64 r7)], .one (.int .i64 r8), .one (.int .i64 r9)] [c_nn b5_, c_bn b16_, c_b b17_, c_e b19_, c_e b19_, c_e b19_, c_e b19_, c_e b21_, c_e b21_, c_e b21_, c_e b21_, c_q b23_, c_q b23_, c_q b23_] [k_c f1_, k_c f6_, k_c f8_, k_c f10_, k_c f12_] (by kernel_rfl)
            · have h24_ := (if_neg b23_).symm.trans h22_
              have b25_ : (r1 == (0 : Int) && (r2 == (0 : Int) && true) && (r3 == (0 : Int) && (r4 == (0 : Int) && true) && true)) = false := by first | exact b23_ | simpa using b23_
              obtain rfl := Option.some.inj h24_
              exact con_pc (op := true) (I := [8]) (sp := law8_sp) 3000 (bF 2 (bT 9 (bF 3 []))) [.one (.bool r0), .tup [(shNF2_0 r1 r2 r3 r4), .one (.int .i64 r5)], .tup [.one (.int .i64 r6), .one (.int .i64 r7)], .one (.int .i64 r8), .one (.int .i64 r9)] [c_nn b5_, c_bn b16_, c_b b17_, c_e b19_, c_e b19_, c_e b19_, c_e b19_, c_e b21_, c_e b21_, c_e b21_, c_e b21_, c_q b25_, c_q b25_, c_q b25_] [k_c f1_, k_c f6_, k_c f8_, k_c f10_, k_c f12_] (by kernel_rfl)
          · have h22_ := (if_neg b21_).symm.trans h20_
            have b26_ : r7 ≠ r8 := by first | exact b21_ | simpa using b21_
            obtain rfl := Option.some.inj h22_
            exact con_pc (op := true) (I := [8]) (sp := law8_sp) 3000 (bF 2 (bT 5 (bF 7 []))) [.one (.bool r0), .tup [(shNF2_0 r1 r2 r3 r4), .one (.int .i64 r5)], .tup [.one (.int .i64 r6), .one (.int .i64 r7)], .one (.int .i64 r8), .one (.int .i64 r9)] [c_nn b5_, c_bn b16_, c_b b17_, c_e b19_, c_e b19_, c_e b19_, c_e b19_, c_en b26_, c_en b26_, c_en b26_, c_en b26_, c_F, c_F, c_F] [k_c f1_, k_c f6_, k_c f8_, k_c f10_, k_c f12_] (by kernel_rfl)
        · have h20_ := (if_neg b19_).symm.trans h18_
          have b27_ : r5 ≠ r8 := by first | exact b19_ | simpa using b19_
          obtain rfl := Option.some.inj h20_
          exact con_pc (op := true) (I := [8]) (sp := law8_sp) 3000 (bF 2 (bT 1 (bF 11 []))) [.one (.bool r0), .tup [(shNF2_0 r1 r2 r3 r4), .one (.int .i64 r5)], .tup [.one (.int .i64 r6), .one (.int .i64 r7)], .one (.int .i64 r8), .one (.int .i64 r9)] [c_nn b5_, c_bn b16_, c_b b17_, c_en b27_, c_en b27_, c_en b27_, c_en b27_, c_F, c_F, c_F, c_F, c_F, c_F, c_F] [k_c f1_, k_c f6_, k_c f8_, k_c f10_, k_c f12_] (by kernel_rfl)
      · have h18_ := (if_neg b17_).symm.trans h15_
        have b28_ : r8 = (0 : Int) := by first | exact b17_ | simpa using b17_
        by_cases b29_ : r5 ≠ (0 : Int)
        · have h30_ := (if_pos b29_).symm.trans h18_
          obtain rfl := Option.some.inj h30_
          exact con_pc (op := true) (I := [8]) (sp := law8_sp) 3000 (bF 3 (bT 6 [])) [.one (.bool r0), .tup [(shNF2_0 r1 r2 r3 r4), .one (.int .i64 r5)], .tup [.one (.int .i64 r6), .one (.int .i64 r7)], .one (.int .i64 r8), .one (.int .i64 r9)] [c_nn b5_, c_bn b16_, c_bn b28_, c_b b29_, c_b b29_, c_b b29_, c_b b29_, c_b b29_, c_T] [k_c f1_, k_c f6_, k_c f8_, k_c f10_, k_c f12_] (by kernel_rfl)
        · have h30_ := (if_neg b29_).symm.trans h18_
          have b31_ : r5 = (0 : Int) := by first | exact b29_ | simpa using b29_
          obtain ⟨⟨r10, r11, r12, r13⟩, f32_, h33_⟩ := pullD_elim h30_
          replace f32_ := m_44_ok f32_
          by_cases b34_ : (!(r1 == r10 && (r2 == r11 && true) && (r3 == r12 && (r4 == r13 && true) && true))) = true
          · have h35_ := (if_pos b34_).symm.trans h33_
            obtain rfl := Option.some.inj h35_
            exact con_pc (op := true) (I := [8]) (sp := law8_sp) 3000 (bF 8 (bT 1 [])) [.one (.bool r0), .tup [(shNF2_0 r1 r2 r3 r4), .one (.int .i64 r5)], .tup [.one (.int .i64 r6), .one (.int .i64 r7)], .one (.int .i64 r8), .one (.int .i64 r9), (shNF2_0 r10 r11 r12 r13)] [c_nn b5_, c_bn b16_, c_bn b28_, c_bn b31_, c_bn b31_, c_bn b31_, c_bn b31_, c_bn b31_, c_q b34_] [k_c f1_, k_c f6_, k_c f8_, k_c f10_, k_c f12_, k_c f32_] (by kernel_rfl)
          · have h35_ := (if_neg b34_).symm.trans h33_
            have b36_ : (!(r1 == r10 && (r2 == r11 && true) && (r3 == r12 && (r4 == r13 && true) && true))) = false := by first | exact b34_ | simpa using b34_
            obtain ⟨r14, f37_, h38_⟩ := pullD_elim h35_
            replace f37_ := m_45_ok f37_
            by_cases b39_ : r14 = (0 : Int)
            · have h40_ := (if_pos b39_).symm.trans h38_
              obtain ⟨r15, f41_, h42_⟩ := pullD_elim h40_
              replace f41_ := m_30_ok f41_
              by_cases b43_ : r15 = false
              · have h44_ := (if_pos b43_).symm.trans h42_
                by_cases b45_ : r7 = (2 : Int)
                · have h46_ := (if_pos b45_).symm.trans h44_
                  obtain rfl := Option.some.inj h46_
                  exact con_pc (op := true) (I := [8]) (sp := law8_sp) 3000 (bF 9 (bT 9 [])) [.one (.bool r0), .tup [(shNF2_0 r1 r2 r3 r4), .one (.int .i64 r5)], .tup [.one (.int .i64 r6), .one (.int .i64 r7)], .one (.int .i64 r8), .one (.int .i64 r9), (shNF2_0 r10 r11 r12 r13), .one (.int .i64 r14), .one (.bool r15)] [c_nn b5_, c_bn b16_, c_bn b28_, c_bn b31_, c_bn b31_, c_bn b31_, c_bn b31_, c_bn b31_, c_q b36_, c_e b39_, c_e b39_, c_e b39_, c_e b39_, c_no b43_, c_T, c_e b45_, c_e b45_, c_e b45_] [k_c f1_, k_c f6_, k_c f8_, k_c f10_, k_c f12_, k_c f32_, k_c f37_, k_c f41_] (by kernel_rfl)
                · have h46_ := (if_neg b45_).symm.trans h44_
                  have b47_ : r7 ≠ (2 : Int) := by first | exact b45_ | simpa using b45_
                  obtain rfl := Option.some.inj h46_
                  exact con_pc (op := true) (I := [8]) (sp := law8_sp) 3000 (bF 9 (bT 6 (bF 3 []))) [.one (.bool r0), .tup [(shNF2_0 r1 r2 r3 r4), .one (.int .i64 r5)], .tup [.one (.int .i64 r6), .one (.int .i64 r7)], .one (.int .i64 r8), .one (.int .i64 r9), (shNF2_0 r10 r11 r12 r13), .one (.int .i64 r14), .one (.bool r15)] [c_nn b5_, c_bn b16_, c_bn b28_, c_bn b31_, c_bn b31_, c_bn b31_, c_bn b31_, c_bn b31_, c_q b36_, c_e b39_, c_e b39_, c_e b39_, c_e b39_, c_no b43_, c_T, c_en b47_, c_en b47_, c_en b47_] [k_c f1_, k_c f6_, k_c f8_, k_c f10_, k_c f12_, k_c f32_, k_c f37_, k_c f41_] (by kernel_rfl)
              · have h44_ := (if_neg b43_).symm.trans h42_
                have b48_ : r15 = true := by first | exact b43_ | simpa using b43_
                by_cases b49_ : r7 = (0 : Int)
                · have h50_ := (if_pos b49_).symm.trans h44_
                  obtain ⟨r16, f51_, h52_⟩ := pullD_elim h50_
                  replace f51_ := m_46_ok f51_
                  obtain rfl := Option.some.inj h52_
                  exact con_pc (op := true) (I := [8]) (sp := law8_sp) 3000 (bF 9 (bT 4 (bF 2 (bT 7 [])))) [.one (.bool r0), .tup [(shNF2_0 r1 r2 r3 r4), .one (.int .i64 r5)], .tup [.one (.int .i64 r6), .one (.int .i64 r7)], .one (.int .i64 r8), .one (.int .i64 r9), (shNF2_0 r10 r11 r12 r13), .one (.int .i64 r14), .one (.bool r15), .one (.int .i64 r16)] [c_nn b5_, c_bn b16_, c_bn b28_, c_bn b31_, c_bn b31_, c_bn b31_, c_bn b31_, c_bn b31_, c_q b36_, c_e b39_, c_e b39_, c_e b39_, c_e b39_, c_nn b48_, c_bn b39_, c_e b49_, c_e b49_, c_e b49_, c_e b49_, c_e b49_, c_e b49_, c_e b49_] [k_c f1_, k_c f6_, k_c f8_, k_c f10_, k_c f12_, k_c f32_, k_c f37_, k_c f41_, k_c f51_] (by kernel_rfl)
                · have h50_ := (if_neg b49_).symm.trans h44_
                  have b53_ : r7 ≠ (0 : Int) := by first | exact b49_ | simpa using b49_
                  obtain rfl := Option.some.inj h50_
                  exact con_pc (op := true) (I := [8]) (sp := law8_sp) 3000 (bF 9 (bT 4 (bF 9 []))) [.one (.bool r0), .tup [(shNF2_0 r1 r2 r3 r4), .one (.int .i64 r5)], .tup [.one (.int .i64 r6), .one (.int .i64 r7)], .one (.int .i64 r8), .one (.int .i64 r9), (shNF2_0 r10 r11 r12 r13), .one (.int .i64 r14), .one (.bool r15)] [c_nn b5_, c_bn b16_, c_bn b28_, c_bn b31_, c_bn b31_, c_bn b31_, c_bn b31_, c_bn b31_, c_q b36_, c_e b39_, c_e b39_, c_e b39_, c_e b39_, c_nn b48_, c_bn b39_, c_en b53_, c_en b53_, c_en b53_, c_en b53_, c_en b53_, c_en b53_, c_en b53_] [k_c f1_, k_c f6_, k_c f8_, k_c f10_, k_c f12_, k_c f32_, k_c f37_, k_c f41_] (by kernel_rfl)
            · have h40_ := (if_neg b39_).symm.trans h38_
              have b54_ : r14 ≠ (0 : Int) := by first | exact b39_ | simpa using b39_
              by_cases b55_ : r7 = r14
              · have h56_ := (if_pos b55_).symm.trans h40_
                obtain rfl := Option.some.inj h56_
                exact con_pc (op := true) (I := [8]) (sp := law8_sp) 3000 (bF 14 (bT 4 [])) [.one (.bool r0), .tup [(shNF2_0 r1 r2 r3 r4), .one (.int .i64 r5)], .tup [.one (.int .i64 r6), .one (.int .i64 r7)], .one (.int .i64 r8), .one (.int .i64 r9), (shNF2_0 r10 r11 r12 r13), .one (.int .i64 r14)] [c_nn b5_, c_bn b16_, c_bn b28_, c_bn b31_, c_bn b31_, c_bn b31_, c_bn b31_, c_bn b31_, c_q b36_, c_en b54_, c_en b54_, c_en b54_, c_en b54_, c_F, c_b b54_, c_e b55_, c_e b55_, c_e b55_] [k_c f1_, k_c f6_, k_c f8_, k_c f10_, k_c f12_, k_c f32_, k_c f37_] (by kernel_rfl)
              · have h56_ := (if_neg b55_).symm.trans h40_
                have b57_ : r7 ≠ r14 := by first | exact b55_ | simpa using b55_
                obtain rfl := Option.some.inj h56_
                exact con_pc (op := true) (I := [8]) (sp := law8_sp) 3000 (bF 14 (bT 1 (bF 3 []))) [.one (.bool r0), .tup [(shNF2_0 r1 r2 r3 r4), .one (.int .i64 r5)], .tup [.one (.int .i64 r6), .one (.int .i64 r7)], .one (.int .i64 r8), .one (.int .i64 r9), (shNF2_0 r10 r11 r12 r13), .one (.int .i64 r14)] [c_nn b5_, c_bn b16_, c_bn b28_, c_bn b31_, c_bn b31_, c_bn b31_, c_bn b31_, c_bn b31_, c_q b36_, c_en b54_, c_en b54_, c_en b54_, c_en b54_, c_F, c_b b54_, c_en b57_, c_en b57_, c_en b57_] [k_c f1_, k_c f6_, k_c f8_, k_c f10_, k_c f12_, k_c f32_, k_c f37_] (by kernel_rfl)
def m_8 (ds : List D) : Option D := pullD (α := Int × Int × Int × Int × Int × Int × Int × Int) (some (.tup ds)) (fun d => ((D.vi (D.at (D.at d 0) 0)), (D.vi (D.at (D.at d 0) 1)), (D.vi (D.at (D.at d 0) 2)), (D.vi (D.at (D.at d 0) 3)), (D.vi (D.at (D.at d 0) 4)), (D.vi (D.at (D.at d 0) 5)), (D.vi (D.at d 1)), (D.vi (D.at d 2)))) (fun (a, b, c, d, n, m, u, l) => .tup [(shNF2_1 a b c d n m), .one (.int .i64 u), .one (.int .i64 l)]) fun (a, b, c, d, n, m, u, l) => law8_M a b c d n m u l
theorem m_8_ok {ds : List D} {r : D} (h : m_8 ds = some r) : Con 8 ds r := by
  unfold m_8 at h
  obtain ⟨⟨a, b, c, d, n, m, u, l⟩, e0, h0⟩ := pullD_elim h
  obtain rfl := tup_inj e0
  exact law8_M_ok a b c d n m u l h0
theorem m_8_eq (a b c d n m u l : Int) : m_8 [(shNF2_1 a b c d n m), .one (.int .i64 u), .one (.int .i64 l)] = law8_M a b c d n m u l := pullD_some (a, b, c, d, n, m, u, l) rfl rfl
end
end Go.Proofs.Ytlnolhhoakmdhaa
/- The law of currents. -/
namespace Go.Proofs.Ytlnolhhoakmdhaa
open Go.Ev Go.RowKit
set_option maxRecDepth 100000
def rngE (x lo hi : Int) : Int := if x < lo ∨ x > hi then 2 else 0
theorem chkUnit_eq (u : Int) : m_100 [iD u] = some (iD (rngE u 0 10000000)) := by
  rw [m_100_eq]
  unfold chkUnit_M rngE
  repeat' split
  all_goals first | rfl | (exfalso; omega)
theorem unitErr_eq (u : Int) : m_45 [iD u] = some (iD (rngE u 0 10000000)) := by
  rw [m_45_eq]
  unfold unitErr_M rngE
  rw [within_eq, pullB]
  repeat' split
  all_goals first | rfl | (exfalso; simp only [decide_eq_false_iff_not] at *; omega)
abbrev fD (a b c d n m : Int) : D := .agg [iD a, iD b, iD c, iD d, iD n, iD m]
theorem chkdFault_eq (a b c d n m : Int) : m_98 [fD a b c d n m] = some (if faultE a b c d n m ≠ 0 then .tup [fD 0 0 0 0 0 0, iD (faultE a b c d n m)] else .tup [fD a b c d n m, iD 0]) := by
  rw [m_98_eq]
  unfold chkdFault_M
  have h : m_43 [shNF1_1 a b c d n m] = _ := chkFault_eq a b c d n m
  rw [h, pullI]
  split <;> rfl
theorem peakOf_bad {a b c d n m : Int} (h : faultE a b c d n m ≠ 0) : m_40 [fD a b c d n m] = some (.tup [.agg [iD 0, iD 0, iD 0, iD 0], iD (faultE a b c d n m)]) := by
  rw [m_40_eq]
  unfold peakOf_M
  have h1 : m_98 [shNF1_1 a b c d n m] = _ := chkdFault_eq a b c d n m
  rw [if_pos h] at h1
  rw [h1, pullD_some ((0 : Int), (0 : Int), (0 : Int), (0 : Int), (0 : Int), (0 : Int), faultE a b c d n m) (by rfl) (by rfl)]
  dsimp only
  rw [if_pos h]
theorem peakOf_ok {a b c d n m : Int} (h : faultE a b c d n m = 0) : m_40 [fD a b c d n m] = some (.tup [pkD a b c d n m, iD 0]) := by
  rw [m_40_eq]
  unfold peakOf_M
  have h1 : m_98 [shNF1_1 a b c d n m] = _ := chkdFault_eq a b c d n m
  rw [if_neg (by omega)] at h1
  have h2 : m_99 [shNF1_1 a b c d n m] = _ := peak_eq (fault_ok h)
  rw [h1, pullD_some (a, b, c, d, n, m, (0 : Int)) (by rfl) (by rfl)]
  dsimp only
  rw [if_neg (by decide), h2, pullD_some ((loQ a d n m).num, ((loQ a d n m).den : Int), (loQ b c n m).num, ((loQ b c n m).den : Int)) (by rfl) (by rfl)]
/-- Why an answer is refused. -/
def holdE (a b c d n m u l : Int) : Int := firstV [faultE a b c d n m, rngE u 0 10000000, rngE l 1 100000000]
theorem f3 (x y z : Int) : m_83 [.list 3 [iD x, iD y, iD z]] = some (iD (firstV [x, y, z])) := firstOf_eq [x, y, z] (by simp)
theorem holdE_ok {a b c d n m u l : Int} (h : holdE a b c d n m u l = 0) : faultE a b c d n m = 0 ∧ 0 ≤ u ∧ u ≤ 10000000 ∧ 1 ≤ l ∧ l ≤ 100000000 := by
  unfold holdE at h
  simp only [firstV] at h
  split at h
  · rename_i h1
    split at h
    · rename_i h2
      split at h
      · rename_i h3
        unfold rngE at h2 h3
        split at h2
        · cases h2
        split at h3
        · cases h3
        exact ⟨h1, by omega, by omega, by omega, by omega⟩
      · contradiction
    · contradiction
  · contradiction
theorem holdsAt_bad {a b c d n m u l : Int} (h : holdE a b c d n m u l ≠ 0) : m_41 [fD a b c d n m, iD u, iD l] = some (.tup [iD 0, iD (holdE a b c d n m u l)]) := by
  rw [m_41_eq]
  unfold holdsAt_M
  have h1 : m_98 [shNF1_1 a b c d n m] = _ := chkdFault_eq a b c d n m
  have key : ∀ (y0 y1 y2 y3 y4 y5 : Int), m_98 [shNF1_1 a b c d n m] = some (.tup [fD y0 y1 y2 y3 y4 y5, iD (faultE a b c d n m)]) → holdsAt_M a b c d n m u l = some (.tup [iD 0, iD (holdE a b c d n m u l)]) := fun y0 y1 y2 y3 y4 y5 hy => by
    unfold holdsAt_M
    rw [hy, pullD_some (y0, y1, y2, y3, y4, y5, faultE a b c d n m) (by rfl) (by rfl)]
    dsimp only
    rw [chkUnit_eq, pullI]
    unfold holdE at h
    by_cases g1 : l < 1
    · have e : rngE l 1 100000000 = 2 := by unfold rngE; rw [if_pos (.inl g1)]
      rw [e] at h
      rw [if_pos g1, f3, pullI, if_pos h]
      unfold holdE; rw [e]
    · by_cases g2 : l > 100000000
      · have e : rngE l 1 100000000 = 2 := by unfold rngE; rw [if_pos (.inr g2)]
        rw [e] at h
        rw [if_neg g1, if_pos g2, f3, pullI, if_pos h]
        unfold holdE; rw [e]
      · have e : rngE l 1 100000000 = 0 := by unfold rngE; rw [if_neg (by omega)]
        rw [e] at h
        rw [if_neg g1, if_neg g2, f3, pullI, if_pos h]
        unfold holdE; rw [e]
  have : holdsAt_M a b c d n m u l = some (.tup [iD 0, iD (holdE a b c d n m u l)]) := by
    by_cases hf : faultE a b c d n m ≠ 0
    · rw [if_pos hf] at h1
      exact key 0 0 0 0 0 0 h1
    · rw [if_neg hf] at h1
      refine key a b c d n m ?_
      rw [h1, show faultE a b c d n m = 0 by omega]
  unfold holdsAt_M at this
  exact this
theorem holdsAt_ok {a b c d n m u l : Int} (h : holdE a b c d n m u l = 0) : m_41 [fD a b c d n m, iD u, iD l] = some (.tup [iD (ansV l l u (loQ a d n m) (loQ b c n m)), iD 0]) := by
  obtain ⟨k1, k2, k3, k4, k5⟩ := holdE_ok h
  rw [m_41_eq]
  unfold holdsAt_M
  have h1 : m_98 [shNF1_1 a b c d n m] = _ := chkdFault_eq a b c d n m
  rw [if_neg (by omega)] at h1
  have h2 : m_101 [shNF1_1 a b c d n m, iD u, iD l] = _ := holds_eq l (fault_ok k1) k2 k3
  have e1 : rngE u 0 10000000 = 0 := by unfold rngE; rw [if_neg (by omega)]
  rw [h1, pullD_some (a, b, c, d, n, m, (0 : Int)) (by rfl) (by rfl)]
  dsimp only
  rw [chkUnit_eq, pullI, if_neg (by omega), if_neg (by omega), f3, pullI, e1, if_neg (by decide), h2, pullI]
theorem law8_eq (a b c d n m u l : Int) : m_8 [fD a b c d n m, iD u, iD l] = some (.one (.bool true)) := by
  rw [m_8_eq]
  unfold law8_M
  rw [m_13_eq, pullB, if_neg (by decide)]
  have c1 : m_42 [shNF2_1 a b c d n m] = _ := faultErr_eq a b c d n m
  have c2 : m_43 [shNF2_1 a b c d n m] = _ := chkFault_eq a b c d n m
  by_cases hf : faultE a b c d n m = 0
  · have hv := fault_ok hf
    have p1 : m_40 [shNF2_1 a b c d n m] = _ := peakOf_ok hf
    have p2 : m_44 [shNF2_1 a b c d n m] = _ := peakR_eq hv
    rw [p1, pullD_some ((loQ a d n m).num, ((loQ a d n m).den : Int), (loQ b c n m).num, ((loQ b c n m).den : Int), (0 : Int)) (by rfl) (by rfl)]
    dsimp only
    by_cases hh : holdE a b c d n m u l = 0
    · obtain ⟨k1, k2, k3, k4, k5⟩ := holdE_ok hh
      have q1 : m_41 [shNF2_1 a b c d n m, iD u, iD l] = _ := holdsAt_ok hh
      have q2 : m_46 [shNF2_1 a b c d n m, iD u, iD l] = _ := holdsR_eq l hv k2 k3 (by omega) (by omega)
      have e1 : rngE u 0 10000000 = 0 := by unfold rngE; rw [if_neg (by omega)]
      rw [q1, pullD_some (ansV l l u (loQ a d n m) (loQ b c n m), (0 : Int)) (by rfl) (by rfl)]
      dsimp only
      rw [c1, pullI, c2, pullI, hf, if_neg (by simp), if_neg (by simp), if_neg (by simp), p2, pullD_some ((loQ a d n m).num, ((loQ a d n m).den : Int), (loQ b c n m).num, ((loQ b c n m).den : Int)) (by rfl) (by rfl)]
      dsimp only
      rw [if_neg (by simp), unitErr_eq, pullI, e1, if_pos rfl, within_eq, pullB, if_neg (by simp; omega), if_pos rfl, q2, pullI]
      simp
    · have q1 : m_41 [shNF2_1 a b c d n m, iD u, iD l] = _ := holdsAt_bad hh
      rw [q1, pullD_some ((0 : Int), holdE a b c d n m u l) (by rfl) (by rfl)]
      dsimp only
      rw [c1, pullI, c2, pullI, hf, if_neg (by simp), if_neg (by simp), if_neg (by simp), p2, pullD_some ((loQ a d n m).num, ((loQ a d n m).den : Int), (loQ b c n m).num, ((loQ b c n m).den : Int)) (by rfl) (by rfl)]
      dsimp only
      rw [if_neg (by simp), unitErr_eq, pullI]
      by_cases hu : rngE u 0 10000000 = 0
      · have hl : l < 1 ∨ l > 100000000 := by
          refine Classical.byContradiction fun hl => hh ?_
          unfold holdE
          have e2 : rngE l 1 100000000 = 0 := by unfold rngE; rw [if_neg hl]
          simp [firstV, hf, hu, e2]
        have e3 : holdE a b c d n m u l = 2 := by
          unfold holdE
          have e2 : rngE l 1 100000000 = 2 := by unfold rngE; rw [if_pos hl]
          simp [firstV, hf, hu, e2]
        rw [if_pos hu, within_eq, pullB, if_pos (by simp; omega), if_pos e3]
        rfl
      · have e3 : holdE a b c d n m u l = rngE u 0 10000000 := by
          unfold holdE
          simp [firstV, hf, hu]
        rw [if_neg hu, if_pos e3]
        rfl
  · have p1 : m_40 [shNF2_1 a b c d n m] = _ := peakOf_bad hf
    have e3 : holdE a b c d n m u l = faultE a b c d n m := by
      unfold holdE
      simp [firstV, hf]
    have q1 : m_41 [shNF2_1 a b c d n m, iD u, iD l] = _ := holdsAt_bad (by rw [e3]; exact hf)
    rw [p1, pullD_some ((0 : Int), (0 : Int), (0 : Int), (0 : Int), faultE a b c d n m) (by rfl) (by rfl)]
    dsimp only
    rw [q1, e3, pullD_some ((0 : Int), faultE a b c d n m) (by rfl) (by rfl)]
    dsimp only
    rw [c1, pullI, c2, pullI, if_neg (by simp), if_pos hf, if_pos rfl, if_pos rfl]
    rfl
theorem law8_con (a b c d n m u l : Int) : Con 8 [fD a b c d n m, iD u, iD l] (.one (.bool true)) := m_8_ok (law8_eq a b c d n m u l)
end Go.Proofs.Ytlnolhhoakmdhaa
/- ForceCurrents: what the runs give, for every argument. -/
namespace Go.Proofs.Ytlnolhhoakmdhaa.forceCurrents
open Go.ChangeShapes Go.WideShapes Go.ChangeAt Go.RowKit Go.Joins Go.Ev
set_option maxRecDepth 100000 in
/-- WHAT THE RUNS GIVE, FOR EVERY ARGUMENT AND EVERY WORLD THAT HOLDS THE TABLES. -/
theorem contract (H : Type) (enc : TypeId × Value → H) (W : World) (base : Nat) (args : Array Value) (ds gs : List (DataW H)) (before : List MemPlace)
    (hval : ∀ (j : Nat) t v, Try.f8.params[j]? = some t → args[j]? = some v → Value.okWide Try.prog W .any base t v)
    (hW : DataW.Whole enc Try.prog Try.f8.params.toList Rows.forceCurrentsSpec.vars false W args.toList ds gs before) (hL : laidMetH Try.prog Rows.forceCurrentsRow.laid W) :
    Calls Try.prog 8 args W fun e W' => ∃ v, e = .returned v ∧ Rows.forceCurrentsSpec.post enc Try.prog Try.f8 false true false false W args v W' := by
  have hW' := hW
  have hlt := hW.lt
  obtain ⟨p, q, hA0, hV, rfl, hfz, hnd⟩ := hW
  have hA : DataW.TrodAll enc Try.prog W 0 (fun _ => true) true Try.f8.params.toList args.toList ds p := hA0
  rw [Try.params8] at hA hval
  obtain ⟨v0, vs0, d0, ds0, p0, q0, hargs, rfl, rfl, h0, r0⟩ := trodAll_cons hA
  obtain ⟨v1, vs1, d1, ds1, p1, q1, rfl, rfl, rfl, h1, r1⟩ := trodAll_cons r0
  obtain ⟨v2, vs2, d2, ds2, p2, q2, rfl, rfl, rfl, h2, r2⟩ := trodAll_cons r1
  obtain ⟨rfl, rfl, rfl⟩ := trodAll_nil r2
  obtain rfl : args = #[v0, v1, v2] := by cases args; simp_all
  obtain ⟨rfl, rfl⟩ := trodVars_none hV
  obtain ⟨e0, o0, k0⟩ := open_agg (ls := [.int .i64, .int .i64, .int .i64, .int .i64, .int .i64, .int .i64]) 8 (by kernel_rfl) (by kernel_rfl) (by kernel_rfl) (hval 0 62 v0 rfl rfl) h0
  obtain ⟨a, b, c, d, n, m, rfl⟩ := ints6_of o0
  obtain ⟨e1, o1, k1⟩ := open_cell (c := .int .i64) 8 (by kernel_rfl) (by kernel_rfl) (by kernel_rfl) (hval 1 3 v1 rfl rfl) h1
  obtain ⟨u, rfl, -⟩ := int_of o1
  obtain ⟨e2, o2, k2⟩ := open_cell (c := .int .i64) 8 (by kernel_rfl) (by kernel_rfl) (by kernel_rfl) (hval 2 3 v2 rfl rfl) h2
  obtain ⟨l, rfl, -⟩ := int_of o2
  have hr : RpL (fun _ => True) W [.agg [.one (.int .i64 a), .one (.int .i64 b), .one (.int .i64 c), .one (.int .i64 d), .one (.int .i64 n), .one (.int .i64 m)], .one (.int .i64 u), .one (.int .i64 l)] [v0, v1, v2] := by
    simp only [RpL]
    exact ⟨v0, _, rfl, k0, ⟨v1, _, rfl, k1, ⟨v2, _, rfl, k2, rfl⟩⟩⟩
  refine (law8_con a b c d n m u l W (fun _ => True) _ tabs0 hr).mono fun e W' ⟨v, he, hv, hg⟩ => ?_
  simp only [Rp] at hv
  subst he
  subst hv
  have hlaid : laidOutB Try.prog = true := by kernel_rfl
  exact ⟨_, rfl, post_below (pa := (p0 ++ (p1 ++ (p2 ++ [])))) (pv := []) hW' (fun _ _ _ => trodAll_cons_mk (shut_bool Try.underlying4 _) trodAll_mk0) (fun sp hsp => by
    rw [Try.params8]
    exact trodAll_cons_mk (stays hlaid (by kernel_rfl) (of_decide_eq_true (by kernel_rfl)) h0 hg (fun x hx => hlt x (by simp only [List.mem_append]; left; left; exact hx)) (fun x hx => hsp x (by simp only [List.mem_append]; left; left; exact hx))) (trodAll_cons_mk (stays hlaid (by kernel_rfl) (of_decide_eq_true (by kernel_rfl)) h1 hg (fun x hx => hlt x (by simp only [List.mem_append]; left; right; left; exact hx)) (fun x hx => hsp x (by simp only [List.mem_append]; left; right; left; exact hx))) (trodAll_cons_mk (stays hlaid (by kernel_rfl) (of_decide_eq_true (by kernel_rfl)) h2 hg (fun x hx => hlt x (by simp only [List.mem_append]; left; right; right; left; exact hx)) (fun x hx => hsp x (by simp only [List.mem_append]; left; right; right; left; exact hx))) (trodAll_mk0)))) (fun _ _ => rfl) rfl
    hg (ok_one (by kernel_rfl) rfl (okWide_bool_mk Try.underlying4 _))⟩
end Go.Proofs.Ytlnolhhoakmdhaa.forceCurrents
/- ForceCurrents: closed facts of the witness. -/
namespace Go.Proofs.Ytlnolhhoakmdhaa.forceCurrents
open Go.ChangeShapes Go.WideShapes Go.ChangeAt Go.RowKit Go.Joins
/-- THE WITNESS's ARGUMENTS. -/
noncomputable def args0 : Array Value := #[.agg #[.int .i64 0, .int .i64 0, .int .i64 0, .int .i64 0, .int .i64 0, .int .i64 0], .int .i64 0, .int .i64 0]
/-- A WORLD FOR THE WITNESS: the heap that the program's own initialisers leave. -/
noncomputable def start (os : Os) : World := World.doorLaid Try.prog 400 os
theorem laid_met (os : Os) : laidMet Try.prog Rows.forceCurrentsRow.laid ((start os).forCall (fun _ _ => 0) ⟨#[], args0, []⟩).memory := ⟨[], rfl, List.nodup_nil, fun _ _ h => by cases h⟩
theorem reads (os : Os) {H : Type} (enc : TypeId × Value → H) : ∃ places, DataW.whole enc Try.prog ((start os).forCall (fun _ _ => 0) ⟨#[], args0, []⟩).memory Try.f8.params.toList Rows.forceCurrentsSpec.vars false args0.toList 8 = some ([.agg [.agg [.lit (.int .i64 0), .lit (.int .i64 0)], .agg [.lit (.int .i64 0), .lit (.int .i64 0)], .agg [.lit (.int .i64 0), .lit (.int .i64 0)]], .lit (.int .i64 0), .lit (.int .i64 0)], [], places) :=
  ⟨[], by kernel_rfl⟩
theorem vB (os : Os) : ((start os).forCall (fun _ _ => 0) ⟨#[], args0, []⟩).variablesB Try.prog = true := by kernel_rfl
theorem rB (os : Os) : (((start os).forCall (fun _ _ => 0) ⟨#[], args0, []⟩).heap.toList.drop Try.prog.globals.size).take ((begin Try.prog (fun _ _ => 0) default).world.heap.size - Try.prog.globals.size) = (begin Try.prog (fun _ _ => 0) default).world.heap.toList.drop Try.prog.globals.size := by kernel_rfl
theorem oB (os : Os) : Input.okWideB Try.prog ((start os).forCall (fun _ _ => 0) ⟨#[], args0, []⟩) 8 ⟨#[], args0, []⟩ = true := by kernel_rfl
theorem hB (os : Os) : (start os).os = os := by kernel_rfl
end Go.Proofs.Ytlnolhhoakmdhaa.forceCurrents
/- For any fault, unit force and limit, valid or not, the law ForceCurrents of the program answers true, and its arguments read as they did. CONDITIONS: none. -/
namespace Go.Proofs.Ytlnolhhoakmdhaa.forceCurrents
open Go.ChangeShapes Go.WideShapes Go.ChangeAt Go.RowKit Go.Joins
set_option maxRecDepth 100000 in
theorem lifted (os : Os) (started : os.Started) (H : Type) (enc : TypeId × Value → H) (F : Stop.Interp) :
    ReturnsInHanded {} Try.checked os 8 .any ((OpenSpec.ofChange Rows.forceCurrentsSpec).preRow enc Try.prog Try.f8 Rows.forceCurrentsRow.domain false Rows.forceCurrentsRow.laid) (((OpenSpec.ofChange Rows.forceCurrentsSpec).at F).post enc Try.prog Try.f8 false true false false) := by
  obtain ⟨places, hx⟩ := reads os enc
  refine returnsInHanded_of_row (C := Try.checked) (s := OpenSpec.ofChange Rows.forceCurrentsSpec) own started (by kernel_rfl) Try.func8
    (witness_row_at (enc := enc) (C := Try.checked) false (start os) args0 (hB os) (vB os) (rB os) (oB os)
      (OpenSpec.preRow_of_cond 8 hx (by kernel_rfl) (fun k hk => by cases hk) (by kernel_rfl) (laid_met os))) ?_
  intro W base args ds gs before hval hW _ _ _ hL _ _
  exact contract H enc W base args ds gs before hval hW hL
theorem said : Rows.ForceCurrentsSaid :=
  OpenClaim.holds_of_cond 8 Try.f8 rfl rfl rfl rfl rfl rfl rfl ⟨rfl, rfl, rfl, rfl, rfl⟩ rfl rfl rfl rfl rfl (by kernel_rfl) Try.func8 (by kernel_rfl)
    (of_decide_eq_true (by kernel_rfl)) (by unfold Func.isWrapper; first | (rw [if_pos (by decide +kernel)]; kernel_rfl) | (rw [if_neg (by decide +kernel)]; exact ⟨rfl, rfl⟩))
    (fun os started H enc _ F => by rw [OpenClaim.pre_eq_preRow]; exact lifted os started H enc F)
end Go.Proofs.Ytlnolhhoakmdhaa.forceCurrents
