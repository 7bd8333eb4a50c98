/- The lines of every valid winding, their phasor and its hours. -/
import Derived.Test.YtngdhmliohjigaaDoorLF
import Derived.Test.YtngdhmliohjigaaDoorI
import Derived.Test.YtngdhmliohjigaaDoorJ
import Derived.Test.YtngdhmliohjigaaDoorJ1
import Derived.Test.YtngdhmliohjigaaDoorJ2
namespace Go.Proofs.YtngdhmliohjigaaDoor
open Go.RowKit

def patL : List Value := [.int .i64 1, .int .i64 (-1), .int .i64 0, .int .i64 1, .int .i64 0, .int .i64 0, .int .i64 1, .int .i64 (-2), .int .i64 1]
def limbL : List Value := [.int .i64 1, .int .i64 0, .int .i64 (-1), .int .i64 (-1), .int .i64 0, .int .i64 1]
def powL : List Value := [.int .u64 1, .int .u64 10, .int .u64 100, .int .u64 1000, .int .u64 10000, .int .u64 100000, .int .u64 1000000, .int .u64 10000000, .int .u64 100000000, .int .u64 1000000000, .int .u64 10000000000, .int .u64 100000000000, .int .u64 1000000000000, .int .u64 10000000000000, .int .u64 100000000000000, .int .u64 1000000000000000, .int .u64 10000000000000000, .int .u64 100000000000000000, .int .u64 1000000000000000000, .int .u64 10000000000000000000]
/-- What the package's tables hold, in every world that the laws come to. -/
structure Tabs (w : World) : Prop where
  size : 9 < w.heap.size
  pat : w.rangeAt 1 0 patL
  limb : w.rangeAt 2 0 limbL
  hrs : w.rangeAt 3 0 hourL
theorem Tabs.below {w w1 : World} (h : Tabs w) (hb : Below w.heap.size w w1) : Tabs w1 :=
  ⟨Nat.lt_of_lt_of_le h.size hb.size, rangeB hb h.pat, rangeB hb h.limb, rangeB hb h.hrs⟩
theorem agg2 {a b c d : Int} (h1 : a = c) (h2 : b = d) : Ending.returned (.agg #[.int .i64 a, .int .i64 b]) = Ending.returned (.agg #[.int .i64 c, .int .i64 d]) := by rw [h1, h2]

/-- The nine numbers of a winding's lines; its phasor by a turn; its hours. -/
def linesA (k t s : Int) : Array Value :=
  if k = 0 ∧ s = 0 then #[.int .i64 (t * 1), .int .i64 (t * (-1)), .int .i64 (t * 0), .int .i64 (t * 0), .int .i64 (t * 1), .int .i64 (t * (-1)), .int .i64 (t * (-1)), .int .i64 (t * 0), .int .i64 (t * 1)] else
  if k = 0 ∧ s = 1 then #[.int .i64 (t * 0), .int .i64 (t * 1), .int .i64 (t * (-1)), .int .i64 (t * (-1)), .int .i64 (t * 0), .int .i64 (t * 1), .int .i64 (t * 1), .int .i64 (t * (-1)), .int .i64 (t * 0)] else
  if k = 0 ∧ s = 2 then #[.int .i64 (t * (-1)), .int .i64 (t * 0), .int .i64 (t * 1), .int .i64 (t * 1), .int .i64 (t * (-1)), .int .i64 (t * 0), .int .i64 (t * 0), .int .i64 (t * 1), .int .i64 (t * (-1))] else
  if k = 1 ∧ s = 0 then #[.int .i64 (t * 1), .int .i64 (t * 0), .int .i64 (t * 0), .int .i64 (t * 0), .int .i64 (t * 1), .int .i64 (t * 0), .int .i64 (t * 0), .int .i64 (t * 0), .int .i64 (t * 1)] else
  if k = 1 ∧ s = 1 then #[.int .i64 (t * 0), .int .i64 (t * 1), .int .i64 (t * 0), .int .i64 (t * 0), .int .i64 (t * 0), .int .i64 (t * 1), .int .i64 (t * 1), .int .i64 (t * 0), .int .i64 (t * 0)] else
  if k = 1 ∧ s = 2 then #[.int .i64 (t * 0), .int .i64 (t * 0), .int .i64 (t * 1), .int .i64 (t * 1), .int .i64 (t * 0), .int .i64 (t * 0), .int .i64 (t * 0), .int .i64 (t * 1), .int .i64 (t * 0)] else
  if k = 2 ∧ s = 0 then #[.int .i64 (t * 1), .int .i64 (t * (-2)), .int .i64 (t * 1), .int .i64 (t * 1), .int .i64 (t * 1), .int .i64 (t * (-2)), .int .i64 (t * (-2)), .int .i64 (t * 1), .int .i64 (t * 1)] else
  if k = 2 ∧ s = 1 then #[.int .i64 (t * 1), .int .i64 (t * 1), .int .i64 (t * (-2)), .int .i64 (t * (-2)), .int .i64 (t * 1), .int .i64 (t * 1), .int .i64 (t * 1), .int .i64 (t * (-2)), .int .i64 (t * 1)] else #[.int .i64 (t * (-2)), .int .i64 (t * 1), .int .i64 (t * 1), .int .i64 (t * 1), .int .i64 (t * (-2)), .int .i64 (t * 1), .int .i64 (t * 1), .int .i64 (t * 1), .int .i64 (t * (-2))]
def ux (k s : Int) : Int :=
  if k = 0 ∧ s = 0 then 2 else
  if k = 0 ∧ s = 1 then (-1) else
  if k = 0 ∧ s = 2 then (-1) else
  if k = 1 ∧ s = 0 then 1 else
  if k = 1 ∧ s = 1 then (-1) else
  if k = 1 ∧ s = 2 then 0 else
  if k = 2 ∧ s = 0 then 3 else
  if k = 2 ∧ s = 1 then 0 else (-3)
def uy (k s : Int) : Int :=
  if k = 0 ∧ s = 0 then 1 else
  if k = 0 ∧ s = 1 then (-2) else
  if k = 0 ∧ s = 2 then 1 else
  if k = 1 ∧ s = 0 then 0 else
  if k = 1 ∧ s = 1 then (-1) else
  if k = 1 ∧ s = 2 then 1 else
  if k = 2 ∧ s = 0 then 3 else
  if k = 2 ∧ s = 1 then (-3) else 0
def hw (k s : Int) (r : Bool) : Int := ((if k = 0 then 1 else if k = 1 then 0 else 2) - 4 * s + (if r then 6 else 0)) % 12
/-- Turns with their sign. -/
def sg (n : Int) (r : Bool) : Int := if r then -n else n

theorem lv_full {K s t : Int} (s0 : 0 ≤ s) (s1 : s ≤ 2) {j : Nat} (hj : j < 9) : lv K s t 3 0 j = t * fac K (which s j) := by
  have e := filled_all s (mem3 s s0 s1) j (List.mem_range.2 hj)
  unfold lv
  rw [e]
  rfl
theorem linesA_len (k t s : Int) : (linesA k t s).size = 9 := by
  unfold linesA
  (repeat' split) <;> rfl
theorem linesA_lv (K s t : Int) (k0 : 0 ≤ K) (k1 : K ≤ 2) (s0 : 0 ≤ s) (s1 : s ≤ 2) (j : Nat) (hj : j < 9) : (linesA K t s)[j]? = some (.int .i64 (lv K s t 3 0 j)) := by
  rw [lv_full s0 s1 hj]
  obtain rfl | rfl | rfl : K = 0 ∨ K = 1 ∨ K = 2 := by omega
  all_goals
    obtain rfl | rfl | rfl : s = 0 ∨ s = 1 ∨ s = 2 := by omega
    all_goals
      obtain rfl | rfl | rfl | rfl | rfl | rfl | rfl | rfl | rfl : j = 0 ∨ j = 1 ∨ j = 2 ∨ j = 3 ∨ j = 4 ∨ j = 5 ∨ j = 6 ∨ j = 7 ∨ j = 8 := by omega
      all_goals rfl
theorem linesA_of {K s t : Int} (k0 : 0 ≤ K) (k1 : K ≤ 2) (s0 : 0 ≤ s) (s1 : s ≤ 2) {a : Array Value} (hz : a.size = 9) (h : ∀ j, j < 9 → a[j]? = some (.int .i64 (lv K s t 3 0 j))) : a = linesA K t s := by
  refine Array.ext_getElem? (fun j => ?_)
  rcases Nat.lt_or_ge j 9 with hj | hj
  · rw [h j hj, linesA_lv K s t k0 k1 s0 s1 j hj]
  · rw [Array.getElem?_eq_none (by omega), Array.getElem?_eq_none (by rw [linesA_len]; omega)]
theorem Tabs.row {w : World} (ht : Tabs w) (K : Int) (k0 : 0 ≤ K) (k1 : K ≤ 2) (j : Nat) (hj : j < 3) : w.cell? ⟨1, K.toNat * 3 + j, none⟩ = some (.int .i64 (fac K j)) := by
  have e : patL[K.toNat * 3 + j]? = some (.int .i64 (fac K j)) := by
    obtain rfl | rfl | rfl : K = 0 ∨ K = 1 ∨ K = 2 := by omega
    all_goals
      obtain rfl | rfl | rfl : j = 0 ∨ j = 1 ∨ j = 2 := by omega
      all_goals rfl
  have h := ht.pat _ _ e
  rwa [Nat.zero_add] at h
theorem lines_any (k n s : Int) (r : Bool) (w : World) (k0 : 0 ≤ k) (k1 : k ≤ 2) (h1 : 1 ≤ n) (h2 : n ≤ 2000) (s0 : 0 ≤ s) (s1 : s ≤ 2) (ht : Tabs w) :
    Calls Tryd.prog 82 #[.agg #[.int .i64 k, .int .i64 n, .int .i64 s, .bool r]] w fun e w' => e = .returned (.agg (linesA k (sg n r) s)) ∧ Below w.heap.size w w' := by
  refine (lfrom_any k n s (sg n r) r w k0 k1 h1 h2 s0 s1 rfl (Nat.lt_of_succ_lt ht.size) (fun j hj => ht.row k k0 k1 j hj)).mono ?_
  rintro e w1 ⟨⟨a, hz, ha, rfl⟩, hb⟩
  exact ⟨by rw [linesA_of k0 k1 s0 s1 hz ha], hb⟩
theorem phasor_any (k t s : Int) (w : World) (k0 : 0 ≤ k) (k1 : k ≤ 2) (t0 : -2000 ≤ t) (t1 : t ≤ 2000) (s0 : 0 ≤ s) (s1 : s ≤ 2) (ht : Tabs w) :
    Calls Tryd.prog 89 #[.agg (linesA k t s), .int .i64 0] w fun e w' => e = .returned (.agg #[.int .i64 (t * ux k s), .int .i64 (t * uy k s)]) ∧ Below w.heap.size w w' := by
  have hs : 8 < w.heap.size := Nat.lt_of_succ_lt ht.size
  have hp := ht.limb
  have hk : k = 0 ∨ k = 1 ∨ k = 2 := by omega
  have hsh : s = 0 ∨ s = 1 ∨ s = 2 := by omega
  rcases hk with rfl | rfl | rfl <;> rcases hsh with rfl | rfl | rfl
  · refine (phasorAt0 (t * 1) (t * (-1)) (t * 0) (t * 0) (t * 1) (t * (-1)) (t * (-1)) (t * 0) (t * 1) w (by omega) (by omega) (by omega) hs (hp 0 _ rfl) (hp 1 _ rfl) (hp 2 _ rfl) (hp 3 _ rfl) (hp 4 _ rfl) (hp 5 _ rfl)).mono ?_
    rintro e w1 ⟨rfl, hb⟩
    exact ⟨agg2 (by simp [ux]; try omega) (by simp [uy]; try omega), hb⟩
  · refine (phasorAt0 (t * 0) (t * 1) (t * (-1)) (t * (-1)) (t * 0) (t * 1) (t * 1) (t * (-1)) (t * 0) w (by omega) (by omega) (by omega) hs (hp 0 _ rfl) (hp 1 _ rfl) (hp 2 _ rfl) (hp 3 _ rfl) (hp 4 _ rfl) (hp 5 _ rfl)).mono ?_
    rintro e w1 ⟨rfl, hb⟩
    exact ⟨agg2 (by simp [ux]; try omega) (by simp [uy]; try omega), hb⟩
  · refine (phasorAt0 (t * (-1)) (t * 0) (t * 1) (t * 1) (t * (-1)) (t * 0) (t * 0) (t * 1) (t * (-1)) w (by omega) (by omega) (by omega) hs (hp 0 _ rfl) (hp 1 _ rfl) (hp 2 _ rfl) (hp 3 _ rfl) (hp 4 _ rfl) (hp 5 _ rfl)).mono ?_
    rintro e w1 ⟨rfl, hb⟩
    exact ⟨agg2 (by simp [ux]; try omega) (by simp [uy]; try omega), hb⟩
  · refine (phasorAt0 (t * 1) (t * 0) (t * 0) (t * 0) (t * 1) (t * 0) (t * 0) (t * 0) (t * 1) w (by omega) (by omega) (by omega) hs (hp 0 _ rfl) (hp 1 _ rfl) (hp 2 _ rfl) (hp 3 _ rfl) (hp 4 _ rfl) (hp 5 _ rfl)).mono ?_
    rintro e w1 ⟨rfl, hb⟩
    exact ⟨agg2 (by simp [ux]; try omega) (by simp [uy]; try omega), hb⟩
  · refine (phasorAt0 (t * 0) (t * 1) (t * 0) (t * 0) (t * 0) (t * 1) (t * 1) (t * 0) (t * 0) w (by omega) (by omega) (by omega) hs (hp 0 _ rfl) (hp 1 _ rfl) (hp 2 _ rfl) (hp 3 _ rfl) (hp 4 _ rfl) (hp 5 _ rfl)).mono ?_
    rintro e w1 ⟨rfl, hb⟩
    exact ⟨agg2 (by simp [ux]; try omega) (by simp [uy]; try omega), hb⟩
  · refine (phasorAt0 (t * 0) (t * 0) (t * 1) (t * 1) (t * 0) (t * 0) (t * 0) (t * 1) (t * 0) w (by omega) (by omega) (by omega) hs (hp 0 _ rfl) (hp 1 _ rfl) (hp 2 _ rfl) (hp 3 _ rfl) (hp 4 _ rfl) (hp 5 _ rfl)).mono ?_
    rintro e w1 ⟨rfl, hb⟩
    exact ⟨agg2 (by simp [ux]; try omega) (by simp [uy]; try omega), hb⟩
  · refine (phasorAt0 (t * 1) (t * (-2)) (t * 1) (t * 1) (t * 1) (t * (-2)) (t * (-2)) (t * 1) (t * 1) w (by omega) (by omega) (by omega) hs (hp 0 _ rfl) (hp 1 _ rfl) (hp 2 _ rfl) (hp 3 _ rfl) (hp 4 _ rfl) (hp 5 _ rfl)).mono ?_
    rintro e w1 ⟨rfl, hb⟩
    exact ⟨agg2 (by simp [ux]; try omega) (by simp [uy]; try omega), hb⟩
  · refine (phasorAt0 (t * 1) (t * 1) (t * (-2)) (t * (-2)) (t * 1) (t * 1) (t * 1) (t * (-2)) (t * 1) w (by omega) (by omega) (by omega) hs (hp 0 _ rfl) (hp 1 _ rfl) (hp 2 _ rfl) (hp 3 _ rfl) (hp 4 _ rfl) (hp 5 _ rfl)).mono ?_
    rintro e w1 ⟨rfl, hb⟩
    exact ⟨agg2 (by simp [ux]; try omega) (by simp [uy]; try omega), hb⟩
  · refine (phasorAt0 (t * (-2)) (t * 1) (t * 1) (t * 1) (t * (-2)) (t * 1) (t * 1) (t * 1) (t * (-2)) w (by omega) (by omega) (by omega) hs (hp 0 _ rfl) (hp 1 _ rfl) (hp 2 _ rfl) (hp 3 _ rfl) (hp 4 _ rfl) (hp 5 _ rfl)).mono ?_
    rintro e w1 ⟨rfl, hb⟩
    exact ⟨agg2 (by simp [ux]; try omega) (by simp [uy]; try omega), hb⟩
theorem hours_w (k n s : Int) (r : Bool) (w : World) (k0 : 0 ≤ k) (k1 : k ≤ 2) (h1 : 1 ≤ n) (h2 : n ≤ 2000) (s0 : 0 ≤ s) (s1 : s ≤ 2) (ht : Tabs w) :
    Calls Tryd.prog 92 #[.agg #[.int .i64 (sg n r * ux k s), .int .i64 (sg n r * uy k s)]] w fun e w' => e = .returned (.tuple #[.int .i64 (hw k s r), .int .i64 0]) ∧ Below w.heap.size w w' := by
  have hr := ht.hrs
  have hk : k = 0 ∨ k = 1 ∨ k = 2 := by omega
  have hsh : s = 0 ∨ s = 1 ∨ s = 2 := by omega
  rcases hk with rfl | rfl | rfl <;> rcases hsh with rfl | rfl | rfl <;> cases r
  · exact hours1 _ _ (n * 1) w (by omega) (by omega) (by simp [sg, ux]; try omega) (by simp [sg, uy]; try omega) hr
  · exact hours7 _ _ (n * 1) w (by omega) (by omega) (by simp [sg, ux]; try omega) (by simp [sg, uy]; try omega) hr
  · exact hours9 _ _ (n * 1) w (by omega) (by omega) (by simp [sg, ux]; try omega) (by simp [sg, uy]; try omega) hr
  · exact hours3 _ _ (n * 1) w (by omega) (by omega) (by simp [sg, ux]; try omega) (by simp [sg, uy]; try omega) hr
  · exact hours5 _ _ (n * 1) w (by omega) (by omega) (by simp [sg, ux]; try omega) (by simp [sg, uy]; try omega) hr
  · exact hours11 _ _ (n * 1) w (by omega) (by omega) (by simp [sg, ux]; try omega) (by simp [sg, uy]; try omega) hr
  · exact hours0 _ _ (n * 1) w (by omega) (by omega) (by simp [sg, ux]; try omega) (by simp [sg, uy]; try omega) hr
  · exact hours6 _ _ (n * 1) w (by omega) (by omega) (by simp [sg, ux]; try omega) (by simp [sg, uy]; try omega) hr
  · exact hours8 _ _ (n * 1) w (by omega) (by omega) (by simp [sg, ux]; try omega) (by simp [sg, uy]; try omega) hr
  · exact hours2 _ _ (n * 1) w (by omega) (by omega) (by simp [sg, ux]; try omega) (by simp [sg, uy]; try omega) hr
  · exact hours4 _ _ (n * 1) w (by omega) (by omega) (by simp [sg, ux]; try omega) (by simp [sg, uy]; try omega) hr
  · exact hours10 _ _ (n * 1) w (by omega) (by omega) (by simp [sg, ux]; try omega) (by simp [sg, uy]; try omega) hr
  · exact hours2 _ _ (n * 3) w (by omega) (by omega) (by simp [sg, ux]; try omega) (by simp [sg, uy]; try omega) hr
  · exact hours8 _ _ (n * 3) w (by omega) (by omega) (by simp [sg, ux]; try omega) (by simp [sg, uy]; try omega) hr
  · exact hours10 _ _ (n * 3) w (by omega) (by omega) (by simp [sg, ux]; try omega) (by simp [sg, uy]; try omega) hr
  · exact hours4 _ _ (n * 3) w (by omega) (by omega) (by simp [sg, ux]; try omega) (by simp [sg, uy]; try omega) hr
  · exact hours6 _ _ (n * 3) w (by omega) (by omega) (by simp [sg, ux]; try omega) (by simp [sg, uy]; try omega) hr
  · exact hours0 _ _ (n * 3) w (by omega) (by omega) (by simp [sg, ux]; try omega) (by simp [sg, uy]; try omega) hr
end Go.Proofs.YtngdhmliohjigaaDoor
