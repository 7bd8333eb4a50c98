/- The lines of every valid winding, their phasor and its hours. -/
import Derived.Test.YtngdhmliohjigaaDoorE0
import Derived.Test.YtngdhmliohjigaaDoorE1
import Derived.Test.YtngdhmliohjigaaDoorE2
import Derived.Test.YtngdhmliohjigaaDoorI
import Derived.Test.YtngdhmliohjigaaDoorJ
import Derived.Test.YtngdhmliohjigaaDoorJ1
import Derived.Test.YtngdhmliohjigaaDoorJ2
namespace Go.Proofs.YtngdhmliohjigaaDoor
open Go.RowKit

def patL : List Value := [.int .i64 1, .int .i64 (-1), .int .i64 0, .int .i64 1, .int .i64 0, .int .i64 0, .int .i64 1, .int .i64 (-2), .int .i64 1]
def limbL : List Value := [.int .i64 1, .int .i64 0, .int .i64 (-1), .int .i64 (-1), .int .i64 0, .int .i64 1]
def powL : List Value := [.int .u64 1, .int .u64 10, .int .u64 100, .int .u64 1000, .int .u64 10000, .int .u64 100000, .int .u64 1000000, .int .u64 10000000, .int .u64 100000000, .int .u64 1000000000, .int .u64 10000000000, .int .u64 100000000000, .int .u64 1000000000000, .int .u64 10000000000000, .int .u64 100000000000000, .int .u64 1000000000000000, .int .u64 10000000000000000, .int .u64 100000000000000000, .int .u64 1000000000000000000, .int .u64 10000000000000000000]
/-- What the package's tables hold, in every world that the laws come to. -/
structure Tabs (w : World) : Prop where
  size : 9 < w.heap.size
  pat : w.rangeAt 1 0 patL
  limb : w.rangeAt 2 0 limbL
  hrs : w.rangeAt 3 0 hourL
theorem Tabs.below {w w1 : World} (h : Tabs w) (hb : Below w.heap.size w w1) : Tabs w1 :=
  ⟨Nat.lt_of_lt_of_le h.size hb.size, rangeB hb h.pat, rangeB hb h.limb, rangeB hb h.hrs⟩
theorem agg2 {a b c d : Int} (h1 : a = c) (h2 : b = d) : Ending.returned (.agg #[.int .i64 a, .int .i64 b]) = Ending.returned (.agg #[.int .i64 c, .int .i64 d]) := by rw [h1, h2]

/-- The nine numbers of a winding's lines; its phasor by a turn; its hours. -/
def linesA (k t s : Int) : Array Value :=
  if k = 0 ∧ s = 0 then #[.int .i64 (t * 1), .int .i64 (t * (-1)), .int .i64 (t * 0), .int .i64 (t * 0), .int .i64 (t * 1), .int .i64 (t * (-1)), .int .i64 (t * (-1)), .int .i64 (t * 0), .int .i64 (t * 1)] else
  if k = 0 ∧ s = 1 then #[.int .i64 (t * 0), .int .i64 (t * 1), .int .i64 (t * (-1)), .int .i64 (t * (-1)), .int .i64 (t * 0), .int .i64 (t * 1), .int .i64 (t * 1), .int .i64 (t * (-1)), .int .i64 (t * 0)] else
  if k = 0 ∧ s = 2 then #[.int .i64 (t * (-1)), .int .i64 (t * 0), .int .i64 (t * 1), .int .i64 (t * 1), .int .i64 (t * (-1)), .int .i64 (t * 0), .int .i64 (t * 0), .int .i64 (t * 1), .int .i64 (t * (-1))] else
  if k = 1 ∧ s = 0 then #[.int .i64 (t * 1), .int .i64 (t * 0), .int .i64 (t * 0), .int .i64 (t * 0), .int .i64 (t * 1), .int .i64 (t * 0), .int .i64 (t * 0), .int .i64 (t * 0), .int .i64 (t * 1)] else
  if k = 1 ∧ s = 1 then #[.int .i64 (t * 0), .int .i64 (t * 1), .int .i64 (t * 0), .int .i64 (t * 0), .int .i64 (t * 0), .int .i64 (t * 1), .int .i64 (t * 1), .int .i64 (t * 0), .int .i64 (t * 0)] else
  if k = 1 ∧ s = 2 then #[.int .i64 (t * 0), .int .i64 (t * 0), .int .i64 (t * 1), .int .i64 (t * 1), .int .i64 (t * 0), .int .i64 (t * 0), .int .i64 (t * 0), .int .i64 (t * 1), .int .i64 (t * 0)] else
  if k = 2 ∧ s = 0 then #[.int .i64 (t * 1), .int .i64 (t * (-2)), .int .i64 (t * 1), .int .i64 (t * 1), .int .i64 (t * 1), .int .i64 (t * (-2)), .int .i64 (t * (-2)), .int .i64 (t * 1), .int .i64 (t * 1)] else
  if k = 2 ∧ s = 1 then #[.int .i64 (t * 1), .int .i64 (t * 1), .int .i64 (t * (-2)), .int .i64 (t * (-2)), .int .i64 (t * 1), .int .i64 (t * 1), .int .i64 (t * 1), .int .i64 (t * (-2)), .int .i64 (t * 1)] else #[.int .i64 (t * (-2)), .int .i64 (t * 1), .int .i64 (t * 1), .int .i64 (t * 1), .int .i64 (t * (-2)), .int .i64 (t * 1), .int .i64 (t * 1), .int .i64 (t * 1), .int .i64 (t * (-2))]
def ux (k s : Int) : Int :=
  if k = 0 ∧ s = 0 then 2 else
  if k = 0 ∧ s = 1 then (-1) else
  if k = 0 ∧ s = 2 then (-1) else
  if k = 1 ∧ s = 0 then 1 else
  if k = 1 ∧ s = 1 then (-1) else
  if k = 1 ∧ s = 2 then 0 else
  if k = 2 ∧ s = 0 then 3 else
  if k = 2 ∧ s = 1 then 0 else (-3)
def uy (k s : Int) : Int :=
  if k = 0 ∧ s = 0 then 1 else
  if k = 0 ∧ s = 1 then (-2) else
  if k = 0 ∧ s = 2 then 1 else
  if k = 1 ∧ s = 0 then 0 else
  if k = 1 ∧ s = 1 then (-1) else
  if k = 1 ∧ s = 2 then 1 else
  if k = 2 ∧ s = 0 then 3 else
  if k = 2 ∧ s = 1 then (-3) else 0
def hw (k s : Int) (r : Bool) : Int := ((if k = 0 then 1 else if k = 1 then 0 else 2) - 4 * s + (if r then 6 else 0)) % 12
/-- Turns with their sign. -/
def sg (n : Int) (r : Bool) : Int := if r then -n else n

theorem lines_any (k n s : Int) (r : Bool) (w : World) (k0 : 0 ≤ k) (k1 : k ≤ 2) (h1 : 1 ≤ n) (h2 : n ≤ 2000) (s0 : 0 ≤ s) (s1 : s ≤ 2) (ht : Tabs w) :
    Calls Tryd.prog 82 #[.agg #[.int .i64 k, .int .i64 n, .int .i64 s, .bool r]] w fun e w' => e = .returned (.agg (linesA k (sg n r) s)) ∧ Below w.heap.size w w' := by
  have hs : 8 < w.heap.size := Nat.lt_of_succ_lt ht.size
  have hp := ht.pat
  have hk : k = 0 ∨ k = 1 ∨ k = 2 := by omega
  have hsh : s = 0 ∨ s = 1 ∨ s = 2 := by omega
  rcases hk with rfl | rfl | rfl <;> rcases hsh with rfl | rfl | rfl
  · exact lines00 n (sg n r) r w h1 h2 rfl hs (hp 0 _ rfl) (hp 1 _ rfl) (hp 2 _ rfl)
  · exact lines01 n (sg n r) r w h1 h2 rfl hs (hp 0 _ rfl) (hp 1 _ rfl) (hp 2 _ rfl)
  · exact lines02 n (sg n r) r w h1 h2 rfl hs (hp 0 _ rfl) (hp 1 _ rfl) (hp 2 _ rfl)
  · exact lines10 n (sg n r) r w h1 h2 rfl hs (hp 3 _ rfl) (hp 4 _ rfl) (hp 5 _ rfl)
  · exact lines11 n (sg n r) r w h1 h2 rfl hs (hp 3 _ rfl) (hp 4 _ rfl) (hp 5 _ rfl)
  · exact lines12 n (sg n r) r w h1 h2 rfl hs (hp 3 _ rfl) (hp 4 _ rfl) (hp 5 _ rfl)
  · exact lines20 n (sg n r) r w h1 h2 rfl hs (hp 6 _ rfl) (hp 7 _ rfl) (hp 8 _ rfl)
  · exact lines21 n (sg n r) r w h1 h2 rfl hs (hp 6 _ rfl) (hp 7 _ rfl) (hp 8 _ rfl)
  · exact lines22 n (sg n r) r w h1 h2 rfl hs (hp 6 _ rfl) (hp 7 _ rfl) (hp 8 _ rfl)
theorem phasor_any (k t s : Int) (w : World) (k0 : 0 ≤ k) (k1 : k ≤ 2) (t0 : -2000 ≤ t) (t1 : t ≤ 2000) (s0 : 0 ≤ s) (s1 : s ≤ 2) (ht : Tabs w) :
    Calls Tryd.prog 89 #[.agg (linesA k t s), .int .i64 0] w fun e w' => e = .returned (.agg #[.int .i64 (t * ux k s), .int .i64 (t * uy k s)]) ∧ Below w.heap.size w w' := by
  have hs : 8 < w.heap.size := Nat.lt_of_succ_lt ht.size
  have hp := ht.limb
  have hk : k = 0 ∨ k = 1 ∨ k = 2 := by omega
  have hsh : s = 0 ∨ s = 1 ∨ s = 2 := by omega
  rcases hk with rfl | rfl | rfl <;> rcases hsh with rfl | rfl | rfl
  · refine (phasorAt0 (t * 1) (t * (-1)) (t * 0) (t * 0) (t * 1) (t * (-1)) (t * (-1)) (t * 0) (t * 1) w (by omega) (by omega) (by omega) hs (hp 0 _ rfl) (hp 1 _ rfl) (hp 2 _ rfl) (hp 3 _ rfl) (hp 4 _ rfl) (hp 5 _ rfl)).mono ?_
    rintro e w1 ⟨rfl, hb⟩
    exact ⟨agg2 (by simp [ux]; try omega) (by simp [uy]; try omega), hb⟩
  · refine (phasorAt0 (t * 0) (t * 1) (t * (-1)) (t * (-1)) (t * 0) (t * 1) (t * 1) (t * (-1)) (t * 0) w (by omega) (by omega) (by omega) hs (hp 0 _ rfl) (hp 1 _ rfl) (hp 2 _ rfl) (hp 3 _ rfl) (hp 4 _ rfl) (hp 5 _ rfl)).mono ?_
    rintro e w1 ⟨rfl, hb⟩
    exact ⟨agg2 (by simp [ux]; try omega) (by simp [uy]; try omega), hb⟩
  · refine (phasorAt0 (t * (-1)) (t * 0) (t * 1) (t * 1) (t * (-1)) (t * 0) (t * 0) (t * 1) (t * (-1)) w (by omega) (by omega) (by omega) hs (hp 0 _ rfl) (hp 1 _ rfl) (hp 2 _ rfl) (hp 3 _ rfl) (hp 4 _ rfl) (hp 5 _ rfl)).mono ?_
    rintro e w1 ⟨rfl, hb⟩
    exact ⟨agg2 (by simp [ux]; try omega) (by simp [uy]; try omega), hb⟩
  · refine (phasorAt0 (t * 1) (t * 0) (t * 0) (t * 0) (t * 1) (t * 0) (t * 0) (t * 0) (t * 1) w (by omega) (by omega) (by omega) hs (hp 0 _ rfl) (hp 1 _ rfl) (hp 2 _ rfl) (hp 3 _ rfl) (hp 4 _ rfl) (hp 5 _ rfl)).mono ?_
    rintro e w1 ⟨rfl, hb⟩
    exact ⟨agg2 (by simp [ux]; try omega) (by simp [uy]; try omega), hb⟩
  · refine (phasorAt0 (t * 0) (t * 1) (t * 0) (t * 0) (t * 0) (t * 1) (t * 1) (t * 0) (t * 0) w (by omega) (by omega) (by omega) hs (hp 0 _ rfl) (hp 1 _ rfl) (hp 2 _ rfl) (hp 3 _ rfl) (hp 4 _ rfl) (hp 5 _ rfl)).mono ?_
    rintro e w1 ⟨rfl, hb⟩
    exact ⟨agg2 (by simp [ux]; try omega) (by simp [uy]; try omega), hb⟩
  · refine (phasorAt0 (t * 0) (t * 0) (t * 1) (t * 1) (t * 0) (t * 0) (t * 0) (t * 1) (t * 0) w (by omega) (by omega) (by omega) hs (hp 0 _ rfl) (hp 1 _ rfl) (hp 2 _ rfl) (hp 3 _ rfl) (hp 4 _ rfl) (hp 5 _ rfl)).mono ?_
    rintro e w1 ⟨rfl, hb⟩
    exact ⟨agg2 (by simp [ux]; try omega) (by simp [uy]; try omega), hb⟩
  · refine (phasorAt0 (t * 1) (t * (-2)) (t * 1) (t * 1) (t * 1) (t * (-2)) (t * (-2)) (t * 1) (t * 1) w (by omega) (by omega) (by omega) hs (hp 0 _ rfl) (hp 1 _ rfl) (hp 2 _ rfl) (hp 3 _ rfl) (hp 4 _ rfl) (hp 5 _ rfl)).mono ?_
    rintro e w1 ⟨rfl, hb⟩
    exact ⟨agg2 (by simp [ux]; try omega) (by simp [uy]; try omega), hb⟩
  · refine (phasorAt0 (t * 1) (t * 1) (t * (-2)) (t * (-2)) (t * 1) (t * 1) (t * 1) (t * (-2)) (t * 1) w (by omega) (by omega) (by omega) hs (hp 0 _ rfl) (hp 1 _ rfl) (hp 2 _ rfl) (hp 3 _ rfl) (hp 4 _ rfl) (hp 5 _ rfl)).mono ?_
    rintro e w1 ⟨rfl, hb⟩
    exact ⟨agg2 (by simp [ux]; try omega) (by simp [uy]; try omega), hb⟩
  · refine (phasorAt0 (t * (-2)) (t * 1) (t * 1) (t * 1) (t * (-2)) (t * 1) (t * 1) (t * 1) (t * (-2)) w (by omega) (by omega) (by omega) hs (hp 0 _ rfl) (hp 1 _ rfl) (hp 2 _ rfl) (hp 3 _ rfl) (hp 4 _ rfl) (hp 5 _ rfl)).mono ?_
    rintro e w1 ⟨rfl, hb⟩
    exact ⟨agg2 (by simp [ux]; try omega) (by simp [uy]; try omega), hb⟩
theorem hours_w (k n s : Int) (r : Bool) (w : World) (k0 : 0 ≤ k) (k1 : k ≤ 2) (h1 : 1 ≤ n) (h2 : n ≤ 2000) (s0 : 0 ≤ s) (s1 : s ≤ 2) (ht : Tabs w) :
    Calls Tryd.prog 92 #[.agg #[.int .i64 (sg n r * ux k s), .int .i64 (sg n r * uy k s)]] w fun e w' => e = .returned (.tuple #[.int .i64 (hw k s r), .int .i64 0]) ∧ Below w.heap.size w w' := by
  have hr := ht.hrs
  have hk : k = 0 ∨ k = 1 ∨ k = 2 := by omega
  have hsh : s = 0 ∨ s = 1 ∨ s = 2 := by omega
  rcases hk with rfl | rfl | rfl <;> rcases hsh with rfl | rfl | rfl <;> cases r
  · exact hours1 _ _ (n * 1) w (by omega) (by omega) (by simp [sg, ux]; try omega) (by simp [sg, uy]; try omega) hr
  · exact hours7 _ _ (n * 1) w (by omega) (by omega) (by simp [sg, ux]; try omega) (by simp [sg, uy]; try omega) hr
  · exact hours9 _ _ (n * 1) w (by omega) (by omega) (by simp [sg, ux]; try omega) (by simp [sg, uy]; try omega) hr
  · exact hours3 _ _ (n * 1) w (by omega) (by omega) (by simp [sg, ux]; try omega) (by simp [sg, uy]; try omega) hr
  · exact hours5 _ _ (n * 1) w (by omega) (by omega) (by simp [sg, ux]; try omega) (by simp [sg, uy]; try omega) hr
  · exact hours11 _ _ (n * 1) w (by omega) (by omega) (by simp [sg, ux]; try omega) (by simp [sg, uy]; try omega) hr
  · exact hours0 _ _ (n * 1) w (by omega) (by omega) (by simp [sg, ux]; try omega) (by simp [sg, uy]; try omega) hr
  · exact hours6 _ _ (n * 1) w (by omega) (by omega) (by simp [sg, ux]; try omega) (by simp [sg, uy]; try omega) hr
  · exact hours8 _ _ (n * 1) w (by omega) (by omega) (by simp [sg, ux]; try omega) (by simp [sg, uy]; try omega) hr
  · exact hours2 _ _ (n * 1) w (by omega) (by omega) (by simp [sg, ux]; try omega) (by simp [sg, uy]; try omega) hr
  · exact hours4 _ _ (n * 1) w (by omega) (by omega) (by simp [sg, ux]; try omega) (by simp [sg, uy]; try omega) hr
  · exact hours10 _ _ (n * 1) w (by omega) (by omega) (by simp [sg, ux]; try omega) (by simp [sg, uy]; try omega) hr
  · exact hours2 _ _ (n * 3) w (by omega) (by omega) (by simp [sg, ux]; try omega) (by simp [sg, uy]; try omega) hr
  · exact hours8 _ _ (n * 3) w (by omega) (by omega) (by simp [sg, ux]; try omega) (by simp [sg, uy]; try omega) hr
  · exact hours10 _ _ (n * 3) w (by omega) (by omega) (by simp [sg, ux]; try omega) (by simp [sg, uy]; try omega) hr
  · exact hours4 _ _ (n * 3) w (by omega) (by omega) (by simp [sg, ux]; try omega) (by simp [sg, uy]; try omega) hr
  · exact hours6 _ _ (n * 3) w (by omega) (by omega) (by simp [sg, ux]; try omega) (by simp [sg, uy]; try omega) hr
  · exact hours0 _ _ (n * 3) w (by omega) (by omega) (by simp [sg, ux]; try omega) (by simp [sg, uy]; try omega) hr
end Go.Proofs.YtngdhmliohjigaaDoor
