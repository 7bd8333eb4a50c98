/- Contracts of lines: their limits, LinesOf, PhasorOf. -/
import Derived.Test.YtngdhmliohjigaaDoorL
import Derived.Laws.CopyOwn
namespace Go.Proofs.YtngdhmliohjigaaDoor
open Go.RowKit

set_option maxHeartbeats 1000000 in
theorem within3_any (b o : Nat) (c : Nat) (b1 b2 : Nat) (x y z lo hi : Int) (w : World) (c0 : w.cell? ⟨b, o, none⟩ = some (.int .i64 x)) (c1 : w.cell? ⟨b, o + 1, none⟩ = some (.int .i64 y)) (c2 : w.cell? ⟨b, o + 2, none⟩ = some (.int .i64 z)) (h1 : w.cell? ⟨b1, 0, none⟩ = some (.int .i64 lo)) (h2 : w.cell? ⟨b2, 0, none⟩ = some (.int .i64 hi)) :
    Calls Tryd.prog 139 #[.slice (some ⟨b, o, none⟩) 3 c, .pointer (some ⟨b1, 0, none⟩), .pointer (some ⟨b2, 0, none⟩)] w fun e w' => e = .returned (.int .i64 (fst3 (outErr lo hi x) (outErr lo hi y) (outErr lo hi z))) ∧ w = w' := by
  by_cases lx : x < lo
  · go_enter Tryd.func139, Tryd.ntmps139
    go_wp2
    go_rounds 1
    go_ret
    exact ⟨by simp [outErr, fst3, lx], rfl⟩
  · skip
    by_cases gx : hi < x
    · go_enter Tryd.func139, Tryd.ntmps139
      go_wp2
      go_rounds 1
      go_ret
      exact ⟨by simp [outErr, fst3, gx], rfl⟩
    · skip
      by_cases ly : y < lo
      · go_enter Tryd.func139, Tryd.ntmps139
        go_wp2
        go_rounds 2
        go_ret
        exact ⟨by simp [outErr, fst3, lx, gx, ly], rfl⟩
      · skip
        by_cases gy : hi < y
        · go_enter Tryd.func139, Tryd.ntmps139
          go_wp2
          go_rounds 2
          go_ret
          exact ⟨by simp [outErr, fst3, lx, gx, gy], rfl⟩
        · skip
          by_cases lz : z < lo
          · go_enter Tryd.func139, Tryd.ntmps139
            go_wp2
            go_rounds 3
            go_ret
            exact ⟨by simp [outErr, fst3, lx, gx, ly, gy, lz], rfl⟩
          · skip
            by_cases gz : hi < z
            · go_enter Tryd.func139, Tryd.ntmps139
              go_wp2
              go_rounds 3
              go_ret
              exact ⟨by simp [outErr, fst3, lx, gx, ly, gy, gz], rfl⟩
            · skip
              go_enter Tryd.func139, Tryd.ntmps139
              go_wp2
              go_rounds 4
              go_ret
              exact ⟨by simp [outErr, fst3, lx, gx, ly, gy, lz, gz], rfl⟩

set_option maxHeartbeats 1000000 in
theorem sized_any (m : Int) (w : World) (m0 : 0 ≤ m) (m1 : m ≤ 1000000000) :
    Calls Tryd.prog 95 #[.int .i64 m] w fun e w' => e = .returned (.func (.func 139) #[] #[.pointer (some ⟨w.heap.size, 0, none⟩), .pointer (some ⟨w.heap.size + 1, 0, none⟩)]) ∧ (w.alloc (.cells #[.int .i64 (-m)] 3)).alloc (.cells #[.int .i64 m] 3) = w' := by
  go_enter Tryd.func95, Tryd.ntmps95
  go_wp2_with (go_at_call 86; refine (within_any _ _ _).mono ?_; rintro e w1 ⟨rfl, rfl⟩)
  go_returns
  exact ⟨by simp, by simp⟩
def lineErr (x0 x1 x2 : Int) : Int := fst3 (outErr (-10000) 10000 x0) (outErr (-10000) 10000 x1) (outErr (-10000) 10000 x2)
set_option maxHeartbeats 4000000 in
theorem checkLines_any (x0 x1 x2 x3 x4 x5 x6 x7 x8 : Int) (w : World) :
    Calls Tryd.prog 30 #[.agg #[.int .i64 x0, .int .i64 x1, .int .i64 x2, .int .i64 x3, .int .i64 x4, .int .i64 x5, .int .i64 x6, .int .i64 x7, .int .i64 x8]] w fun e w' => e = .returned (.int .i64 (fst3 (lineErr x0 x1 x2) (lineErr x3 x4 x5) (lineErr x6 x7 x8))) ∧ Below w.heap.size w w' := by
  go_enter Tryd.func30, Tryd.ntmps30
  go_wp2_with (first | (go_at_call 95; refine (sized_any _ _ (by omega) (by omega)).mono ?_; rintro e w1 ⟨rfl, rfl⟩) | fail)
  go_region_held3 (fun W : World => Below w.heap.size w W) (first | (with_reducible assumption) | (refine belowT ?_ ‹_›; first | (go_grown; done) | exact And.left (by assumption)) | (refine belowT (And.left (by assumption)) ?_; go_grown; done) | (go_simp; done) | exact keep1 ‹_› (by first | (go_simp; done) | (go_keep; done)) | (go_keep; done) | omega | (go_grown; done) | (refine Nat.lt_of_lt_of_le ?_ (Below.size ‹_›); first | omega | (simp; done)) | exact keepF ‹_› (by first | omega | (simp; done)) (by first | (go_simp; done) | (go_keep; done)) | (simp; omega)) (first | (go_at_call 139; refine (within3_any _ _ _ _ _ x0 x1 x2 (-10000) 10000 _ ?_ ?_ ?_ ?_ ?_).mono ?_; (focus (go_simp; done)); go_simp; go_simp; go_simp; go_simp; rintro e w1 ⟨rfl, rfl⟩) | (go_at_call 139; refine (within3_any _ _ _ _ _ x3 x4 x5 (-10000) 10000 _ ?_ ?_ ?_ ?_ ?_).mono ?_; (focus (go_simp; done)); go_simp; go_simp; go_simp; go_simp; rintro e w1 ⟨rfl, rfl⟩) | (go_at_call 139; refine (within3_any _ _ _ _ _ x6 x7 x8 (-10000) 10000 _ ?_ ?_ ?_ ?_ ?_).mono ?_; (focus (go_simp; done)); go_simp; go_simp; go_simp; go_simp; rintro e w1 ⟨rfl, rfl⟩) | (go_at_call 84; refine (firstOf3 _ _ _ (lineErr x0 x1 x2) (lineErr x3 x4 x5) (lineErr x6 x7 x8) _ ?_ ?_ ?_).mono ?_; (go_simp; rfl); (go_simp; rfl); (go_simp; rfl); rintro e w1 ⟨rfl, rfl⟩))
  go_wp2
  go_returns
  exact ⟨rfl, by go_grown⟩
theorem lines_cell (k t s : Int) : (linesA k t s).all (·.oneCell') = true := by
  unfold linesA
  repeat' split
  all_goals simp [Value.oneCell']
theorem info27 : (Tryd.prog.info? 27).map (·.size) = some 9 := by kernel_rfl
theorem lineInfo27 (k t s : Int) : (Tryd.prog.info? 27).map (·.size) = some (linesA k t s).size := by rw [linesA_size]; exact info27
theorem blockB {w w1 : World} {b : Nat} {o : Obj} (hb : Below w.heap.size w w1) (h : w.heap[b]? = some o) : w1.heap[b]? = some o := by
  have hl : b < w.heap.size := by
    rcases Nat.lt_or_ge b w.heap.size with h1 | h1
    · exact h1
    · rw [Array.getElem?_eq_none h1] at h; cases h
  rw [hb.block b hl]; exact h
set_option maxHeartbeats 4000000 in
theorem linesOf_ok (k n s : Int) (r : Bool) (w : World) (k0 : 0 ≤ k) (k1 : k ≤ 2) (h1 : 1 ≤ n) (h2 : n ≤ 2000) (s0 : 0 ≤ s) (s1 : s ≤ 2) (ht : Tabs w) :
    Calls Tryd.prog 17 #[.agg #[.int .i64 k, .int .i64 n, .int .i64 s, .bool r]] w fun e w' => e = .returned (.tuple #[.agg (linesA k (sg n r) s), .int .i64 0]) ∧ Below w.heap.size w w' := by
  have hv : fst3 (kindErr k) (outErr 1 2000 n) (outErr 0 2 s) = 0 := by
    simp only [fst3, kindErr, outErr]
    repeat' split
    all_goals omega
  have hc := fun w => checkWinding_any k n s r w
  rw [hv] at hc
  have Hc := Lib.hid hc
  clear hc hv
  go_enter Tryd.func17, Tryd.ntmps17
  go_wp2_with (first | (go_at_call 20; refine (Hc.out _).mono ?_; rintro e w1 ⟨rfl, hb⟩; have qb : Below w.heap.size w w1 := belowT (by first | (go_grown; done) | exact And.left (by assumption)) hb; have qz : w.heap.size < w1.heap.size := Nat.lt_of_lt_of_le (by first | omega | (simp; done) | (simp; omega)) hb.size; have q0 : w1.cell? ⟨w.heap.size, 0, none⟩ = some (.int .i64 k) := keep1 hb (by first | (go_simp; done) | (go_keep; done)); have q1 : w1.cell? ⟨w.heap.size, 1, none⟩ = some (.int .i64 n) := keep1 hb (by first | (go_simp; done) | (go_keep; done)); have q2 : w1.cell? ⟨w.heap.size, 2, none⟩ = some (.int .i64 s) := keep1 hb (by first | (go_simp; done) | (go_keep; done)); have q3 : w1.cell? ⟨w.heap.size, 3, none⟩ = some (.bool r) := keep1 hb (by first | (go_simp; done) | (go_keep; done)); have hg1 := Lib.hid (blockB hb (heap_alloc_new _ _))) | (go_at_call 82; refine (lines_any k n s r _ k0 k1 h1 h2 s0 s1 ?_).mono ?_; (focus (exact ht.below qb)); rintro e w2 ⟨rfl, hb2⟩) | (refine wpList_store_row rfl 27 _ _ rfl (w.heap.size + 1) (linesA k (sg n r) s) rfl rfl 27 _ (blockB hb2 (by simpa using hg1.out)) (lineInfo27 _ _ _) ?_ (lines_cell _ _ _) ?_; rw [linesA_size]; rfl))
  have hg3 := setRow_heap w2 (w.heap.size + 1) _ (linesA k (sg n r) s) _ _ (blockB hb2 (by simpa using hg1.out))
  have hrun := run_loadVar_row (P := Tryd.prog) _ (w.heap.size + 1) 27 27 _ _ _ hg3 Tryd.underlying27 rfl (lineInfo27 k (sg n r) s)
  refine bodyPost_ret (by simp [results, Tryd.results17, asAddr, hrun]; try rfl) rfl ?_
  exact ⟨rfl, below_setRow (belowT qb hb2) (Nat.le_succ _) _⟩
end Go.Proofs.YtngdhmliohjigaaDoor
