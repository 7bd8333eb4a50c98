/- The tables, with permutations, as the row's list lays them. -/
import Derived.Test.YtngdhmliohjigaaDoorEY
import Derived.Test.YtngdhmliohjigaaDoorLEXP
set_option linter.unusedVariables false
set_option linter.unusedSimpArgs false
set_option linter.unusedSectionVars false
set_option linter.unnecessarySimpa false
namespace Go.Proofs.YtngdhmliohjigaaDoor
open Go.ChangeShapes Go.WideShapes Go.ChangeAt Go.RowKit Go.Joins Go.Ev
theorem gPerm : Tryd.prog.globalNamed "buchholz/group.permutations" = some 0 := by kernel_rfl
theorem tPerm : (Tryd.prog.globals[0]?).map (·.type) = some 157 := by kernel_rfl
theorem of_laidP {W : World} (h : laidMetH Tryd.prog Rows.groupRunsRow.laid W) : Perm.Tabs W := by
  rw [MakeChecks.laidMetH_plain _ _ _ (by kernel_rfl)] at h
  obtain ⟨ps, ⟨g0, t0, cs0, f0, p0, q0, hg0, ht0, hv0, hd0, ⟨g1, t1, cs1, f1, p1, q1, hg1, ht1, hv1, hd1, ⟨g2, t2, cs2, f2, p2, q2, hg2, ht2, hv2, hd2, ⟨g3, t3, cs3, f3, p3, q3, hg3, ht3, hv3, hd3, ⟨g4, t4, cs4, f4, p4, q4, hg4, ht4, hv4, hd4, ⟨g5, t5, cs5, f5, p5, q5, hg5, ht5, hv5, hd5, ⟨g6, t6, cs6, f6, p6, q6, hg6, ht6, hv6, hd6, _, _⟩, _⟩, _⟩, _⟩, _⟩, _⟩, _⟩, _, _⟩ := h
  obtain rfl := Option.some.inj (g64.symm.trans hg1)
  obtain rfl := Option.some.inj (gLimb.symm.trans hg3)
  obtain rfl := Option.some.inj (gHour.symm.trans hg4)
  obtain rfl := Option.some.inj (gPat.symm.trans hg5)
  obtain rfl := Option.some.inj (tLimb.symm.trans ht3)
  obtain rfl := Option.some.inj (tHour.symm.trans ht4)
  obtain rfl := Option.some.inj (tPat.symm.trans ht5)
  obtain rfl := Option.some.inj (gPerm.symm.trans hg6)
  obtain rfl := Option.some.inj (tPerm.symm.trans ht6)
  obtain rfl := Option.some.inj (t64.symm.trans ht1)
  have c1 := cells_of gPat hv5 ((triples [(1, -1, 0), (1, 0, 0), (1, -2, 1)] Tryd.underlying26 (by kernel_rfl) hd5).trans rfl)
  have c2 := cells_of gLimb hv3 ((pairs [(1, 0), (-1, -1), (0, 1)] Tryd.underlying200 (by kernel_rfl) hd3).trans rfl)
  have c3 := cells_of gHour hv4 ((pairs [(1, 0), (2, 1), (1, 1), (1, 2), (0, 1), (-1, 1), (-1, 0), (-2, -1), (-1, -1), (-1, -2), (0, -1), (1, -1)] Tryd.underlying201 (by kernel_rfl) hd4).trans rfl)
  have c0 := cells_of gPerm hv6 ((triples [(0, 1, 2), (0, 2, 1), (1, 0, 2), (1, 2, 0), (2, 0, 1), (2, 1, 0)] Tryd.underlying157 (by kernel_rfl) hd6).trans rfl)
  refine ⟨?_, fun g L hL j v hj => ?_⟩
  · have hl := (rows u64 hd1).1
    have h0 := World.var?_cell g64 hv1 0
    rw [show cs1[0]? = some (cs1[0]'(by rw [Array.length_toList] at hl; rw [hl]; decide +kernel)) from by simp] at h0
    have : 9 < W.heap.size := by
      rcases Nat.lt_or_ge 9 W.heap.size with h1 | h1
      · exact h1
      · simp [World.cell?, Array.getElem?_eq_none h1] at h0
    exact Nat.le_trans (show Perm.gtab.length ≤ 10 by decide +kernel) this
  · match g, hL with
    | 0, hL => cases hL; exact c0 j v hj
    | 1, hL => cases hL; exact c1 j v hj
    | 2, hL => cases hL; exact c2 j v hj
    | 3, hL => cases hL; exact c3 j v hj
    | g + 4, hL => cases hL
end Go.Proofs.YtngdhmliohjigaaDoor
