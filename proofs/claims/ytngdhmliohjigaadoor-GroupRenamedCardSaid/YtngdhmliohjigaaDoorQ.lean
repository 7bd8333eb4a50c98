/- The example of currents. -/
import Derived.Test.YtngdhmliohjigaaDoorP
namespace Go.Proofs.YtngdhmliohjigaaDoor
open Go.RowKit

set_option maxHeartbeats 4000000 in
theorem checkSources_ex (b : Nat) (w : World) (s0 : w.cell? ⟨b, 0, none⟩ = some (.int .i64 12)) (s1 : w.cell? ⟨b, 1, none⟩ = some (.int .i64 0)) (s2 : w.cell? ⟨b, 2, none⟩ = some (.int .i64 1)) (s3 : w.cell? ⟨b, 3, none⟩ = some (.int .i64 1)) (s4 : w.cell? ⟨b, 4, none⟩ = some (.int .i64 12)) (s5 : w.cell? ⟨b, 5, none⟩ = some (.int .i64 0)) (s6 : w.cell? ⟨b, 6, none⟩ = some (.int .i64 2)) (s7 : w.cell? ⟨b, 7, none⟩ = some (.int .i64 1)) :
    Calls Tryd.prog 115 #[.slice (some ⟨b, 0, none⟩) 2 2] w fun e w' => e = .returned (.int .i64 0) ∧ Below w.heap.size w w' := by
  have bl := block_lt s0
  have hp0 := fun w => checkPhasor_any 12 0 w
  rw [show fst2 (outErr (-1000000) 1000000 12) (outErr (-1000000) 1000000 0) = 0 from by decide] at hp0
  have hp := Lib.hid hp0
  clear hp0
  have hf0 := fun n w => checkForm_any n 1 w
  have hf1 := fun w => hf0 1 w (by decide) (by decide) (by decide)
  have hf2 := fun w => hf0 2 w (by decide) (by decide) (by decide)
  rw [show formErr 1 1 = 0 from by decide] at hf1
  rw [show formErr 2 1 = 0 from by decide] at hf2
  have hg1 := Lib.hid hf1
  have hg2 := Lib.hid hf2
  clear hf0 hf1 hf2
  have hi0 := fun o c b1 b2 n w => within2_any o 0 c b1 b2 n 1 1 100 w
  have hi := Lib.hid hi0
  clear hi0
  have v1 : fst2 (outErr 1 100 1) (outErr 1 100 1) = 0 := by decide
  have v2 : fst2 (outErr 1 100 2) (outErr 1 100 1) = 0 := by decide
  have ht0 := fun o c w => firstOf3 o 0 c 0 0 0 w
  rw [show fst3 0 0 0 = 0 from by decide] at ht0
  have ht := Lib.hid ht0
  clear ht0
  go_enter Tryd.func115, Tryd.ntmps115
  go_wp2_with (go_at_call 86; refine (within_any _ _ _).mono ?_; rintro e w1 ⟨rfl, rfl⟩)
  refine wp_world (fun W : World => Below w.heap.size w W ∧ w.heap.size + 1 < W.heap.size ∧ W.cell? ⟨b, 0, none⟩ = some (.int .i64 12) ∧ W.cell? ⟨b, 1, none⟩ = some (.int .i64 0) ∧ W.cell? ⟨b, 2, none⟩ = some (.int .i64 1) ∧ W.cell? ⟨b, 3, none⟩ = some (.int .i64 1) ∧ W.cell? ⟨b, 4, none⟩ = some (.int .i64 12) ∧ W.cell? ⟨b, 5, none⟩ = some (.int .i64 0) ∧ W.cell? ⟨b, 6, none⟩ = some (.int .i64 2) ∧ W.cell? ⟨b, 7, none⟩ = some (.int .i64 1) ∧ W.cell? ⟨w.heap.size, 0, none⟩ = some (.int .i64 1) ∧ W.cell? ⟨w.heap.size + 1, 0, none⟩ = some (.int .i64 100)) ?_ ?_
  · (repeat' apply And.intro) <;> (first | (with_reducible assumption) | (go_grown; done) | (refine keep1 (w := w) ?_ ?_ <;> first | (with_reducible assumption) | (go_grown; done)) | (refine keepF (w := w) ?_ ?_ ?_ <;> first | (with_reducible assumption) | (go_grown; done) | omega) | (simp only [World.size_alloc, World.size_drew]; omega) | (go_simp; done))
  rintro V ⟨rb, rz, r0, r1, r2, r3, r4, r5, r6, r7, r8, r9⟩
  have rl0 : w.heap.size < V.heap.size := by omega
  have rz' : w.heap.size + 1 < V.heap.size := rz
  refine wp_loop_rounds 3 ?_
  rw [rounds_succ]
  go_wp2_with fail
  go_region_held3 (fun W : World => Below w.heap.size w W ∧ V.heap.size < W.heap.size ∧ W.cell? ⟨b, 0, none⟩ = some (.int .i64 12) ∧ W.cell? ⟨b, 1, none⟩ = some (.int .i64 0) ∧ W.cell? ⟨b, 2, none⟩ = some (.int .i64 1) ∧ W.cell? ⟨b, 3, none⟩ = some (.int .i64 1) ∧ W.cell? ⟨b, 4, none⟩ = some (.int .i64 12) ∧ W.cell? ⟨b, 5, none⟩ = some (.int .i64 0) ∧ W.cell? ⟨b, 6, none⟩ = some (.int .i64 2) ∧ W.cell? ⟨b, 7, none⟩ = some (.int .i64 1) ∧ W.cell? ⟨w.heap.size, 0, none⟩ = some (.int .i64 1) ∧ W.cell? ⟨w.heap.size + 1, 0, none⟩ = some (.int .i64 100) ∧ W.cell? ⟨V.heap.size, 0, none⟩ = some (.int .i64 12) ∧ W.cell? ⟨V.heap.size, 1, none⟩ = some (.int .i64 0) ∧ W.cell? ⟨V.heap.size, 2, none⟩ = some (.int .i64 1) ∧ W.cell? ⟨V.heap.size, 3, none⟩ = some (.int .i64 1)) ((repeat' apply And.intro) <;> (first | (with_reducible assumption) | (refine belowT ?_ ‹_›; first | (go_grown; done) | exact And.left (by assumption)) | (refine belowT (And.left (by assumption)) ?_; go_grown; done) | (go_simp; done) | exact keep1 ‹_› (by first | (go_simp; done) | (go_keep; done)) | (go_keep; done) | omega | (go_grown; done) | (refine Nat.lt_of_lt_of_le ?_ (Below.size ‹_›); first | omega | (simp; done)) | exact keepF ‹_› (by first | omega | (simp; done)) (by first | (go_simp; done) | (go_keep; done)) | (simp; omega) | (simp only [World.size_alloc, World.size_drew] at *; omega))) (first | (go_at_call 90; refine (hp.out _).mono ?_; rintro e w1 ⟨rfl, hb⟩) | (go_at_call 146; refine (hg1.out _).mono ?_; rintro e w1 ⟨rfl, hb⟩) | (go_at_call 139; refine (hi.out _ _ _ _ 1 _ ?_ ?_ ?_ ?_).mono ?_; (focus ((repeat' (first | (go_simp; done) | (with_reducible assumption) | refine keep1 ‹_› ?_ | refine allocC ?_ | refine drewC ?_)); done)); (focus ((repeat' (first | (go_simp; done) | (with_reducible assumption) | refine keep1 ‹_› ?_ | refine allocC ?_ | refine drewC ?_)); done)); (focus ((repeat' (first | (go_simp; done) | (with_reducible assumption) | refine keep1 ‹_› ?_ | refine allocC ?_ | refine drewC ?_)); done)); (focus ((repeat' (first | (go_simp; done) | (with_reducible assumption) | refine keep1 ‹_› ?_ | refine allocC ?_ | refine drewC ?_)); done)); rintro e w1 ⟨rfl, rfl⟩) | (go_at_call 84; refine (ht.out _ _ _ ?_ ?_ ?_).mono ?_; (focus ((repeat' (first | (go_simp; done) | (with_reducible assumption) | refine keep1 ‹_› ?_ | refine allocC ?_ | refine drewC ?_)); done)); (focus ((repeat' (first | (go_simp; done) | (with_reducible assumption) | refine keep1 ‹_› ?_ | refine allocC ?_ | refine drewC ?_)); done)); (focus ((repeat' (first | (go_simp; done) | (with_reducible assumption) | refine keep1 ‹_› ?_ | refine allocC ?_ | refine drewC ?_)); done)); rintro e w1 ⟨rfl, rfl⟩))
  all_goals go_wp2
  all_goals obtain ⟨xb, xz, x0, x1, x2, x3, x4, x5, x6, x7, x8, x9, x10, x11, x12, x13⟩ := (by assumption : Below w.heap.size w _ ∧ _)
  all_goals (refine rounds_world (fun W : World => Below w.heap.size w W ∧ w.heap.size + 1 < W.heap.size ∧ W.cell? ⟨b, 0, none⟩ = some (.int .i64 12) ∧ W.cell? ⟨b, 1, none⟩ = some (.int .i64 0) ∧ W.cell? ⟨b, 2, none⟩ = some (.int .i64 1) ∧ W.cell? ⟨b, 3, none⟩ = some (.int .i64 1) ∧ W.cell? ⟨b, 4, none⟩ = some (.int .i64 12) ∧ W.cell? ⟨b, 5, none⟩ = some (.int .i64 0) ∧ W.cell? ⟨b, 6, none⟩ = some (.int .i64 2) ∧ W.cell? ⟨b, 7, none⟩ = some (.int .i64 1) ∧ W.cell? ⟨w.heap.size, 0, none⟩ = some (.int .i64 1) ∧ W.cell? ⟨w.heap.size + 1, 0, none⟩ = some (.int .i64 100)) ⟨xb, Nat.lt_trans rz' xz, x0, x1, x2, x3, x4, x5, x6, x7, x8, x9⟩ ?_; rintro V2 ⟨yb, yz, y0, y1, y2, y3, y4, y5, y6, y7, y8, y9⟩; rw [rounds_succ])
  all_goals go_wp2_with fail
  all_goals go_region_held3 (fun W : World => Below w.heap.size w W ∧ V2.heap.size < W.heap.size ∧ W.cell? ⟨b, 0, none⟩ = some (.int .i64 12) ∧ W.cell? ⟨b, 1, none⟩ = some (.int .i64 0) ∧ W.cell? ⟨b, 2, none⟩ = some (.int .i64 1) ∧ W.cell? ⟨b, 3, none⟩ = some (.int .i64 1) ∧ W.cell? ⟨b, 4, none⟩ = some (.int .i64 12) ∧ W.cell? ⟨b, 5, none⟩ = some (.int .i64 0) ∧ W.cell? ⟨b, 6, none⟩ = some (.int .i64 2) ∧ W.cell? ⟨b, 7, none⟩ = some (.int .i64 1) ∧ W.cell? ⟨w.heap.size, 0, none⟩ = some (.int .i64 1) ∧ W.cell? ⟨w.heap.size + 1, 0, none⟩ = some (.int .i64 100) ∧ W.cell? ⟨V2.heap.size, 0, none⟩ = some (.int .i64 12) ∧ W.cell? ⟨V2.heap.size, 1, none⟩ = some (.int .i64 0) ∧ W.cell? ⟨V2.heap.size, 2, none⟩ = some (.int .i64 2) ∧ W.cell? ⟨V2.heap.size, 3, none⟩ = some (.int .i64 1)) ((repeat' apply And.intro) <;> (first | (with_reducible assumption) | (refine belowT ?_ ‹_›; first | (go_grown; done) | exact And.left (by assumption)) | (refine belowT (And.left (by assumption)) ?_; go_grown; done) | (go_simp; done) | exact keep1 ‹_› (by first | (go_simp; done) | (go_keep; done)) | (go_keep; done) | omega | (go_grown; done) | (refine Nat.lt_of_lt_of_le ?_ (Below.size ‹_›); first | omega | (simp; done)) | exact keepF ‹_› (by first | omega | (simp; done)) (by first | (go_simp; done) | (go_keep; done)) | (simp; omega) | (simp only [World.size_alloc, World.size_drew] at *; omega))) (first | (go_at_call 90; refine (hp.out _).mono ?_; rintro e w1 ⟨rfl, hb⟩) | (go_at_call 146; refine (hg2.out _).mono ?_; rintro e w1 ⟨rfl, hb⟩) | (go_at_call 139; refine (hi.out _ _ _ _ 2 _ ?_ ?_ ?_ ?_).mono ?_; (focus ((repeat' (first | (go_simp; done) | (with_reducible assumption) | refine keep1 ‹_› ?_ | refine allocC ?_ | refine drewC ?_)); done)); (focus ((repeat' (first | (go_simp; done) | (with_reducible assumption) | refine keep1 ‹_› ?_ | refine allocC ?_ | refine drewC ?_)); done)); (focus ((repeat' (first | (go_simp; done) | (with_reducible assumption) | refine keep1 ‹_› ?_ | refine allocC ?_ | refine drewC ?_)); done)); (focus ((repeat' (first | (go_simp; done) | (with_reducible assumption) | refine keep1 ‹_› ?_ | refine allocC ?_ | refine drewC ?_)); done)); rintro e w1 ⟨rfl, rfl⟩) | (go_at_call 84; refine (ht.out _ _ _ ?_ ?_ ?_).mono ?_; (focus ((repeat' (first | (go_simp; done) | (with_reducible assumption) | refine keep1 ‹_› ?_ | refine allocC ?_ | refine drewC ?_)); done)); (focus ((repeat' (first | (go_simp; done) | (with_reducible assumption) | refine keep1 ‹_› ?_ | refine allocC ?_ | refine drewC ?_)); done)); (focus ((repeat' (first | (go_simp; done) | (with_reducible assumption) | refine keep1 ‹_› ?_ | refine allocC ?_ | refine drewC ?_)); done)); rintro e w1 ⟨rfl, rfl⟩))
  all_goals go_wp2
  all_goals (rw [rounds_succ]; go_wp2)
  all_goals (go_returns; exact ⟨rfl, And.left (by assumption)⟩)
end Go.Proofs.YtngdhmliohjigaaDoor
