/- Renamed, checked. -/
import Derived.Test.YtngdhmliohjigaaDoorSQ9
namespace Go.Proofs.YtngdhmliohjigaaDoor
open Go.RowKit
def permE (p0 p1 p2 : Int) : Int := if permB p0 p1 p2 then 0 else 3
theorem firstOf00 (b o : Nat) (c : Nat) (w : World) (h0 : w.cell? ⟨b, o, none⟩ = some (.int .i64 0)) (h1 : w.cell? ⟨b, o + 1, none⟩ = some (.int .i64 0)) :
    Calls Tryd.prog 84 #[.slice (some ⟨b, o, none⟩) 2 c] w fun e w' => e = .returned (.int .i64 0) ∧ w = w' := firstOf2 b o c 0 0 w h0 h1
set_option maxRecDepth 100000 in
set_option maxHeartbeats 8000000 in
theorem renamedOf_err (x0 x1 x2 x3 x4 x5 x6 x7 x8 p0 p1 p2 : Int) (w : World) (hr : w.rangeAt 0 0 permL) (hE : fst2 (lErr x0 x1 x2 x3 x4 x5 x6 x7 x8) (permE p0 p1 p2) ≠ 0) :
    Calls Tryd.prog 28 #[.agg #[.int .i64 x0, .int .i64 x1, .int .i64 x2, .int .i64 x3, .int .i64 x4, .int .i64 x5, .int .i64 x6, .int .i64 x7, .int .i64 x8], .agg #[.int .i64 p0, .int .i64 p1, .int .i64 p2]] w fun e w' => e = .returned (.tuple #[.agg #[.int .i64 0, .int .i64 0, .int .i64 0, .int .i64 0, .int .i64 0, .int .i64 0, .int .i64 0, .int .i64 0, .int .i64 0], .int .i64 (fst2 (lErr x0 x1 x2 x3 x4 x5 x6 x7 x8) (permE p0 p1 p2))]) ∧ Below w.heap.size w w' := by
  have hl := fun w => checkLines_all x0 x1 x2 x3 x4 x5 x6 x7 x8 w
  have hp := fun (w : World) (hr : w.rangeAt 0 0 permL) => checkPermutation_any p0 p1 p2 w hr
  change ∀ w : World, w.rangeAt 0 0 permL → Calls Tryd.prog 93 #[.agg #[.int .i64 p0, .int .i64 p1, .int .i64 p2]] w fun e w' => e = .returned (.int .i64 (permE p0 p1 p2)) ∧ Below w.heap.size w w' at hp
  generalize lErr x0 x1 x2 x3 x4 x5 x6 x7 x8 = A at hl hE ⊢
  generalize permE p0 p1 p2 = B at hp hE ⊢
  have Hl := Lib.hid hl
  have Hp := Lib.hid hp
  have tE : (fst2 A B != 0) = true := by simpa using hE
  clear hl hp hE
  go_enter Tryd.func28, Tryd.ntmps28
  go_wp2_with fail
  refine wp_region_held_drew (S := RnS x0 x1 x2 x3 x4 x5 x6 x7 x8 p0 p1 p2 w) (by kernel_rfl) ?hS (fun hH => ?_)
  case hS =>
    refine ⟨by go_grown, by simp, fun j hj => ?_, by go_simp, by go_simp, by go_simp, by go_simp, by go_simp, by go_simp, by go_simp, by go_simp, by go_simp, by go_simp, by go_simp, by go_simp⟩
    obtain rfl | rfl | rfl | rfl | rfl | rfl | rfl | rfl | rfl : j = 0 ∨ j = 1 ∨ j = 2 ∨ j = 3 ∨ j = 4 ∨ j = 5 ∨ j = 6 ∨ j = 7 ∨ j = 8 := by omega
    all_goals exact ⟨⟨.int .i64 0, by go_simp⟩, by go_simp⟩
  refine' wpAnyH_take (i := 0) (v := _) rfl (by kernel_rfl) (by kernel_rfl) (by kernel_rfl) (fun _ _ _ h => h) (Or.inl ⟨by kernel_rfl, ?hy⟩) (by assumption) ?_
  case hy => (intro W hW; obtain ⟨qb, qz, qf, q0, q1, q2, q3, q4, q5, q6, q7, q8, q9, q10, q11⟩ := hW; go_simp; try (with_reducible rfl))
  try simp only [Act.put, List.setIfInBounds_toArray, List.set_cons_zero, List.set_cons_succ, List.getElem_toArray, List.getElem_cons_zero]
  refine' wpAnyH_take (i := 2) (v := _) rfl (by kernel_rfl) (by kernel_rfl) (by kernel_rfl) (fun _ _ _ h => h) (Or.inl ⟨by kernel_rfl, ?hy⟩) (by assumption) ?_
  case hy => (intro W hW; obtain ⟨qb, qz, qf, q0, q1, q2, q3, q4, q5, q6, q7, q8, q9, q10, q11⟩ := hW; go_simp; try (with_reducible rfl))
  try simp only [Act.put, List.setIfInBounds_toArray, List.set_cons_zero, List.set_cons_succ, List.getElem_toArray, List.getElem_cons_succ, List.getElem_cons_zero]
  refine wpAnyH_ready (rs := [1]) (by kernel_rfl) (by simp) ?_
  refine AllReadyH.cons rfl (fun K hK => ?_) AllReadyH.nil
  go_simp
  refine (Hl.out _).mono ?_
  rintro e wr0 ⟨rfl, hbr0⟩
  refine hK.out _ _ (RnS.below hH hbr0) (fun hH0 => ?_)
  clear hK
  try simp only [Act.put, List.setIfInBounds_toArray, List.set_cons_zero, List.set_cons_succ, List.getElem_toArray, List.getElem_cons_succ, List.getElem_cons_zero]
  refine wpAnyH_ready (rs := [3]) (by kernel_rfl) (by simp) ?_
  refine AllReadyH.cons rfl (fun K hK => ?_) AllReadyH.nil
  go_simp
  refine (Hp.out _ (rangeB (w := w) hH0.1 hr)).mono ?_
  rintro e wr1 ⟨rfl, hbr1⟩
  refine hK.out _ _ (RnS.below hH0 hbr1) (fun hH1 => ?_)
  clear hK
  try simp only [Act.put, List.setIfInBounds_toArray, List.set_cons_zero, List.set_cons_succ, List.getElem_toArray, List.getElem_cons_succ, List.getElem_cons_zero]
  refine wpAnyH_ready (rs := [4]) (by kernel_rfl) (by simp) ?_
  refine AllReadyH.cons rfl (fun K hK => ?_) AllReadyH.nil
  go_simp
  refine hK.out _ _ (RnS.below hH1 (belowA _ _)) (fun hH2 => ?_)
  clear hK
  try simp only [Act.put, List.setIfInBounds_toArray, List.set_cons_zero, List.set_cons_succ, List.getElem_toArray, List.getElem_cons_succ, List.getElem_cons_zero]
  refine wpAnyH_ready (rs := [5]) (by kernel_rfl) (by simp) ?_
  refine AllReadyH.cons rfl (fun K hK => ?_) AllReadyH.nil
  go_simp
  refine (firstOf2 _ _ _ A B _ ?_ ?_).mono ?_
  go_simp
  go_simp
  rintro e wr3 ⟨rfl, rfl⟩
  refine hK.out _ _ hH2 (fun hH3 => ?_)
  clear hK
  try simp only [Act.put, List.setIfInBounds_toArray, List.set_cons_zero, List.set_cons_succ, List.getElem_toArray, List.getElem_cons_succ, List.getElem_cons_zero]
  refine' wpAnyH_take (i := 6) (v := _) rfl (by kernel_rfl) (by kernel_rfl) (by kernel_rfl) (fun _ _ _ h => h) (Or.inl ⟨by kernel_rfl, ?hy⟩) (by assumption) ?_
  case hy => (intro W hW; obtain ⟨qb, qz, qf, q0, q1, q2, q3, q4, q5, q6, q7, q8, q9, q10, q11⟩ := hW; go_simp; try (with_reducible rfl))
  try simp only [Act.put, List.setIfInBounds_toArray, List.set_cons_zero, List.set_cons_succ, List.getElem_toArray, List.getElem_cons_succ, List.getElem_cons_zero]
  refine wpAnyH_done (by kernel_rfl) ?_ _
  obtain ⟨sb, sz, sf, -⟩ := id hH3
  obtain ⟨⟨c0, g0⟩, k0⟩ := sf 0 (by decide)
  obtain ⟨⟨c1, g1⟩, k1⟩ := sf 1 (by decide)
  obtain ⟨⟨c2, g2⟩, k2⟩ := sf 2 (by decide)
  obtain ⟨⟨c3, g3⟩, k3⟩ := sf 3 (by decide)
  obtain ⟨⟨c4, g4⟩, k4⟩ := sf 4 (by decide)
  obtain ⟨⟨c5, g5⟩, k5⟩ := sf 5 (by decide)
  obtain ⟨⟨c6, g6⟩, k6⟩ := sf 6 (by decide)
  obtain ⟨⟨c7, g7⟩, k7⟩ := sf 7 (by decide)
  obtain ⟨⟨c8, g8⟩, k8⟩ := sf 8 (by decide)
  clear hH hH0 hH1 hH2 hH3 sf
  go_wp2
  have s0 := seto (b' := w.heap.size + 1 + 1) (o' := 8) (.int .i64 0) (by omega) (seto (b' := w.heap.size + 1 + 1) (o' := 7) (.int .i64 0) (by omega) (seto (b' := w.heap.size + 1 + 1) (o' := 6) (.int .i64 0) (by omega) (seto (b' := w.heap.size + 1 + 1) (o' := 5) (.int .i64 0) (by omega) (seto (b' := w.heap.size + 1 + 1) (o' := 4) (.int .i64 0) (by omega) (seto (b' := w.heap.size + 1 + 1) (o' := 3) (.int .i64 0) (by omega) (seto (b' := w.heap.size + 1 + 1) (o' := 2) (.int .i64 0) (by omega) (seto (b' := w.heap.size + 1 + 1) (o' := 1) (.int .i64 0) (by omega) (setc (.int .i64 0) g0))))))))
  have s1 := seto (b' := w.heap.size + 1 + 1) (o' := 8) (.int .i64 0) (by omega) (seto (b' := w.heap.size + 1 + 1) (o' := 7) (.int .i64 0) (by omega) (seto (b' := w.heap.size + 1 + 1) (o' := 6) (.int .i64 0) (by omega) (seto (b' := w.heap.size + 1 + 1) (o' := 5) (.int .i64 0) (by omega) (seto (b' := w.heap.size + 1 + 1) (o' := 4) (.int .i64 0) (by omega) (seto (b' := w.heap.size + 1 + 1) (o' := 3) (.int .i64 0) (by omega) (seto (b' := w.heap.size + 1 + 1) (o' := 2) (.int .i64 0) (by omega) (setc (.int .i64 0) (seto (b' := w.heap.size + 1 + 1) (o' := 0) (.int .i64 0) (by omega) g1))))))))
  have s2 := seto (b' := w.heap.size + 1 + 1) (o' := 8) (.int .i64 0) (by omega) (seto (b' := w.heap.size + 1 + 1) (o' := 7) (.int .i64 0) (by omega) (seto (b' := w.heap.size + 1 + 1) (o' := 6) (.int .i64 0) (by omega) (seto (b' := w.heap.size + 1 + 1) (o' := 5) (.int .i64 0) (by omega) (seto (b' := w.heap.size + 1 + 1) (o' := 4) (.int .i64 0) (by omega) (seto (b' := w.heap.size + 1 + 1) (o' := 3) (.int .i64 0) (by omega) (setc (.int .i64 0) (seto (b' := w.heap.size + 1 + 1) (o' := 1) (.int .i64 0) (by omega) (seto (b' := w.heap.size + 1 + 1) (o' := 0) (.int .i64 0) (by omega) g2))))))))
  have s3 := seto (b' := w.heap.size + 1 + 1) (o' := 8) (.int .i64 0) (by omega) (seto (b' := w.heap.size + 1 + 1) (o' := 7) (.int .i64 0) (by omega) (seto (b' := w.heap.size + 1 + 1) (o' := 6) (.int .i64 0) (by omega) (seto (b' := w.heap.size + 1 + 1) (o' := 5) (.int .i64 0) (by omega) (seto (b' := w.heap.size + 1 + 1) (o' := 4) (.int .i64 0) (by omega) (setc (.int .i64 0) (seto (b' := w.heap.size + 1 + 1) (o' := 2) (.int .i64 0) (by omega) (seto (b' := w.heap.size + 1 + 1) (o' := 1) (.int .i64 0) (by omega) (seto (b' := w.heap.size + 1 + 1) (o' := 0) (.int .i64 0) (by omega) g3))))))))
  have s4 := seto (b' := w.heap.size + 1 + 1) (o' := 8) (.int .i64 0) (by omega) (seto (b' := w.heap.size + 1 + 1) (o' := 7) (.int .i64 0) (by omega) (seto (b' := w.heap.size + 1 + 1) (o' := 6) (.int .i64 0) (by omega) (seto (b' := w.heap.size + 1 + 1) (o' := 5) (.int .i64 0) (by omega) (setc (.int .i64 0) (seto (b' := w.heap.size + 1 + 1) (o' := 3) (.int .i64 0) (by omega) (seto (b' := w.heap.size + 1 + 1) (o' := 2) (.int .i64 0) (by omega) (seto (b' := w.heap.size + 1 + 1) (o' := 1) (.int .i64 0) (by omega) (seto (b' := w.heap.size + 1 + 1) (o' := 0) (.int .i64 0) (by omega) g4))))))))
  have s5 := seto (b' := w.heap.size + 1 + 1) (o' := 8) (.int .i64 0) (by omega) (seto (b' := w.heap.size + 1 + 1) (o' := 7) (.int .i64 0) (by omega) (seto (b' := w.heap.size + 1 + 1) (o' := 6) (.int .i64 0) (by omega) (setc (.int .i64 0) (seto (b' := w.heap.size + 1 + 1) (o' := 4) (.int .i64 0) (by omega) (seto (b' := w.heap.size + 1 + 1) (o' := 3) (.int .i64 0) (by omega) (seto (b' := w.heap.size + 1 + 1) (o' := 2) (.int .i64 0) (by omega) (seto (b' := w.heap.size + 1 + 1) (o' := 1) (.int .i64 0) (by omega) (seto (b' := w.heap.size + 1 + 1) (o' := 0) (.int .i64 0) (by omega) g5))))))))
  have s6 := seto (b' := w.heap.size + 1 + 1) (o' := 8) (.int .i64 0) (by omega) (seto (b' := w.heap.size + 1 + 1) (o' := 7) (.int .i64 0) (by omega) (setc (.int .i64 0) (seto (b' := w.heap.size + 1 + 1) (o' := 5) (.int .i64 0) (by omega) (seto (b' := w.heap.size + 1 + 1) (o' := 4) (.int .i64 0) (by omega) (seto (b' := w.heap.size + 1 + 1) (o' := 3) (.int .i64 0) (by omega) (seto (b' := w.heap.size + 1 + 1) (o' := 2) (.int .i64 0) (by omega) (seto (b' := w.heap.size + 1 + 1) (o' := 1) (.int .i64 0) (by omega) (seto (b' := w.heap.size + 1 + 1) (o' := 0) (.int .i64 0) (by omega) g6))))))))
  have s7 := seto (b' := w.heap.size + 1 + 1) (o' := 8) (.int .i64 0) (by omega) (setc (.int .i64 0) (seto (b' := w.heap.size + 1 + 1) (o' := 6) (.int .i64 0) (by omega) (seto (b' := w.heap.size + 1 + 1) (o' := 5) (.int .i64 0) (by omega) (seto (b' := w.heap.size + 1 + 1) (o' := 4) (.int .i64 0) (by omega) (seto (b' := w.heap.size + 1 + 1) (o' := 3) (.int .i64 0) (by omega) (seto (b' := w.heap.size + 1 + 1) (o' := 2) (.int .i64 0) (by omega) (seto (b' := w.heap.size + 1 + 1) (o' := 1) (.int .i64 0) (by omega) (seto (b' := w.heap.size + 1 + 1) (o' := 0) (.int .i64 0) (by omega) g7))))))))
  have s8 := setc (.int .i64 0) (seto (b' := w.heap.size + 1 + 1) (o' := 7) (.int .i64 0) (by omega) (seto (b' := w.heap.size + 1 + 1) (o' := 6) (.int .i64 0) (by omega) (seto (b' := w.heap.size + 1 + 1) (o' := 5) (.int .i64 0) (by omega) (seto (b' := w.heap.size + 1 + 1) (o' := 4) (.int .i64 0) (by omega) (seto (b' := w.heap.size + 1 + 1) (o' := 3) (.int .i64 0) (by omega) (seto (b' := w.heap.size + 1 + 1) (o' := 2) (.int .i64 0) (by omega) (seto (b' := w.heap.size + 1 + 1) (o' := 1) (.int .i64 0) (by omega) (seto (b' := w.heap.size + 1 + 1) (o' := 0) (.int .i64 0) (by omega) g8))))))))
  refine bodyPost_ret (by simp [results, Tryd.results28, go_sem, s0, s1, s2, s3, s4, s5, s6, s7, s8]; try rfl) rfl ?_
  exact ⟨by rfl, by (repeat' (first | (with_reducible exact Below.refl _ _) | (with_reducible assumption) | (with_reducible refine Below.drew ?_) | (with_reducible refine belowQ ?_) | (with_reducible refine Below.setCell ?_ ?_ _) | (with_reducible refine Below.alloc ?_ ?_ _) | omega | (dsimp only; omega) | (simp; done) | (simp; omega)))⟩
set_option maxRecDepth 100000 in
set_option maxHeartbeats 8000000 in
theorem renamedOf_ok (x0 x1 x2 x3 x4 x5 x6 x7 x8 p0 p1 p2 r0 r1 r2 r3 r4 r5 r6 r7 r8 : Int) (w : World) (hr : w.rangeAt 0 0 permL) (hL : lErr x0 x1 x2 x3 x4 x5 x6 x7 x8 = 0) (hP : permB p0 p1 p2 = true) (KR : Hid (∀ w, Calls Tryd.prog 94 #[.agg #[.int .i64 x0, .int .i64 x1, .int .i64 x2, .int .i64 x3, .int .i64 x4, .int .i64 x5, .int .i64 x6, .int .i64 x7, .int .i64 x8], .agg #[.int .i64 p0, .int .i64 p1, .int .i64 p2]] w fun e w' => e = .returned (.agg #[.int .i64 r0, .int .i64 r1, .int .i64 r2, .int .i64 r3, .int .i64 r4, .int .i64 r5, .int .i64 r6, .int .i64 r7, .int .i64 r8]) ∧ Below w.heap.size w w')) :
    Calls Tryd.prog 28 #[.agg #[.int .i64 x0, .int .i64 x1, .int .i64 x2, .int .i64 x3, .int .i64 x4, .int .i64 x5, .int .i64 x6, .int .i64 x7, .int .i64 x8], .agg #[.int .i64 p0, .int .i64 p1, .int .i64 p2]] w fun e w' => e = .returned (.tuple #[.agg #[.int .i64 r0, .int .i64 r1, .int .i64 r2, .int .i64 r3, .int .i64 r4, .int .i64 r5, .int .i64 r6, .int .i64 r7, .int .i64 r8], .int .i64 0]) ∧ Below w.heap.size w w' := by
  have hl := fun w => checkLines_all x0 x1 x2 x3 x4 x5 x6 x7 x8 w
  have hp := fun (w : World) (hr : w.rangeAt 0 0 permL) => checkPermutation_any p0 p1 p2 w hr
  change ∀ w : World, w.rangeAt 0 0 permL → Calls Tryd.prog 93 #[.agg #[.int .i64 p0, .int .i64 p1, .int .i64 p2]] w fun e w' => e = .returned (.int .i64 (permE p0 p1 p2)) ∧ Below w.heap.size w w' at hp
  have hq : permE p0 p1 p2 = 0 := by unfold permE; rw [if_pos hP]
  rw [hL] at hl
  rw [hq] at hp
  have Hl := Lib.hid hl
  have Hp := Lib.hid hp
  obtain ⟨A, hA⟩ : ∃ A : Int, A = 0 := ⟨_, rfl⟩
  obtain ⟨B, hB⟩ : ∃ B : Int, B = 0 := ⟨_, rfl⟩
  clear hl hp hL hq hP hA hB A B
  go_enter Tryd.func28, Tryd.ntmps28
  go_wp2_with fail
  refine wp_region_held_drew (S := RnS x0 x1 x2 x3 x4 x5 x6 x7 x8 p0 p1 p2 w) (by kernel_rfl) ?hS (fun hH => ?_)
  case hS =>
    refine ⟨by go_grown, by simp, fun j hj => ?_, by go_simp, by go_simp, by go_simp, by go_simp, by go_simp, by go_simp, by go_simp, by go_simp, by go_simp, by go_simp, by go_simp, by go_simp⟩
    obtain rfl | rfl | rfl | rfl | rfl | rfl | rfl | rfl | rfl : j = 0 ∨ j = 1 ∨ j = 2 ∨ j = 3 ∨ j = 4 ∨ j = 5 ∨ j = 6 ∨ j = 7 ∨ j = 8 := by omega
    all_goals exact ⟨⟨.int .i64 0, by go_simp⟩, by go_simp⟩
  refine' wpAnyH_take (i := 0) (v := _) rfl (by kernel_rfl) (by kernel_rfl) (by kernel_rfl) (fun _ _ _ h => h) (Or.inl ⟨by kernel_rfl, ?hy⟩) (by assumption) ?_
  case hy => (intro W hW; obtain ⟨qb, qz, qf, q0, q1, q2, q3, q4, q5, q6, q7, q8, q9, q10, q11⟩ := hW; go_simp; try (with_reducible rfl))
  try simp only [Act.put, List.setIfInBounds_toArray, List.set_cons_zero, List.set_cons_succ, List.getElem_toArray, List.getElem_cons_zero]
  refine' wpAnyH_take (i := 2) (v := _) rfl (by kernel_rfl) (by kernel_rfl) (by kernel_rfl) (fun _ _ _ h => h) (Or.inl ⟨by kernel_rfl, ?hy⟩) (by assumption) ?_
  case hy => (intro W hW; obtain ⟨qb, qz, qf, q0, q1, q2, q3, q4, q5, q6, q7, q8, q9, q10, q11⟩ := hW; go_simp; try (with_reducible rfl))
  try simp only [Act.put, List.setIfInBounds_toArray, List.set_cons_zero, List.set_cons_succ, List.getElem_toArray, List.getElem_cons_succ, List.getElem_cons_zero]
  refine wpAnyH_ready (rs := [1]) (by kernel_rfl) (by simp) ?_
  refine AllReadyH.cons rfl (fun K hK => ?_) AllReadyH.nil
  go_simp
  refine (Hl.out _).mono ?_
  rintro e wr0 ⟨rfl, hbr0⟩
  refine hK.out _ _ (RnS.below hH hbr0) (fun hH0 => ?_)
  clear hK
  try simp only [Act.put, List.setIfInBounds_toArray, List.set_cons_zero, List.set_cons_succ, List.getElem_toArray, List.getElem_cons_succ, List.getElem_cons_zero]
  refine wpAnyH_ready (rs := [3]) (by kernel_rfl) (by simp) ?_
  refine AllReadyH.cons rfl (fun K hK => ?_) AllReadyH.nil
  go_simp
  refine (Hp.out _ (rangeB (w := w) hH0.1 hr)).mono ?_
  rintro e wr1 ⟨rfl, hbr1⟩
  refine hK.out _ _ (RnS.below hH0 hbr1) (fun hH1 => ?_)
  clear hK
  try simp only [Act.put, List.setIfInBounds_toArray, List.set_cons_zero, List.set_cons_succ, List.getElem_toArray, List.getElem_cons_succ, List.getElem_cons_zero]
  refine wpAnyH_ready (rs := [4]) (by kernel_rfl) (by simp) ?_
  refine AllReadyH.cons rfl (fun K hK => ?_) AllReadyH.nil
  go_simp
  refine hK.out _ _ (RnS.below hH1 (belowA _ _)) (fun hH2 => ?_)
  clear hK
  try simp only [Act.put, List.setIfInBounds_toArray, List.set_cons_zero, List.set_cons_succ, List.getElem_toArray, List.getElem_cons_succ, List.getElem_cons_zero]
  refine wpAnyH_ready (rs := [5]) (by kernel_rfl) (by simp) ?_
  refine AllReadyH.cons rfl (fun K hK => ?_) AllReadyH.nil
  go_simp
  refine (firstOf00 _ _ _ _ ?_ ?_).mono ?_
  go_simp
  go_simp
  rintro e wr3 ⟨rfl, rfl⟩
  refine hK.out _ _ hH2 (fun hH3 => ?_)
  clear hK
  try simp only [Act.put, List.setIfInBounds_toArray, List.set_cons_zero, List.set_cons_succ, List.getElem_toArray, List.getElem_cons_succ, List.getElem_cons_zero]
  refine' wpAnyH_take (i := 6) (v := _) rfl (by kernel_rfl) (by kernel_rfl) (by kernel_rfl) (fun _ _ _ h => h) (Or.inl ⟨by kernel_rfl, ?hy⟩) (by assumption) ?_
  case hy => (intro W hW; obtain ⟨qb, qz, qf, q0, q1, q2, q3, q4, q5, q6, q7, q8, q9, q10, q11⟩ := hW; go_simp; try (with_reducible rfl))
  try simp only [Act.put, List.setIfInBounds_toArray, List.set_cons_zero, List.set_cons_succ, List.getElem_toArray, List.getElem_cons_succ, List.getElem_cons_zero]
  refine wpAnyH_done (by kernel_rfl) ?_ _
  obtain ⟨tb, tz, tf, y0, y1, y2, y3, y4, y5, y6, y7, y8, y9, y10, y11⟩ := id hH3
  go_wp2_with (go_at_call 94; refine (KR.out _).mono ?_; rintro e w5 ⟨rfl, hb5⟩; have hH5 := RnS.below hH3 hb5; obtain ⟨sb, sz, sf, -⟩ := id hH5; obtain ⟨⟨c0, g0⟩, k0⟩ := sf 0 (by decide); obtain ⟨⟨c1, g1⟩, k1⟩ := sf 1 (by decide); obtain ⟨⟨c2, g2⟩, k2⟩ := sf 2 (by decide); obtain ⟨⟨c3, g3⟩, k3⟩ := sf 3 (by decide); obtain ⟨⟨c4, g4⟩, k4⟩ := sf 4 (by decide); obtain ⟨⟨c5, g5⟩, k5⟩ := sf 5 (by decide); obtain ⟨⟨c6, g6⟩, k6⟩ := sf 6 (by decide); obtain ⟨⟨c7, g7⟩, k7⟩ := sf 7 (by decide); obtain ⟨⟨c8, g8⟩, k8⟩ := sf 8 (by decide); clear sf)
  have s0 := seto (b' := w.heap.size + 1 + 1) (o' := 8) (.int .i64 r8) (by omega) (seto (b' := w.heap.size + 1 + 1) (o' := 7) (.int .i64 r7) (by omega) (seto (b' := w.heap.size + 1 + 1) (o' := 6) (.int .i64 r6) (by omega) (seto (b' := w.heap.size + 1 + 1) (o' := 5) (.int .i64 r5) (by omega) (seto (b' := w.heap.size + 1 + 1) (o' := 4) (.int .i64 r4) (by omega) (seto (b' := w.heap.size + 1 + 1) (o' := 3) (.int .i64 r3) (by omega) (seto (b' := w.heap.size + 1 + 1) (o' := 2) (.int .i64 r2) (by omega) (seto (b' := w.heap.size + 1 + 1) (o' := 1) (.int .i64 r1) (by omega) (setc (.int .i64 r0) g0))))))))
  have s1 := seto (b' := w.heap.size + 1 + 1) (o' := 8) (.int .i64 r8) (by omega) (seto (b' := w.heap.size + 1 + 1) (o' := 7) (.int .i64 r7) (by omega) (seto (b' := w.heap.size + 1 + 1) (o' := 6) (.int .i64 r6) (by omega) (seto (b' := w.heap.size + 1 + 1) (o' := 5) (.int .i64 r5) (by omega) (seto (b' := w.heap.size + 1 + 1) (o' := 4) (.int .i64 r4) (by omega) (seto (b' := w.heap.size + 1 + 1) (o' := 3) (.int .i64 r3) (by omega) (seto (b' := w.heap.size + 1 + 1) (o' := 2) (.int .i64 r2) (by omega) (setc (.int .i64 r1) (seto (b' := w.heap.size + 1 + 1) (o' := 0) (.int .i64 r0) (by omega) g1))))))))
  have s2 := seto (b' := w.heap.size + 1 + 1) (o' := 8) (.int .i64 r8) (by omega) (seto (b' := w.heap.size + 1 + 1) (o' := 7) (.int .i64 r7) (by omega) (seto (b' := w.heap.size + 1 + 1) (o' := 6) (.int .i64 r6) (by omega) (seto (b' := w.heap.size + 1 + 1) (o' := 5) (.int .i64 r5) (by omega) (seto (b' := w.heap.size + 1 + 1) (o' := 4) (.int .i64 r4) (by omega) (seto (b' := w.heap.size + 1 + 1) (o' := 3) (.int .i64 r3) (by omega) (setc (.int .i64 r2) (seto (b' := w.heap.size + 1 + 1) (o' := 1) (.int .i64 r1) (by omega) (seto (b' := w.heap.size + 1 + 1) (o' := 0) (.int .i64 r0) (by omega) g2))))))))
  have s3 := seto (b' := w.heap.size + 1 + 1) (o' := 8) (.int .i64 r8) (by omega) (seto (b' := w.heap.size + 1 + 1) (o' := 7) (.int .i64 r7) (by omega) (seto (b' := w.heap.size + 1 + 1) (o' := 6) (.int .i64 r6) (by omega) (seto (b' := w.heap.size + 1 + 1) (o' := 5) (.int .i64 r5) (by omega) (seto (b' := w.heap.size + 1 + 1) (o' := 4) (.int .i64 r4) (by omega) (setc (.int .i64 r3) (seto (b' := w.heap.size + 1 + 1) (o' := 2) (.int .i64 r2) (by omega) (seto (b' := w.heap.size + 1 + 1) (o' := 1) (.int .i64 r1) (by omega) (seto (b' := w.heap.size + 1 + 1) (o' := 0) (.int .i64 r0) (by omega) g3))))))))
  have s4 := seto (b' := w.heap.size + 1 + 1) (o' := 8) (.int .i64 r8) (by omega) (seto (b' := w.heap.size + 1 + 1) (o' := 7) (.int .i64 r7) (by omega) (seto (b' := w.heap.size + 1 + 1) (o' := 6) (.int .i64 r6) (by omega) (seto (b' := w.heap.size + 1 + 1) (o' := 5) (.int .i64 r5) (by omega) (setc (.int .i64 r4) (seto (b' := w.heap.size + 1 + 1) (o' := 3) (.int .i64 r3) (by omega) (seto (b' := w.heap.size + 1 + 1) (o' := 2) (.int .i64 r2) (by omega) (seto (b' := w.heap.size + 1 + 1) (o' := 1) (.int .i64 r1) (by omega) (seto (b' := w.heap.size + 1 + 1) (o' := 0) (.int .i64 r0) (by omega) g4))))))))
  have s5 := seto (b' := w.heap.size + 1 + 1) (o' := 8) (.int .i64 r8) (by omega) (seto (b' := w.heap.size + 1 + 1) (o' := 7) (.int .i64 r7) (by omega) (seto (b' := w.heap.size + 1 + 1) (o' := 6) (.int .i64 r6) (by omega) (setc (.int .i64 r5) (seto (b' := w.heap.size + 1 + 1) (o' := 4) (.int .i64 r4) (by omega) (seto (b' := w.heap.size + 1 + 1) (o' := 3) (.int .i64 r3) (by omega) (seto (b' := w.heap.size + 1 + 1) (o' := 2) (.int .i64 r2) (by omega) (seto (b' := w.heap.size + 1 + 1) (o' := 1) (.int .i64 r1) (by omega) (seto (b' := w.heap.size + 1 + 1) (o' := 0) (.int .i64 r0) (by omega) g5))))))))
  have s6 := seto (b' := w.heap.size + 1 + 1) (o' := 8) (.int .i64 r8) (by omega) (seto (b' := w.heap.size + 1 + 1) (o' := 7) (.int .i64 r7) (by omega) (setc (.int .i64 r6) (seto (b' := w.heap.size + 1 + 1) (o' := 5) (.int .i64 r5) (by omega) (seto (b' := w.heap.size + 1 + 1) (o' := 4) (.int .i64 r4) (by omega) (seto (b' := w.heap.size + 1 + 1) (o' := 3) (.int .i64 r3) (by omega) (seto (b' := w.heap.size + 1 + 1) (o' := 2) (.int .i64 r2) (by omega) (seto (b' := w.heap.size + 1 + 1) (o' := 1) (.int .i64 r1) (by omega) (seto (b' := w.heap.size + 1 + 1) (o' := 0) (.int .i64 r0) (by omega) g6))))))))
  have s7 := seto (b' := w.heap.size + 1 + 1) (o' := 8) (.int .i64 r8) (by omega) (setc (.int .i64 r7) (seto (b' := w.heap.size + 1 + 1) (o' := 6) (.int .i64 r6) (by omega) (seto (b' := w.heap.size + 1 + 1) (o' := 5) (.int .i64 r5) (by omega) (seto (b' := w.heap.size + 1 + 1) (o' := 4) (.int .i64 r4) (by omega) (seto (b' := w.heap.size + 1 + 1) (o' := 3) (.int .i64 r3) (by omega) (seto (b' := w.heap.size + 1 + 1) (o' := 2) (.int .i64 r2) (by omega) (seto (b' := w.heap.size + 1 + 1) (o' := 1) (.int .i64 r1) (by omega) (seto (b' := w.heap.size + 1 + 1) (o' := 0) (.int .i64 r0) (by omega) g7))))))))
  have s8 := setc (.int .i64 r8) (seto (b' := w.heap.size + 1 + 1) (o' := 7) (.int .i64 r7) (by omega) (seto (b' := w.heap.size + 1 + 1) (o' := 6) (.int .i64 r6) (by omega) (seto (b' := w.heap.size + 1 + 1) (o' := 5) (.int .i64 r5) (by omega) (seto (b' := w.heap.size + 1 + 1) (o' := 4) (.int .i64 r4) (by omega) (seto (b' := w.heap.size + 1 + 1) (o' := 3) (.int .i64 r3) (by omega) (seto (b' := w.heap.size + 1 + 1) (o' := 2) (.int .i64 r2) (by omega) (seto (b' := w.heap.size + 1 + 1) (o' := 1) (.int .i64 r1) (by omega) (seto (b' := w.heap.size + 1 + 1) (o' := 0) (.int .i64 r0) (by omega) g8))))))))
  refine bodyPost_ret (by simp [results, Tryd.results28, go_sem, s0, s1, s2, s3, s4, s5, s6, s7, s8]; try rfl) rfl ?_
  exact ⟨by rfl, by (repeat' (first | (with_reducible exact Below.refl _ _) | (with_reducible assumption) | (with_reducible refine Below.drew ?_) | (with_reducible refine belowQ ?_) | (with_reducible refine Below.setCell ?_ ?_ _) | (with_reducible refine Below.alloc ?_ ?_ _) | omega | (dsimp only; omega) | (simp; done) | (simp; omega)))⟩
end Go.Proofs.YtngdhmliohjigaaDoor
