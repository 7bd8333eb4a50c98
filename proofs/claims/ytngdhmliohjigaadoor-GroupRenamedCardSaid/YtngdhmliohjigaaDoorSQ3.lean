/- The closure of a sequence: does a phasor follow another one by a third one? -/
import Derived.Test.YtngdhmliohjigaaDoorPH5
import Derived.Test.YtngdhmliohjigaaDoorEQ
namespace Go.Proofs.YtngdhmliohjigaaDoor
open Go.RowKit
def fol1 (p q x y r s : Int) : Bool := (x == p * r - q * s && y == p * s + q * r - q * s)
def foB (a0 a1 b0 b1 c0 c1 r s : Int) : Bool := fol1 a0 a1 b0 b1 r s && fol1 b0 b1 c0 c1 r s
theorem eql142 (x y p q r s : Int) (w : World) : (binOp .eql 142 (.agg #[.int .i64 x, .int .i64 y]) (.agg #[.int .i64 (p * r - q * s), .int .i64 (p * s + q * r - q * s)])).run Tryd.prog w = .ok (.bool (fol1 p q x y r s)) w := by
  rw [run_eql_struct, eq142]
  rfl
set_option maxRecDepth 100000 in
set_option maxHeartbeats 4000000 in
theorem follows_t (a0 a1 b0 b1 c0 c1 r s : Int) (BA BB BC : Nat) (w : World) (hBB0 : w.cell? ⟨BB, 0, none⟩ = some (.int .i64 b0)) (hBB1 : w.cell? ⟨BB, 1, none⟩ = some (.int .i64 b1)) (hBA0 : w.cell? ⟨BA, 0, none⟩ = some (.int .i64 a0)) (hBA1 : w.cell? ⟨BA, 1, none⟩ = some (.int .i64 a1)) (hBC0 : w.cell? ⟨BC, 0, none⟩ = some (.int .i64 c0)) (hBC1 : w.cell? ⟨BC, 1, none⟩ = some (.int .i64 c1)) (a0l : -20000 ≤ a0) (a0u : a0 ≤ 20000) (a1l : -20000 ≤ a1) (a1u : a1 ≤ 20000) (b0l : -20000 ≤ b0) (b0u : b0 ≤ 20000) (b1l : -20000 ≤ b1) (b1u : b1 ≤ 20000) (_c0l : -20000 ≤ c0) (_c0u : c0 ≤ 20000) (_c1l : -20000 ≤ c1) (_c1u : c1 ≤ 20000) (r0 : -1 ≤ r) (r1 : r ≤ 1) (s0 : -1 ≤ s) (s1 : s ≤ 1) (h1 : fol1 a0 a1 b0 b1 r s = true) :
    Calls Tryd.prog 140 #[.agg #[.int .i64 r, .int .i64 s], .pointer (some ⟨BB, 0, none⟩), .pointer (some ⟨BA, 0, none⟩), .pointer (some ⟨BC, 0, none⟩)] w fun e w' => e = .returned (.bool (foB a0 a1 b0 b1 c0 c1 r s)) ∧ Below w.heap.size w w' := by
  have q1 := fun w => eql142 b0 b1 a0 a1 r s w
  rw [h1] at q1
  have q2 := fun w => eql142 c0 c1 b0 b1 r s w
  have er : fol1 b0 b1 c0 c1 r s = foB a0 a1 b0 b1 c0 c1 r s := by simp [foB, h1]
  rw [er] at q2
  generalize foB a0 a1 b0 b1 c0 c1 r s = R at q2 ⊢
  clear er h1
  have zA := block_lt hBA0
  have zB := block_lt hBB0
  have zC := block_lt hBC0
  go_enter Tryd.func140, Tryd.ntmps140
  go_wp2_with fail
  refine wp_region_held_drew (S := (fun W : World => Below w.heap.size w W ∧ W.cell? ⟨w.heap.size, 0, none⟩ = some (.int .i64 r) ∧ W.cell? ⟨w.heap.size, 1, none⟩ = some (.int .i64 s) ∧ W.cell? ⟨BB, 0, none⟩ = some (.int .i64 b0) ∧ W.cell? ⟨BB, 1, none⟩ = some (.int .i64 b1) ∧ W.cell? ⟨BA, 0, none⟩ = some (.int .i64 a0) ∧ W.cell? ⟨BA, 1, none⟩ = some (.int .i64 a1) ∧ W.cell? ⟨BC, 0, none⟩ = some (.int .i64 c0) ∧ W.cell? ⟨BC, 1, none⟩ = some (.int .i64 c1))) (by kernel_rfl) ?hS (fun hH => ?_)
  case hS =>
    ((repeat' apply And.intro) <;> (first | (with_reducible assumption) | (refine belowT ?_ ‹_›; first | (go_grown; done) | exact And.left (by assumption)) | (refine belowT (And.left (by assumption)) ?_; go_grown; done) | (go_simp; done) | exact keep1 ‹_› (by first | (go_simp; done) | (go_keep; done)) | (go_keep; done) | omega | (go_grown; done) | (refine Nat.lt_of_lt_of_le ?_ (Below.size ‹_›); first | omega | (simp; done)) | exact keepF ‹_› (by first | omega | (simp; done)) (by first | (go_simp; done) | (go_keep; done)) | (simp; omega) | (simp only [World.size_alloc, World.size_drew, World.size_setCell] at *; omega)))
  refine' wpAnyH_take (i := 0) (v := _) rfl (by kernel_rfl) (by kernel_rfl) (by kernel_rfl) (fun _ _ _ h => h) (Or.inl ⟨by kernel_rfl, ?hy⟩) (by assumption) ?_
  case hy => (intro W hW; (try dsimp only at hW); go_simp; try (with_reducible rfl))
  try simp only [Act.put, List.setIfInBounds_toArray, List.set_cons_zero, List.set_cons_succ, List.getElem_toArray, List.getElem_cons_zero]
  refine' wpAnyH_take (i := 1) (v := _) rfl (by kernel_rfl) (by kernel_rfl) (by kernel_rfl) (fun _ _ _ h => h) (Or.inl ⟨by kernel_rfl, ?hy⟩) (by assumption) ?_
  case hy => (intro W hW; (try dsimp only at hW); go_simp; try (with_reducible rfl))
  try simp only [Act.put, List.setIfInBounds_toArray, List.set_cons_zero, List.set_cons_succ, List.getElem_toArray, List.getElem_cons_succ, List.getElem_cons_zero]
  refine' wpAnyH_take (i := 2) (v := _) rfl (by kernel_rfl) (by kernel_rfl) (by kernel_rfl) (fun _ _ _ h => h) (Or.inl ⟨by kernel_rfl, ?hy⟩) (by assumption) ?_
  case hy => (intro W hW; (try dsimp only at hW); go_simp; try (with_reducible rfl))
  try simp only [Act.put, List.setIfInBounds_toArray, List.set_cons_zero, List.set_cons_succ, List.getElem_toArray, List.getElem_cons_succ, List.getElem_cons_zero]
  refine wpAnyH_ready (rs := [3]) (by kernel_rfl) (by simp) ?_
  refine AllReadyH.cons rfl (fun K hK => ?_) AllReadyH.nil
  go_simp
  refine (times_any _ _ _ _ _ (by omega) (by omega) (by omega) (by omega) (by omega) (by omega) (by omega) (by omega)).mono ?_
  rintro e wr1 ⟨rfl, hbr1⟩
  refine hK.out _ _ ?hS (fun hH1 => ?_)
  case hS =>
    ((repeat' apply And.intro) <;> (first | (with_reducible assumption) | (refine belowT ?_ ‹_›; first | (go_grown; done) | exact And.left (by assumption)) | (refine belowT (And.left (by assumption)) ?_; go_grown; done) | (go_simp; done) | exact keep1 ‹_› (by first | (go_simp; done) | (go_keep; done)) | (go_keep; done) | omega | (go_grown; done) | (refine Nat.lt_of_lt_of_le ?_ (Below.size ‹_›); first | omega | (simp; done)) | exact keepF ‹_› (by first | omega | (simp; done)) (by first | (go_simp; done) | (go_keep; done)) | (simp; omega) | (simp only [World.size_alloc, World.size_drew, World.size_setCell] at *; omega)))
  clear hK
  try simp only [Act.put, List.setIfInBounds_toArray, List.set_cons_zero, List.set_cons_succ, List.getElem_toArray, List.getElem_cons_succ, List.getElem_cons_zero]
  refine' wpAnyH_take (i := 4) (v := _) rfl (by kernel_rfl) (by kernel_rfl) (by kernel_rfl) (fun _ _ _ h => h) (Or.inl ⟨by kernel_rfl, ?hy⟩) (by assumption) ?_
  case hy => (intro W hW; (try dsimp only at hW); go_simp; try (with_reducible rfl))
  try simp only [Act.put, List.setIfInBounds_toArray, List.set_cons_zero, List.set_cons_succ, List.getElem_toArray, List.getElem_cons_succ, List.getElem_cons_zero]
  refine' wpAnyH_take (i := 5) (v := _) rfl (by kernel_rfl) (by kernel_rfl) (by kernel_rfl) (fun _ _ _ h => h) (Or.inl ⟨by kernel_rfl, ?hy⟩) (by assumption) ?_
  case hy => (intro W hW; (try dsimp only at hW); go_simp; try (with_reducible rfl))
  try simp only [Act.put, List.setIfInBounds_toArray, List.set_cons_zero, List.set_cons_succ, List.getElem_toArray, List.getElem_cons_succ, List.getElem_cons_zero]
  refine' wpAnyH_take (i := 6) (v := _) rfl (by kernel_rfl) (by kernel_rfl) (by kernel_rfl) (fun _ _ _ h => h) (Or.inl ⟨by kernel_rfl, ?hy⟩) (by assumption) ?_
  case hy => (intro W hW; (try dsimp only at hW); go_simp; try (with_reducible rfl))
  try simp only [Act.put, List.setIfInBounds_toArray, List.set_cons_zero, List.set_cons_succ, List.getElem_toArray, List.getElem_cons_succ, List.getElem_cons_zero]
  refine' wpAnyH_take (i := 7) (v := _) rfl (by kernel_rfl) (by kernel_rfl) (by kernel_rfl) (fun _ _ _ h => h) (Or.inl ⟨by kernel_rfl, ?hy⟩) (by assumption) ?_
  case hy => (intro W hW; (try dsimp only at hW); go_simp; try (with_reducible rfl))
  try simp only [Act.put, List.setIfInBounds_toArray, List.set_cons_zero, List.set_cons_succ, List.getElem_toArray, List.getElem_cons_succ, List.getElem_cons_zero]
  refine' wpAnyH_take (i := 8) (v := _) rfl (by kernel_rfl) (by kernel_rfl) (by kernel_rfl) (fun _ _ _ h => h) (Or.inl ⟨by kernel_rfl, ?hy⟩) (by assumption) ?_
  case hy => (intro W hW; (try dsimp only at hW); go_simp; try (with_reducible rfl))
  try simp only [Act.put, List.setIfInBounds_toArray, List.set_cons_zero, List.set_cons_succ, List.getElem_toArray, List.getElem_cons_succ, List.getElem_cons_zero]
  refine wpAnyH_ready (rs := [9]) (by kernel_rfl) (by simp) ?_
  refine AllReadyH.cons rfl (fun K hK => ?_) AllReadyH.nil
  go_simp
  refine (times_any _ _ _ _ _ (by omega) (by omega) (by omega) (by omega) (by omega) (by omega) (by omega) (by omega)).mono ?_
  rintro e wr2 ⟨rfl, hbr2⟩
  refine hK.out _ _ ?hS (fun hH2 => ?_)
  case hS =>
    ((repeat' apply And.intro) <;> (first | (with_reducible assumption) | (refine belowT ?_ ‹_›; first | (go_grown; done) | exact And.left (by assumption)) | (refine belowT (And.left (by assumption)) ?_; go_grown; done) | (go_simp; done) | exact keep1 ‹_› (by first | (go_simp; done) | (go_keep; done)) | (go_keep; done) | omega | (go_grown; done) | (refine Nat.lt_of_lt_of_le ?_ (Below.size ‹_›); first | omega | (simp; done)) | exact keepF ‹_› (by first | omega | (simp; done)) (by first | (go_simp; done) | (go_keep; done)) | (simp; omega) | (simp only [World.size_alloc, World.size_drew, World.size_setCell] at *; omega)))
  clear hK
  try simp only [Act.put, List.setIfInBounds_toArray, List.set_cons_zero, List.set_cons_succ, List.getElem_toArray, List.getElem_cons_succ, List.getElem_cons_zero]
  refine' wpAnyH_take (i := 10) (v := _) rfl (by kernel_rfl) (by kernel_rfl) (by kernel_rfl) (fun _ _ _ h => h) (Or.inl ⟨by kernel_rfl, ?hy⟩) (by assumption) ?_
  case hy => (intro W hW; (try dsimp only at hW); go_simp; try (with_reducible rfl))
  try simp only [Act.put, List.setIfInBounds_toArray, List.set_cons_zero, List.set_cons_succ, List.getElem_toArray, List.getElem_cons_succ, List.getElem_cons_zero]
  refine' wpAnyH_take (i := 11) (v := _) rfl (by kernel_rfl) (by kernel_rfl) (by kernel_rfl) (fun _ _ _ h => h) (Or.inl ⟨by kernel_rfl, ?hy⟩) (by assumption) ?_
  case hy => (intro W hW; (try dsimp only at hW); go_simp; try (with_reducible rfl))
  try simp only [Act.put, List.setIfInBounds_toArray, List.set_cons_zero, List.set_cons_succ, List.getElem_toArray, List.getElem_cons_succ, List.getElem_cons_zero]
  refine' wpAnyH_take (i := 12) (v := _) rfl (by kernel_rfl) (by kernel_rfl) (by kernel_rfl) (fun _ _ _ h => h) (Or.inl ⟨by kernel_rfl, ?hy⟩) (by assumption) ?_
  case hy => (intro W hW; (try dsimp only at hW); go_simp; try (with_reducible rfl))
  try simp only [Act.put, List.setIfInBounds_toArray, List.set_cons_zero, List.set_cons_succ, List.getElem_toArray, List.getElem_cons_succ, List.getElem_cons_zero]
  refine wpAnyH_done (by kernel_rfl) ?_ _
  obtain ⟨p1xb, p1x0, p1x1, p1x2, p1x3, p1x4, p1x5, p1x6, p1x7⟩ := hH2
  have p1xz0 := block_lt p1x0
  have p1xz2 := block_lt p1x2
  have p1xz4 := block_lt p1x4
  have p1xz6 := block_lt p1x6
  have p1xs := p1xb.size
  go_wp2
  go_returns
  exact ⟨rfl, by first | (go_grown; done) | assumption⟩
set_option maxRecDepth 100000 in
set_option maxHeartbeats 4000000 in
theorem follows_f (a0 a1 b0 b1 c0 c1 r s : Int) (BA BB BC : Nat) (w : World) (hBB0 : w.cell? ⟨BB, 0, none⟩ = some (.int .i64 b0)) (hBB1 : w.cell? ⟨BB, 1, none⟩ = some (.int .i64 b1)) (hBA0 : w.cell? ⟨BA, 0, none⟩ = some (.int .i64 a0)) (hBA1 : w.cell? ⟨BA, 1, none⟩ = some (.int .i64 a1)) (hBC0 : w.cell? ⟨BC, 0, none⟩ = some (.int .i64 c0)) (hBC1 : w.cell? ⟨BC, 1, none⟩ = some (.int .i64 c1)) (a0l : -20000 ≤ a0) (a0u : a0 ≤ 20000) (a1l : -20000 ≤ a1) (a1u : a1 ≤ 20000) (_b0l : -20000 ≤ b0) (_b0u : b0 ≤ 20000) (_b1l : -20000 ≤ b1) (_b1u : b1 ≤ 20000) (_c0l : -20000 ≤ c0) (_c0u : c0 ≤ 20000) (_c1l : -20000 ≤ c1) (_c1u : c1 ≤ 20000) (r0 : -1 ≤ r) (r1 : r ≤ 1) (s0 : -1 ≤ s) (s1 : s ≤ 1) (h1 : fol1 a0 a1 b0 b1 r s = false) :
    Calls Tryd.prog 140 #[.agg #[.int .i64 r, .int .i64 s], .pointer (some ⟨BB, 0, none⟩), .pointer (some ⟨BA, 0, none⟩), .pointer (some ⟨BC, 0, none⟩)] w fun e w' => e = .returned (.bool (foB a0 a1 b0 b1 c0 c1 r s)) ∧ Below w.heap.size w w' := by
  have q1 := fun w => eql142 b0 b1 a0 a1 r s w
  rw [h1] at q1
  have er : foB a0 a1 b0 b1 c0 c1 r s = false := by simp [foB, h1]
  rw [er]
  clear er h1
  have zA := block_lt hBA0
  have zB := block_lt hBB0
  have zC := block_lt hBC0
  go_enter Tryd.func140, Tryd.ntmps140
  go_wp2_with fail
  refine wp_region_held_drew (S := (fun W : World => Below w.heap.size w W ∧ W.cell? ⟨w.heap.size, 0, none⟩ = some (.int .i64 r) ∧ W.cell? ⟨w.heap.size, 1, none⟩ = some (.int .i64 s) ∧ W.cell? ⟨BB, 0, none⟩ = some (.int .i64 b0) ∧ W.cell? ⟨BB, 1, none⟩ = some (.int .i64 b1) ∧ W.cell? ⟨BA, 0, none⟩ = some (.int .i64 a0) ∧ W.cell? ⟨BA, 1, none⟩ = some (.int .i64 a1) ∧ W.cell? ⟨BC, 0, none⟩ = some (.int .i64 c0) ∧ W.cell? ⟨BC, 1, none⟩ = some (.int .i64 c1))) (by kernel_rfl) ?hS (fun hH => ?_)
  case hS =>
    ((repeat' apply And.intro) <;> (first | (with_reducible assumption) | (refine belowT ?_ ‹_›; first | (go_grown; done) | exact And.left (by assumption)) | (refine belowT (And.left (by assumption)) ?_; go_grown; done) | (go_simp; done) | exact keep1 ‹_› (by first | (go_simp; done) | (go_keep; done)) | (go_keep; done) | omega | (go_grown; done) | (refine Nat.lt_of_lt_of_le ?_ (Below.size ‹_›); first | omega | (simp; done)) | exact keepF ‹_› (by first | omega | (simp; done)) (by first | (go_simp; done) | (go_keep; done)) | (simp; omega) | (simp only [World.size_alloc, World.size_drew, World.size_setCell] at *; omega)))
  refine' wpAnyH_take (i := 0) (v := _) rfl (by kernel_rfl) (by kernel_rfl) (by kernel_rfl) (fun _ _ _ h => h) (Or.inl ⟨by kernel_rfl, ?hy⟩) (by assumption) ?_
  case hy => (intro W hW; (try dsimp only at hW); go_simp; try (with_reducible rfl))
  try simp only [Act.put, List.setIfInBounds_toArray, List.set_cons_zero, List.set_cons_succ, List.getElem_toArray, List.getElem_cons_zero]
  refine' wpAnyH_take (i := 1) (v := _) rfl (by kernel_rfl) (by kernel_rfl) (by kernel_rfl) (fun _ _ _ h => h) (Or.inl ⟨by kernel_rfl, ?hy⟩) (by assumption) ?_
  case hy => (intro W hW; (try dsimp only at hW); go_simp; try (with_reducible rfl))
  try simp only [Act.put, List.setIfInBounds_toArray, List.set_cons_zero, List.set_cons_succ, List.getElem_toArray, List.getElem_cons_succ, List.getElem_cons_zero]
  refine' wpAnyH_take (i := 2) (v := _) rfl (by kernel_rfl) (by kernel_rfl) (by kernel_rfl) (fun _ _ _ h => h) (Or.inl ⟨by kernel_rfl, ?hy⟩) (by assumption) ?_
  case hy => (intro W hW; (try dsimp only at hW); go_simp; try (with_reducible rfl))
  try simp only [Act.put, List.setIfInBounds_toArray, List.set_cons_zero, List.set_cons_succ, List.getElem_toArray, List.getElem_cons_succ, List.getElem_cons_zero]
  refine wpAnyH_ready (rs := [3]) (by kernel_rfl) (by simp) ?_
  refine AllReadyH.cons rfl (fun K hK => ?_) AllReadyH.nil
  go_simp
  refine (times_any _ _ _ _ _ (by omega) (by omega) (by omega) (by omega) (by omega) (by omega) (by omega) (by omega)).mono ?_
  rintro e wr1 ⟨rfl, hbr1⟩
  refine hK.out _ _ ?hS (fun hH1 => ?_)
  case hS =>
    ((repeat' apply And.intro) <;> (first | (with_reducible assumption) | (refine belowT ?_ ‹_›; first | (go_grown; done) | exact And.left (by assumption)) | (refine belowT (And.left (by assumption)) ?_; go_grown; done) | (go_simp; done) | exact keep1 ‹_› (by first | (go_simp; done) | (go_keep; done)) | (go_keep; done) | omega | (go_grown; done) | (refine Nat.lt_of_lt_of_le ?_ (Below.size ‹_›); first | omega | (simp; done)) | exact keepF ‹_› (by first | omega | (simp; done)) (by first | (go_simp; done) | (go_keep; done)) | (simp; omega) | (simp only [World.size_alloc, World.size_drew, World.size_setCell] at *; omega)))
  clear hK
  try simp only [Act.put, List.setIfInBounds_toArray, List.set_cons_zero, List.set_cons_succ, List.getElem_toArray, List.getElem_cons_succ, List.getElem_cons_zero]
  refine' wpAnyH_take (i := 4) (v := _) rfl (by kernel_rfl) (by kernel_rfl) (by kernel_rfl) (fun _ _ _ h => h) (Or.inl ⟨by kernel_rfl, ?hy⟩) (by assumption) ?_
  case hy => (intro W hW; (try dsimp only at hW); go_simp; try (with_reducible rfl))
  try simp only [Act.put, List.setIfInBounds_toArray, List.set_cons_zero, List.set_cons_succ, List.getElem_toArray, List.getElem_cons_succ, List.getElem_cons_zero]
  refine' wpAnyH_take (i := 5) (v := _) rfl (by kernel_rfl) (by kernel_rfl) (by kernel_rfl) (fun _ _ _ h => h) (Or.inl ⟨by kernel_rfl, ?hy⟩) (by assumption) ?_
  case hy => (intro W hW; (try dsimp only at hW); go_simp; try (with_reducible rfl))
  try simp only [Act.put, List.setIfInBounds_toArray, List.set_cons_zero, List.set_cons_succ, List.getElem_toArray, List.getElem_cons_succ, List.getElem_cons_zero]
  refine' wpAnyH_take (i := 6) (v := undef) rfl (by kernel_rfl) (by kernel_rfl) (by kernel_rfl) (fun _ _ _ h => h) (Or.inr ⟨by kernel_rfl, rfl⟩) (by assumption) ?_
  try simp only [Act.put, List.setIfInBounds_toArray, List.set_cons_zero, List.set_cons_succ, List.getElem_toArray, List.getElem_cons_succ, List.getElem_cons_zero]
  refine' wpAnyH_take (i := 7) (v := undef) rfl (by kernel_rfl) (by kernel_rfl) (by kernel_rfl) (fun _ _ _ h => h) (Or.inr ⟨by kernel_rfl, rfl⟩) (by assumption) ?_
  try simp only [Act.put, List.setIfInBounds_toArray, List.set_cons_zero, List.set_cons_succ, List.getElem_toArray, List.getElem_cons_succ, List.getElem_cons_zero]
  refine' wpAnyH_take (i := 8) (v := undef) rfl (by kernel_rfl) (by kernel_rfl) (by kernel_rfl) (fun _ _ _ h => h) (Or.inr ⟨by kernel_rfl, rfl⟩) (by assumption) ?_
  try simp only [Act.put, List.setIfInBounds_toArray, List.set_cons_zero, List.set_cons_succ, List.getElem_toArray, List.getElem_cons_succ, List.getElem_cons_zero]
  refine' wpAnyH_take (i := 9) (v := undef) rfl (by kernel_rfl) (by kernel_rfl) (by kernel_rfl) (fun _ _ _ h => h) (Or.inr ⟨by kernel_rfl, rfl⟩) (by assumption) ?_
  try simp only [Act.put, List.setIfInBounds_toArray, List.set_cons_zero, List.set_cons_succ, List.getElem_toArray, List.getElem_cons_succ, List.getElem_cons_zero]
  refine' wpAnyH_take (i := 10) (v := undef) rfl (by kernel_rfl) (by kernel_rfl) (by kernel_rfl) (fun _ _ _ h => h) (Or.inr ⟨by kernel_rfl, rfl⟩) (by assumption) ?_
  try simp only [Act.put, List.setIfInBounds_toArray, List.set_cons_zero, List.set_cons_succ, List.getElem_toArray, List.getElem_cons_succ, List.getElem_cons_zero]
  refine' wpAnyH_take (i := 11) (v := _) rfl (by kernel_rfl) (by kernel_rfl) (by kernel_rfl) (fun _ _ _ h => h) (Or.inl ⟨by kernel_rfl, ?hy⟩) (by assumption) ?_
  case hy => (intro W hW; (try dsimp only at hW); go_simp; try (with_reducible rfl))
  try simp only [Act.put, List.setIfInBounds_toArray, List.set_cons_zero, List.set_cons_succ, List.getElem_toArray, List.getElem_cons_succ, List.getElem_cons_zero]
  refine' wpAnyH_take (i := 12) (v := _) rfl (by kernel_rfl) (by kernel_rfl) (by kernel_rfl) (fun _ _ _ h => h) (Or.inl ⟨by kernel_rfl, ?hy⟩) (by assumption) ?_
  case hy => (intro W hW; (try dsimp only at hW); go_simp; try (with_reducible rfl))
  try simp only [Act.put, List.setIfInBounds_toArray, List.set_cons_zero, List.set_cons_succ, List.getElem_toArray, List.getElem_cons_succ, List.getElem_cons_zero]
  refine wpAnyH_done (by kernel_rfl) ?_ _
  obtain ⟨p1xb, p1x0, p1x1, p1x2, p1x3, p1x4, p1x5, p1x6, p1x7⟩ := hH1
  have p1xz0 := block_lt p1x0
  have p1xz2 := block_lt p1x2
  have p1xz4 := block_lt p1x4
  have p1xz6 := block_lt p1x6
  have p1xs := p1xb.size
  go_wp2
  go_returns
  exact ⟨rfl, by first | (go_grown; done) | assumption⟩
theorem follows_any (a0 a1 b0 b1 c0 c1 r s : Int) (BA BB BC : Nat) (w : World) (hBB0 : w.cell? ⟨BB, 0, none⟩ = some (.int .i64 b0)) (hBB1 : w.cell? ⟨BB, 1, none⟩ = some (.int .i64 b1)) (hBA0 : w.cell? ⟨BA, 0, none⟩ = some (.int .i64 a0)) (hBA1 : w.cell? ⟨BA, 1, none⟩ = some (.int .i64 a1)) (hBC0 : w.cell? ⟨BC, 0, none⟩ = some (.int .i64 c0)) (hBC1 : w.cell? ⟨BC, 1, none⟩ = some (.int .i64 c1)) (a0l : -20000 ≤ a0) (a0u : a0 ≤ 20000) (a1l : -20000 ≤ a1) (a1u : a1 ≤ 20000) (b0l : -20000 ≤ b0) (b0u : b0 ≤ 20000) (b1l : -20000 ≤ b1) (b1u : b1 ≤ 20000) (c0l : -20000 ≤ c0) (c0u : c0 ≤ 20000) (c1l : -20000 ≤ c1) (c1u : c1 ≤ 20000) (r0 : -1 ≤ r) (r1 : r ≤ 1) (s0 : -1 ≤ s) (s1 : s ≤ 1) :
    Calls Tryd.prog 140 #[.agg #[.int .i64 r, .int .i64 s], .pointer (some ⟨BB, 0, none⟩), .pointer (some ⟨BA, 0, none⟩), .pointer (some ⟨BC, 0, none⟩)] w fun e w' => e = .returned (.bool (foB a0 a1 b0 b1 c0 c1 r s)) ∧ Below w.heap.size w w' := by
  cases h1 : fol1 a0 a1 b0 b1 r s
  · exact follows_f a0 a1 b0 b1 c0 c1 r s BA BB BC w hBB0 hBB1 hBA0 hBA1 hBC0 hBC1 a0l a0u a1l a1u b0l b0u b1l b1u c0l c0u c1l c1u r0 r1 s0 s1 h1
  · exact follows_t a0 a1 b0 b1 c0 c1 r s BA BB BC w hBB0 hBB1 hBA0 hBA1 hBC0 hBC1 a0l a0u a1l a1u b0l b0u b1l b1u c0l c0u c1l c1u r0 r1 s0 s1 h1
end Go.Proofs.YtngdhmliohjigaaDoor
