/- Names, and the winding that is found. -/
import Derived.Test.YtngdhmliohjigaaDoorL
import Derived.Laws.CopyOwn
namespace Go.Proofs.YtngdhmliohjigaaDoor
open Go.RowKit

theorem allocC {w : World} {x : Obj} {b o : Nat} {v : Value} (h : w.cell? ⟨b, o, none⟩ = some v) : (w.alloc x).cell? ⟨b, o, none⟩ = some v := by
  rw [World.cell?_alloc_lt _ _ _ (block_lt h)]; exact h
theorem drewC {w : World} {a : Addr} {v : Value} (h : w.cell? a = some v) : w.drew.cell? a = some v := h
set_option maxHeartbeats 4000000 in
theorem checkUnit_any (hk hn hs lk ln ls st : Int) (hr lr : Bool) (w : World) :
    Calls Tryd.prog 47 #[.agg #[.int .i64 hk, .int .i64 hn, .int .i64 hs, .bool hr, .int .i64 lk, .int .i64 ln, .int .i64 ls, .bool lr, .int .i64 st]] w fun e w' => e = .returned (.int .i64 (fst3 (fst3 (kindErr hk) (outErr 1 2000 hn) (outErr 0 2 hs)) (fst3 (kindErr lk) (outErr 1 2000 ln) (outErr 0 2 ls)) (outErr 0 100 st))) ∧ Below w.heap.size w w' := by
  go_enter Tryd.func47, Tryd.ntmps47
  go_wp2_with fail
  go_region_held3 (fun W : World => Below w.heap.size w W ∧ w.heap.size < W.heap.size ∧ W.cell? ⟨w.heap.size, 0, none⟩ = some (.int .i64 hk) ∧ W.cell? ⟨w.heap.size, 1, none⟩ = some (.int .i64 hn) ∧ W.cell? ⟨w.heap.size, 2, none⟩ = some (.int .i64 hs) ∧ W.cell? ⟨w.heap.size, 3, none⟩ = some (.bool hr) ∧ W.cell? ⟨w.heap.size, 4, none⟩ = some (.int .i64 lk) ∧ W.cell? ⟨w.heap.size, 5, none⟩ = some (.int .i64 ln) ∧ W.cell? ⟨w.heap.size, 6, none⟩ = some (.int .i64 ls) ∧ W.cell? ⟨w.heap.size, 7, none⟩ = some (.bool lr) ∧ W.cell? ⟨w.heap.size, 8, none⟩ = some (.int .i64 st)) ((repeat' apply And.intro) <;> (first | (with_reducible assumption) | (refine belowT ?_ ‹_›; first | (go_grown; done) | exact And.left (by assumption)) | (refine belowT (And.left (by assumption)) ?_; go_grown; done) | (go_simp; done) | exact keep1 ‹_› (by first | (go_simp; done) | (go_keep; done)) | (go_keep; done) | omega | (go_grown; done) | (refine Nat.lt_of_lt_of_le ?_ (Below.size ‹_›); first | omega | (simp; done)) | exact keepF ‹_› (by first | omega | (simp; done)) (by first | (go_simp; done) | (go_keep; done)) | (simp; omega) | (simp only [World.size_alloc, World.size_drew] at *; omega))) (first | (go_at_call 20; refine (checkWinding_any _ _ _ _ _).mono ?_; rintro e w1 ⟨rfl, hb⟩) | (go_at_call 86; refine (within_any _ _ _).mono ?_; rintro e w1 ⟨rfl, rfl⟩) | (go_at_call 139; refine (within1_any _ _ _ _ _ st 0 100 _ ?_ ?_ ?_).mono ?_; (focus ((repeat' (first | (go_simp; done) | (with_reducible assumption) | refine keep1 ‹_› ?_ | refine allocC ?_ | refine drewC ?_)); done)); (focus ((repeat' (first | (go_simp; done) | (with_reducible assumption) | refine keep1 ‹_› ?_ | refine allocC ?_ | refine drewC ?_)); done)); (focus ((repeat' (first | (go_simp; done) | (with_reducible assumption) | refine keep1 ‹_› ?_ | refine allocC ?_ | refine drewC ?_)); done)); rintro e w1 ⟨rfl, rfl⟩) | (go_at_call 84; refine (firstOf3 _ _ _ (fst3 (kindErr hk) (outErr 1 2000 hn) (outErr 0 2 hs)) (fst3 (kindErr lk) (outErr 1 2000 ln) (outErr 0 2 ls)) (outErr 0 100 st) _ ?_ ?_ ?_).mono ?_; (focus ((repeat' (first | (go_simp; done) | (with_reducible assumption) | refine keep1 ‹_› ?_ | refine allocC ?_ | refine drewC ?_)); done)); (focus ((repeat' (first | (go_simp; done) | (with_reducible assumption) | refine keep1 ‹_› ?_ | refine allocC ?_ | refine drewC ?_)); done)); (focus ((repeat' (first | (go_simp; done) | (with_reducible assumption) | refine keep1 ‹_› ?_ | refine allocC ?_ | refine drewC ?_)); done)); rintro e w1 ⟨rfl, rfl⟩))
  all_goals (go_wp2; go_returns; exact ⟨rfl, by first | (go_grown; done) | exact And.left (by assumption)⟩)
set_option maxHeartbeats 1000000 in
theorem letterOf0 (w : World) : Calls Tryd.prog 99 #[.int .i64 0] w fun e w' => e = .returned (.string ⟨#[121]⟩) ∧ w = w' := by
  go_enter Tryd.func99, Tryd.ntmps99
  go_wp2_with (go_at_call 85; refine (checkKind_any _ _).mono ?_; rintro e w1 ⟨rfl, rfl⟩)
  go_returns
  exact ⟨rfl, rfl⟩
set_option maxRecDepth 100000 in
set_option maxHeartbeats 1000000 in
theorem itoa11 (w : World) : Calls Tryd.prog 100 #[.int .i64 11] w fun e w' => e = .returned (.string ⟨#[49, 49]⟩) ∧ Below w.heap.size w w' := by
  go_enter Tryd.func100, Tryd.ntmps100
  go_wp2
  go_returns
  exact ⟨rfl, by go_grown⟩
end Go.Proofs.YtngdhmliohjigaaDoor
