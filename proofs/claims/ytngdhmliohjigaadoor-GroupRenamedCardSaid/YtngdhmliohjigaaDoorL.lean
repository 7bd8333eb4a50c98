/- Clock numbers of valid units. -/
import Derived.Test.YtngdhmliohjigaaDoorK
import Derived.Test.YtngdhmliohjigaaDoorB
import Derived.Test.YtngdhmliohjigaaDoorC
namespace Go.Proofs.YtngdhmliohjigaaDoor
open Go.RowKit

theorem sg_bd (n : Int) (r : Bool) (h1 : 1 ≤ n) (h2 : n ≤ 2000) : -2000 ≤ sg n r ∧ sg n r ≤ 2000 := by unfold sg; split <;> omega
theorem linesA_size (k t s : Int) : (linesA k t s).size = 9 := by
  unfold linesA
  repeat' split
  all_goals rfl
theorem info134 : (Tryd.prog.info? 134).map (·.size) = some 9 := by kernel_rfl
theorem lineInfo (k t s : Int) : (Tryd.prog.info? 134).map (·.size) = some (linesA k t s).size := by rw [linesA_size]; exact info134
theorem hw_bd (k s : Int) (r : Bool) : 0 ≤ hw k s r ∧ hw k s r ≤ 11 := by unfold hw; omega
set_option maxHeartbeats 1000000 in
theorem hoursFrom_any (k n s : Int) (r : Bool) (w : World) (k0 : 0 ≤ k) (k1 : k ≤ 2) (h1 : 1 ≤ n) (h2 : n ≤ 2000) (s0 : 0 ≤ s) (s1 : s ≤ 2) (ht : Tabs w) :
    Calls Tryd.prog 142 #[.agg (linesA k (sg n r) s)] w fun e w' => e = .returned (.int .i64 (hw k s r)) ∧ Below w.heap.size w w' := by
  have b := sg_bd n r h1 h2
  go_enter Tryd.func142, Tryd.ntmps142
  go_wp2_with (first | (refine wpList_load_row rfl 134 _ rfl w.heap.size rfl 134 (linesA k (sg n r) s) (0, 0) _ (heap_alloc_new _ _) Tryd.underlying134 rfl (lineInfo _ _ _) ?_) | (go_at_call 89; refine (phasor_any k (sg n r) s _ k0 k1 b.1 b.2 s0 s1 ?_).mono ?_; (focus (exact ht.below (by go_grown))); rintro e w1 ⟨rfl, hb⟩; have hb0 := belowT (w := w) (by go_grown) hb) | (go_at_call 92; refine (hours_w k n s r _ k0 k1 h1 h2 s0 s1 ?_).mono ?_; (focus (exact ht.below hb0)); rintro e w2 ⟨rfl, hb2⟩; have hb3 := belowT hb0 hb2))
  go_returns
  exact ⟨rfl, hb3⟩
def clockV (hk hs lk ls : Int) (hr lr : Bool) : Int := (hw hk hs hr - hw lk ls lr) % 12
set_option maxHeartbeats 1000000 in
theorem clockFrom_any (hk hn hs lk ln ls st : Int) (hr lr : Bool) (w : World) (hk0 : 0 ≤ hk) (hk1 : hk ≤ 2) (hn0 : 1 ≤ hn) (hn1 : hn ≤ 2000) (hs0 : 0 ≤ hs) (hs1 : hs ≤ 2) (lk0 : 0 ≤ lk) (lk1 : lk ≤ 2) (ln0 : 1 ≤ ln) (ln1 : ln ≤ 2000) (ls0 : 0 ≤ ls) (ls1 : ls ≤ 2) (ht : Tabs w) :
    Calls Tryd.prog 98 #[.agg #[.int .i64 hk, .int .i64 hn, .int .i64 hs, .bool hr, .int .i64 lk, .int .i64 ln, .int .i64 ls, .bool lr, .int .i64 st]] w fun e w' => e = .returned (.int .i64 (clockV hk hs lk ls hr lr)) ∧ Below w.heap.size w w' := by
  have B1 := hw_bd hk hs hr
  have B2 := hw_bd lk ls lr
  have e1 : IntKind.i64.wrap (hw hk hs hr - hw lk ls lr) = hw hk hs hr - hw lk ls lr := IntWalk.i64_in _ (by omega)
  go_enter Tryd.func98, Tryd.ntmps98
  go_wp2_with fail
  go_region_held3 (fun W : World => Below w.heap.size w W ∧ W.cell? ⟨w.heap.size, 0, none⟩ = some (.int .i64 hk) ∧ W.cell? ⟨w.heap.size, 1, none⟩ = some (.int .i64 hn) ∧ W.cell? ⟨w.heap.size, 2, none⟩ = some (.int .i64 hs) ∧ W.cell? ⟨w.heap.size, 3, none⟩ = some (.bool hr) ∧ W.cell? ⟨w.heap.size, 4, none⟩ = some (.int .i64 lk) ∧ W.cell? ⟨w.heap.size, 5, none⟩ = some (.int .i64 ln) ∧ W.cell? ⟨w.heap.size, 6, none⟩ = some (.int .i64 ls) ∧ W.cell? ⟨w.heap.size, 7, none⟩ = some (.bool lr) ∧ W.cell? ⟨w.heap.size, 8, none⟩ = some (.int .i64 st)) ((repeat' apply And.intro) <;> (first | (with_reducible assumption) | (refine belowT ?_ ‹_›; first | (go_grown; done) | exact And.left (by assumption)) | (refine belowT (And.left (by assumption)) ?_; go_grown; done) | (go_simp; done) | exact keep1 ‹_› (by first | (go_simp; done) | (go_keep; done)) | (go_keep; done) | omega | (go_grown; done) | (refine Nat.lt_of_lt_of_le ?_ (Below.size ‹_›); first | omega | (simp; done)) | exact keepF ‹_› (by first | omega | (simp; done)) (by first | (go_simp; done) | (go_keep; done)) | (simp; omega))) (first | (go_at_call 82; with_reducible refine (lines_any hk hn hs hr _ hk0 hk1 hn0 hn1 hs0 hs1 ?_).mono ?_; (focus (refine Tabs.below ht ?_; first | (go_grown; done) | exact And.left (by assumption))); rintro e w1 ⟨rfl, hb⟩) | (go_at_call 82; with_reducible refine (lines_any lk ln ls lr _ lk0 lk1 ln0 ln1 ls0 ls1 ?_).mono ?_; (focus (refine Tabs.below ht ?_; first | (go_grown; done) | exact And.left (by assumption))); rintro e w1 ⟨rfl, hb⟩) | (go_at_call 142; with_reducible refine (hoursFrom_any hk hn hs hr _ hk0 hk1 hn0 hn1 hs0 hs1 ?_).mono ?_; (focus (refine Tabs.below ht ?_; first | (go_grown; done) | exact And.left (by assumption))); rintro e w1 ⟨rfl, hb⟩) | (go_at_call 142; with_reducible refine (hoursFrom_any lk ln ls lr _ lk0 lk1 ln0 ln1 ls0 ls1 ?_).mono ?_; (focus (refine Tabs.below ht ?_; first | (go_grown; done) | exact And.left (by assumption))); rintro e w1 ⟨rfl, hb⟩) | (go_at_call 107; refine (modulo_any _ _ _ (by omega) (by omega)).mono ?_; rintro e w1 ⟨rfl, rfl⟩))
  go_wp2
  go_returns
  exact ⟨by simp [clockV], by first | (go_grown; done) | exact And.left (by assumption)⟩
end Go.Proofs.YtngdhmliohjigaaDoor
