import Derived.Test.YtfdehaafbkhclaaTD
set_option linter.unusedVariables false
set_option linter.unusedSimpArgs false
set_option linter.unusedSectionVars false
set_option linter.unnecessarySimpa false
namespace Go.Proofs.Ytfdehaafbkhclaa
open Go.Ev Go.RowKit
set_option maxRecDepth 100000
set_option maxHeartbeats 8000000
set_option linter.all false
noncomputable section
def opposite_x3_0 : LExit := ⟨some 0, [.cgrow 3 0 1], (4 :: (List.range' 6 18))⟩
def opposite_x3_1 : LExit := ⟨some 0, [.cnil 3 0], (4 :: (List.range' 6 18))⟩
def opposite_x7_0 : LExit := ⟨some 2, [.cgrow 3 1 1], (5 :: (List.range' 24 18))⟩
def opposite_x7_1 : LExit := ⟨some 2, [.cnil 3 1], (5 :: (List.range' 24 18))⟩
def opposite_sp : List LSpec := [⟨25, 3, [opposite_x3_0, opposite_x3_1]⟩, ⟨25, 7, [opposite_x7_0, opposite_x7_1]⟩]
def opposite_L7_2_E (ka : Nat) (ca : List D) (kb : Nat) (cb : List D)  : List AV × AHeap := ([.agg [.dsl 0, .dsl 1], .ptr 2 0, .ptr 3 0, .ptr 4 0, .any 5, .pure (.int .i64 (0 : Int)), .any 6, .any 7, .any 8, .any 9, .any 10, .any 11, .any 12, .any 13, .any 14, .any 15, .any 16, .any 17, .any 18, .any 19, .any 20, .any 21, .any 22, .any 23, .pure (.tuple #[]), .pure (.tuple #[]), .pure (.tuple #[]), .pure (.tuple #[]), .pure (.tuple #[]), .pure (.tuple #[]), .pure (.tuple #[]), .pure (.tuple #[]), .pure (.tuple #[]), .pure (.tuple #[]), .pure (.tuple #[]), .pure (.tuple #[]), .pure (.tuple #[]), .pure (.tuple #[]), .pure (.tuple #[]), .pure (.tuple #[]), .pure (.tuple #[]), .pure (.tuple #[]), .pure (.tuple #[])], [(4, { cells := [.pure (.slice none 0 0), .pure (.slice none 0 0)], opn := none, kind := .cells }), (3, { cells := [.pure (.slice none 0 0), .pure (.slice none 0 0)], opn := none, kind := .cells }), (2, { cells := [.dsl 0, .dsl 1], opn := none, kind := .cells }), (1, { cells := [], opn := none, kind := .deep kb cb }), (0, { cells := [], opn := none, kind := .deep ka ca })])
def opposite_L7_2_A : LoopAt := ⟨25, loopAt Try.prog 25 1, 25, 45, 4, noFrame⟩
theorem opposite_L7_2_ok : (opposite_L7_2_A).OK := ⟨by show 25 ≤ 45; decide, by show 4 ≤ 25; decide, by kernel_rfl, rfl⟩
def opposite_L7_2_gs (ka : Nat) (ca : List D) (kb : Nat) (cb : List D)  : Go.Ev.Rd → Option GS
  | .next 0 ds => ghost [.val 5, .cgrow 3 1 1] (List.range' 24 18) (opposite_L7_2_E ka ca kb cb).1 (opposite_L7_2_E ka ca kb cb).2 25 ds
  | .next 1 ds => ghost [.val 5, .cnil 3 1] (List.range' 24 18) (opposite_L7_2_E ka ca kb cb).1 (opposite_L7_2_E ka ca kb cb).2 25 ds
  | .out 0 ds => ghost opposite_x7_0.live opposite_x7_0.junk (opposite_L7_2_E ka ca kb cb).1 (opposite_L7_2_E ka ca kb cb).2 25 ds
  | .out 1 ds => ghost opposite_x7_1.live opposite_x7_1.junk (opposite_L7_2_E ka ca kb cb).1 (opposite_L7_2_E ka ca kb cb).2 25 ds
  | _ => none
def opposite_L7_2_ex : Nat → Option Nat
  | 0 => opposite_x7_0.ex
  | 1 => opposite_x7_1.ex
  | _ => none
def opposite_L7_2_ax : Go.Ev.Rd → AX
  | .next _ _ => .normal
  | .out j _ => axOf (opposite_L7_2_ex j)
def opposite_L7_2_S0 (ka : Nat) (ca : List D) (kb : Nat) (cb : List D)  (ds : List D) : Option Go.Ev.Rd := pullD (α := Int × Nat × (List D)) (some (.tup ds)) (fun d => ((D.vi (D.at d 0)), (D.ln (D.at d 1)), (D.lc (D.at d 1)))) (fun (s5, s3_1n, s3_1c) => .tup [iD s5, .list s3_1n s3_1c]) fun (s5, s3_1n, s3_1c) => ((if s5 < (kb : Int) then guardP ((0 : Int) ≤ s5 ∧ s5.toNat < kb) (pullD (α := Int) (readD cb (s5.toNat * 1) 1 false) (fun d => ((D.vi d))) (fun v0 => iD v0) fun v0 => (guardP ((∀ (u : D), u ∈ [dCell (.int .i64 (IntKind.i64.wrap ((0 : Int) - v0)))] → cellD u) ∧ s3_1n * 1 ≤ s3_1c.length ∧ (s3_1n + (0 + 1)) * 8 ≤ 140737488355328 ∧ s3_1n + (0 + 1) ≤ 4611686018427387904) (some (.next 0 [iD (IntKind.i64.wrap (s5 + (1 : Int))), .list (s3_1n + (0 + 1)) (List.append (List.take (s3_1n * 1) s3_1c) [dCell (.int .i64 (IntKind.i64.wrap ((0 : Int) - v0)))])])))) else some (.out 0 [.list s3_1n s3_1c])))
def opposite_L7_2_S1 (ka : Nat) (ca : List D) (kb : Nat) (cb : List D)  (ds : List D) : Option Go.Ev.Rd := pullD (α := Int) (some (.tup ds)) (fun d => ((D.vi (D.at d 0)))) (fun s5 => .tup [iD s5, .one (.tuple #[])]) fun s5 => ((if s5 < (kb : Int) then guardP ((0 : Int) ≤ s5 ∧ s5.toNat < kb) (pullD (α := Int) (readD cb (s5.toNat * 1) 1 false) (fun d => ((D.vi d))) (fun v0 => iD v0) fun v0 => (some (.next 0 [iD (IntKind.i64.wrap (s5 + (1 : Int))), .list 1 [iD (IntKind.i64.wrap ((0 : Int) - v0))]]))) else some (.out 1 [.one (.tuple #[])])))
def opposite_L7_2_S (ka : Nat) (ca : List D) (kb : Nat) (cb : List D)  : Go.Ev.Rd → Option Go.Ev.Rd
  | .next 0 ds => opposite_L7_2_S0 ka ca kb cb ds
  | .next 1 ds => opposite_L7_2_S1 ka ca kb cb ds
  | _ => none
theorem opposite_L7_2_S_ok (ka : Nat) (ca : List D) (kb : Nat) (cb : List D)  : ∀ s_ t_, opposite_L7_2_S ka ca kb cb s_ = some t_ → Step (ctx [25] opposite_sp) Tabs opposite_L7_2_A (stateOf (opposite_L7_2_gs ka ca kb cb s_)) (stateOf (opposite_L7_2_gs ka ca kb cb t_)) (opposite_L7_2_ax t_) ∧ EndOK opposite_L7_2_A.nx opposite_L7_2_A.low (opposite_L7_2_gs ka ca kb cb) t_
  | .next 0 ds, t_, h => by
    have h_ : opposite_L7_2_S0 ka ca kb cb ds = some t_ := h
    clear h
    unfold opposite_L7_2_S0 at h_
    obtain ⟨⟨s5, s3_1n, s3_1c⟩, e0, h0⟩ := pullD_elim h_
    clear h_
    obtain rfl := tup_inj e0
    by_cases b1_ : s5 < (kb : Int)
    · have h2_ := (if_pos b1_).symm.trans h0
      obtain ⟨f3_, h4_⟩ := guardP_elim h2_
      obtain ⟨v0, f5_, h6_⟩ := pullD_elim h4_
      replace f5_ := readD_elim f5_
      obtain ⟨f7_, h8_⟩ := guardP_elim h6_
      obtain rfl := Option.some.inj h8_
      exact ⟨step_pc 3000 (bT 1 []) [iD v0] [c_d b1_, c_f f3_, c_f f5_, c_f f7_] [] _ rfl (by kernel_rfl) (by kernel_rfl) (by kernel_rfl) (by kernel_rfl) (by kernel_rfl) (by kernel_rfl), trivial⟩
    have h2_ := (if_neg b1_).symm.trans h0
    obtain rfl := Option.some.inj h2_
    exact ⟨step_pc 3000 (bF 1 []) [] [c_n b1_] [] _ rfl (by kernel_rfl) (by kernel_rfl) (by kernel_rfl) (by kernel_rfl) (by kernel_rfl) (by kernel_rfl), by kernel_rfl, by kernel_rfl⟩
  | .next 1 ds, t_, h => by
    have h_ : opposite_L7_2_S1 ka ca kb cb ds = some t_ := h
    clear h
    unfold opposite_L7_2_S1 at h_
    obtain ⟨s5, e0, h0⟩ := pullD_elim h_
    clear h_
    obtain rfl := tup_inj e0
    by_cases b1_ : s5 < (kb : Int)
    · have h2_ := (if_pos b1_).symm.trans h0
      obtain ⟨f3_, h4_⟩ := guardP_elim h2_
      obtain ⟨v0, f5_, h6_⟩ := pullD_elim h4_
      replace f5_ := readD_elim f5_
      obtain rfl := Option.some.inj h6_
      exact ⟨step_pc 3000 (bT 1 []) [iD v0] [c_d b1_, c_f f3_, c_f f5_, ⟨fact (0 < 0 + 1 ∧ (0 + 1) * 8 ≤ 140737488355328 ∧ 0 + 1 ≤ 4611686018427387904), true, fact_mk (by decide)⟩] [] _ rfl (by kernel_rfl) (by kernel_rfl) (by kernel_rfl) (by kernel_rfl) (by kernel_rfl) (by kernel_rfl), trivial⟩
    have h2_ := (if_neg b1_).symm.trans h0
    obtain rfl := Option.some.inj h2_
    exact ⟨step_pc 3000 (bF 1 []) [] [c_n b1_] [] _ rfl (by kernel_rfl) (by kernel_rfl) (by kernel_rfl) (by kernel_rfl) (by kernel_rfl) (by kernel_rfl), by kernel_rfl, by kernel_rfl⟩
  | .next (_ + 2) _, _, h => by cases h
  | .out _ _, _, h => by cases h
theorem opposite_L7_2_go (ka : Nat) (ca : List D) (kb : Nat) (cb : List D)  {q : Nat} {ds : List D} {j : Nat} {es : List D} (h : runR (opposite_L7_2_S ka ca kb cb) (.next q ds) = some (.out j es)) : Runs (ctx [25] opposite_sp) Tabs opposite_L7_2_A (stateOf (opposite_L7_2_gs ka ca kb cb (.next q ds))) (stateOf (opposite_L7_2_gs ka ca kb cb (.out j es))) (opposite_L7_2_ax (.out j es)) ∧ (nxtOf (opposite_L7_2_gs ka ca kb cb (.out j es)), lowGS (opposite_L7_2_gs ka ca kb cb (.out j es))) = (opposite_L7_2_A.nx, opposite_L7_2_A.low) :=
  runs_of' (good true _ _) opposite_L7_2_ok (ax := opposite_L7_2_ax) (fun _ _ => rfl) (fun _ _ => axOf_end _) (opposite_L7_2_S_ok ka ca kb cb) h
theorem opposite_L7_2_in0 (ka : Nat) (ca : List D) (kb : Nat) (cb : List D)  {es : List D} (h : runR (opposite_L7_2_S ka ca kb cb) (.next 1 [iD ((0 : Int)), .one (.tuple #[])]) = some (.out 0 es)) : LoopC (loopAt Try.prog 25 1) (opposite_L7_2_E ka ca kb cb) 25 noFrame opposite_x7_0 es :=
  have r := opposite_L7_2_go ka ca kb cb h
  loopin_as rfl (loop_in (l := opposite_L7_2_A) (E := (opposite_L7_2_E ka ca kb cb)) (S := stateOf (opposite_L7_2_gs ka ca kb cb (.next 1 [iD ((0 : Int)), .one (.tuple #[])]))) (ns := nsOf (opposite_L7_2_gs ka ca kb cb (.next 1 [iD ((0 : Int)), .one (.tuple #[])]))) opposite_L7_2_ok r.1 r.2 (by kernel_rfl) (by kernel_rfl) (by kernel_rfl) (by kernel_rfl))
theorem opposite_L7_2_in1 (ka : Nat) (ca : List D) (kb : Nat) (cb : List D)  {es : List D} (h : runR (opposite_L7_2_S ka ca kb cb) (.next 1 [iD ((0 : Int)), .one (.tuple #[])]) = some (.out 1 es)) : LoopC (loopAt Try.prog 25 1) (opposite_L7_2_E ka ca kb cb) 25 noFrame opposite_x7_1 es :=
  have r := opposite_L7_2_go ka ca kb cb h
  loopin_as rfl (loop_in (l := opposite_L7_2_A) (E := (opposite_L7_2_E ka ca kb cb)) (S := stateOf (opposite_L7_2_gs ka ca kb cb (.next 1 [iD ((0 : Int)), .one (.tuple #[])]))) (ns := nsOf (opposite_L7_2_gs ka ca kb cb (.next 1 [iD ((0 : Int)), .one (.tuple #[])]))) opposite_L7_2_ok r.1 r.2 (by kernel_rfl) (by kernel_rfl) (by kernel_rfl) (by kernel_rfl))
def opposite_L7_E (ka : Nat) (ca : List D) (kb : Nat) (cb : List D) (x0 : Nat) (x1 : List D) : List AV × AHeap := ([.agg [.dsl 0, .dsl 1], .ptr 2 0, .ptr 3 0, .ptr 4 0, .any 6, .pure (.int .i64 (0 : Int)), .any 7, .any 8, .any 9, .any 10, .any 11, .any 12, .any 13, .any 14, .any 15, .any 16, .any 17, .any 18, .any 19, .any 20, .any 21, .any 22, .any 23, .any 24, .pure (.tuple #[]), .pure (.tuple #[]), .pure (.tuple #[]), .pure (.tuple #[]), .pure (.tuple #[]), .pure (.tuple #[]), .pure (.tuple #[]), .pure (.tuple #[]), .pure (.tuple #[]), .pure (.tuple #[]), .pure (.tuple #[]), .pure (.tuple #[]), .pure (.tuple #[]), .pure (.tuple #[]), .pure (.tuple #[]), .pure (.tuple #[]), .pure (.tuple #[]), .pure (.tuple #[]), .pure (.tuple #[])], [(5, { cells := [], opn := some 1, kind := .big x1 }), (4, { cells := [.bslx 5 0 x0 0, .pure (.slice none 0 0)], opn := none, kind := .cells }), (3, { cells := [.pure (.slice none 0 0), .pure (.slice none 0 0)], opn := none, kind := .cells }), (2, { cells := [.dsl 0, .dsl 1], opn := none, kind := .cells }), (1, { cells := [], opn := none, kind := .deep kb cb }), (0, { cells := [], opn := none, kind := .deep ka ca })])
def opposite_L7_A : LoopAt := ⟨25, loopAt Try.prog 25 1, 25, 45, 4, noFrame⟩
theorem opposite_L7_ok : (opposite_L7_A).OK := ⟨by show 25 ≤ 45; decide, by show 4 ≤ 25; decide, by kernel_rfl, rfl⟩
def opposite_L7_gs (ka : Nat) (ca : List D) (kb : Nat) (cb : List D) (x0 : Nat) (x1 : List D) : Go.Ev.Rd → Option GS
  | .next 0 ds => ghost [.val 5, .cgrow 3 1 1] (List.range' 24 18) (opposite_L7_E ka ca kb cb x0 x1).1 (opposite_L7_E ka ca kb cb x0 x1).2 25 ds
  | .next 1 ds => ghost [.val 5, .cnil 3 1] (List.range' 24 18) (opposite_L7_E ka ca kb cb x0 x1).1 (opposite_L7_E ka ca kb cb x0 x1).2 25 ds
  | .out 0 ds => ghost opposite_x7_0.live opposite_x7_0.junk (opposite_L7_E ka ca kb cb x0 x1).1 (opposite_L7_E ka ca kb cb x0 x1).2 25 ds
  | .out 1 ds => ghost opposite_x7_1.live opposite_x7_1.junk (opposite_L7_E ka ca kb cb x0 x1).1 (opposite_L7_E ka ca kb cb x0 x1).2 25 ds
  | _ => none
def opposite_L7_ex : Nat → Option Nat
  | 0 => opposite_x7_0.ex
  | 1 => opposite_x7_1.ex
  | _ => none
def opposite_L7_ax : Go.Ev.Rd → AX
  | .next _ _ => .normal
  | .out j _ => axOf (opposite_L7_ex j)
def opposite_L7_S0 (ka : Nat) (ca : List D) (kb : Nat) (cb : List D) (x0 : Nat) (x1 : List D) (ds : List D) : Option Go.Ev.Rd := pullD (α := Int × Nat × (List D)) (some (.tup ds)) (fun d => ((D.vi (D.at d 0)), (D.ln (D.at d 1)), (D.lc (D.at d 1)))) (fun (s5, s3_1n, s3_1c) => .tup [iD s5, .list s3_1n s3_1c]) fun (s5, s3_1n, s3_1c) => ((if s5 < (kb : Int) then guardP ((0 : Int) ≤ s5 ∧ s5.toNat < kb) (pullD (α := Int) (readD cb (s5.toNat * 1) 1 false) (fun d => ((D.vi d))) (fun v0 => iD v0) fun v0 => (guardP ((∀ (u : D), u ∈ [dCell (.int .i64 (IntKind.i64.wrap ((0 : Int) - v0)))] → cellD u) ∧ s3_1n * 1 ≤ s3_1c.length ∧ (s3_1n + (0 + 1)) * 8 ≤ 140737488355328 ∧ s3_1n + (0 + 1) ≤ 4611686018427387904) (some (.next 0 [iD (IntKind.i64.wrap (s5 + (1 : Int))), .list (s3_1n + (0 + 1)) (List.append (List.take (s3_1n * 1) s3_1c) [dCell (.int .i64 (IntKind.i64.wrap ((0 : Int) - v0)))])])))) else some (.out 0 [.list s3_1n s3_1c])))
def opposite_L7_S1 (ka : Nat) (ca : List D) (kb : Nat) (cb : List D) (x0 : Nat) (x1 : List D) (ds : List D) : Option Go.Ev.Rd := pullD (α := Int) (some (.tup ds)) (fun d => ((D.vi (D.at d 0)))) (fun s5 => .tup [iD s5, .one (.tuple #[])]) fun s5 => ((if s5 < (kb : Int) then guardP ((0 : Int) ≤ s5 ∧ s5.toNat < kb) (pullD (α := Int) (readD cb (s5.toNat * 1) 1 false) (fun d => ((D.vi d))) (fun v0 => iD v0) fun v0 => (some (.next 0 [iD (IntKind.i64.wrap (s5 + (1 : Int))), .list 1 [iD (IntKind.i64.wrap ((0 : Int) - v0))]]))) else some (.out 1 [.one (.tuple #[])])))
def opposite_L7_S (ka : Nat) (ca : List D) (kb : Nat) (cb : List D) (x0 : Nat) (x1 : List D) : Go.Ev.Rd → Option Go.Ev.Rd
  | .next 0 ds => opposite_L7_S0 ka ca kb cb x0 x1 ds
  | .next 1 ds => opposite_L7_S1 ka ca kb cb x0 x1 ds
  | _ => none
theorem opposite_L7_S_ok (ka : Nat) (ca : List D) (kb : Nat) (cb : List D) (x0 : Nat) (x1 : List D) : ∀ s_ t_, opposite_L7_S ka ca kb cb x0 x1 s_ = some t_ → Step (ctx [25] opposite_sp) Tabs opposite_L7_A (stateOf (opposite_L7_gs ka ca kb cb x0 x1 s_)) (stateOf (opposite_L7_gs ka ca kb cb x0 x1 t_)) (opposite_L7_ax t_) ∧ EndOK opposite_L7_A.nx opposite_L7_A.low (opposite_L7_gs ka ca kb cb x0 x1) t_
  | .next 0 ds, t_, h => by
    have h_ : opposite_L7_S0 ka ca kb cb x0 x1 ds = some t_ := h
    clear h
    unfold opposite_L7_S0 at h_
    obtain ⟨⟨s5, s3_1n, s3_1c⟩, e0, h0⟩ := pullD_elim h_
    clear h_
    obtain rfl := tup_inj e0
    by_cases b1_ : s5 < (kb : Int)
    · have h2_ := (if_pos b1_).symm.trans h0
      obtain ⟨f3_, h4_⟩ := guardP_elim h2_
      obtain ⟨v0, f5_, h6_⟩ := pullD_elim h4_
      replace f5_ := readD_elim f5_
      obtain ⟨f7_, h8_⟩ := guardP_elim h6_
      obtain rfl := Option.some.inj h8_
      exact ⟨step_pc 3000 (bT 1 []) [iD v0] [c_d b1_, c_f f3_, c_f f5_, c_f f7_] [] _ rfl (by kernel_rfl) (by kernel_rfl) (by kernel_rfl) (by kernel_rfl) (by kernel_rfl) (by kernel_rfl), trivial⟩
    have h2_ := (if_neg b1_).symm.trans h0
    obtain rfl := Option.some.inj h2_
    exact ⟨step_pc 3000 (bF 1 []) [] [c_n b1_] [] _ rfl (by kernel_rfl) (by kernel_rfl) (by kernel_rfl) (by kernel_rfl) (by kernel_rfl) (by kernel_rfl), by kernel_rfl, by kernel_rfl⟩
  | .next 1 ds, t_, h => by
    have h_ : opposite_L7_S1 ka ca kb cb x0 x1 ds = some t_ := h
    clear h
    unfold opposite_L7_S1 at h_
    obtain ⟨s5, e0, h0⟩ := pullD_elim h_
    clear h_
    obtain rfl := tup_inj e0
    by_cases b1_ : s5 < (kb : Int)
    · have h2_ := (if_pos b1_).symm.trans h0
      obtain ⟨f3_, h4_⟩ := guardP_elim h2_
      obtain ⟨v0, f5_, h6_⟩ := pullD_elim h4_
      replace f5_ := readD_elim f5_
      obtain rfl := Option.some.inj h6_
      exact ⟨step_pc 3000 (bT 1 []) [iD v0] [c_d b1_, c_f f3_, c_f f5_, ⟨fact (0 < 0 + 1 ∧ (0 + 1) * 8 ≤ 140737488355328 ∧ 0 + 1 ≤ 4611686018427387904), true, fact_mk (by decide)⟩] [] _ rfl (by kernel_rfl) (by kernel_rfl) (by kernel_rfl) (by kernel_rfl) (by kernel_rfl) (by kernel_rfl), trivial⟩
    have h2_ := (if_neg b1_).symm.trans h0
    obtain rfl := Option.some.inj h2_
    exact ⟨step_pc 3000 (bF 1 []) [] [c_n b1_] [] _ rfl (by kernel_rfl) (by kernel_rfl) (by kernel_rfl) (by kernel_rfl) (by kernel_rfl) (by kernel_rfl), by kernel_rfl, by kernel_rfl⟩
  | .next (_ + 2) _, _, h => by cases h
  | .out _ _, _, h => by cases h
theorem opposite_L7_go (ka : Nat) (ca : List D) (kb : Nat) (cb : List D) (x0 : Nat) (x1 : List D) {q : Nat} {ds : List D} {j : Nat} {es : List D} (h : runR (opposite_L7_S ka ca kb cb x0 x1) (.next q ds) = some (.out j es)) : Runs (ctx [25] opposite_sp) Tabs opposite_L7_A (stateOf (opposite_L7_gs ka ca kb cb x0 x1 (.next q ds))) (stateOf (opposite_L7_gs ka ca kb cb x0 x1 (.out j es))) (opposite_L7_ax (.out j es)) ∧ (nxtOf (opposite_L7_gs ka ca kb cb x0 x1 (.out j es)), lowGS (opposite_L7_gs ka ca kb cb x0 x1 (.out j es))) = (opposite_L7_A.nx, opposite_L7_A.low) :=
  runs_of' (good true _ _) opposite_L7_ok (ax := opposite_L7_ax) (fun _ _ => rfl) (fun _ _ => axOf_end _) (opposite_L7_S_ok ka ca kb cb x0 x1) h
theorem opposite_L7_in0 (ka : Nat) (ca : List D) (kb : Nat) (cb : List D) (x0 : Nat) (x1 : List D) {es : List D} (h : runR (opposite_L7_S ka ca kb cb x0 x1) (.next 1 [iD ((0 : Int)), .one (.tuple #[])]) = some (.out 0 es)) : LoopC (loopAt Try.prog 25 1) (opposite_L7_E ka ca kb cb x0 x1) 25 noFrame opposite_x7_0 es :=
  have r := opposite_L7_go ka ca kb cb x0 x1 h
  loopin_as rfl (loop_in (l := opposite_L7_A) (E := (opposite_L7_E ka ca kb cb x0 x1)) (S := stateOf (opposite_L7_gs ka ca kb cb x0 x1 (.next 1 [iD ((0 : Int)), .one (.tuple #[])]))) (ns := nsOf (opposite_L7_gs ka ca kb cb x0 x1 (.next 1 [iD ((0 : Int)), .one (.tuple #[])]))) opposite_L7_ok r.1 r.2 (by kernel_rfl) (by kernel_rfl) (by kernel_rfl) (by kernel_rfl))
theorem opposite_L7_in1 (ka : Nat) (ca : List D) (kb : Nat) (cb : List D) (x0 : Nat) (x1 : List D) {es : List D} (h : runR (opposite_L7_S ka ca kb cb x0 x1) (.next 1 [iD ((0 : Int)), .one (.tuple #[])]) = some (.out 1 es)) : LoopC (loopAt Try.prog 25 1) (opposite_L7_E ka ca kb cb x0 x1) 25 noFrame opposite_x7_1 es :=
  have r := opposite_L7_go ka ca kb cb x0 x1 h
  loopin_as rfl (loop_in (l := opposite_L7_A) (E := (opposite_L7_E ka ca kb cb x0 x1)) (S := stateOf (opposite_L7_gs ka ca kb cb x0 x1 (.next 1 [iD ((0 : Int)), .one (.tuple #[])]))) (ns := nsOf (opposite_L7_gs ka ca kb cb x0 x1 (.next 1 [iD ((0 : Int)), .one (.tuple #[])]))) opposite_L7_ok r.1 r.2 (by kernel_rfl) (by kernel_rfl) (by kernel_rfl) (by kernel_rfl))
def opposite_L3_E (ka : Nat) (ca : List D) (kb : Nat) (cb : List D)  : List AV × AHeap := ([.agg [.dsl 0, .dsl 1], .ptr 2 0, .ptr 3 0, .ptr 4 0, .pure (.int .i64 (0 : Int)), .pure (.tuple #[]), .pure (.tuple #[]), .pure (.tuple #[]), .pure (.tuple #[]), .pure (.tuple #[]), .pure (.tuple #[]), .pure (.tuple #[]), .pure (.tuple #[]), .pure (.tuple #[]), .pure (.tuple #[]), .pure (.tuple #[]), .pure (.tuple #[]), .pure (.tuple #[]), .pure (.tuple #[]), .pure (.tuple #[]), .pure (.tuple #[]), .pure (.tuple #[]), .pure (.tuple #[]), .pure (.tuple #[]), .pure (.tuple #[]), .pure (.tuple #[]), .pure (.tuple #[]), .pure (.tuple #[]), .pure (.tuple #[]), .pure (.tuple #[]), .pure (.tuple #[]), .pure (.tuple #[]), .pure (.tuple #[]), .pure (.tuple #[]), .pure (.tuple #[]), .pure (.tuple #[]), .pure (.tuple #[]), .pure (.tuple #[]), .pure (.tuple #[]), .pure (.tuple #[]), .pure (.tuple #[]), .pure (.tuple #[]), .pure (.tuple #[])], [(4, { cells := [.pure (.slice none 0 0), .pure (.slice none 0 0)], opn := none, kind := .cells }), (3, { cells := [.pure (.slice none 0 0), .pure (.slice none 0 0)], opn := none, kind := .cells }), (2, { cells := [.dsl 0, .dsl 1], opn := none, kind := .cells }), (1, { cells := [], opn := none, kind := .deep kb cb }), (0, { cells := [], opn := none, kind := .deep ka ca })])
def opposite_L3_A : LoopAt := ⟨25, loopAt Try.prog 25 0, 5, 25, 4, noFrame⟩
theorem opposite_L3_ok : (opposite_L3_A).OK := ⟨by show 5 ≤ 25; decide, by show 4 ≤ 5; decide, by kernel_rfl, rfl⟩
def opposite_L3_gs (ka : Nat) (ca : List D) (kb : Nat) (cb : List D)  : Go.Ev.Rd → Option GS
  | .next 0 ds => ghost [.val 4, .cgrow 3 0 1] (List.range' 6 18) (opposite_L3_E ka ca kb cb).1 (opposite_L3_E ka ca kb cb).2 5 ds
  | .next 1 ds => ghost [.val 4, .cnil 3 0] (List.range' 6 18) (opposite_L3_E ka ca kb cb).1 (opposite_L3_E ka ca kb cb).2 5 ds
  | .out 0 ds => ghost opposite_x3_0.live opposite_x3_0.junk (opposite_L3_E ka ca kb cb).1 (opposite_L3_E ka ca kb cb).2 5 ds
  | .out 1 ds => ghost opposite_x3_1.live opposite_x3_1.junk (opposite_L3_E ka ca kb cb).1 (opposite_L3_E ka ca kb cb).2 5 ds
  | _ => none
def opposite_L3_ex : Nat → Option Nat
  | 0 => opposite_x3_0.ex
  | 1 => opposite_x3_1.ex
  | _ => none
def opposite_L3_ax : Go.Ev.Rd → AX
  | .next _ _ => .normal
  | .out j _ => axOf (opposite_L3_ex j)
def opposite_L3_S0 (ka : Nat) (ca : List D) (kb : Nat) (cb : List D)  (ds : List D) : Option Go.Ev.Rd := pullD (α := Int × Nat × (List D)) (some (.tup ds)) (fun d => ((D.vi (D.at d 0)), (D.ln (D.at d 1)), (D.lc (D.at d 1)))) (fun (s4, s3_0n, s3_0c) => .tup [iD s4, .list s3_0n s3_0c]) fun (s4, s3_0n, s3_0c) => ((if s4 < (ka : Int) then guardP ((0 : Int) ≤ s4 ∧ s4.toNat < ka) (pullD (α := Int) (readD ca (s4.toNat * 1) 1 false) (fun d => ((D.vi d))) (fun v0 => iD v0) fun v0 => (guardP ((∀ (u : D), u ∈ [dCell (.int .i64 (IntKind.i64.wrap ((0 : Int) - v0)))] → cellD u) ∧ s3_0n * 1 ≤ s3_0c.length ∧ (s3_0n + (0 + 1)) * 8 ≤ 140737488355328 ∧ s3_0n + (0 + 1) ≤ 4611686018427387904) (some (.next 0 [iD (IntKind.i64.wrap (s4 + (1 : Int))), .list (s3_0n + (0 + 1)) (List.append (List.take (s3_0n * 1) s3_0c) [dCell (.int .i64 (IntKind.i64.wrap ((0 : Int) - v0)))])])))) else some (.out 0 [.list s3_0n s3_0c])))
def opposite_L3_S1 (ka : Nat) (ca : List D) (kb : Nat) (cb : List D)  (ds : List D) : Option Go.Ev.Rd := pullD (α := Int) (some (.tup ds)) (fun d => ((D.vi (D.at d 0)))) (fun s4 => .tup [iD s4, .one (.tuple #[])]) fun s4 => ((if s4 < (ka : Int) then guardP ((0 : Int) ≤ s4 ∧ s4.toNat < ka) (pullD (α := Int) (readD ca (s4.toNat * 1) 1 false) (fun d => ((D.vi d))) (fun v0 => iD v0) fun v0 => (some (.next 0 [iD (IntKind.i64.wrap (s4 + (1 : Int))), .list 1 [iD (IntKind.i64.wrap ((0 : Int) - v0))]]))) else some (.out 1 [.one (.tuple #[])])))
def opposite_L3_S (ka : Nat) (ca : List D) (kb : Nat) (cb : List D)  : Go.Ev.Rd → Option Go.Ev.Rd
  | .next 0 ds => opposite_L3_S0 ka ca kb cb ds
  | .next 1 ds => opposite_L3_S1 ka ca kb cb ds
  | _ => none
theorem opposite_L3_S_ok (ka : Nat) (ca : List D) (kb : Nat) (cb : List D)  : ∀ s_ t_, opposite_L3_S ka ca kb cb s_ = some t_ → Step (ctx [25] opposite_sp) Tabs opposite_L3_A (stateOf (opposite_L3_gs ka ca kb cb s_)) (stateOf (opposite_L3_gs ka ca kb cb t_)) (opposite_L3_ax t_) ∧ EndOK opposite_L3_A.nx opposite_L3_A.low (opposite_L3_gs ka ca kb cb) t_
  | .next 0 ds, t_, h => by
    have h_ : opposite_L3_S0 ka ca kb cb ds = some t_ := h
    clear h
    unfold opposite_L3_S0 at h_
    obtain ⟨⟨s4, s3_0n, s3_0c⟩, e0, h0⟩ := pullD_elim h_
    clear h_
    obtain rfl := tup_inj e0
    by_cases b1_ : s4 < (ka : Int)
    · have h2_ := (if_pos b1_).symm.trans h0
      obtain ⟨f3_, h4_⟩ := guardP_elim h2_
      obtain ⟨v0, f5_, h6_⟩ := pullD_elim h4_
      replace f5_ := readD_elim f5_
      obtain ⟨f7_, h8_⟩ := guardP_elim h6_
      obtain rfl := Option.some.inj h8_
      exact ⟨step_pc 3000 (bT 1 []) [iD v0] [c_d b1_, c_f f3_, c_f f5_, c_f f7_] [] _ rfl (by kernel_rfl) (by kernel_rfl) (by kernel_rfl) (by kernel_rfl) (by kernel_rfl) (by kernel_rfl), trivial⟩
    have h2_ := (if_neg b1_).symm.trans h0
    obtain rfl := Option.some.inj h2_
    exact ⟨step_pc 3000 (bF 1 []) [] [c_n b1_] [] _ rfl (by kernel_rfl) (by kernel_rfl) (by kernel_rfl) (by kernel_rfl) (by kernel_rfl) (by kernel_rfl), by kernel_rfl, by kernel_rfl⟩
  | .next 1 ds, t_, h => by
    have h_ : opposite_L3_S1 ka ca kb cb ds = some t_ := h
    clear h
    unfold opposite_L3_S1 at h_
    obtain ⟨s4, e0, h0⟩ := pullD_elim h_
    clear h_
    obtain rfl := tup_inj e0
    by_cases b1_ : s4 < (ka : Int)
    · have h2_ := (if_pos b1_).symm.trans h0
      obtain ⟨f3_, h4_⟩ := guardP_elim h2_
      obtain ⟨v0, f5_, h6_⟩ := pullD_elim h4_
      replace f5_ := readD_elim f5_
      obtain rfl := Option.some.inj h6_
      exact ⟨step_pc 3000 (bT 1 []) [iD v0] [c_d b1_, c_f f3_, c_f f5_, ⟨fact (0 < 0 + 1 ∧ (0 + 1) * 8 ≤ 140737488355328 ∧ 0 + 1 ≤ 4611686018427387904), true, fact_mk (by decide)⟩] [] _ rfl (by kernel_rfl) (by kernel_rfl) (by kernel_rfl) (by kernel_rfl) (by kernel_rfl) (by kernel_rfl), trivial⟩
    have h2_ := (if_neg b1_).symm.trans h0
    obtain rfl := Option.some.inj h2_
    exact ⟨step_pc 3000 (bF 1 []) [] [c_n b1_] [] _ rfl (by kernel_rfl) (by kernel_rfl) (by kernel_rfl) (by kernel_rfl) (by kernel_rfl) (by kernel_rfl), by kernel_rfl, by kernel_rfl⟩
  | .next (_ + 2) _, _, h => by cases h
  | .out _ _, _, h => by cases h
theorem opposite_L3_go (ka : Nat) (ca : List D) (kb : Nat) (cb : List D)  {q : Nat} {ds : List D} {j : Nat} {es : List D} (h : runR (opposite_L3_S ka ca kb cb) (.next q ds) = some (.out j es)) : Runs (ctx [25] opposite_sp) Tabs opposite_L3_A (stateOf (opposite_L3_gs ka ca kb cb (.next q ds))) (stateOf (opposite_L3_gs ka ca kb cb (.out j es))) (opposite_L3_ax (.out j es)) ∧ (nxtOf (opposite_L3_gs ka ca kb cb (.out j es)), lowGS (opposite_L3_gs ka ca kb cb (.out j es))) = (opposite_L3_A.nx, opposite_L3_A.low) :=
  runs_of' (good true _ _) opposite_L3_ok (ax := opposite_L3_ax) (fun _ _ => rfl) (fun _ _ => axOf_end _) (opposite_L3_S_ok ka ca kb cb) h
theorem opposite_L3_in0 (ka : Nat) (ca : List D) (kb : Nat) (cb : List D)  {es : List D} (h : runR (opposite_L3_S ka ca kb cb) (.next 1 [iD ((0 : Int)), .one (.tuple #[])]) = some (.out 0 es)) : LoopC (loopAt Try.prog 25 0) (opposite_L3_E ka ca kb cb) 5 noFrame opposite_x3_0 es :=
  have r := opposite_L3_go ka ca kb cb h
  loopin_as rfl (loop_in (l := opposite_L3_A) (E := (opposite_L3_E ka ca kb cb)) (S := stateOf (opposite_L3_gs ka ca kb cb (.next 1 [iD ((0 : Int)), .one (.tuple #[])]))) (ns := nsOf (opposite_L3_gs ka ca kb cb (.next 1 [iD ((0 : Int)), .one (.tuple #[])]))) opposite_L3_ok r.1 r.2 (by kernel_rfl) (by kernel_rfl) (by kernel_rfl) (by kernel_rfl))
theorem opposite_L3_in1 (ka : Nat) (ca : List D) (kb : Nat) (cb : List D)  {es : List D} (h : runR (opposite_L3_S ka ca kb cb) (.next 1 [iD ((0 : Int)), .one (.tuple #[])]) = some (.out 1 es)) : LoopC (loopAt Try.prog 25 0) (opposite_L3_E ka ca kb cb) 5 noFrame opposite_x3_1 es :=
  have r := opposite_L3_go ka ca kb cb h
  loopin_as rfl (loop_in (l := opposite_L3_A) (E := (opposite_L3_E ka ca kb cb)) (S := stateOf (opposite_L3_gs ka ca kb cb (.next 1 [iD ((0 : Int)), .one (.tuple #[])]))) (ns := nsOf (opposite_L3_gs ka ca kb cb (.next 1 [iD ((0 : Int)), .one (.tuple #[])]))) opposite_L3_ok r.1 r.2 (by kernel_rfl) (by kernel_rfl) (by kernel_rfl) (by kernel_rfl))
def opposite_M (ka : Nat) (ca : List D) (kb : Nat) (cb : List D) : Option D := bindL (runR (opposite_L3_S ka ca kb cb) (.next 1 [iD ((0 : Int)), .one (.tuple #[])])) fun j ds => (if j = 0 then pullD (α := Nat × (List D)) (some (.tup ds)) (fun d => ((D.ln (D.at d 0)), (D.lc (D.at d 0)))) (fun (k0, c1) => .tup [.list k0 c1]) fun (k0, c1) => (guardP ((0 + k0) * 1 ≤ c1.length ∧ 0 < 1) (bindL (runR (opposite_L7_S ka ca kb cb k0 c1) (.next 1 [iD ((0 : Int)), .one (.tuple #[])])) fun j ds => (if j = 0 then pullD (α := Nat × (List D)) (some (.tup ds)) (fun d => ((D.ln (D.at d 0)), (D.lc (D.at d 0)))) (fun (k2, c3) => .tup [.list k2 c3]) fun (k2, c3) => (guardP ((0 + k2) * 1 ≤ c3.length ∧ 0 < 1) (some (.agg [.list k0 c1, .list k2 c3]))) else if j = 1 then pullD (some (.tup ds)) (fun _ => ()) (fun _ => .tup [.one (.tuple #[])]) fun _ => (some (.agg [.list k0 c1, .list 0 []])) else none))) else if j = 1 then pullD (some (.tup ds)) (fun _ => ()) (fun _ => .tup [.one (.tuple #[])]) fun _ => (bindL (runR (opposite_L7_2_S ka ca kb cb) (.next 1 [iD ((0 : Int)), .one (.tuple #[])])) fun j ds => (if j = 0 then pullD (α := Nat × (List D)) (some (.tup ds)) (fun d => ((D.ln (D.at d 0)), (D.lc (D.at d 0)))) (fun (k4, c5) => .tup [.list k4 c5]) fun (k4, c5) => (guardP ((0 + k4) * 1 ≤ c5.length ∧ 0 < 1) (some (.agg [.list 0 [], .list k4 c5]))) else if j = 1 then pullD (some (.tup ds)) (fun _ => ()) (fun _ => .tup [.one (.tuple #[])]) fun _ => (some (.agg [.list 0 [], .list 0 []])) else none)) else none)
theorem opposite_M_ok (ka : Nat) (ca : List D) (kb : Nat) (cb : List D) {r : D} (h : opposite_M ka ca kb cb = some r) : Con 25 [.agg [.list ka ca, .list kb cb]] r := by
  unfold opposite_M at h
  obtain ⟨j, ds, e1_, h2_⟩ := bindL_elim h
  by_cases j3_ : j = 0
  · have h6_ := (if_pos j3_).symm.trans h2_
    clear h2_
    subst j3_
    obtain ⟨⟨k0, c1⟩, e4_, h7_⟩ := pullD_elim h6_
    clear h6_
    obtain rfl := tup_inj e4_
    have k5_ := opposite_L3_in0 ka ca kb cb e1_
    obtain ⟨f8_, h9_⟩ := guardP_elim h7_
    obtain ⟨j, ds, e10_, h11_⟩ := bindL_elim h9_
    by_cases j12_ : j = 0
    · have h15_ := (if_pos j12_).symm.trans h11_
      clear h11_
      subst j12_
      obtain ⟨⟨k2, c3⟩, e13_, h16_⟩ := pullD_elim h15_
      clear h15_
      obtain rfl := tup_inj e13_
      have k14_ := opposite_L7_in0 ka ca kb cb k0 c1 e10_
      obtain ⟨f17_, h18_⟩ := guardP_elim h16_
      obtain rfl := Option.some.inj h18_
      exact con_pc (op := true) (I := [25]) (sp := opposite_sp) 3000 [] [.tup [iD (Int.ofNat 0), .list k0 c1], .tup [iD (Int.ofNat 0), .list k2 c3]] [c_f f8_, c_f f17_] [k_l k5_ [] [.tup [iD (Int.ofNat 0), .list k0 c1], .tup [iD (Int.ofNat 0), .list k2 c3]] [.tup [iD (Int.ofNat 0), .list k2 c3]], k_l k14_ [] [.tup [iD (Int.ofNat 0), .list k2 c3]] []] (by kernel_rfl)
    have h19_ := (if_neg j12_).symm.trans h11_
    clear h11_
    by_cases j20_ : j = 1
    · have h23_ := (if_pos j20_).symm.trans h19_
      clear h19_
      subst j20_
      obtain ⟨⟨⟩, e21_, h24_⟩ := pullD_elim h23_
      clear h23_
      obtain rfl := tup_inj e21_
      have k22_ := opposite_L7_in1 ka ca kb cb k0 c1 e10_
      obtain rfl := Option.some.inj h24_
      exact con_pc (op := true) (I := [25]) (sp := opposite_sp) 3000 [] [.tup [iD (Int.ofNat 0), .list k0 c1], .tup [iD (Int.ofNat 1), .one (.tuple #[])]] [c_f f8_] [k_l k5_ [] [.tup [iD (Int.ofNat 0), .list k0 c1], .tup [iD (Int.ofNat 1), .one (.tuple #[])]] [.tup [iD (Int.ofNat 1), .one (.tuple #[])]], k_l k22_ [] [.tup [iD (Int.ofNat 1), .one (.tuple #[])]] []] (by kernel_rfl)
    have h25_ := (if_neg j20_).symm.trans h19_
    clear h19_
    cases h25_
  have h26_ := (if_neg j3_).symm.trans h2_
  clear h2_
  by_cases j27_ : j = 1
  · have h30_ := (if_pos j27_).symm.trans h26_
    clear h26_
    subst j27_
    obtain ⟨⟨⟩, e28_, h31_⟩ := pullD_elim h30_
    clear h30_
    obtain rfl := tup_inj e28_
    have k29_ := opposite_L3_in1 ka ca kb cb e1_
    obtain ⟨j, ds, e32_, h33_⟩ := bindL_elim h31_
    by_cases j34_ : j = 0
    · have h37_ := (if_pos j34_).symm.trans h33_
      clear h33_
      subst j34_
      obtain ⟨⟨k4, c5⟩, e35_, h38_⟩ := pullD_elim h37_
      clear h37_
      obtain rfl := tup_inj e35_
      have k36_ := opposite_L7_2_in0 ka ca kb cb e32_
      obtain ⟨f39_, h40_⟩ := guardP_elim h38_
      obtain rfl := Option.some.inj h40_
      exact con_pc (op := true) (I := [25]) (sp := opposite_sp) 3000 [] [.tup [iD (Int.ofNat 1), .one (.tuple #[])], .tup [iD (Int.ofNat 0), .list k4 c5]] [c_f f39_] [k_l k29_ [] [.tup [iD (Int.ofNat 1), .one (.tuple #[])], .tup [iD (Int.ofNat 0), .list k4 c5]] [.tup [iD (Int.ofNat 0), .list k4 c5]], k_l k36_ [] [.tup [iD (Int.ofNat 0), .list k4 c5]] []] (by kernel_rfl)
    have h41_ := (if_neg j34_).symm.trans h33_
    clear h33_
    by_cases j42_ : j = 1
    · have h45_ := (if_pos j42_).symm.trans h41_
      clear h41_
      subst j42_
      obtain ⟨⟨⟩, e43_, h46_⟩ := pullD_elim h45_
      clear h45_
      obtain rfl := tup_inj e43_
      have k44_ := opposite_L7_2_in1 ka ca kb cb e32_
      obtain rfl := Option.some.inj h46_
      exact con_pc (op := true) (I := [25]) (sp := opposite_sp) 3000 [] [.tup [iD (Int.ofNat 1), .one (.tuple #[])], .tup [iD (Int.ofNat 1), .one (.tuple #[])]] [] [k_l k29_ [] [.tup [iD (Int.ofNat 1), .one (.tuple #[])], .tup [iD (Int.ofNat 1), .one (.tuple #[])]] [.tup [iD (Int.ofNat 1), .one (.tuple #[])]], k_l k44_ [] [.tup [iD (Int.ofNat 1), .one (.tuple #[])]] []] (by kernel_rfl)
    have h47_ := (if_neg j42_).symm.trans h41_
    clear h41_
    cases h47_
  have h48_ := (if_neg j27_).symm.trans h26_
  clear h26_
  cases h48_
def m_25 (ds : List D) : Option D := pullD (α := Nat × (List D) × Nat × (List D)) (some (.tup ds)) (fun d => ((D.ln (D.at (D.at d 0) 0)), (D.lc (D.at (D.at d 0) 0)), (D.ln (D.at (D.at d 0) 1)), (D.lc (D.at (D.at d 0) 1)))) (fun (ka, ca, kb, cb) => .tup [.agg [.list ka ca, .list kb cb]]) fun (ka, ca, kb, cb) => opposite_M ka ca kb cb
theorem m_25_ok {ds : List D} {r : D} (h : m_25 ds = some r) : Con 25 ds r := by
  unfold m_25 at h
  obtain ⟨⟨ka, ca, kb, cb⟩, e0, h0⟩ := pullD_elim h
  obtain rfl := tup_inj e0
  exact opposite_M_ok ka ca kb cb h0
theorem m_25_eq (ka : Nat) (ca : List D) (kb : Nat) (cb : List D) : m_25 [.agg [.list ka ca, .list kb cb]] = opposite_M ka ca kb cb := pullD_some (ka, ca, kb, cb) rfl rfl
end
end Go.Proofs.Ytfdehaafbkhclaa
/- Opposite states, energy. -/
namespace Go.Proofs.Ytfdehaafbkhclaa
open Go.Ev Go.RowKit
set_option maxRecDepth 100000
abbrev ng (l : List Int) : List Int := tab l.length fun i => IntKind.i64.wrap (0 - at' l i)
abbrev ngT (l : List Int) (i : Nat) : List Int := tab i fun i => IntKind.i64.wrap (0 - at' l i)
/-- A loop that grows what it negates. -/
theorem neg_go (l : List Int) (hl : l.length ≤ 1000) (S : Rd → Option Rd) (hS1 : ∀ i : Nat, i < l.length → S (.next 1 [iD (i : Int), .one (.tuple #[])]) = some (.next 0 [iD ((i + 1 : Nat) : Int), .list 1 [iD (IntKind.i64.wrap (0 - at' l i))]]))
    (hS0 : ∀ i : Nat, i < l.length → S (.next 0 [iD (i : Int), lD (ngT l i)]) = some (.next 0 [iD ((i + 1 : Nat) : Int), lD (ngT l (i + 1))]))
    (hE1 : l.length = 0 → S (.next 1 [iD 0, .one (.tuple #[])]) = some (.out 1 [.one (.tuple #[])]))
    (hE0 : S (.next 0 [iD (l.length : Int), lD (ng l)]) = some (.out 0 [lD (ng l)])) :
    runR S (.next 1 [iD 0, .one (.tuple #[])]) = if l.length = 0 then some (.out 1 [.one (.tuple #[])]) else some (.out 0 [lD (ng l)]) := by
  by_cases h : l.length = 0
  · rw [if_pos h]; exact runR_exit (hE1 h)
  rw [if_neg h]
  have h1 := hS1 0 (by omega)
  refine (runR_next h1).trans ?_
  have h2 := runR_scan (S := S) (fun _ => 0) (fun i => [iD (i : Int), lD (ngT l i)]) (show 1 ≤ l.length by omega) (fun i _ hi => hS0 i hi)
  exact h2.trans (runR_exit hE0)
theorem neg_grow (l : List Int) (i : Nat) : List.append (List.take ((ngT l i).length * 1) ((ngT l i).map iD)) [dCell (.int .i64 (IntKind.i64.wrap (0 - at' l i)))] = (ngT l (i + 1)).map iD := by
  rw [show ngT l (i + 1) = ngT l i ++ [IntKind.i64.wrap (0 - at' l i)] from tab_succ i _, List.map_append, Nat.mul_one, List.take_of_length_le (by simp)]
  rfl
theorem opposite_eq (a b : List Int) (ha : a.length ≤ 1000) (hb : b.length ≤ 1000) : m_25 [stD a b] = some (stD (ng a) (ng b)) := by
  rw [m_25_eq]
  unfold opposite_M
  have g3 := neg_go a ha (opposite_L3_S a.length (a.map iD) b.length (b.map iD)) (fun i hi => by
    show opposite_L3_S1 a.length (a.map iD) b.length (b.map iD) _ = _
    unfold opposite_L3_S1
    rw [pullD_some (i : Int) (by rfl) (by rfl), if_pos (by omega), guardP_pos (by omega), readA hi, pullD_some (at' a i) (by rfl) (by rfl), natI (by omega)]) (fun i hi => by
    show opposite_L3_S0 a.length (a.map iD) b.length (b.map iD) _ = _
    unfold opposite_L3_S0
    rw [pullD_some ((i : Int), (ngT a i).length, (ngT a i).map iD) (by rfl) (by rfl)]
    dsimp only
    rw [if_pos (by omega), guardP_pos (by omega), readA hi, pullD_some (at' a i) (by rfl) (by rfl), guardP_pos ⟨cellD_int _, by simp, by simp only [tab_len]; omega, by simp only [tab_len]; omega⟩, natI (by omega), neg_grow]
    simp only [lD, tab_len]) (fun h => by
    show opposite_L3_S1 a.length (a.map iD) b.length (b.map iD) _ = _
    unfold opposite_L3_S1
    rw [pullD_some (0 : Int) (by rfl) (by rfl), if_neg (by omega)]) (by
    show opposite_L3_S0 a.length (a.map iD) b.length (b.map iD) _ = _
    unfold opposite_L3_S0
    rw [pullD_some ((a.length : Int), (ng a).length, (ng a).map iD) (by rfl) (by rfl)]
    dsimp only
    rw [if_neg (by omega)])
  have g7 : ∀ (x0 : Nat) (x1 : List D), _ := fun x0 x1 => neg_go b hb (opposite_L7_S a.length (a.map iD) b.length (b.map iD) x0 x1) (fun i hi => by
    show opposite_L7_S1 a.length (a.map iD) b.length (b.map iD) x0 x1 _ = _
    unfold opposite_L7_S1
    rw [pullD_some (i : Int) (by rfl) (by rfl), if_pos (by omega), guardP_pos (by omega), readA hi, pullD_some (at' b i) (by rfl) (by rfl), natI (by omega)]) (fun i hi => by
    show opposite_L7_S0 a.length (a.map iD) b.length (b.map iD) x0 x1 _ = _
    unfold opposite_L7_S0
    rw [pullD_some ((i : Int), (ngT b i).length, (ngT b i).map iD) (by rfl) (by rfl)]
    dsimp only
    rw [if_pos (by omega), guardP_pos (by omega), readA hi, pullD_some (at' b i) (by rfl) (by rfl), guardP_pos ⟨cellD_int _, by simp, by simp only [tab_len]; omega, by simp only [tab_len]; omega⟩, natI (by omega), neg_grow]
    simp only [lD, tab_len]) (fun h => by
    show opposite_L7_S1 a.length (a.map iD) b.length (b.map iD) x0 x1 _ = _
    unfold opposite_L7_S1
    rw [pullD_some (0 : Int) (by rfl) (by rfl), if_neg (by omega)]) (by
    show opposite_L7_S0 a.length (a.map iD) b.length (b.map iD) x0 x1 _ = _
    unfold opposite_L7_S0
    rw [pullD_some ((b.length : Int), (ng b).length, (ng b).map iD) (by rfl) (by rfl)]
    dsimp only
    rw [if_neg (by omega)])
  have g72 := neg_go b hb (opposite_L7_2_S a.length (a.map iD) b.length (b.map iD)) (fun i hi => by
    show opposite_L7_2_S1 a.length (a.map iD) b.length (b.map iD) _ = _
    unfold opposite_L7_2_S1
    rw [pullD_some (i : Int) (by rfl) (by rfl), if_pos (by omega), guardP_pos (by omega), readA hi, pullD_some (at' b i) (by rfl) (by rfl), natI (by omega)]) (fun i hi => by
    show opposite_L7_2_S0 a.length (a.map iD) b.length (b.map iD) _ = _
    unfold opposite_L7_2_S0
    rw [pullD_some ((i : Int), (ngT b i).length, (ngT b i).map iD) (by rfl) (by rfl)]
    dsimp only
    rw [if_pos (by omega), guardP_pos (by omega), readA hi, pullD_some (at' b i) (by rfl) (by rfl), guardP_pos ⟨cellD_int _, by simp, by simp only [tab_len]; omega, by simp only [tab_len]; omega⟩, natI (by omega), neg_grow]
    simp only [lD, tab_len]) (fun h => by
    show opposite_L7_2_S1 a.length (a.map iD) b.length (b.map iD) _ = _
    unfold opposite_L7_2_S1
    rw [pullD_some (0 : Int) (by rfl) (by rfl), if_neg (by omega)]) (by
    show opposite_L7_2_S0 a.length (a.map iD) b.length (b.map iD) _ = _
    unfold opposite_L7_2_S0
    rw [pullD_some ((b.length : Int), (ng b).length, (ng b).map iD) (by rfl) (by rfl)]
    dsimp only
    rw [if_neg (by omega)])
  by_cases qa : a.length = 0
  · rw [if_pos qa] at g3
    rw [bindL_some g3, if_neg (by decide), if_pos rfl, pullD_some () (by rfl) (by rfl)]
    have ea : ng a = [] := by unfold ng; rw [qa]; rfl
    by_cases qb : b.length = 0
    · rw [if_pos qb] at g72
      rw [bindL_some g72, if_neg (by decide), if_pos rfl, pullD_some () (by rfl) (by rfl), ea, show ng b = [] by unfold ng; rw [qb]; rfl]
      rfl
    · rw [if_neg qb] at g72
      rw [bindL_some g72, if_pos rfl, pullD_some ((ng b).length, (ng b).map iD) (by rfl) (by rfl)]
      dsimp only
      rw [guardP_pos (by simp), ea]
      rfl
  · rw [if_neg qa] at g3
    rw [bindL_some g3, if_pos rfl, pullD_some ((ng a).length, (ng a).map iD) (by rfl) (by rfl)]
    dsimp only
    rw [guardP_pos (by simp)]
    have g7' := g7 (ng a).length ((ng a).map iD)
    by_cases qb : b.length = 0
    · rw [if_pos qb] at g7'
      rw [bindL_some g7', if_neg (by decide), if_pos rfl, pullD_some () (by rfl) (by rfl), show ng b = [] by unfold ng; rw [qb]; rfl]
      rfl
    · rw [if_neg qb] at g7'
      rw [bindL_some g7', if_pos rfl, pullD_some ((ng b).length, (ng b).map iD) (by rfl) (by rfl)]
      dsimp only
      rw [guardP_pos (by simp)]
section
variable {y a b : List Int}
theorem ng_at {l : List Int} {i : Nat} (hi : i < l.length) (h : -1000000 ≤ at' l i ∧ at' l i ≤ 1000000) : at' (ng l) i = -at' l i := by
  rw [show ng l = tab l.length _ from rfl, tab_at _ hi, wr (by omega)]; omega
theorem allIn_tab {n : Nat} {f : Nat → Int} {lo hi : Int} : allIn lo hi (tab n f) = true ↔ ∀ i, i < n → lo ≤ f i ∧ f i ≤ hi := by
  constructor
  · intro h i hi'
    have := allIn_at h (i := i) (by rw [tab_len]; exact hi')
    rwa [tab_at _ hi'] at this
  · intro h
    unfold allIn
    rw [List.all_eq_true]
    intro x hx
    simp only [tab, List.mem_map, List.mem_range] at hx
    obtain ⟨i, hi', rfl⟩ := hx
    simpa using h i hi'
theorem wavE_zero {n : Nat} {f : Nat → Int} : wavE (tab n f) = 0 ↔ ∀ i, i < n → -1000000 ≤ f i ∧ f i ≤ 1000000 := by
  unfold wavE
  rw [← allIn_tab]
  by_cases h : allIn (-1000000) 1000000 (tab n f) = true
  · rw [if_pos h]; simp [h]
  · rw [if_neg h]; simp [h]
theorem wavE_neg {n : Nat} {f g : Nat → Int} (h : ∀ i, i < n → g i = -f i) : wavE (tab n g) = wavE (tab n f) := by
  by_cases q : wavE (tab n f) = 0
  · rw [q, wavE_zero]
    intro i hi
    have := wavE_zero.1 q i hi
    rw [h i hi]; omega
  · have q' : wavE (tab n g) ≠ 0 := fun e => q (wavE_zero.2 fun i hi => by
      have := wavE_zero.1 e i hi
      rw [h i hi] at this; omega)
    unfold wavE at q q' ⊢
    by_cases z1 : allIn (-1000000) 1000000 (tab n f) = true
    · exact absurd (if_pos z1) q
    · by_cases z2 : allIn (-1000000) 1000000 (tab n g) = true
      · exact absurd (if_pos z2) q'
      · rw [if_neg z1, if_neg z2]
theorem ok_st (h : Ok y a b) : stE y a b = 0 := by
  have hp := h.pos
  have hle := h.le
  have l0 : lineE y = 0 := by
    unfold lineE
    rw [if_neg (by omega), if_neg (by omega), if_pos]
    rw [eq_tab (l := y) rfl, allIn_tab]
    exact h.ry
  have wa : wavE a = 0 := by rw [eq_tab (l := a) rfl, wavE_zero]; intro i hi; exact h.ra i (by have := h.la; omega)
  have wb : wavE b = 0 := by rw [eq_tab (l := b) rfl, wavE_zero]; intro i hi; exact h.rb i (by have := h.lb; omega)
  unfold stE ckE
  rw [if_neg (by omega), if_neg (by have := h.la; omega), if_neg (by have := h.lb; omega), wa, wb]
  rfl
theorem ok_ng (h : Ok y a b) : Ok y (ng a) (ng b) := by
  have la := h.la
  have lb := h.lb
  refine ⟨h.pos, h.le, (tab_len _ _).trans la, (tab_len _ _).trans lb, h.ry, fun i hi => ?_, fun i hi => ?_⟩
  · have := h.ra i hi
    rw [ng_at (by omega) this]; omega
  · have := h.rb i hi
    rw [ng_at (by omega) this]; omega
theorem ng_fwN (h : Ok y a b) {i : Nat} (hi : i + 1 < y.length) : fwN y (ng a) (ng b) i = -fwN y a b i := by
  unfold fwN
  rw [ng_at (by have := h.la; omega) (h.ra i (by omega)), ng_at (by have := h.lb; omega) (h.rb (i + 1) hi), Int.neg_mul, Int.mul_neg, Int.neg_mul]
  omega
theorem ng_bkN (h : Ok y a b) {i : Nat} (hi : i + 1 < y.length) : bkN y (ng a) (ng b) i = -bkN y a b i := by
  unfold bkN
  rw [ng_at (by have := h.la; omega) (h.ra i (by omega)), ng_at (by have := h.lb; omega) (h.rb (i + 1) hi), Int.neg_mul, Int.mul_neg, Int.neg_mul]
  omega
theorem ng_vN (h : Ok y a b) {i : Nat} (hi : i + 1 < y.length) : vN y (ng a) (ng b) i = -vN y a b i := by
  unfold vN
  rw [ng_at (by have := h.la; omega) (h.ra i (by omega)), ng_at (by have := h.lb; omega) (h.rb (i + 1) hi), Int.neg_mul, Int.neg_mul]
  omega
theorem ng_refl (h : Ok y a b) (er : Bool) : refl (ng a) er y.length = -refl a er y.length := by
  have hp := h.pos
  unfold refl
  rw [ng_at (by have := h.la; omega) (h.ra (y.length - 1) (by omega))]
  split <;> omega
theorem ng_fw (h : Ok y a b) (src : Int) : ∀ j, j < y.length → fwF y (ng a) (ng b) (-src) j = -fwF y a b src j := by
  intro j hj
  unfold fwF
  by_cases q : j = 0
  · rw [if_pos q, if_pos q, ng_at (by have := h.lb; omega) (h.rb 0 h.pos)]; omega
  · rw [if_neg q, if_neg q, ng_fwN h (by omega), Int.neg_tdiv]
theorem ng_bk (h : Ok y a b) (er : Bool) : ∀ j, j < y.length → bkF y (ng a) (ng b) er y.length j = -bkF y a b er y.length j := by
  intro j hj
  unfold bkF
  by_cases q : j < y.length - 1
  · rw [if_pos q, if_pos q, ng_bkN h (by omega), Int.neg_tdiv]
  · rw [if_neg q, if_neg q, ng_refl h]
theorem ng_v (h : Ok y a b) (er : Bool) (src : Int) : ∀ j, j < y.length + 1 → vF y (ng a) (ng b) (-src) er y.length j = -vF y a b src er y.length j := by
  intro j hj
  have hp := h.pos
  unfold vF
  by_cases q : j = 0
  · rw [if_pos q, if_pos q]
  · rw [if_neg q, if_neg q]
    by_cases q1 : j < y.length
    · rw [if_pos q1, if_pos q1, ng_vN h (by omega), Int.neg_tdiv]
    · rw [if_neg q1, if_neg q1, ng_refl h, ng_at (by have := h.la; omega) (h.ra (y.length - 1) (by omega))]; omega
theorem v_bound (h : Ok y a b) (er : Bool) {src : Int} (hs : -1000 ≤ src ∧ src ≤ 1000) : ∀ j, j < y.length + 1 → -100000000 ≤ vF y a b src er y.length j ∧ vF y a b src er y.length j ≤ 100000000 := by
  intro j hj
  have hp := h.pos
  have an := h.ra (y.length - 1) (by omega)
  have rb := refl_bound (a := a) (er := er) (n := y.length) an
  unfold vF
  by_cases q : j = 0
  · rw [if_pos q]; omega
  · rw [if_neg q]
    by_cases q1 : j < y.length
    · rw [if_pos q1]
      obtain ⟨_, _, n3, _⟩ := nums h (i := j - 1) (by omega)
      exact tdiv_bound (B := 100000000) n3.1 n3.2
    · rw [if_neg q1]; omega
/-- The energy as a sum. -/
def enS (y a b : List Int) (k : Nat) : Int := sumTo (fun k => at' y k * (at' a k * at' a k + at' b k * at' b k)) k
theorem sqB {x : Int} (h : -1000000 ≤ x ∧ x ≤ 1000000) : 0 ≤ x * x ∧ x * x ≤ 1000000000000 := by
  have m := mulB (x := x) (y := x) (A := 1000000) (B := 1000000) (by omega) (by omega) (by omega) (by omega)
  refine ⟨?_, by omega⟩
  rcases Int.le_total 0 x with q | q
  · exact Int.mul_nonneg q q
  · exact Int.mul_nonneg_of_nonpos_of_nonpos q q
theorem termB (h : Ok y a b) {k : Nat} (hk : k < y.length) : 0 ≤ at' y k * (at' a k * at' a k + at' b k * at' b k) ∧ at' y k * (at' a k * at' a k + at' b k * at' b k) ≤ 40000000000000 := by
  have s1 := sqB (h.ra k hk)
  have s2 := sqB (h.rb k hk)
  have yk := h.ry k hk
  have m := mulB (x := at' y k) (y := at' a k * at' a k + at' b k * at' b k) (A := 20) (B := 2000000000000) (by omega) (by omega) (by omega) (by omega)
  exact ⟨Int.mul_nonneg (by omega) (by omega), by omega⟩
theorem enB (h : Ok y a b) : ∀ k, k ≤ y.length → 0 ≤ enS y a b k ∧ enS y a b k ≤ 40000000000000 * k
  | 0, _ => by simp [enS, sumTo]
  | k + 1, hk => by
    have h1 := enB h k (by omega)
    have h2 := termB h (k := k) (by omega)
    have e : enS y a b (k + 1) = enS y a b k + at' y k * (at' a k * at' a k + at' b k * at' b k) := rfl
    rw [e]; omega
theorem wrE {x : Int} (h : -1000000000000000 ≤ x ∧ x ≤ 1000000000000000) : IntKind.i64.wrap x = x := wrapJ x (by omega) (by omega)
theorem enW_eq (h : Ok y a b) : ∀ k, k ≤ y.length → enW y a b k = enS y a b k
  | 0, _ => rfl
  | k + 1, hk => by
    have h1 := enW_eq h k (by omega)
    have h2 := enB h k (by omega)
    have h3 := termB h (k := k) (by omega)
    have hle := h.le
    have s1 := sqB (h.ra k (by omega))
    have s2 := sqB (h.rb k (by omega))
    have e : enS y a b (k + 1) = enS y a b k + at' y k * (at' a k * at' a k + at' b k * at' b k) := rfl
    rw [e]
    unfold enW
    rw [h1, wrE (x := at' a k * at' a k) (by omega), wrE (x := at' b k * at' b k) (by omega), wrE (x := at' a k * at' a k + at' b k * at' b k) (by omega), wrE (x := at' y k * (at' a k * at' a k + at' b k * at' b k)) (by omega), wrE (by omega)]
/-- A quotient towards zero is no more than what it came from. -/
theorem sq_tdiv (N s : Int) : (s * N.tdiv s) * (s * N.tdiv s) ≤ N * N := by
  have e := Int.mul_tdiv_add_tmod N s
  rcases Int.le_total 0 N with q | q
  · have h1 : 0 ≤ N.tmod s := Int.tmod_nonneg s q
    have h2 : 0 ≤ s * N.tdiv s := by
      rcases Int.le_total 0 s with z | z
      · exact Int.mul_nonneg z (Int.tdiv_nonneg q z)
      · exact Int.mul_nonneg_of_nonpos_of_nonpos z (Int.tdiv_nonpos_of_nonneg_of_nonpos q z)
    exact Int.mul_le_mul (by omega) (by omega) h2 q
  · have e2 := Int.mul_tdiv_add_tmod (-N) s
    have h1 : 0 ≤ (-N).tmod s := Int.tmod_nonneg s (by omega)
    have h2 : 0 ≤ s * (-N).tdiv s := by
      rcases Int.le_total 0 s with z | z
      · exact Int.mul_nonneg z (Int.tdiv_nonneg (by omega) z)
      · exact Int.mul_nonneg_of_nonpos_of_nonpos z (Int.tdiv_nonpos_of_nonneg_of_nonpos (by omega) z)
    have h3 : (s * (-N).tdiv s) * (s * (-N).tdiv s) ≤ (-N) * (-N) := Int.mul_le_mul (by omega) (by omega) h2 (by omega)
    rw [Int.neg_tdiv, Int.mul_neg, Int.neg_mul_neg, Int.neg_mul_neg] at h3
    exact h3
end
end Go.Proofs.Ytfdehaafbkhclaa
/- The energy of a step; the period of equal admittances. -/
namespace Go.Proofs.Ytfdehaafbkhclaa
open Go.Ev Go.RowKit
set_option maxRecDepth 100000
theorem junc_id (y1 y2 a b : Int) : y1 * ((a * (y1 - y2) + 2 * b * y2) * (a * (y1 - y2) + 2 * b * y2)) + y2 * ((b * (y2 - y1) + 2 * a * y1) * (b * (y2 - y1) + 2 * a * y1)) = (y1 + y2) * (y1 + y2) * (y1 * (a * a) + y2 * (b * b)) := by grind
theorem junc (y1 y2 a b : Int) (h1 : 0 < y1) (h2 : 0 < y2) : y1 * ((a * (y1 - y2) + 2 * b * y2).tdiv (y1 + y2) * (a * (y1 - y2) + 2 * b * y2).tdiv (y1 + y2)) + y2 * ((b * (y2 - y1) + 2 * a * y1).tdiv (y1 + y2) * (b * (y2 - y1) + 2 * a * y1).tdiv (y1 + y2)) ≤ y1 * (a * a) + y2 * (b * b) := by
  have e := junc_id y1 y2 a b
  generalize a * (y1 - y2) + 2 * b * y2 = N1 at e ⊢
  generalize b * (y2 - y1) + 2 * a * y1 = N2 at e ⊢
  have k1 := sq_tdiv N1 (y1 + y2)
  have k2 := sq_tdiv N2 (y1 + y2)
  have hs : 0 < y1 + y2 := by omega
  generalize y1 + y2 = s at *
  generalize N1.tdiv s = q1 at *
  generalize N2.tdiv s = q2 at *
  have m1 : y1 * ((s * q1) * (s * q1)) ≤ y1 * (N1 * N1) := Int.mul_le_mul_of_nonneg_left k1 (by omega)
  have m2 : y2 * ((s * q2) * (s * q2)) ≤ y2 * (N2 * N2) := Int.mul_le_mul_of_nonneg_left k2 (by omega)
  have e2 : s * s * (y1 * (q1 * q1) + y2 * (q2 * q2)) = y1 * ((s * q1) * (s * q1)) + y2 * ((s * q2) * (s * q2)) := by grind
  have key : s * s * (y1 * (q1 * q1) + y2 * (q2 * q2)) ≤ s * s * (y1 * (a * a) + y2 * (b * b)) := by rw [e2, ← e]; omega
  exact Int.le_of_mul_le_mul_left key (Int.mul_pos hs hs)
section
variable {y a b : List Int}
theorem refl_sq (a : List Int) (er : Bool) (n : Nat) : refl a er n * refl a er n = at' a (n - 1) * at' a (n - 1) := by
  unfold refl
  split
  · exact Int.neg_mul_neg _ _
  · rfl
theorem enS_tab {n : Nat} (f g : Nat → Int) : ∀ k, k ≤ n → enS y (tab n f) (tab n g) k = sumTo (fun k => at' y k * (f k * f k + g k * g k)) k := fun k hk => sumTo_congr fun i hi => by rw [tab_at _ (by omega), tab_at _ (by omega)]
theorem en_step (h : Ok y a b) (er : Bool) : enS y (tab y.length (fwF y a b 0)) (tab y.length (bkF y a b er y.length)) y.length ≤ enS y a b y.length := by
  have hp := h.pos
  rw [enS_tab _ _ _ (Nat.le_refl _)]
  have key : ∀ k, k + 1 ≤ y.length → sumTo (fun k => at' y k * (fwF y a b 0 k * fwF y a b 0 k + bkF y a b er y.length k * bkF y a b er y.length k)) k + at' y k * (fwF y a b 0 k * fwF y a b 0 k) ≤ enS y a b k + at' y k * (at' b k * at' b k) := by
    intro k
    induction k with
    | zero =>
      intro _
      have e : fwF y a b 0 0 = -at' b 0 := by unfold fwF; rw [if_pos rfl]; omega
      rw [e, Int.neg_mul_neg]
      exact Int.le_refl _
    | succ k ih =>
      intro hk
      have i1 := ih (by omega)
      have y1 := h.ry k (by omega)
      have y2 := h.ry (k + 1) (by omega)
      have j := junc (at' y k) (at' y (k + 1)) (at' a k) (at' b (k + 1)) (by omega) (by omega)
      have ef : fwF y a b 0 (k + 1) = (fwN y a b k).tdiv (sm y k) := by unfold fwF; rw [if_neg (by omega)]; rfl
      have eb : bkF y a b er y.length k = (bkN y a b k).tdiv (sm y k) := by unfold bkF; rw [if_pos (by omega)]
      have e1 : sumTo (fun k => at' y k * (fwF y a b 0 k * fwF y a b 0 k + bkF y a b er y.length k * bkF y a b er y.length k)) (k + 1) = sumTo (fun k => at' y k * (fwF y a b 0 k * fwF y a b 0 k + bkF y a b er y.length k * bkF y a b er y.length k)) k + (at' y k * (fwF y a b 0 k * fwF y a b 0 k) + at' y k * (bkF y a b er y.length k * bkF y a b er y.length k)) := by
        rw [← Int.mul_add]; rfl
      have e2 : enS y a b (k + 1) = enS y a b k + (at' y k * (at' a k * at' a k) + at' y k * (at' b k * at' b k)) := by
        rw [← Int.mul_add]; rfl
      rw [e1, e2, ef, eb]
      unfold fwN bkN sm
      omega
  have k1 := key (y.length - 1) (by omega)
  have en : y.length = y.length - 1 + 1 := by omega
  have e1 : sumTo (fun k => at' y k * (fwF y a b 0 k * fwF y a b 0 k + bkF y a b er y.length k * bkF y a b er y.length k)) y.length = sumTo (fun k => at' y k * (fwF y a b 0 k * fwF y a b 0 k + bkF y a b er y.length k * bkF y a b er y.length k)) (y.length - 1) + (at' y (y.length - 1) * (fwF y a b 0 (y.length - 1) * fwF y a b 0 (y.length - 1)) + at' y (y.length - 1) * (bkF y a b er y.length (y.length - 1) * bkF y a b er y.length (y.length - 1))) := by
    rw [← Int.mul_add]
    conv => lhs; rw [en]
    simp only [sumTo, Nat.add_sub_cancel]
    rw [← en]
  have e2 : enS y a b y.length = enS y a b (y.length - 1) + (at' y (y.length - 1) * (at' a (y.length - 1) * at' a (y.length - 1)) + at' y (y.length - 1) * (at' b (y.length - 1) * at' b (y.length - 1))) := by
    rw [← Int.mul_add]
    unfold enS
    conv => lhs; rw [en]
    rfl
  have e3 : bkF y a b er y.length (y.length - 1) * bkF y a b er y.length (y.length - 1) = at' a (y.length - 1) * at' a (y.length - 1) := by
    have : bkF y a b er y.length (y.length - 1) = refl a er y.length := by unfold bkF; rw [if_neg (by omega)]
    rw [this, refl_sq]
  rw [e1, e2, e3]
  omega
/-! The period. -/
def rr (er : Bool) : Int := if er = true then -1 else 1
theorem rr_sq (er : Bool) : rr er * rr er = 1 := by cases er <;> rfl
theorem refl_rr (a : List Int) (er : Bool) (n : Nat) : refl a er n = rr er * at' a (n - 1) := by
  unfold refl rr
  cases er
  · rw [if_neg (by decide), if_neg (by decide), Int.one_mul]
  · rw [if_pos rfl, if_pos rfl, Int.neg_mul, Int.one_mul]
def UU (n : Nat) (er : Bool) (a b : List Int) (p : Nat) : Int := if p < n then at' a p else rr er * at' b (2 * n - 1 - p)
def GG (n : Nat) (er : Bool) (a b : List Int) (m : Nat) : Int := if (m / (2 * n)) % 2 = 0 then UU n er a b (m % (2 * n)) else -(rr er) * UU n er a b (m % (2 * n))
theorem GG_add {n : Nat} (hn : 0 < n) (er : Bool) (a b : List Int) (m : Nat) : GG n er a b (m + 2 * n) = -(rr er) * GG n er a b m := by
  unfold GG
  rw [Nat.add_div_right _ (by omega), Nat.add_mod_right]
  have hrr := rr_sq er
  by_cases q : (m / (2 * n)) % 2 = 0
  · rw [if_pos q, if_neg (by omega)]
  · rw [if_neg q, if_pos (by omega), ← Int.mul_assoc, Int.neg_mul_neg, hrr, Int.one_mul]
theorem GG_low {n : Nat} (er : Bool) (a b : List Int) {p : Nat} (hp : p < 2 * n) : GG n er a b p = UU n er a b p := by
  unfold GG
  rw [Nat.div_eq_of_lt hp, if_pos rfl, Nat.mod_eq_of_lt hp]
theorem rr_bound {x : Int} (er : Bool) (h : -1000000 ≤ x ∧ x ≤ 1000000) : -1000000 ≤ rr er * x ∧ rr er * x ≤ 1000000 := by
  unfold rr
  cases er
  · rw [if_neg (by decide), Int.one_mul]; exact h
  · rw [if_pos rfl, Int.neg_mul, Int.one_mul]; omega
theorem UU_bound (h : Ok y a b) (er : Bool) {p : Nat} (hp : p < 2 * y.length) : -1000000 ≤ UU y.length er a b p ∧ UU y.length er a b p ≤ 1000000 := by
  unfold UU
  by_cases q : p < y.length
  · rw [if_pos q]; exact h.ra p q
  · rw [if_neg q]; exact rr_bound er (h.rb _ (by omega))
theorem GG_bound (h : Ok y a b) (er : Bool) (m : Nat) : -1000000 ≤ GG y.length er a b m ∧ GG y.length er a b m ≤ 1000000 := by
  have hp := h.pos
  have u := UU_bound h er (p := m % (2 * y.length)) (Nat.mod_lt _ (by omega))
  unfold GG
  split
  · exact u
  · have := rr_bound er u
    rw [Int.neg_mul]; omega
/-- The state after k steps. -/
def fk (n : Nat) (er : Bool) (a b : List Int) (k p : Nat) : Int := GG n er a b (p + 4 * n - k)
def bk (n : Nat) (er : Bool) (a b : List Int) (k j : Nat) : Int := rr er * GG n er a b (2 * n - 1 - j + 4 * n - k)
theorem ok_k (h : Ok y a b) (er : Bool) (k : Nat) : Ok y (tab y.length (fk y.length er a b k)) (tab y.length (bk y.length er a b k)) := by
  refine ⟨h.pos, h.le, tab_len _ _, tab_len _ _, h.ry, fun i hi => ?_, fun i hi => ?_⟩
  · rw [tab_at _ hi]; exact GG_bound h er _
  · rw [tab_at _ hi]; exact rr_bound er (GG_bound h er _)
theorem half (x c : Int) (hc : c ≠ 0) : (2 * x * c).tdiv (c + c) = x := by
  rw [show 2 * x * c = x * (c + c) by grind]
  exact Int.mul_tdiv_cancel x (by omega)
theorem fk_step (h : Ok y a b) (er : Bool) (hc : ∀ i, i < y.length → at' y i = at' y 0) {k : Nat} (hk : k < 4 * y.length) : ∀ j, j < y.length → fwF y (tab y.length (fk y.length er a b k)) (tab y.length (bk y.length er a b k)) 0 j = fk y.length er a b (k + 1) j := by
  intro j hj
  have hp := h.pos
  have y0 := h.ry 0 hp
  unfold fwF
  by_cases q : j = 0
  · rw [if_pos q, tab_at _ hp]
    subst q
    unfold bk fk
    rw [show 2 * y.length - 1 - 0 + 4 * y.length - k = (0 + 4 * y.length - (k + 1)) + 2 * y.length by omega, GG_add hp, ← Int.mul_assoc, Int.mul_neg, rr_sq]
    omega
  · rw [if_neg q]
    unfold fwN sm
    rw [tab_at _ (by omega), tab_at _ (by omega), show j - 1 + 1 = j by omega, hc j hj, hc (j - 1) (by omega), Int.sub_self, Int.mul_zero, Int.zero_add, half _ _ (by omega)]
    unfold fk
    rw [show j - 1 + 4 * y.length - k = j + 4 * y.length - (k + 1) by omega]
theorem bk_step (h : Ok y a b) (er : Bool) (hc : ∀ i, i < y.length → at' y i = at' y 0) {k : Nat} (hk : k < 4 * y.length) : ∀ j, j < y.length → bkF y (tab y.length (fk y.length er a b k)) (tab y.length (bk y.length er a b k)) er y.length j = bk y.length er a b (k + 1) j := by
  intro j hj
  have hp := h.pos
  have y0 := h.ry 0 hp
  unfold bkF
  by_cases q : j < y.length - 1
  · rw [if_pos q]
    unfold bkN sm
    rw [tab_at _ (by omega), tab_at _ (by omega), hc j hj, hc (j + 1) (by omega), Int.sub_self, Int.mul_zero, Int.zero_add, half _ _ (by omega)]
    unfold bk
    rw [show 2 * y.length - 1 - (j + 1) + 4 * y.length - k = 2 * y.length - 1 - j + 4 * y.length - (k + 1) by omega]
  · rw [if_neg q, refl_rr, tab_at _ (by omega)]
    unfold fk bk
    rw [show y.length - 1 + 4 * y.length - k = 2 * y.length - 1 - j + 4 * y.length - (k + 1) by omega]
theorem period_step (h : Ok y a b) (er : Bool) (hc : ∀ i, i < y.length → at' y i = at' y 0) {k : Nat} (hk : k < 4 * y.length) : ∃ w : List Int, m_10 [lnD y er, stD (tab y.length (fk y.length er a b k)) (tab y.length (bk y.length er a b k)), iD 0] = some (.tup [stD (tab y.length (fk y.length er a b (k + 1))) (tab y.length (bk y.length er a b (k + 1))), lD w, iD 0]) := by
  have hle := h.le
  have o := ok_k h er k
  have o' := ok_k h er (k + 1)
  have e := step_eq y (tab y.length (fk y.length er a b k)) (tab y.length (bk y.length er a b k)) er 0 (by omega) (by rw [tab_len]; omega) (by rw [tab_len]; omega)
  have z := ok_st o
  rw [if_neg (by omega), if_pos (by decide)] at e
  unfold stepV at e
  rw [tab_congr (fk_step h er hc hk), tab_congr (bk_step h er hc hk)] at e
  have w1 : ¬ wavE (tab y.length (fk y.length er a b (k + 1))) ≠ 0 := fun c => c (wavE_zero.2 fun i hi => GG_bound h er _)
  have w2 : ¬ wavE (tab y.length (bk y.length er a b (k + 1))) ≠ 0 := fun c => c (wavE_zero.2 fun i hi => rr_bound er (GG_bound h er _))
  rw [if_neg w1, if_neg w2] at e
  exact ⟨_, e⟩
theorem at_K (h : Ok y a b) (er : Bool) {K : Nat} (hK : K = 0 ∨ K = 4 * y.length ∨ (er = true ∧ K = 2 * y.length)) : tab y.length (fk y.length er a b K) = a ∧ tab y.length (bk y.length er a b K) = b := by
  have hp := h.pos
  have key : ∀ m, m < 2 * y.length → GG y.length er a b (m + 4 * y.length - K) = UU y.length er a b m := by
    intro m hm
    have g2 : GG y.length er a b (m + 2 * y.length) = -(rr er) * UU y.length er a b m := by rw [GG_add hp, GG_low er a b hm]
    rcases hK with rfl | rfl | ⟨rfl, rfl⟩
    · rw [show m + 4 * y.length - 0 = m + 2 * y.length + 2 * y.length by omega, GG_add hp, g2, ← Int.mul_assoc, Int.neg_mul_neg, rr_sq, Int.one_mul]
    · rw [show m + 4 * y.length - 4 * y.length = m by omega, GG_low er a b hm]
    · rw [show m + 4 * y.length - 2 * y.length = m + 2 * y.length by omega, g2]
      show -(-1) * _ = _
      omega
  constructor
  · conv => rhs; rw [eq_tab h.la]
    refine tab_congr fun p hp' => ?_
    unfold fk
    rw [key p (by omega)]
    unfold UU
    rw [if_pos hp']
  · conv => rhs; rw [eq_tab h.lb]
    refine tab_congr fun j hj => ?_
    unfold bk
    rw [key (2 * y.length - 1 - j) (by omega)]
    unfold UU
    rw [if_neg (by omega), ← Int.mul_assoc, rr_sq, Int.one_mul, show 2 * y.length - 1 - (2 * y.length - 1 - j) = j by omega]
/-! Loops of the law. -/
theorem go_all (n s : Nat) (hs : s ≤ n) (S : Rd → Option Rd) (h1 : ∀ i : Nat, i < n → S (.next 0 [iD (i : Int)]) = some (.next 0 [iD ((i + 1 : Nat) : Int)])) (h2 : S (.next 0 [iD (n : Int)]) = some (.out 0 [])) : runR S (.next 0 [iD (s : Int)]) = some (.out 0 []) :=
  (runR_scan (S := S) (fun _ => 0) (fun i => [iD (i : Int)]) hs (fun i _ hi => h1 i hi)).trans (runR_exit h2)
theorem go_const (hp : 0 < y.length) (S : Rd → Option Rd) (h1 : ∀ i : Nat, i < y.length → S (.next 0 [iD (i : Int)]) = if at' y i ≠ at' y 0 then some (.out 1 [.one (.bool true)]) else some (.next 0 [iD ((i + 1 : Nat) : Int)])) (h2 : S (.next 0 [iD (y.length : Int)]) = some (.out 0 [])) :
    runR S (.next 0 [iD 1]) = some (.out 1 [.one (.bool true)]) ∨ (runR S (.next 0 [iD 1]) = some (.out 0 []) ∧ ∀ i, i < y.length → at' y i = at' y 0) := by
  have key : ∀ m i, i + m = y.length → (∀ j, j < i → at' y j = at' y 0) → runR S (.next 0 [iD (i : Int)]) = some (.out 1 [.one (.bool true)]) ∨ (runR S (.next 0 [iD (i : Int)]) = some (.out 0 []) ∧ ∀ i, i < y.length → at' y i = at' y 0) := by
    intro m
    induction m with
    | zero =>
      intro i hi hj
      have : i = y.length := by omega
      subst this
      exact .inr ⟨runR_exit h2, hj⟩
    | succ m ih =>
      intro i hi hj
      have e := h1 i (by omega)
      by_cases q : at' y i ≠ at' y 0
      · rw [if_pos q] at e
        exact .inl (runR_exit e)
      · rw [if_neg q] at e
        rw [runR_next e]
        exact ih (i + 1) (by omega) fun j hj' => by
          by_cases z : j = i
          · subst z; omega
          · exact hj j (by omega)
  exact key (y.length - 1) 1 (by omega) fun j hj => by rw [show j = 0 by omega]
theorem go_period (h : Ok y a b) (er : Bool) (hc : ∀ i, i < y.length → at' y i = at' y 0) {K : Nat} (hK : K = 4 * y.length ∨ (er = true ∧ K = 2 * y.length)) (S : Rd → Option Rd)
    (hS : ∀ (i : Nat) (u v u' v' w : List Int), i < K → u'.length ≤ 1000 → v'.length ≤ 1000 → m_10 [lnD y er, stD u v, iD 0] = some (.tup [stD u' v', lD w, iD 0]) → S (.next 0 [iD (i : Int), lD u, lD v]) = some (.next 0 [iD ((i + 1 : Nat) : Int), lD u', lD v']))
    (hE : S (.next 0 [iD (K : Int), lD a, lD b]) = some (.out 0 [lD a, lD b])) : runR S (.next 0 [iD 0, lD a, lD b]) = some (.out 0 [lD a, lD b]) := by
  have hle := h.le
  have z0 := at_K h er (K := 0) (.inl rfl)
  have zK := at_K h er (K := K) (.inr hK)
  have h1 := runR_scan (S := S) (fun _ => 0) (fun i => [iD (i : Int), lD (tab y.length (fk y.length er a b i)), lD (tab y.length (bk y.length er a b i))]) (Nat.zero_le K) (fun i _ hi => by
    obtain ⟨w, e⟩ := period_step h er hc (k := i) (by omega)
    exact hS i _ _ _ _ w hi (by rw [tab_len]; omega) (by rw [tab_len]; omega) e)
  rw [z0.1, z0.2, zK.1, zK.2] at h1
  exact h1.trans (runR_exit hE)
end
end Go.Proofs.Ytfdehaafbkhclaa
