import Derived.Test.YtbfefnfmdkgfjaaTD
set_option linter.unusedVariables false
set_option linter.unusedSimpArgs false
set_option linter.unusedSectionVars false
set_option linter.unnecessarySimpa false
namespace Go.Proofs.Ytbfefnfmdkgfjaa
open Go.Ev Go.RowKit
set_option maxRecDepth 100000
set_option maxHeartbeats 8000000
set_option linter.all false
noncomputable section
def axial_x7_0 : LExit := ⟨some 2, [.cgrow 3 0 1, .cgrow 3 1 1], (7 :: (8 :: (List.range' 19 25)))⟩
def axial_x7_1 : LExit := ⟨some 2, [.cnil 3 0, .cgrow 3 1 1], (7 :: (8 :: (List.range' 19 25)))⟩
def axial_x7_2 : LExit := ⟨some 2, [.cgrow 3 0 1, .cnil 3 1], (7 :: (8 :: (List.range' 19 25)))⟩
def axial_x7_3 : LExit := ⟨some 2, [.cnil 3 0, .cnil 3 1], (7 :: (8 :: (List.range' 19 25)))⟩
def axial_sp : List LSpec := [⟨44, 7, [axial_x7_0, axial_x7_1, axial_x7_2, axial_x7_3]⟩]
def axial_L7_4_E (ka : Nat) (ca : List D) (kb : Nat) (cb : List D) (x0 : Nat) (x1 : List D) : List AV × AHeap := ([.agg [.dsl 0, .dsl 1], .ptr 2 0, .ptr 3 0, .ptr 4 0, .dsl 5, .pure (.int .i64 (1 : Int)), .dsl 1, .any 8, .any 9, .agg [.dsl 0, .dsl 1], .dsl 5, .agg [.dsl 0, .dsl 1], .agg [.dsl 0, .dsl 1], .pure (.int .i64 (1 : Int)), .pure (.bool true), .pure (.int .i64 (1 : Int)), .dsl 1, .dsl 1, .pure (.int .i64 (kb : Int)), .pure (.int .i64 (0 : Int)), .any 11, .any 12, .any 13, .any 14, .any 15, .any 16, .any 17, .any 18, .any 19, .any 20, .any 21, .any 22, .any 23, .any 24, .any 25, .any 26, .any 27, .any 28, .any 29, .any 30, .any 31, .any 32, .any 33, .any 34, .pure (.int .i64 (1 : Int)), .pure (.tuple #[])], [(7, { cells := [.dsl 0, .dsl 1], opn := none, kind := .cells }), (6, { cells := [.dsl 0, .dsl 1], opn := none, kind := .cells }), (5, { cells := [], opn := none, kind := .deep x0 x1 }), (4, { cells := [.pure (.slice none 0 0), .pure (.slice none 0 0)], opn := none, kind := .cells }), (3, { cells := [.pure (.slice none 0 0), .pure (.slice none 0 0)], opn := none, kind := .cells }), (2, { cells := [.dsl 0, .dsl 1], opn := none, kind := .cells }), (1, { cells := [], opn := none, kind := .deep kb cb }), (0, { cells := [], opn := none, kind := .deep ka ca })])
def axial_L7_4_A : LoopAt := ⟨44, loopAt Try.prog 44 1, 37, 66, 4, noFrame⟩
theorem axial_L7_4_ok : (axial_L7_4_A).OK := ⟨by show 37 ≤ 66; decide, by show 4 ≤ 37; decide, by kernel_rfl, rfl⟩
def axial_L7_4_gs (ka : Nat) (ca : List D) (kb : Nat) (cb : List D) (x0 : Nat) (x1 : List D) : Go.Ev.Rd → Option GS
  | .next 0 ds => ghost [.val 19, .cgrow 3 0 1, .cgrow 3 1 1] (7 :: (8 :: (List.range' 20 24))) (axial_L7_4_E ka ca kb cb x0 x1).1 (axial_L7_4_E ka ca kb cb x0 x1).2 37 ds
  | .next 1 ds => ghost [.val 19, .cnil 3 0, .cgrow 3 1 1] (7 :: (8 :: (List.range' 20 24))) (axial_L7_4_E ka ca kb cb x0 x1).1 (axial_L7_4_E ka ca kb cb x0 x1).2 37 ds
  | .next 2 ds => ghost [.val 19, .cgrow 3 0 1, .cnil 3 1] (7 :: (8 :: (List.range' 20 24))) (axial_L7_4_E ka ca kb cb x0 x1).1 (axial_L7_4_E ka ca kb cb x0 x1).2 37 ds
  | .next 3 ds => ghost [.val 19, .cnil 3 0, .cnil 3 1] (7 :: (8 :: (List.range' 20 24))) (axial_L7_4_E ka ca kb cb x0 x1).1 (axial_L7_4_E ka ca kb cb x0 x1).2 37 ds
  | .out 0 ds => ghost axial_x7_0.live axial_x7_0.junk (axial_L7_4_E ka ca kb cb x0 x1).1 (axial_L7_4_E ka ca kb cb x0 x1).2 37 ds
  | .out 1 ds => ghost axial_x7_1.live axial_x7_1.junk (axial_L7_4_E ka ca kb cb x0 x1).1 (axial_L7_4_E ka ca kb cb x0 x1).2 37 ds
  | .out 2 ds => ghost axial_x7_2.live axial_x7_2.junk (axial_L7_4_E ka ca kb cb x0 x1).1 (axial_L7_4_E ka ca kb cb x0 x1).2 37 ds
  | .out 3 ds => ghost axial_x7_3.live axial_x7_3.junk (axial_L7_4_E ka ca kb cb x0 x1).1 (axial_L7_4_E ka ca kb cb x0 x1).2 37 ds
  | _ => none
def axial_L7_4_ex : Nat → Option Nat
  | 0 => axial_x7_0.ex
  | 1 => axial_x7_1.ex
  | 2 => axial_x7_2.ex
  | 3 => axial_x7_3.ex
  | _ => none
def axial_L7_4_ax : Go.Ev.Rd → AX
  | .next _ _ => .normal
  | .out j _ => axOf (axial_L7_4_ex j)
def axial_L7_4_S0 (ka : Nat) (ca : List D) (kb : Nat) (cb : List D) (x0 : Nat) (x1 : List D) (ds : List D) : Option Go.Ev.Rd := pullD (α := Int × Nat × (List D) × Nat × (List D)) (some (.tup ds)) (fun d => ((D.vi (D.at d 0)), (D.ln (D.at d 1)), (D.lc (D.at d 1)), (D.ln (D.at d 2)), (D.lc (D.at d 2)))) (fun (s19, s3_0n, s3_0c, s3_1n, s3_1c) => .tup [iD s19, .list s3_0n s3_0c, .list s3_1n s3_1c]) fun (s19, s3_0n, s3_0c, s3_1n, s3_1c) => ((if s19 < (kb : Int) then guardP ((0 : Int) ≤ s19 ∧ s19.toNat < kb) (pullD (α := Int) (readD cb (s19.toNat * 1) 1 false) (fun d => ((D.vi d))) (fun v0 => iD v0) fun v0 => (guardP ((0 : Int) ≤ s19 ∧ s19.toNat < x0) (pullD (α := Int) (readD x1 (s19.toNat * 1) 1 false) (fun d => ((D.vi d))) (fun v1 => iD v1) fun v1 => (guardP ((0 : Int) ≤ IntKind.i64.wrap (s19 + (1 : Int)) ∧ (IntKind.i64.wrap (s19 + (1 : Int))).toNat < x0) (pullD (α := Int) (readD x1 ((IntKind.i64.wrap (s19 + (1 : Int))).toNat * 1) 1 false) (fun d => ((D.vi d))) (fun v2 => iD v2) fun v2 => (guardP ((∀ (u : D), u ∈ [dCell (.int .i64 (IntKind.i64.wrap (v0 * IntKind.i64.wrap (v1 + v2))))] → cellD u) ∧ s3_1n * 1 ≤ s3_1c.length ∧ (s3_1n + (0 + 1)) * 8 ≤ 140737488355328 ∧ s3_1n + (0 + 1) ≤ 4611686018427387904) (some (.next 0 [iD (IntKind.i64.wrap (s19 + (1 : Int))), .list s3_0n s3_0c, .list (s3_1n + (0 + 1)) (List.append (List.take (s3_1n * 1) s3_1c) [dCell (.int .i64 (IntKind.i64.wrap (v0 * IntKind.i64.wrap (v1 + v2))))])])))))))) else some (.out 0 [.list s3_0n s3_0c, .list s3_1n s3_1c])))
def axial_L7_4_S1 (ka : Nat) (ca : List D) (kb : Nat) (cb : List D) (x0 : Nat) (x1 : List D) (ds : List D) : Option Go.Ev.Rd := pullD (α := Int × Nat × (List D)) (some (.tup ds)) (fun d => ((D.vi (D.at d 0)), (D.ln (D.at d 2)), (D.lc (D.at d 2)))) (fun (s19, s3_1n, s3_1c) => .tup [iD s19, .one (.tuple #[]), .list s3_1n s3_1c]) fun (s19, s3_1n, s3_1c) => ((if s19 < (kb : Int) then guardP ((0 : Int) ≤ s19 ∧ s19.toNat < kb) (pullD (α := Int) (readD cb (s19.toNat * 1) 1 false) (fun d => ((D.vi d))) (fun v0 => iD v0) fun v0 => (guardP ((0 : Int) ≤ s19 ∧ s19.toNat < x0) (pullD (α := Int) (readD x1 (s19.toNat * 1) 1 false) (fun d => ((D.vi d))) (fun v1 => iD v1) fun v1 => (guardP ((0 : Int) ≤ IntKind.i64.wrap (s19 + (1 : Int)) ∧ (IntKind.i64.wrap (s19 + (1 : Int))).toNat < x0) (pullD (α := Int) (readD x1 ((IntKind.i64.wrap (s19 + (1 : Int))).toNat * 1) 1 false) (fun d => ((D.vi d))) (fun v2 => iD v2) fun v2 => (guardP ((∀ (u : D), u ∈ [dCell (.int .i64 (IntKind.i64.wrap (v0 * IntKind.i64.wrap (v1 + v2))))] → cellD u) ∧ s3_1n * 1 ≤ s3_1c.length ∧ (s3_1n + (0 + 1)) * 8 ≤ 140737488355328 ∧ s3_1n + (0 + 1) ≤ 4611686018427387904) (some (.next 1 [iD (IntKind.i64.wrap (s19 + (1 : Int))), .one (.tuple #[]), .list (s3_1n + (0 + 1)) (List.append (List.take (s3_1n * 1) s3_1c) [dCell (.int .i64 (IntKind.i64.wrap (v0 * IntKind.i64.wrap (v1 + v2))))])])))))))) else some (.out 1 [.one (.tuple #[]), .list s3_1n s3_1c])))
def axial_L7_4_S2 (ka : Nat) (ca : List D) (kb : Nat) (cb : List D) (x0 : Nat) (x1 : List D) (ds : List D) : Option Go.Ev.Rd := pullD (α := Int × Nat × (List D)) (some (.tup ds)) (fun d => ((D.vi (D.at d 0)), (D.ln (D.at d 1)), (D.lc (D.at d 1)))) (fun (s19, s3_0n, s3_0c) => .tup [iD s19, .list s3_0n s3_0c, .one (.tuple #[])]) fun (s19, s3_0n, s3_0c) => ((if s19 < (kb : Int) then guardP ((0 : Int) ≤ s19 ∧ s19.toNat < kb) (pullD (α := Int) (readD cb (s19.toNat * 1) 1 false) (fun d => ((D.vi d))) (fun v0 => iD v0) fun v0 => (guardP ((0 : Int) ≤ s19 ∧ s19.toNat < x0) (pullD (α := Int) (readD x1 (s19.toNat * 1) 1 false) (fun d => ((D.vi d))) (fun v1 => iD v1) fun v1 => (guardP ((0 : Int) ≤ IntKind.i64.wrap (s19 + (1 : Int)) ∧ (IntKind.i64.wrap (s19 + (1 : Int))).toNat < x0) (pullD (α := Int) (readD x1 ((IntKind.i64.wrap (s19 + (1 : Int))).toNat * 1) 1 false) (fun d => ((D.vi d))) (fun v2 => iD v2) fun v2 => (some (.next 0 [iD (IntKind.i64.wrap (s19 + (1 : Int))), .list s3_0n s3_0c, .list 1 [iD (IntKind.i64.wrap (v0 * IntKind.i64.wrap (v1 + v2)))]]))))))) else some (.out 2 [.list s3_0n s3_0c, .one (.tuple #[])])))
def axial_L7_4_S3 (ka : Nat) (ca : List D) (kb : Nat) (cb : List D) (x0 : Nat) (x1 : List D) (ds : List D) : Option Go.Ev.Rd := pullD (α := Int) (some (.tup ds)) (fun d => ((D.vi (D.at d 0)))) (fun s19 => .tup [iD s19, .one (.tuple #[]), .one (.tuple #[])]) fun s19 => ((if s19 < (kb : Int) then guardP ((0 : Int) ≤ s19 ∧ s19.toNat < kb) (pullD (α := Int) (readD cb (s19.toNat * 1) 1 false) (fun d => ((D.vi d))) (fun v0 => iD v0) fun v0 => (guardP ((0 : Int) ≤ s19 ∧ s19.toNat < x0) (pullD (α := Int) (readD x1 (s19.toNat * 1) 1 false) (fun d => ((D.vi d))) (fun v1 => iD v1) fun v1 => (guardP ((0 : Int) ≤ IntKind.i64.wrap (s19 + (1 : Int)) ∧ (IntKind.i64.wrap (s19 + (1 : Int))).toNat < x0) (pullD (α := Int) (readD x1 ((IntKind.i64.wrap (s19 + (1 : Int))).toNat * 1) 1 false) (fun d => ((D.vi d))) (fun v2 => iD v2) fun v2 => (some (.next 1 [iD (IntKind.i64.wrap (s19 + (1 : Int))), .one (.tuple #[]), .list 1 [iD (IntKind.i64.wrap (v0 * IntKind.i64.wrap (v1 + v2)))]]))))))) else some (.out 3 [.one (.tuple #[]), .one (.tuple #[])])))
def axial_L7_4_S (ka : Nat) (ca : List D) (kb : Nat) (cb : List D) (x0 : Nat) (x1 : List D) : Go.Ev.Rd → Option Go.Ev.Rd
  | .next 0 ds => axial_L7_4_S0 ka ca kb cb x0 x1 ds
  | .next 1 ds => axial_L7_4_S1 ka ca kb cb x0 x1 ds
  | .next 2 ds => axial_L7_4_S2 ka ca kb cb x0 x1 ds
  | .next 3 ds => axial_L7_4_S3 ka ca kb cb x0 x1 ds
  | _ => none
theorem axial_L7_4_S_ok (ka : Nat) (ca : List D) (kb : Nat) (cb : List D) (x0 : Nat) (x1 : List D) : ∀ s_ t_, axial_L7_4_S ka ca kb cb x0 x1 s_ = some t_ → Step (ctx [44, 67] axial_sp) Tabs axial_L7_4_A (stateOf (axial_L7_4_gs ka ca kb cb x0 x1 s_)) (stateOf (axial_L7_4_gs ka ca kb cb x0 x1 t_)) (axial_L7_4_ax t_) ∧ EndOK axial_L7_4_A.nx axial_L7_4_A.low (axial_L7_4_gs ka ca kb cb x0 x1) t_
  | .next 0 ds, t_, h => by
    have h_ : axial_L7_4_S0 ka ca kb cb x0 x1 ds = some t_ := h
    clear h
    unfold axial_L7_4_S0 at h_
    obtain ⟨⟨s19, s3_0n, s3_0c, s3_1n, s3_1c⟩, e0, h0⟩ := pullD_elim h_
    clear h_
    obtain rfl := tup_inj e0
    by_cases b1_ : s19 < (kb : Int)
    · have h2_ := (if_pos b1_).symm.trans h0
      obtain ⟨f3_, h4_⟩ := guardP_elim h2_
      obtain ⟨v0, f5_, h6_⟩ := pullD_elim h4_
      replace f5_ := readD_elim f5_
      obtain ⟨f7_, h8_⟩ := guardP_elim h6_
      obtain ⟨v1, f9_, h10_⟩ := pullD_elim h8_
      replace f9_ := readD_elim f9_
      obtain ⟨f11_, h12_⟩ := guardP_elim h10_
      obtain ⟨v2, f13_, h14_⟩ := pullD_elim h12_
      replace f13_ := readD_elim f13_
      obtain ⟨f15_, h16_⟩ := guardP_elim h14_
      obtain rfl := Option.some.inj h16_
      exact ⟨step_pc 3000 (bT 1 []) [iD v0, iD v1, iD v2] [c_d b1_, c_f f3_, c_f f5_, c_f f7_, c_f f9_, c_f f11_, c_f f13_, c_f f15_] [] _ rfl (by kernel_rfl) (by kernel_rfl) (by kernel_rfl) (by kernel_rfl) (by kernel_rfl) (by kernel_rfl), trivial⟩
    have h2_ := (if_neg b1_).symm.trans h0
    obtain rfl := Option.some.inj h2_
    exact ⟨step_pc 3000 (bF 1 []) [] [c_n b1_] [] _ rfl (by kernel_rfl) (by kernel_rfl) (by kernel_rfl) (by kernel_rfl) (by kernel_rfl) (by kernel_rfl), by kernel_rfl, by kernel_rfl⟩
  | .next 1 ds, t_, h => by
    have h_ : axial_L7_4_S1 ka ca kb cb x0 x1 ds = some t_ := h
    clear h
    unfold axial_L7_4_S1 at h_
    obtain ⟨⟨s19, s3_1n, s3_1c⟩, e0, h0⟩ := pullD_elim h_
    clear h_
    obtain rfl := tup_inj e0
    by_cases b1_ : s19 < (kb : Int)
    · have h2_ := (if_pos b1_).symm.trans h0
      obtain ⟨f3_, h4_⟩ := guardP_elim h2_
      obtain ⟨v0, f5_, h6_⟩ := pullD_elim h4_
      replace f5_ := readD_elim f5_
      obtain ⟨f7_, h8_⟩ := guardP_elim h6_
      obtain ⟨v1, f9_, h10_⟩ := pullD_elim h8_
      replace f9_ := readD_elim f9_
      obtain ⟨f11_, h12_⟩ := guardP_elim h10_
      obtain ⟨v2, f13_, h14_⟩ := pullD_elim h12_
      replace f13_ := readD_elim f13_
      obtain ⟨f15_, h16_⟩ := guardP_elim h14_
      obtain rfl := Option.some.inj h16_
      exact ⟨step_pc 3000 (bT 1 []) [iD v0, iD v1, iD v2] [c_d b1_, c_f f3_, c_f f5_, c_f f7_, c_f f9_, c_f f11_, c_f f13_, c_f f15_] [] _ rfl (by kernel_rfl) (by kernel_rfl) (by kernel_rfl) (by kernel_rfl) (by kernel_rfl) (by kernel_rfl), trivial⟩
    have h2_ := (if_neg b1_).symm.trans h0
    obtain rfl := Option.some.inj h2_
    exact ⟨step_pc 3000 (bF 1 []) [] [c_n b1_] [] _ rfl (by kernel_rfl) (by kernel_rfl) (by kernel_rfl) (by kernel_rfl) (by kernel_rfl) (by kernel_rfl), by kernel_rfl, by kernel_rfl⟩
  | .next 2 ds, t_, h => by
    have h_ : axial_L7_4_S2 ka ca kb cb x0 x1 ds = some t_ := h
    clear h
    unfold axial_L7_4_S2 at h_
    obtain ⟨⟨s19, s3_0n, s3_0c⟩, e0, h0⟩ := pullD_elim h_
    clear h_
    obtain rfl := tup_inj e0
    by_cases b1_ : s19 < (kb : Int)
    · have h2_ := (if_pos b1_).symm.trans h0
      obtain ⟨f3_, h4_⟩ := guardP_elim h2_
      obtain ⟨v0, f5_, h6_⟩ := pullD_elim h4_
      replace f5_ := readD_elim f5_
      obtain ⟨f7_, h8_⟩ := guardP_elim h6_
      obtain ⟨v1, f9_, h10_⟩ := pullD_elim h8_
      replace f9_ := readD_elim f9_
      obtain ⟨f11_, h12_⟩ := guardP_elim h10_
      obtain ⟨v2, f13_, h14_⟩ := pullD_elim h12_
      replace f13_ := readD_elim f13_
      obtain rfl := Option.some.inj h14_
      exact ⟨step_pc 3000 (bT 1 []) [iD v0, iD v1, iD v2] [c_d b1_, c_f f3_, c_f f5_, c_f f7_, c_f f9_, c_f f11_, c_f f13_, ⟨fact (0 < 0 + 1 ∧ (0 + 1) * 8 ≤ 140737488355328 ∧ 0 + 1 ≤ 4611686018427387904), true, fact_mk (by decide)⟩] [] _ rfl (by kernel_rfl) (by kernel_rfl) (by kernel_rfl) (by kernel_rfl) (by kernel_rfl) (by kernel_rfl), trivial⟩
    have h2_ := (if_neg b1_).symm.trans h0
    obtain rfl := Option.some.inj h2_
    exact ⟨step_pc 3000 (bF 1 []) [] [c_n b1_] [] _ rfl (by kernel_rfl) (by kernel_rfl) (by kernel_rfl) (by kernel_rfl) (by kernel_rfl) (by kernel_rfl), by kernel_rfl, by kernel_rfl⟩
  | .next 3 ds, t_, h => by
    have h_ : axial_L7_4_S3 ka ca kb cb x0 x1 ds = some t_ := h
    clear h
    unfold axial_L7_4_S3 at h_
    obtain ⟨s19, e0, h0⟩ := pullD_elim h_
    clear h_
    obtain rfl := tup_inj e0
    by_cases b1_ : s19 < (kb : Int)
    · have h2_ := (if_pos b1_).symm.trans h0
      obtain ⟨f3_, h4_⟩ := guardP_elim h2_
      obtain ⟨v0, f5_, h6_⟩ := pullD_elim h4_
      replace f5_ := readD_elim f5_
      obtain ⟨f7_, h8_⟩ := guardP_elim h6_
      obtain ⟨v1, f9_, h10_⟩ := pullD_elim h8_
      replace f9_ := readD_elim f9_
      obtain ⟨f11_, h12_⟩ := guardP_elim h10_
      obtain ⟨v2, f13_, h14_⟩ := pullD_elim h12_
      replace f13_ := readD_elim f13_
      obtain rfl := Option.some.inj h14_
      exact ⟨step_pc 3000 (bT 1 []) [iD v0, iD v1, iD v2] [c_d b1_, c_f f3_, c_f f5_, c_f f7_, c_f f9_, c_f f11_, c_f f13_, ⟨fact (0 < 0 + 1 ∧ (0 + 1) * 8 ≤ 140737488355328 ∧ 0 + 1 ≤ 4611686018427387904), true, fact_mk (by decide)⟩] [] _ rfl (by kernel_rfl) (by kernel_rfl) (by kernel_rfl) (by kernel_rfl) (by kernel_rfl) (by kernel_rfl), trivial⟩
    have h2_ := (if_neg b1_).symm.trans h0
    obtain rfl := Option.some.inj h2_
    exact ⟨step_pc 3000 (bF 1 []) [] [c_n b1_] [] _ rfl (by kernel_rfl) (by kernel_rfl) (by kernel_rfl) (by kernel_rfl) (by kernel_rfl) (by kernel_rfl), by kernel_rfl, by kernel_rfl⟩
  | .next (_ + 4) _, _, h => by cases h
  | .out _ _, _, h => by cases h
theorem axial_L7_4_go (ka : Nat) (ca : List D) (kb : Nat) (cb : List D) (x0 : Nat) (x1 : List D) {q : Nat} {ds : List D} {j : Nat} {es : List D} (h : runR (axial_L7_4_S ka ca kb cb x0 x1) (.next q ds) = some (.out j es)) : Runs (ctx [44, 67] axial_sp) Tabs axial_L7_4_A (stateOf (axial_L7_4_gs ka ca kb cb x0 x1 (.next q ds))) (stateOf (axial_L7_4_gs ka ca kb cb x0 x1 (.out j es))) (axial_L7_4_ax (.out j es)) ∧ (nxtOf (axial_L7_4_gs ka ca kb cb x0 x1 (.out j es)), lowGS (axial_L7_4_gs ka ca kb cb x0 x1 (.out j es))) = (axial_L7_4_A.nx, axial_L7_4_A.low) :=
  runs_of' (good true _ _) axial_L7_4_ok (ax := axial_L7_4_ax) (fun _ _ => rfl) (fun _ _ => axOf_end _) (axial_L7_4_S_ok ka ca kb cb x0 x1) h
theorem axial_L7_4_in0 (ka : Nat) (ca : List D) (kb : Nat) (cb : List D) (x0 : Nat) (x1 : List D) {es : List D} (h : runR (axial_L7_4_S ka ca kb cb x0 x1) (.next 3 [iD ((0 : Int)), .one (.tuple #[]), .one (.tuple #[])]) = some (.out 0 es)) : LoopC (loopAt Try.prog 44 1) (axial_L7_4_E ka ca kb cb x0 x1) 37 noFrame axial_x7_0 es :=
  have r := axial_L7_4_go ka ca kb cb x0 x1 h
  loopin_as rfl (loop_in (l := axial_L7_4_A) (E := (axial_L7_4_E ka ca kb cb x0 x1)) (S := stateOf (axial_L7_4_gs ka ca kb cb x0 x1 (.next 3 [iD ((0 : Int)), .one (.tuple #[]), .one (.tuple #[])]))) (ns := nsOf (axial_L7_4_gs ka ca kb cb x0 x1 (.next 3 [iD ((0 : Int)), .one (.tuple #[]), .one (.tuple #[])]))) axial_L7_4_ok r.1 r.2 (by kernel_rfl) (by kernel_rfl) (by kernel_rfl) (by kernel_rfl))
theorem axial_L7_4_in1 (ka : Nat) (ca : List D) (kb : Nat) (cb : List D) (x0 : Nat) (x1 : List D) {es : List D} (h : runR (axial_L7_4_S ka ca kb cb x0 x1) (.next 3 [iD ((0 : Int)), .one (.tuple #[]), .one (.tuple #[])]) = some (.out 1 es)) : LoopC (loopAt Try.prog 44 1) (axial_L7_4_E ka ca kb cb x0 x1) 37 noFrame axial_x7_1 es :=
  have r := axial_L7_4_go ka ca kb cb x0 x1 h
  loopin_as rfl (loop_in (l := axial_L7_4_A) (E := (axial_L7_4_E ka ca kb cb x0 x1)) (S := stateOf (axial_L7_4_gs ka ca kb cb x0 x1 (.next 3 [iD ((0 : Int)), .one (.tuple #[]), .one (.tuple #[])]))) (ns := nsOf (axial_L7_4_gs ka ca kb cb x0 x1 (.next 3 [iD ((0 : Int)), .one (.tuple #[]), .one (.tuple #[])]))) axial_L7_4_ok r.1 r.2 (by kernel_rfl) (by kernel_rfl) (by kernel_rfl) (by kernel_rfl))
theorem axial_L7_4_in2 (ka : Nat) (ca : List D) (kb : Nat) (cb : List D) (x0 : Nat) (x1 : List D) {es : List D} (h : runR (axial_L7_4_S ka ca kb cb x0 x1) (.next 3 [iD ((0 : Int)), .one (.tuple #[]), .one (.tuple #[])]) = some (.out 2 es)) : LoopC (loopAt Try.prog 44 1) (axial_L7_4_E ka ca kb cb x0 x1) 37 noFrame axial_x7_2 es :=
  have r := axial_L7_4_go ka ca kb cb x0 x1 h
  loopin_as rfl (loop_in (l := axial_L7_4_A) (E := (axial_L7_4_E ka ca kb cb x0 x1)) (S := stateOf (axial_L7_4_gs ka ca kb cb x0 x1 (.next 3 [iD ((0 : Int)), .one (.tuple #[]), .one (.tuple #[])]))) (ns := nsOf (axial_L7_4_gs ka ca kb cb x0 x1 (.next 3 [iD ((0 : Int)), .one (.tuple #[]), .one (.tuple #[])]))) axial_L7_4_ok r.1 r.2 (by kernel_rfl) (by kernel_rfl) (by kernel_rfl) (by kernel_rfl))
theorem axial_L7_4_in3 (ka : Nat) (ca : List D) (kb : Nat) (cb : List D) (x0 : Nat) (x1 : List D) {es : List D} (h : runR (axial_L7_4_S ka ca kb cb x0 x1) (.next 3 [iD ((0 : Int)), .one (.tuple #[]), .one (.tuple #[])]) = some (.out 3 es)) : LoopC (loopAt Try.prog 44 1) (axial_L7_4_E ka ca kb cb x0 x1) 37 noFrame axial_x7_3 es :=
  have r := axial_L7_4_go ka ca kb cb x0 x1 h
  loopin_as rfl (loop_in (l := axial_L7_4_A) (E := (axial_L7_4_E ka ca kb cb x0 x1)) (S := stateOf (axial_L7_4_gs ka ca kb cb x0 x1 (.next 3 [iD ((0 : Int)), .one (.tuple #[]), .one (.tuple #[])]))) (ns := nsOf (axial_L7_4_gs ka ca kb cb x0 x1 (.next 3 [iD ((0 : Int)), .one (.tuple #[]), .one (.tuple #[])]))) axial_L7_4_ok r.1 r.2 (by kernel_rfl) (by kernel_rfl) (by kernel_rfl) (by kernel_rfl))
def axial_L7_3_E (ka : Nat) (ca : List D) (kb : Nat) (cb : List D) (x0 : Nat) (x1 : List D) (x2 : Nat) (x3 : List D) : List AV × AHeap := ([.agg [.dsl 0, .dsl 1], .ptr 2 0, .ptr 3 0, .ptr 4 0, .dsl 5, .pure (.int .i64 (1 : Int)), .dsl 1, .any 9, .any 10, .agg [.dsl 0, .dsl 1], .dsl 5, .agg [.dsl 0, .dsl 1], .agg [.dsl 0, .dsl 1], .pure (.int .i64 (1 : Int)), .pure (.bool true), .pure (.int .i64 (1 : Int)), .dsl 1, .dsl 1, .pure (.int .i64 (kb : Int)), .pure (.int .i64 (0 : Int)), .any 12, .any 13, .any 14, .any 15, .any 16, .any 17, .any 18, .any 19, .any 20, .any 21, .any 22, .any 23, .any 24, .any 25, .any 26, .any 27, .any 28, .any 29, .any 30, .any 31, .any 32, .any 33, .any 34, .any 35, .pure (.int .i64 (1 : Int)), .pure (.tuple #[])], [(8, { cells := [], opn := some 1, kind := .big x3 }), (7, { cells := [.dsl 0, .dsl 1], opn := none, kind := .cells }), (6, { cells := [.dsl 0, .dsl 1], opn := none, kind := .cells }), (5, { cells := [], opn := none, kind := .deep x0 x1 }), (4, { cells := [.bslx 8 0 x2 0, .pure (.slice none 0 0)], opn := none, kind := .cells }), (3, { cells := [.pure (.slice none 0 0), .pure (.slice none 0 0)], opn := none, kind := .cells }), (2, { cells := [.dsl 0, .dsl 1], opn := none, kind := .cells }), (1, { cells := [], opn := none, kind := .deep kb cb }), (0, { cells := [], opn := none, kind := .deep ka ca })])
def axial_L7_3_A : LoopAt := ⟨44, loopAt Try.prog 44 1, 37, 66, 4, noFrame⟩
theorem axial_L7_3_ok : (axial_L7_3_A).OK := ⟨by show 37 ≤ 66; decide, by show 4 ≤ 37; decide, by kernel_rfl, rfl⟩
def axial_L7_3_gs (ka : Nat) (ca : List D) (kb : Nat) (cb : List D) (x0 : Nat) (x1 : List D) (x2 : Nat) (x3 : List D) : Go.Ev.Rd → Option GS
  | .next 0 ds => ghost [.val 19, .cgrow 3 0 1, .cgrow 3 1 1] (7 :: (8 :: (List.range' 20 24))) (axial_L7_3_E ka ca kb cb x0 x1 x2 x3).1 (axial_L7_3_E ka ca kb cb x0 x1 x2 x3).2 37 ds
  | .next 1 ds => ghost [.val 19, .cnil 3 0, .cgrow 3 1 1] (7 :: (8 :: (List.range' 20 24))) (axial_L7_3_E ka ca kb cb x0 x1 x2 x3).1 (axial_L7_3_E ka ca kb cb x0 x1 x2 x3).2 37 ds
  | .next 2 ds => ghost [.val 19, .cgrow 3 0 1, .cnil 3 1] (7 :: (8 :: (List.range' 20 24))) (axial_L7_3_E ka ca kb cb x0 x1 x2 x3).1 (axial_L7_3_E ka ca kb cb x0 x1 x2 x3).2 37 ds
  | .next 3 ds => ghost [.val 19, .cnil 3 0, .cnil 3 1] (7 :: (8 :: (List.range' 20 24))) (axial_L7_3_E ka ca kb cb x0 x1 x2 x3).1 (axial_L7_3_E ka ca kb cb x0 x1 x2 x3).2 37 ds
  | .out 0 ds => ghost axial_x7_0.live axial_x7_0.junk (axial_L7_3_E ka ca kb cb x0 x1 x2 x3).1 (axial_L7_3_E ka ca kb cb x0 x1 x2 x3).2 37 ds
  | .out 1 ds => ghost axial_x7_1.live axial_x7_1.junk (axial_L7_3_E ka ca kb cb x0 x1 x2 x3).1 (axial_L7_3_E ka ca kb cb x0 x1 x2 x3).2 37 ds
  | .out 2 ds => ghost axial_x7_2.live axial_x7_2.junk (axial_L7_3_E ka ca kb cb x0 x1 x2 x3).1 (axial_L7_3_E ka ca kb cb x0 x1 x2 x3).2 37 ds
  | .out 3 ds => ghost axial_x7_3.live axial_x7_3.junk (axial_L7_3_E ka ca kb cb x0 x1 x2 x3).1 (axial_L7_3_E ka ca kb cb x0 x1 x2 x3).2 37 ds
  | _ => none
def axial_L7_3_ex : Nat → Option Nat
  | 0 => axial_x7_0.ex
  | 1 => axial_x7_1.ex
  | 2 => axial_x7_2.ex
  | 3 => axial_x7_3.ex
  | _ => none
def axial_L7_3_ax : Go.Ev.Rd → AX
  | .next _ _ => .normal
  | .out j _ => axOf (axial_L7_3_ex j)
def axial_L7_3_S0 (ka : Nat) (ca : List D) (kb : Nat) (cb : List D) (x0 : Nat) (x1 : List D) (x2 : Nat) (x3 : List D) (ds : List D) : Option Go.Ev.Rd := pullD (α := Int × Nat × (List D) × Nat × (List D)) (some (.tup ds)) (fun d => ((D.vi (D.at d 0)), (D.ln (D.at d 1)), (D.lc (D.at d 1)), (D.ln (D.at d 2)), (D.lc (D.at d 2)))) (fun (s19, s3_0n, s3_0c, s3_1n, s3_1c) => .tup [iD s19, .list s3_0n s3_0c, .list s3_1n s3_1c]) fun (s19, s3_0n, s3_0c, s3_1n, s3_1c) => ((if s19 < (kb : Int) then guardP ((0 : Int) ≤ s19 ∧ s19.toNat < kb) (pullD (α := Int) (readD cb (s19.toNat * 1) 1 false) (fun d => ((D.vi d))) (fun v0 => iD v0) fun v0 => (guardP ((0 : Int) ≤ s19 ∧ s19.toNat < x0) (pullD (α := Int) (readD x1 (s19.toNat * 1) 1 false) (fun d => ((D.vi d))) (fun v1 => iD v1) fun v1 => (guardP ((0 : Int) ≤ IntKind.i64.wrap (s19 + (1 : Int)) ∧ (IntKind.i64.wrap (s19 + (1 : Int))).toNat < x0) (pullD (α := Int) (readD x1 ((IntKind.i64.wrap (s19 + (1 : Int))).toNat * 1) 1 false) (fun d => ((D.vi d))) (fun v2 => iD v2) fun v2 => (guardP ((∀ (u : D), u ∈ [dCell (.int .i64 (IntKind.i64.wrap (v0 * IntKind.i64.wrap (v1 + v2))))] → cellD u) ∧ s3_1n * 1 ≤ s3_1c.length ∧ (s3_1n + (0 + 1)) * 8 ≤ 140737488355328 ∧ s3_1n + (0 + 1) ≤ 4611686018427387904) (some (.next 0 [iD (IntKind.i64.wrap (s19 + (1 : Int))), .list s3_0n s3_0c, .list (s3_1n + (0 + 1)) (List.append (List.take (s3_1n * 1) s3_1c) [dCell (.int .i64 (IntKind.i64.wrap (v0 * IntKind.i64.wrap (v1 + v2))))])])))))))) else some (.out 0 [.list s3_0n s3_0c, .list s3_1n s3_1c])))
def axial_L7_3_S1 (ka : Nat) (ca : List D) (kb : Nat) (cb : List D) (x0 : Nat) (x1 : List D) (x2 : Nat) (x3 : List D) (ds : List D) : Option Go.Ev.Rd := pullD (α := Int × Nat × (List D)) (some (.tup ds)) (fun d => ((D.vi (D.at d 0)), (D.ln (D.at d 2)), (D.lc (D.at d 2)))) (fun (s19, s3_1n, s3_1c) => .tup [iD s19, .one (.tuple #[]), .list s3_1n s3_1c]) fun (s19, s3_1n, s3_1c) => ((if s19 < (kb : Int) then guardP ((0 : Int) ≤ s19 ∧ s19.toNat < kb) (pullD (α := Int) (readD cb (s19.toNat * 1) 1 false) (fun d => ((D.vi d))) (fun v0 => iD v0) fun v0 => (guardP ((0 : Int) ≤ s19 ∧ s19.toNat < x0) (pullD (α := Int) (readD x1 (s19.toNat * 1) 1 false) (fun d => ((D.vi d))) (fun v1 => iD v1) fun v1 => (guardP ((0 : Int) ≤ IntKind.i64.wrap (s19 + (1 : Int)) ∧ (IntKind.i64.wrap (s19 + (1 : Int))).toNat < x0) (pullD (α := Int) (readD x1 ((IntKind.i64.wrap (s19 + (1 : Int))).toNat * 1) 1 false) (fun d => ((D.vi d))) (fun v2 => iD v2) fun v2 => (guardP ((∀ (u : D), u ∈ [dCell (.int .i64 (IntKind.i64.wrap (v0 * IntKind.i64.wrap (v1 + v2))))] → cellD u) ∧ s3_1n * 1 ≤ s3_1c.length ∧ (s3_1n + (0 + 1)) * 8 ≤ 140737488355328 ∧ s3_1n + (0 + 1) ≤ 4611686018427387904) (some (.next 1 [iD (IntKind.i64.wrap (s19 + (1 : Int))), .one (.tuple #[]), .list (s3_1n + (0 + 1)) (List.append (List.take (s3_1n * 1) s3_1c) [dCell (.int .i64 (IntKind.i64.wrap (v0 * IntKind.i64.wrap (v1 + v2))))])])))))))) else some (.out 1 [.one (.tuple #[]), .list s3_1n s3_1c])))
def axial_L7_3_S2 (ka : Nat) (ca : List D) (kb : Nat) (cb : List D) (x0 : Nat) (x1 : List D) (x2 : Nat) (x3 : List D) (ds : List D) : Option Go.Ev.Rd := pullD (α := Int × Nat × (List D)) (some (.tup ds)) (fun d => ((D.vi (D.at d 0)), (D.ln (D.at d 1)), (D.lc (D.at d 1)))) (fun (s19, s3_0n, s3_0c) => .tup [iD s19, .list s3_0n s3_0c, .one (.tuple #[])]) fun (s19, s3_0n, s3_0c) => ((if s19 < (kb : Int) then guardP ((0 : Int) ≤ s19 ∧ s19.toNat < kb) (pullD (α := Int) (readD cb (s19.toNat * 1) 1 false) (fun d => ((D.vi d))) (fun v0 => iD v0) fun v0 => (guardP ((0 : Int) ≤ s19 ∧ s19.toNat < x0) (pullD (α := Int) (readD x1 (s19.toNat * 1) 1 false) (fun d => ((D.vi d))) (fun v1 => iD v1) fun v1 => (guardP ((0 : Int) ≤ IntKind.i64.wrap (s19 + (1 : Int)) ∧ (IntKind.i64.wrap (s19 + (1 : Int))).toNat < x0) (pullD (α := Int) (readD x1 ((IntKind.i64.wrap (s19 + (1 : Int))).toNat * 1) 1 false) (fun d => ((D.vi d))) (fun v2 => iD v2) fun v2 => (some (.next 0 [iD (IntKind.i64.wrap (s19 + (1 : Int))), .list s3_0n s3_0c, .list 1 [iD (IntKind.i64.wrap (v0 * IntKind.i64.wrap (v1 + v2)))]]))))))) else some (.out 2 [.list s3_0n s3_0c, .one (.tuple #[])])))
def axial_L7_3_S3 (ka : Nat) (ca : List D) (kb : Nat) (cb : List D) (x0 : Nat) (x1 : List D) (x2 : Nat) (x3 : List D) (ds : List D) : Option Go.Ev.Rd := pullD (α := Int) (some (.tup ds)) (fun d => ((D.vi (D.at d 0)))) (fun s19 => .tup [iD s19, .one (.tuple #[]), .one (.tuple #[])]) fun s19 => ((if s19 < (kb : Int) then guardP ((0 : Int) ≤ s19 ∧ s19.toNat < kb) (pullD (α := Int) (readD cb (s19.toNat * 1) 1 false) (fun d => ((D.vi d))) (fun v0 => iD v0) fun v0 => (guardP ((0 : Int) ≤ s19 ∧ s19.toNat < x0) (pullD (α := Int) (readD x1 (s19.toNat * 1) 1 false) (fun d => ((D.vi d))) (fun v1 => iD v1) fun v1 => (guardP ((0 : Int) ≤ IntKind.i64.wrap (s19 + (1 : Int)) ∧ (IntKind.i64.wrap (s19 + (1 : Int))).toNat < x0) (pullD (α := Int) (readD x1 ((IntKind.i64.wrap (s19 + (1 : Int))).toNat * 1) 1 false) (fun d => ((D.vi d))) (fun v2 => iD v2) fun v2 => (some (.next 1 [iD (IntKind.i64.wrap (s19 + (1 : Int))), .one (.tuple #[]), .list 1 [iD (IntKind.i64.wrap (v0 * IntKind.i64.wrap (v1 + v2)))]]))))))) else some (.out 3 [.one (.tuple #[]), .one (.tuple #[])])))
def axial_L7_3_S (ka : Nat) (ca : List D) (kb : Nat) (cb : List D) (x0 : Nat) (x1 : List D) (x2 : Nat) (x3 : List D) : Go.Ev.Rd → Option Go.Ev.Rd
  | .next 0 ds => axial_L7_3_S0 ka ca kb cb x0 x1 x2 x3 ds
  | .next 1 ds => axial_L7_3_S1 ka ca kb cb x0 x1 x2 x3 ds
  | .next 2 ds => axial_L7_3_S2 ka ca kb cb x0 x1 x2 x3 ds
  | .next 3 ds => axial_L7_3_S3 ka ca kb cb x0 x1 x2 x3 ds
  | _ => none
theorem axial_L7_3_S_ok (ka : Nat) (ca : List D) (kb : Nat) (cb : List D) (x0 : Nat) (x1 : List D) (x2 : Nat) (x3 : List D) : ∀ s_ t_, axial_L7_3_S ka ca kb cb x0 x1 x2 x3 s_ = some t_ → Step (ctx [44, 67] axial_sp) Tabs axial_L7_3_A (stateOf (axial_L7_3_gs ka ca kb cb x0 x1 x2 x3 s_)) (stateOf (axial_L7_3_gs ka ca kb cb x0 x1 x2 x3 t_)) (axial_L7_3_ax t_) ∧ EndOK axial_L7_3_A.nx axial_L7_3_A.low (axial_L7_3_gs ka ca kb cb x0 x1 x2 x3) t_
  | .next 0 ds, t_, h => by
    have h_ : axial_L7_3_S0 ka ca kb cb x0 x1 x2 x3 ds = some t_ := h
    clear h
    unfold axial_L7_3_S0 at h_
    obtain ⟨⟨s19, s3_0n, s3_0c, s3_1n, s3_1c⟩, e0, h0⟩ := pullD_elim h_
    clear h_
    obtain rfl := tup_inj e0
    by_cases b1_ : s19 < (kb : Int)
    · have h2_ := (if_pos b1_).symm.trans h0
      obtain ⟨f3_, h4_⟩ := guardP_elim h2_
      obtain ⟨v0, f5_, h6_⟩ := pullD_elim h4_
      replace f5_ := readD_elim f5_
      obtain ⟨f7_, h8_⟩ := guardP_elim h6_
      obtain ⟨v1, f9_, h10_⟩ := pullD_elim h8_
      replace f9_ := readD_elim f9_
      obtain ⟨f11_, h12_⟩ := guardP_elim h10_
      obtain ⟨v2, f13_, h14_⟩ := pullD_elim h12_
      replace f13_ := readD_elim f13_
      obtain ⟨f15_, h16_⟩ := guardP_elim h14_
      obtain rfl := Option.some.inj h16_
      exact ⟨step_pc 3000 (bT 1 []) [iD v0, iD v1, iD v2] [c_d b1_, c_f f3_, c_f f5_, c_f f7_, c_f f9_, c_f f11_, c_f f13_, c_f f15_] [] _ rfl (by kernel_rfl) (by kernel_rfl) (by kernel_rfl) (by kernel_rfl) (by kernel_rfl) (by kernel_rfl), trivial⟩
    have h2_ := (if_neg b1_).symm.trans h0
    obtain rfl := Option.some.inj h2_
    exact ⟨step_pc 3000 (bF 1 []) [] [c_n b1_] [] _ rfl (by kernel_rfl) (by kernel_rfl) (by kernel_rfl) (by kernel_rfl) (by kernel_rfl) (by kernel_rfl), by kernel_rfl, by kernel_rfl⟩
  | .next 1 ds, t_, h => by
    have h_ : axial_L7_3_S1 ka ca kb cb x0 x1 x2 x3 ds = some t_ := h
    clear h
    unfold axial_L7_3_S1 at h_
    obtain ⟨⟨s19, s3_1n, s3_1c⟩, e0, h0⟩ := pullD_elim h_
    clear h_
    obtain rfl := tup_inj e0
    by_cases b1_ : s19 < (kb : Int)
    · have h2_ := (if_pos b1_).symm.trans h0
      obtain ⟨f3_, h4_⟩ := guardP_elim h2_
      obtain ⟨v0, f5_, h6_⟩ := pullD_elim h4_
      replace f5_ := readD_elim f5_
      obtain ⟨f7_, h8_⟩ := guardP_elim h6_
      obtain ⟨v1, f9_, h10_⟩ := pullD_elim h8_
      replace f9_ := readD_elim f9_
      obtain ⟨f11_, h12_⟩ := guardP_elim h10_
      obtain ⟨v2, f13_, h14_⟩ := pullD_elim h12_
      replace f13_ := readD_elim f13_
      obtain ⟨f15_, h16_⟩ := guardP_elim h14_
      obtain rfl := Option.some.inj h16_
      exact ⟨step_pc 3000 (bT 1 []) [iD v0, iD v1, iD v2] [c_d b1_, c_f f3_, c_f f5_, c_f f7_, c_f f9_, c_f f11_, c_f f13_, c_f f15_] [] _ rfl (by kernel_rfl) (by kernel_rfl) (by kernel_rfl) (by kernel_rfl) (by kernel_rfl) (by kernel_rfl), trivial⟩
    have h2_ := (if_neg b1_).symm.trans h0
    obtain rfl := Option.some.inj h2_
    exact ⟨step_pc 3000 (bF 1 []) [] [c_n b1_] [] _ rfl (by kernel_rfl) (by kernel_rfl) (by kernel_rfl) (by kernel_rfl) (by kernel_rfl) (by kernel_rfl), by kernel_rfl, by kernel_rfl⟩
  | .next 2 ds, t_, h => by
    have h_ : axial_L7_3_S2 ka ca kb cb x0 x1 x2 x3 ds = some t_ := h
    clear h
    unfold axial_L7_3_S2 at h_
    obtain ⟨⟨s19, s3_0n, s3_0c⟩, e0, h0⟩ := pullD_elim h_
    clear h_
    obtain rfl := tup_inj e0
    by_cases b1_ : s19 < (kb : Int)
    · have h2_ := (if_pos b1_).symm.trans h0
      obtain ⟨f3_, h4_⟩ := guardP_elim h2_
      obtain ⟨v0, f5_, h6_⟩ := pullD_elim h4_
      replace f5_ := readD_elim f5_
      obtain ⟨f7_, h8_⟩ := guardP_elim h6_
      obtain ⟨v1, f9_, h10_⟩ := pullD_elim h8_
      replace f9_ := readD_elim f9_
      obtain ⟨f11_, h12_⟩ := guardP_elim h10_
      obtain ⟨v2, f13_, h14_⟩ := pullD_elim h12_
      replace f13_ := readD_elim f13_
      obtain rfl := Option.some.inj h14_
      exact ⟨step_pc 3000 (bT 1 []) [iD v0, iD v1, iD v2] [c_d b1_, c_f f3_, c_f f5_, c_f f7_, c_f f9_, c_f f11_, c_f f13_, ⟨fact (0 < 0 + 1 ∧ (0 + 1) * 8 ≤ 140737488355328 ∧ 0 + 1 ≤ 4611686018427387904), true, fact_mk (by decide)⟩] [] _ rfl (by kernel_rfl) (by kernel_rfl) (by kernel_rfl) (by kernel_rfl) (by kernel_rfl) (by kernel_rfl), trivial⟩
    have h2_ := (if_neg b1_).symm.trans h0
    obtain rfl := Option.some.inj h2_
    exact ⟨step_pc 3000 (bF 1 []) [] [c_n b1_] [] _ rfl (by kernel_rfl) (by kernel_rfl) (by kernel_rfl) (by kernel_rfl) (by kernel_rfl) (by kernel_rfl), by kernel_rfl, by kernel_rfl⟩
  | .next 3 ds, t_, h => by
    have h_ : axial_L7_3_S3 ka ca kb cb x0 x1 x2 x3 ds = some t_ := h
    clear h
    unfold axial_L7_3_S3 at h_
    obtain ⟨s19, e0, h0⟩ := pullD_elim h_
    clear h_
    obtain rfl := tup_inj e0
    by_cases b1_ : s19 < (kb : Int)
    · have h2_ := (if_pos b1_).symm.trans h0
      obtain ⟨f3_, h4_⟩ := guardP_elim h2_
      obtain ⟨v0, f5_, h6_⟩ := pullD_elim h4_
      replace f5_ := readD_elim f5_
      obtain ⟨f7_, h8_⟩ := guardP_elim h6_
      obtain ⟨v1, f9_, h10_⟩ := pullD_elim h8_
      replace f9_ := readD_elim f9_
      obtain ⟨f11_, h12_⟩ := guardP_elim h10_
      obtain ⟨v2, f13_, h14_⟩ := pullD_elim h12_
      replace f13_ := readD_elim f13_
      obtain rfl := Option.some.inj h14_
      exact ⟨step_pc 3000 (bT 1 []) [iD v0, iD v1, iD v2] [c_d b1_, c_f f3_, c_f f5_, c_f f7_, c_f f9_, c_f f11_, c_f f13_, ⟨fact (0 < 0 + 1 ∧ (0 + 1) * 8 ≤ 140737488355328 ∧ 0 + 1 ≤ 4611686018427387904), true, fact_mk (by decide)⟩] [] _ rfl (by kernel_rfl) (by kernel_rfl) (by kernel_rfl) (by kernel_rfl) (by kernel_rfl) (by kernel_rfl), trivial⟩
    have h2_ := (if_neg b1_).symm.trans h0
    obtain rfl := Option.some.inj h2_
    exact ⟨step_pc 3000 (bF 1 []) [] [c_n b1_] [] _ rfl (by kernel_rfl) (by kernel_rfl) (by kernel_rfl) (by kernel_rfl) (by kernel_rfl) (by kernel_rfl), by kernel_rfl, by kernel_rfl⟩
  | .next (_ + 4) _, _, h => by cases h
  | .out _ _, _, h => by cases h
theorem axial_L7_3_go (ka : Nat) (ca : List D) (kb : Nat) (cb : List D) (x0 : Nat) (x1 : List D) (x2 : Nat) (x3 : List D) {q : Nat} {ds : List D} {j : Nat} {es : List D} (h : runR (axial_L7_3_S ka ca kb cb x0 x1 x2 x3) (.next q ds) = some (.out j es)) : Runs (ctx [44, 67] axial_sp) Tabs axial_L7_3_A (stateOf (axial_L7_3_gs ka ca kb cb x0 x1 x2 x3 (.next q ds))) (stateOf (axial_L7_3_gs ka ca kb cb x0 x1 x2 x3 (.out j es))) (axial_L7_3_ax (.out j es)) ∧ (nxtOf (axial_L7_3_gs ka ca kb cb x0 x1 x2 x3 (.out j es)), lowGS (axial_L7_3_gs ka ca kb cb x0 x1 x2 x3 (.out j es))) = (axial_L7_3_A.nx, axial_L7_3_A.low) :=
  runs_of' (good true _ _) axial_L7_3_ok (ax := axial_L7_3_ax) (fun _ _ => rfl) (fun _ _ => axOf_end _) (axial_L7_3_S_ok ka ca kb cb x0 x1 x2 x3) h
theorem axial_L7_3_in0 (ka : Nat) (ca : List D) (kb : Nat) (cb : List D) (x0 : Nat) (x1 : List D) (x2 : Nat) (x3 : List D) {es : List D} (h : runR (axial_L7_3_S ka ca kb cb x0 x1 x2 x3) (.next 2 [iD ((0 : Int)), .list (x2) (x3), .one (.tuple #[])]) = some (.out 0 es)) : LoopC (loopAt Try.prog 44 1) (axial_L7_3_E ka ca kb cb x0 x1 x2 x3) 37 noFrame axial_x7_0 es :=
  have r := axial_L7_3_go ka ca kb cb x0 x1 x2 x3 h
  loopin_as rfl (loop_in (l := axial_L7_3_A) (E := (axial_L7_3_E ka ca kb cb x0 x1 x2 x3)) (S := stateOf (axial_L7_3_gs ka ca kb cb x0 x1 x2 x3 (.next 2 [iD ((0 : Int)), .list (x2) (x3), .one (.tuple #[])]))) (ns := nsOf (axial_L7_3_gs ka ca kb cb x0 x1 x2 x3 (.next 2 [iD ((0 : Int)), .list (x2) (x3), .one (.tuple #[])]))) axial_L7_3_ok r.1 r.2 (by kernel_rfl) (by kernel_rfl) (by kernel_rfl) (by kernel_rfl))
theorem axial_L7_3_in1 (ka : Nat) (ca : List D) (kb : Nat) (cb : List D) (x0 : Nat) (x1 : List D) (x2 : Nat) (x3 : List D) {es : List D} (h : runR (axial_L7_3_S ka ca kb cb x0 x1 x2 x3) (.next 2 [iD ((0 : Int)), .list (x2) (x3), .one (.tuple #[])]) = some (.out 1 es)) : LoopC (loopAt Try.prog 44 1) (axial_L7_3_E ka ca kb cb x0 x1 x2 x3) 37 noFrame axial_x7_1 es :=
  have r := axial_L7_3_go ka ca kb cb x0 x1 x2 x3 h
  loopin_as rfl (loop_in (l := axial_L7_3_A) (E := (axial_L7_3_E ka ca kb cb x0 x1 x2 x3)) (S := stateOf (axial_L7_3_gs ka ca kb cb x0 x1 x2 x3 (.next 2 [iD ((0 : Int)), .list (x2) (x3), .one (.tuple #[])]))) (ns := nsOf (axial_L7_3_gs ka ca kb cb x0 x1 x2 x3 (.next 2 [iD ((0 : Int)), .list (x2) (x3), .one (.tuple #[])]))) axial_L7_3_ok r.1 r.2 (by kernel_rfl) (by kernel_rfl) (by kernel_rfl) (by kernel_rfl))
theorem axial_L7_3_in2 (ka : Nat) (ca : List D) (kb : Nat) (cb : List D) (x0 : Nat) (x1 : List D) (x2 : Nat) (x3 : List D) {es : List D} (h : runR (axial_L7_3_S ka ca kb cb x0 x1 x2 x3) (.next 2 [iD ((0 : Int)), .list (x2) (x3), .one (.tuple #[])]) = some (.out 2 es)) : LoopC (loopAt Try.prog 44 1) (axial_L7_3_E ka ca kb cb x0 x1 x2 x3) 37 noFrame axial_x7_2 es :=
  have r := axial_L7_3_go ka ca kb cb x0 x1 x2 x3 h
  loopin_as rfl (loop_in (l := axial_L7_3_A) (E := (axial_L7_3_E ka ca kb cb x0 x1 x2 x3)) (S := stateOf (axial_L7_3_gs ka ca kb cb x0 x1 x2 x3 (.next 2 [iD ((0 : Int)), .list (x2) (x3), .one (.tuple #[])]))) (ns := nsOf (axial_L7_3_gs ka ca kb cb x0 x1 x2 x3 (.next 2 [iD ((0 : Int)), .list (x2) (x3), .one (.tuple #[])]))) axial_L7_3_ok r.1 r.2 (by kernel_rfl) (by kernel_rfl) (by kernel_rfl) (by kernel_rfl))
theorem axial_L7_3_in3 (ka : Nat) (ca : List D) (kb : Nat) (cb : List D) (x0 : Nat) (x1 : List D) (x2 : Nat) (x3 : List D) {es : List D} (h : runR (axial_L7_3_S ka ca kb cb x0 x1 x2 x3) (.next 2 [iD ((0 : Int)), .list (x2) (x3), .one (.tuple #[])]) = some (.out 3 es)) : LoopC (loopAt Try.prog 44 1) (axial_L7_3_E ka ca kb cb x0 x1 x2 x3) 37 noFrame axial_x7_3 es :=
  have r := axial_L7_3_go ka ca kb cb x0 x1 x2 x3 h
  loopin_as rfl (loop_in (l := axial_L7_3_A) (E := (axial_L7_3_E ka ca kb cb x0 x1 x2 x3)) (S := stateOf (axial_L7_3_gs ka ca kb cb x0 x1 x2 x3 (.next 2 [iD ((0 : Int)), .list (x2) (x3), .one (.tuple #[])]))) (ns := nsOf (axial_L7_3_gs ka ca kb cb x0 x1 x2 x3 (.next 2 [iD ((0 : Int)), .list (x2) (x3), .one (.tuple #[])]))) axial_L7_3_ok r.1 r.2 (by kernel_rfl) (by kernel_rfl) (by kernel_rfl) (by kernel_rfl))
def axial_L7_2_E (ka : Nat) (ca : List D) (kb : Nat) (cb : List D) (x0 : Nat) (x1 : List D) (x2 : Nat) (x3 : List D) : List AV × AHeap := ([.agg [.dsl 0, .dsl 1], .ptr 2 0, .ptr 3 0, .ptr 4 0, .dsl 5, .pure (.int .i64 (1 : Int)), .dsl 1, .any 9, .any 10, .agg [.dsl 0, .dsl 1], .dsl 5, .agg [.dsl 0, .dsl 1], .agg [.dsl 0, .dsl 1], .pure (.int .i64 (1 : Int)), .pure (.bool true), .pure (.int .i64 (1 : Int)), .dsl 1, .dsl 1, .pure (.int .i64 (kb : Int)), .pure (.int .i64 (0 : Int)), .any 12, .any 13, .any 14, .any 15, .any 16, .any 17, .any 18, .any 19, .any 20, .any 21, .any 22, .any 23, .any 24, .any 25, .any 26, .any 27, .any 28, .any 29, .any 30, .any 31, .any 32, .any 33, .any 34, .any 35, .pure (.int .i64 (1 : Int)), .pure (.tuple #[])], [(8, { cells := [], opn := some 1, kind := .big x3 }), (7, { cells := [.dsl 0, .dsl 1], opn := none, kind := .cells }), (6, { cells := [.dsl 0, .dsl 1], opn := none, kind := .cells }), (5, { cells := [], opn := none, kind := .deep x0 x1 }), (4, { cells := [.pure (.slice none 0 0), .bslx 8 0 x2 0], opn := none, kind := .cells }), (3, { cells := [.pure (.slice none 0 0), .pure (.slice none 0 0)], opn := none, kind := .cells }), (2, { cells := [.dsl 0, .dsl 1], opn := none, kind := .cells }), (1, { cells := [], opn := none, kind := .deep kb cb }), (0, { cells := [], opn := none, kind := .deep ka ca })])
def axial_L7_2_A : LoopAt := ⟨44, loopAt Try.prog 44 1, 37, 66, 4, noFrame⟩
theorem axial_L7_2_ok : (axial_L7_2_A).OK := ⟨by show 37 ≤ 66; decide, by show 4 ≤ 37; decide, by kernel_rfl, rfl⟩
def axial_L7_2_gs (ka : Nat) (ca : List D) (kb : Nat) (cb : List D) (x0 : Nat) (x1 : List D) (x2 : Nat) (x3 : List D) : Go.Ev.Rd → Option GS
  | .next 0 ds => ghost [.val 19, .cgrow 3 0 1, .cgrow 3 1 1] (7 :: (8 :: (List.range' 20 24))) (axial_L7_2_E ka ca kb cb x0 x1 x2 x3).1 (axial_L7_2_E ka ca kb cb x0 x1 x2 x3).2 37 ds
  | .next 1 ds => ghost [.val 19, .cnil 3 0, .cgrow 3 1 1] (7 :: (8 :: (List.range' 20 24))) (axial_L7_2_E ka ca kb cb x0 x1 x2 x3).1 (axial_L7_2_E ka ca kb cb x0 x1 x2 x3).2 37 ds
  | .next 2 ds => ghost [.val 19, .cgrow 3 0 1, .cnil 3 1] (7 :: (8 :: (List.range' 20 24))) (axial_L7_2_E ka ca kb cb x0 x1 x2 x3).1 (axial_L7_2_E ka ca kb cb x0 x1 x2 x3).2 37 ds
  | .next 3 ds => ghost [.val 19, .cnil 3 0, .cnil 3 1] (7 :: (8 :: (List.range' 20 24))) (axial_L7_2_E ka ca kb cb x0 x1 x2 x3).1 (axial_L7_2_E ka ca kb cb x0 x1 x2 x3).2 37 ds
  | .out 0 ds => ghost axial_x7_0.live axial_x7_0.junk (axial_L7_2_E ka ca kb cb x0 x1 x2 x3).1 (axial_L7_2_E ka ca kb cb x0 x1 x2 x3).2 37 ds
  | .out 1 ds => ghost axial_x7_1.live axial_x7_1.junk (axial_L7_2_E ka ca kb cb x0 x1 x2 x3).1 (axial_L7_2_E ka ca kb cb x0 x1 x2 x3).2 37 ds
  | .out 2 ds => ghost axial_x7_2.live axial_x7_2.junk (axial_L7_2_E ka ca kb cb x0 x1 x2 x3).1 (axial_L7_2_E ka ca kb cb x0 x1 x2 x3).2 37 ds
  | .out 3 ds => ghost axial_x7_3.live axial_x7_3.junk (axial_L7_2_E ka ca kb cb x0 x1 x2 x3).1 (axial_L7_2_E ka ca kb cb x0 x1 x2 x3).2 37 ds
  | _ => none
def axial_L7_2_ex : Nat → Option Nat
  | 0 => axial_x7_0.ex
  | 1 => axial_x7_1.ex
  | 2 => axial_x7_2.ex
  | 3 => axial_x7_3.ex
  | _ => none
def axial_L7_2_ax : Go.Ev.Rd → AX
  | .next _ _ => .normal
  | .out j _ => axOf (axial_L7_2_ex j)
def axial_L7_2_S0 (ka : Nat) (ca : List D) (kb : Nat) (cb : List D) (x0 : Nat) (x1 : List D) (x2 : Nat) (x3 : List D) (ds : List D) : Option Go.Ev.Rd := pullD (α := Int × Nat × (List D) × Nat × (List D)) (some (.tup ds)) (fun d => ((D.vi (D.at d 0)), (D.ln (D.at d 1)), (D.lc (D.at d 1)), (D.ln (D.at d 2)), (D.lc (D.at d 2)))) (fun (s19, s3_0n, s3_0c, s3_1n, s3_1c) => .tup [iD s19, .list s3_0n s3_0c, .list s3_1n s3_1c]) fun (s19, s3_0n, s3_0c, s3_1n, s3_1c) => ((if s19 < (kb : Int) then guardP ((0 : Int) ≤ s19 ∧ s19.toNat < kb) (pullD (α := Int) (readD cb (s19.toNat * 1) 1 false) (fun d => ((D.vi d))) (fun v0 => iD v0) fun v0 => (guardP ((0 : Int) ≤ s19 ∧ s19.toNat < x0) (pullD (α := Int) (readD x1 (s19.toNat * 1) 1 false) (fun d => ((D.vi d))) (fun v1 => iD v1) fun v1 => (guardP ((0 : Int) ≤ IntKind.i64.wrap (s19 + (1 : Int)) ∧ (IntKind.i64.wrap (s19 + (1 : Int))).toNat < x0) (pullD (α := Int) (readD x1 ((IntKind.i64.wrap (s19 + (1 : Int))).toNat * 1) 1 false) (fun d => ((D.vi d))) (fun v2 => iD v2) fun v2 => (guardP ((∀ (u : D), u ∈ [dCell (.int .i64 (IntKind.i64.wrap (v0 * IntKind.i64.wrap (v1 + v2))))] → cellD u) ∧ s3_1n * 1 ≤ s3_1c.length ∧ (s3_1n + (0 + 1)) * 8 ≤ 140737488355328 ∧ s3_1n + (0 + 1) ≤ 4611686018427387904) (some (.next 0 [iD (IntKind.i64.wrap (s19 + (1 : Int))), .list s3_0n s3_0c, .list (s3_1n + (0 + 1)) (List.append (List.take (s3_1n * 1) s3_1c) [dCell (.int .i64 (IntKind.i64.wrap (v0 * IntKind.i64.wrap (v1 + v2))))])])))))))) else some (.out 0 [.list s3_0n s3_0c, .list s3_1n s3_1c])))
def axial_L7_2_S1 (ka : Nat) (ca : List D) (kb : Nat) (cb : List D) (x0 : Nat) (x1 : List D) (x2 : Nat) (x3 : List D) (ds : List D) : Option Go.Ev.Rd := pullD (α := Int × Nat × (List D)) (some (.tup ds)) (fun d => ((D.vi (D.at d 0)), (D.ln (D.at d 2)), (D.lc (D.at d 2)))) (fun (s19, s3_1n, s3_1c) => .tup [iD s19, .one (.tuple #[]), .list s3_1n s3_1c]) fun (s19, s3_1n, s3_1c) => ((if s19 < (kb : Int) then guardP ((0 : Int) ≤ s19 ∧ s19.toNat < kb) (pullD (α := Int) (readD cb (s19.toNat * 1) 1 false) (fun d => ((D.vi d))) (fun v0 => iD v0) fun v0 => (guardP ((0 : Int) ≤ s19 ∧ s19.toNat < x0) (pullD (α := Int) (readD x1 (s19.toNat * 1) 1 false) (fun d => ((D.vi d))) (fun v1 => iD v1) fun v1 => (guardP ((0 : Int) ≤ IntKind.i64.wrap (s19 + (1 : Int)) ∧ (IntKind.i64.wrap (s19 + (1 : Int))).toNat < x0) (pullD (α := Int) (readD x1 ((IntKind.i64.wrap (s19 + (1 : Int))).toNat * 1) 1 false) (fun d => ((D.vi d))) (fun v2 => iD v2) fun v2 => (guardP ((∀ (u : D), u ∈ [dCell (.int .i64 (IntKind.i64.wrap (v0 * IntKind.i64.wrap (v1 + v2))))] → cellD u) ∧ s3_1n * 1 ≤ s3_1c.length ∧ (s3_1n + (0 + 1)) * 8 ≤ 140737488355328 ∧ s3_1n + (0 + 1) ≤ 4611686018427387904) (some (.next 1 [iD (IntKind.i64.wrap (s19 + (1 : Int))), .one (.tuple #[]), .list (s3_1n + (0 + 1)) (List.append (List.take (s3_1n * 1) s3_1c) [dCell (.int .i64 (IntKind.i64.wrap (v0 * IntKind.i64.wrap (v1 + v2))))])])))))))) else some (.out 1 [.one (.tuple #[]), .list s3_1n s3_1c])))
def axial_L7_2_S2 (ka : Nat) (ca : List D) (kb : Nat) (cb : List D) (x0 : Nat) (x1 : List D) (x2 : Nat) (x3 : List D) (ds : List D) : Option Go.Ev.Rd := pullD (α := Int × Nat × (List D)) (some (.tup ds)) (fun d => ((D.vi (D.at d 0)), (D.ln (D.at d 1)), (D.lc (D.at d 1)))) (fun (s19, s3_0n, s3_0c) => .tup [iD s19, .list s3_0n s3_0c, .one (.tuple #[])]) fun (s19, s3_0n, s3_0c) => ((if s19 < (kb : Int) then guardP ((0 : Int) ≤ s19 ∧ s19.toNat < kb) (pullD (α := Int) (readD cb (s19.toNat * 1) 1 false) (fun d => ((D.vi d))) (fun v0 => iD v0) fun v0 => (guardP ((0 : Int) ≤ s19 ∧ s19.toNat < x0) (pullD (α := Int) (readD x1 (s19.toNat * 1) 1 false) (fun d => ((D.vi d))) (fun v1 => iD v1) fun v1 => (guardP ((0 : Int) ≤ IntKind.i64.wrap (s19 + (1 : Int)) ∧ (IntKind.i64.wrap (s19 + (1 : Int))).toNat < x0) (pullD (α := Int) (readD x1 ((IntKind.i64.wrap (s19 + (1 : Int))).toNat * 1) 1 false) (fun d => ((D.vi d))) (fun v2 => iD v2) fun v2 => (some (.next 0 [iD (IntKind.i64.wrap (s19 + (1 : Int))), .list s3_0n s3_0c, .list 1 [iD (IntKind.i64.wrap (v0 * IntKind.i64.wrap (v1 + v2)))]]))))))) else some (.out 2 [.list s3_0n s3_0c, .one (.tuple #[])])))
def axial_L7_2_S3 (ka : Nat) (ca : List D) (kb : Nat) (cb : List D) (x0 : Nat) (x1 : List D) (x2 : Nat) (x3 : List D) (ds : List D) : Option Go.Ev.Rd := pullD (α := Int) (some (.tup ds)) (fun d => ((D.vi (D.at d 0)))) (fun s19 => .tup [iD s19, .one (.tuple #[]), .one (.tuple #[])]) fun s19 => ((if s19 < (kb : Int) then guardP ((0 : Int) ≤ s19 ∧ s19.toNat < kb) (pullD (α := Int) (readD cb (s19.toNat * 1) 1 false) (fun d => ((D.vi d))) (fun v0 => iD v0) fun v0 => (guardP ((0 : Int) ≤ s19 ∧ s19.toNat < x0) (pullD (α := Int) (readD x1 (s19.toNat * 1) 1 false) (fun d => ((D.vi d))) (fun v1 => iD v1) fun v1 => (guardP ((0 : Int) ≤ IntKind.i64.wrap (s19 + (1 : Int)) ∧ (IntKind.i64.wrap (s19 + (1 : Int))).toNat < x0) (pullD (α := Int) (readD x1 ((IntKind.i64.wrap (s19 + (1 : Int))).toNat * 1) 1 false) (fun d => ((D.vi d))) (fun v2 => iD v2) fun v2 => (some (.next 1 [iD (IntKind.i64.wrap (s19 + (1 : Int))), .one (.tuple #[]), .list 1 [iD (IntKind.i64.wrap (v0 * IntKind.i64.wrap (v1 + v2)))]]))))))) else some (.out 3 [.one (.tuple #[]), .one (.tuple #[])])))
def axial_L7_2_S (ka : Nat) (ca : List D) (kb : Nat) (cb : List D) (x0 : Nat) (x1 : List D) (x2 : Nat) (x3 : List D) : Go.Ev.Rd → Option Go.Ev.Rd
  | .next 0 ds => axial_L7_2_S0 ka ca kb cb x0 x1 x2 x3 ds
  | .next 1 ds => axial_L7_2_S1 ka ca kb cb x0 x1 x2 x3 ds
  | .next 2 ds => axial_L7_2_S2 ka ca kb cb x0 x1 x2 x3 ds
  | .next 3 ds => axial_L7_2_S3 ka ca kb cb x0 x1 x2 x3 ds
  | _ => none
theorem axial_L7_2_S_ok (ka : Nat) (ca : List D) (kb : Nat) (cb : List D) (x0 : Nat) (x1 : List D) (x2 : Nat) (x3 : List D) : ∀ s_ t_, axial_L7_2_S ka ca kb cb x0 x1 x2 x3 s_ = some t_ → Step (ctx [44, 67] axial_sp) Tabs axial_L7_2_A (stateOf (axial_L7_2_gs ka ca kb cb x0 x1 x2 x3 s_)) (stateOf (axial_L7_2_gs ka ca kb cb x0 x1 x2 x3 t_)) (axial_L7_2_ax t_) ∧ EndOK axial_L7_2_A.nx axial_L7_2_A.low (axial_L7_2_gs ka ca kb cb x0 x1 x2 x3) t_
  | .next 0 ds, t_, h => by
    have h_ : axial_L7_2_S0 ka ca kb cb x0 x1 x2 x3 ds = some t_ := h
    clear h
    unfold axial_L7_2_S0 at h_
    obtain ⟨⟨s19, s3_0n, s3_0c, s3_1n, s3_1c⟩, e0, h0⟩ := pullD_elim h_
    clear h_
    obtain rfl := tup_inj e0
    by_cases b1_ : s19 < (kb : Int)
    · have h2_ := (if_pos b1_).symm.trans h0
      obtain ⟨f3_, h4_⟩ := guardP_elim h2_
      obtain ⟨v0, f5_, h6_⟩ := pullD_elim h4_
      replace f5_ := readD_elim f5_
      obtain ⟨f7_, h8_⟩ := guardP_elim h6_
      obtain ⟨v1, f9_, h10_⟩ := pullD_elim h8_
      replace f9_ := readD_elim f9_
      obtain ⟨f11_, h12_⟩ := guardP_elim h10_
      obtain ⟨v2, f13_, h14_⟩ := pullD_elim h12_
      replace f13_ := readD_elim f13_
      obtain ⟨f15_, h16_⟩ := guardP_elim h14_
      obtain rfl := Option.some.inj h16_
      exact ⟨step_pc 3000 (bT 1 []) [iD v0, iD v1, iD v2] [c_d b1_, c_f f3_, c_f f5_, c_f f7_, c_f f9_, c_f f11_, c_f f13_, c_f f15_] [] _ rfl (by kernel_rfl) (by kernel_rfl) (by kernel_rfl) (by kernel_rfl) (by kernel_rfl) (by kernel_rfl), trivial⟩
    have h2_ := (if_neg b1_).symm.trans h0
    obtain rfl := Option.some.inj h2_
    exact ⟨step_pc 3000 (bF 1 []) [] [c_n b1_] [] _ rfl (by kernel_rfl) (by kernel_rfl) (by kernel_rfl) (by kernel_rfl) (by kernel_rfl) (by kernel_rfl), by kernel_rfl, by kernel_rfl⟩
  | .next 1 ds, t_, h => by
    have h_ : axial_L7_2_S1 ka ca kb cb x0 x1 x2 x3 ds = some t_ := h
    clear h
    unfold axial_L7_2_S1 at h_
    obtain ⟨⟨s19, s3_1n, s3_1c⟩, e0, h0⟩ := pullD_elim h_
    clear h_
    obtain rfl := tup_inj e0
    by_cases b1_ : s19 < (kb : Int)
    · have h2_ := (if_pos b1_).symm.trans h0
      obtain ⟨f3_, h4_⟩ := guardP_elim h2_
      obtain ⟨v0, f5_, h6_⟩ := pullD_elim h4_
      replace f5_ := readD_elim f5_
      obtain ⟨f7_, h8_⟩ := guardP_elim h6_
      obtain ⟨v1, f9_, h10_⟩ := pullD_elim h8_
      replace f9_ := readD_elim f9_
      obtain ⟨f11_, h12_⟩ := guardP_elim h10_
      obtain ⟨v2, f13_, h14_⟩ := pullD_elim h12_
      replace f13_ := readD_elim f13_
      obtain ⟨f15_, h16_⟩ := guardP_elim h14_
      obtain rfl := Option.some.inj h16_
      exact ⟨step_pc 3000 (bT 1 []) [iD v0, iD v1, iD v2] [c_d b1_, c_f f3_, c_f f5_, c_f f7_, c_f f9_, c_f f11_, c_f f13_, c_f f15_] [] _ rfl (by kernel_rfl) (by kernel_rfl) (by kernel_rfl) (by kernel_rfl) (by kernel_rfl) (by kernel_rfl), trivial⟩
    have h2_ := (if_neg b1_).symm.trans h0
    obtain rfl := Option.some.inj h2_
    exact ⟨step_pc 3000 (bF 1 []) [] [c_n b1_] [] _ rfl (by kernel_rfl) (by kernel_rfl) (by kernel_rfl) (by kernel_rfl) (by kernel_rfl) (by kernel_rfl), by kernel_rfl, by kernel_rfl⟩
  | .next 2 ds, t_, h => by
    have h_ : axial_L7_2_S2 ka ca kb cb x0 x1 x2 x3 ds = some t_ := h
    clear h
    unfold axial_L7_2_S2 at h_
    obtain ⟨⟨s19, s3_0n, s3_0c⟩, e0, h0⟩ := pullD_elim h_
    clear h_
    obtain rfl := tup_inj e0
    by_cases b1_ : s19 < (kb : Int)
    · have h2_ := (if_pos b1_).symm.trans h0
      obtain ⟨f3_, h4_⟩ := guardP_elim h2_
      obtain ⟨v0, f5_, h6_⟩ := pullD_elim h4_
      replace f5_ := readD_elim f5_
      obtain ⟨f7_, h8_⟩ := guardP_elim h6_
      obtain ⟨v1, f9_, h10_⟩ := pullD_elim h8_
      replace f9_ := readD_elim f9_
      obtain ⟨f11_, h12_⟩ := guardP_elim h10_
      obtain ⟨v2, f13_, h14_⟩ := pullD_elim h12_
      replace f13_ := readD_elim f13_
      obtain rfl := Option.some.inj h14_
      exact ⟨step_pc 3000 (bT 1 []) [iD v0, iD v1, iD v2] [c_d b1_, c_f f3_, c_f f5_, c_f f7_, c_f f9_, c_f f11_, c_f f13_, ⟨fact (0 < 0 + 1 ∧ (0 + 1) * 8 ≤ 140737488355328 ∧ 0 + 1 ≤ 4611686018427387904), true, fact_mk (by decide)⟩] [] _ rfl (by kernel_rfl) (by kernel_rfl) (by kernel_rfl) (by kernel_rfl) (by kernel_rfl) (by kernel_rfl), trivial⟩
    have h2_ := (if_neg b1_).symm.trans h0
    obtain rfl := Option.some.inj h2_
    exact ⟨step_pc 3000 (bF 1 []) [] [c_n b1_] [] _ rfl (by kernel_rfl) (by kernel_rfl) (by kernel_rfl) (by kernel_rfl) (by kernel_rfl) (by kernel_rfl), by kernel_rfl, by kernel_rfl⟩
  | .next 3 ds, t_, h => by
    have h_ : axial_L7_2_S3 ka ca kb cb x0 x1 x2 x3 ds = some t_ := h
    clear h
    unfold axial_L7_2_S3 at h_
    obtain ⟨s19, e0, h0⟩ := pullD_elim h_
    clear h_
    obtain rfl := tup_inj e0
    by_cases b1_ : s19 < (kb : Int)
    · have h2_ := (if_pos b1_).symm.trans h0
      obtain ⟨f3_, h4_⟩ := guardP_elim h2_
      obtain ⟨v0, f5_, h6_⟩ := pullD_elim h4_
      replace f5_ := readD_elim f5_
      obtain ⟨f7_, h8_⟩ := guardP_elim h6_
      obtain ⟨v1, f9_, h10_⟩ := pullD_elim h8_
      replace f9_ := readD_elim f9_
      obtain ⟨f11_, h12_⟩ := guardP_elim h10_
      obtain ⟨v2, f13_, h14_⟩ := pullD_elim h12_
      replace f13_ := readD_elim f13_
      obtain rfl := Option.some.inj h14_
      exact ⟨step_pc 3000 (bT 1 []) [iD v0, iD v1, iD v2] [c_d b1_, c_f f3_, c_f f5_, c_f f7_, c_f f9_, c_f f11_, c_f f13_, ⟨fact (0 < 0 + 1 ∧ (0 + 1) * 8 ≤ 140737488355328 ∧ 0 + 1 ≤ 4611686018427387904), true, fact_mk (by decide)⟩] [] _ rfl (by kernel_rfl) (by kernel_rfl) (by kernel_rfl) (by kernel_rfl) (by kernel_rfl) (by kernel_rfl), trivial⟩
    have h2_ := (if_neg b1_).symm.trans h0
    obtain rfl := Option.some.inj h2_
    exact ⟨step_pc 3000 (bF 1 []) [] [c_n b1_] [] _ rfl (by kernel_rfl) (by kernel_rfl) (by kernel_rfl) (by kernel_rfl) (by kernel_rfl) (by kernel_rfl), by kernel_rfl, by kernel_rfl⟩
  | .next (_ + 4) _, _, h => by cases h
  | .out _ _, _, h => by cases h
theorem axial_L7_2_go (ka : Nat) (ca : List D) (kb : Nat) (cb : List D) (x0 : Nat) (x1 : List D) (x2 : Nat) (x3 : List D) {q : Nat} {ds : List D} {j : Nat} {es : List D} (h : runR (axial_L7_2_S ka ca kb cb x0 x1 x2 x3) (.next q ds) = some (.out j es)) : Runs (ctx [44, 67] axial_sp) Tabs axial_L7_2_A (stateOf (axial_L7_2_gs ka ca kb cb x0 x1 x2 x3 (.next q ds))) (stateOf (axial_L7_2_gs ka ca kb cb x0 x1 x2 x3 (.out j es))) (axial_L7_2_ax (.out j es)) ∧ (nxtOf (axial_L7_2_gs ka ca kb cb x0 x1 x2 x3 (.out j es)), lowGS (axial_L7_2_gs ka ca kb cb x0 x1 x2 x3 (.out j es))) = (axial_L7_2_A.nx, axial_L7_2_A.low) :=
  runs_of' (good true _ _) axial_L7_2_ok (ax := axial_L7_2_ax) (fun _ _ => rfl) (fun _ _ => axOf_end _) (axial_L7_2_S_ok ka ca kb cb x0 x1 x2 x3) h
theorem axial_L7_2_in0 (ka : Nat) (ca : List D) (kb : Nat) (cb : List D) (x0 : Nat) (x1 : List D) (x2 : Nat) (x3 : List D) {es : List D} (h : runR (axial_L7_2_S ka ca kb cb x0 x1 x2 x3) (.next 1 [iD ((0 : Int)), .one (.tuple #[]), .list (x2) (x3)]) = some (.out 0 es)) : LoopC (loopAt Try.prog 44 1) (axial_L7_2_E ka ca kb cb x0 x1 x2 x3) 37 noFrame axial_x7_0 es :=
  have r := axial_L7_2_go ka ca kb cb x0 x1 x2 x3 h
  loopin_as rfl (loop_in (l := axial_L7_2_A) (E := (axial_L7_2_E ka ca kb cb x0 x1 x2 x3)) (S := stateOf (axial_L7_2_gs ka ca kb cb x0 x1 x2 x3 (.next 1 [iD ((0 : Int)), .one (.tuple #[]), .list (x2) (x3)]))) (ns := nsOf (axial_L7_2_gs ka ca kb cb x0 x1 x2 x3 (.next 1 [iD ((0 : Int)), .one (.tuple #[]), .list (x2) (x3)]))) axial_L7_2_ok r.1 r.2 (by kernel_rfl) (by kernel_rfl) (by kernel_rfl) (by kernel_rfl))
theorem axial_L7_2_in1 (ka : Nat) (ca : List D) (kb : Nat) (cb : List D) (x0 : Nat) (x1 : List D) (x2 : Nat) (x3 : List D) {es : List D} (h : runR (axial_L7_2_S ka ca kb cb x0 x1 x2 x3) (.next 1 [iD ((0 : Int)), .one (.tuple #[]), .list (x2) (x3)]) = some (.out 1 es)) : LoopC (loopAt Try.prog 44 1) (axial_L7_2_E ka ca kb cb x0 x1 x2 x3) 37 noFrame axial_x7_1 es :=
  have r := axial_L7_2_go ka ca kb cb x0 x1 x2 x3 h
  loopin_as rfl (loop_in (l := axial_L7_2_A) (E := (axial_L7_2_E ka ca kb cb x0 x1 x2 x3)) (S := stateOf (axial_L7_2_gs ka ca kb cb x0 x1 x2 x3 (.next 1 [iD ((0 : Int)), .one (.tuple #[]), .list (x2) (x3)]))) (ns := nsOf (axial_L7_2_gs ka ca kb cb x0 x1 x2 x3 (.next 1 [iD ((0 : Int)), .one (.tuple #[]), .list (x2) (x3)]))) axial_L7_2_ok r.1 r.2 (by kernel_rfl) (by kernel_rfl) (by kernel_rfl) (by kernel_rfl))
theorem axial_L7_2_in2 (ka : Nat) (ca : List D) (kb : Nat) (cb : List D) (x0 : Nat) (x1 : List D) (x2 : Nat) (x3 : List D) {es : List D} (h : runR (axial_L7_2_S ka ca kb cb x0 x1 x2 x3) (.next 1 [iD ((0 : Int)), .one (.tuple #[]), .list (x2) (x3)]) = some (.out 2 es)) : LoopC (loopAt Try.prog 44 1) (axial_L7_2_E ka ca kb cb x0 x1 x2 x3) 37 noFrame axial_x7_2 es :=
  have r := axial_L7_2_go ka ca kb cb x0 x1 x2 x3 h
  loopin_as rfl (loop_in (l := axial_L7_2_A) (E := (axial_L7_2_E ka ca kb cb x0 x1 x2 x3)) (S := stateOf (axial_L7_2_gs ka ca kb cb x0 x1 x2 x3 (.next 1 [iD ((0 : Int)), .one (.tuple #[]), .list (x2) (x3)]))) (ns := nsOf (axial_L7_2_gs ka ca kb cb x0 x1 x2 x3 (.next 1 [iD ((0 : Int)), .one (.tuple #[]), .list (x2) (x3)]))) axial_L7_2_ok r.1 r.2 (by kernel_rfl) (by kernel_rfl) (by kernel_rfl) (by kernel_rfl))
theorem axial_L7_2_in3 (ka : Nat) (ca : List D) (kb : Nat) (cb : List D) (x0 : Nat) (x1 : List D) (x2 : Nat) (x3 : List D) {es : List D} (h : runR (axial_L7_2_S ka ca kb cb x0 x1 x2 x3) (.next 1 [iD ((0 : Int)), .one (.tuple #[]), .list (x2) (x3)]) = some (.out 3 es)) : LoopC (loopAt Try.prog 44 1) (axial_L7_2_E ka ca kb cb x0 x1 x2 x3) 37 noFrame axial_x7_3 es :=
  have r := axial_L7_2_go ka ca kb cb x0 x1 x2 x3 h
  loopin_as rfl (loop_in (l := axial_L7_2_A) (E := (axial_L7_2_E ka ca kb cb x0 x1 x2 x3)) (S := stateOf (axial_L7_2_gs ka ca kb cb x0 x1 x2 x3 (.next 1 [iD ((0 : Int)), .one (.tuple #[]), .list (x2) (x3)]))) (ns := nsOf (axial_L7_2_gs ka ca kb cb x0 x1 x2 x3 (.next 1 [iD ((0 : Int)), .one (.tuple #[]), .list (x2) (x3)]))) axial_L7_2_ok r.1 r.2 (by kernel_rfl) (by kernel_rfl) (by kernel_rfl) (by kernel_rfl))
def axial_L7_1_E (ka : Nat) (ca : List D) (kb : Nat) (cb : List D) (x0 : Nat) (x1 : List D) (x2 : Nat) (x3 : List D) (x4 : Nat) (x5 : List D) : List AV × AHeap := ([.agg [.dsl 0, .dsl 1], .ptr 2 0, .ptr 3 0, .ptr 4 0, .dsl 5, .pure (.int .i64 (1 : Int)), .dsl 1, .any 10, .any 11, .agg [.dsl 0, .dsl 1], .dsl 5, .agg [.dsl 0, .dsl 1], .agg [.dsl 0, .dsl 1], .pure (.int .i64 (1 : Int)), .pure (.bool true), .pure (.int .i64 (1 : Int)), .dsl 1, .dsl 1, .pure (.int .i64 (kb : Int)), .pure (.int .i64 (0 : Int)), .any 13, .any 14, .any 15, .any 16, .any 17, .any 18, .any 19, .any 20, .any 21, .any 22, .any 23, .any 24, .any 25, .any 26, .any 27, .any 28, .any 29, .any 30, .any 31, .any 32, .any 33, .any 34, .any 35, .any 36, .pure (.int .i64 (1 : Int)), .pure (.tuple #[])], [(9, { cells := [], opn := some 1, kind := .big x5 }), (8, { cells := [], opn := some 1, kind := .big x3 }), (7, { cells := [.dsl 0, .dsl 1], opn := none, kind := .cells }), (6, { cells := [.dsl 0, .dsl 1], opn := none, kind := .cells }), (5, { cells := [], opn := none, kind := .deep x0 x1 }), (4, { cells := [.bslx 8 0 x2 0, .bslx 9 0 x4 0], opn := none, kind := .cells }), (3, { cells := [.pure (.slice none 0 0), .pure (.slice none 0 0)], opn := none, kind := .cells }), (2, { cells := [.dsl 0, .dsl 1], opn := none, kind := .cells }), (1, { cells := [], opn := none, kind := .deep kb cb }), (0, { cells := [], opn := none, kind := .deep ka ca })])
def axial_L7_1_A : LoopAt := ⟨44, loopAt Try.prog 44 1, 37, 66, 4, noFrame⟩
theorem axial_L7_1_ok : (axial_L7_1_A).OK := ⟨by show 37 ≤ 66; decide, by show 4 ≤ 37; decide, by kernel_rfl, rfl⟩
def axial_L7_1_gs (ka : Nat) (ca : List D) (kb : Nat) (cb : List D) (x0 : Nat) (x1 : List D) (x2 : Nat) (x3 : List D) (x4 : Nat) (x5 : List D) : Go.Ev.Rd → Option GS
  | .next 0 ds => ghost [.val 19, .cgrow 3 0 1, .cgrow 3 1 1] (7 :: (8 :: (List.range' 20 24))) (axial_L7_1_E ka ca kb cb x0 x1 x2 x3 x4 x5).1 (axial_L7_1_E ka ca kb cb x0 x1 x2 x3 x4 x5).2 37 ds
  | .next 1 ds => ghost [.val 19, .cnil 3 0, .cgrow 3 1 1] (7 :: (8 :: (List.range' 20 24))) (axial_L7_1_E ka ca kb cb x0 x1 x2 x3 x4 x5).1 (axial_L7_1_E ka ca kb cb x0 x1 x2 x3 x4 x5).2 37 ds
  | .next 2 ds => ghost [.val 19, .cgrow 3 0 1, .cnil 3 1] (7 :: (8 :: (List.range' 20 24))) (axial_L7_1_E ka ca kb cb x0 x1 x2 x3 x4 x5).1 (axial_L7_1_E ka ca kb cb x0 x1 x2 x3 x4 x5).2 37 ds
  | .next 3 ds => ghost [.val 19, .cnil 3 0, .cnil 3 1] (7 :: (8 :: (List.range' 20 24))) (axial_L7_1_E ka ca kb cb x0 x1 x2 x3 x4 x5).1 (axial_L7_1_E ka ca kb cb x0 x1 x2 x3 x4 x5).2 37 ds
  | .out 0 ds => ghost axial_x7_0.live axial_x7_0.junk (axial_L7_1_E ka ca kb cb x0 x1 x2 x3 x4 x5).1 (axial_L7_1_E ka ca kb cb x0 x1 x2 x3 x4 x5).2 37 ds
  | .out 1 ds => ghost axial_x7_1.live axial_x7_1.junk (axial_L7_1_E ka ca kb cb x0 x1 x2 x3 x4 x5).1 (axial_L7_1_E ka ca kb cb x0 x1 x2 x3 x4 x5).2 37 ds
  | .out 2 ds => ghost axial_x7_2.live axial_x7_2.junk (axial_L7_1_E ka ca kb cb x0 x1 x2 x3 x4 x5).1 (axial_L7_1_E ka ca kb cb x0 x1 x2 x3 x4 x5).2 37 ds
  | .out 3 ds => ghost axial_x7_3.live axial_x7_3.junk (axial_L7_1_E ka ca kb cb x0 x1 x2 x3 x4 x5).1 (axial_L7_1_E ka ca kb cb x0 x1 x2 x3 x4 x5).2 37 ds
  | _ => none
def axial_L7_1_ex : Nat → Option Nat
  | 0 => axial_x7_0.ex
  | 1 => axial_x7_1.ex
  | 2 => axial_x7_2.ex
  | 3 => axial_x7_3.ex
  | _ => none
def axial_L7_1_ax : Go.Ev.Rd → AX
  | .next _ _ => .normal
  | .out j _ => axOf (axial_L7_1_ex j)
def axial_L7_1_S0 (ka : Nat) (ca : List D) (kb : Nat) (cb : List D) (x0 : Nat) (x1 : List D) (x2 : Nat) (x3 : List D) (x4 : Nat) (x5 : List D) (ds : List D) : Option Go.Ev.Rd := pullD (α := Int × Nat × (List D) × Nat × (List D)) (some (.tup ds)) (fun d => ((D.vi (D.at d 0)), (D.ln (D.at d 1)), (D.lc (D.at d 1)), (D.ln (D.at d 2)), (D.lc (D.at d 2)))) (fun (s19, s3_0n, s3_0c, s3_1n, s3_1c) => .tup [iD s19, .list s3_0n s3_0c, .list s3_1n s3_1c]) fun (s19, s3_0n, s3_0c, s3_1n, s3_1c) => ((if s19 < (kb : Int) then guardP ((0 : Int) ≤ s19 ∧ s19.toNat < kb) (pullD (α := Int) (readD cb (s19.toNat * 1) 1 false) (fun d => ((D.vi d))) (fun v0 => iD v0) fun v0 => (guardP ((0 : Int) ≤ s19 ∧ s19.toNat < x0) (pullD (α := Int) (readD x1 (s19.toNat * 1) 1 false) (fun d => ((D.vi d))) (fun v1 => iD v1) fun v1 => (guardP ((0 : Int) ≤ IntKind.i64.wrap (s19 + (1 : Int)) ∧ (IntKind.i64.wrap (s19 + (1 : Int))).toNat < x0) (pullD (α := Int) (readD x1 ((IntKind.i64.wrap (s19 + (1 : Int))).toNat * 1) 1 false) (fun d => ((D.vi d))) (fun v2 => iD v2) fun v2 => (guardP ((∀ (u : D), u ∈ [dCell (.int .i64 (IntKind.i64.wrap (v0 * IntKind.i64.wrap (v1 + v2))))] → cellD u) ∧ s3_1n * 1 ≤ s3_1c.length ∧ (s3_1n + (0 + 1)) * 8 ≤ 140737488355328 ∧ s3_1n + (0 + 1) ≤ 4611686018427387904) (some (.next 0 [iD (IntKind.i64.wrap (s19 + (1 : Int))), .list s3_0n s3_0c, .list (s3_1n + (0 + 1)) (List.append (List.take (s3_1n * 1) s3_1c) [dCell (.int .i64 (IntKind.i64.wrap (v0 * IntKind.i64.wrap (v1 + v2))))])])))))))) else some (.out 0 [.list s3_0n s3_0c, .list s3_1n s3_1c])))
def axial_L7_1_S1 (ka : Nat) (ca : List D) (kb : Nat) (cb : List D) (x0 : Nat) (x1 : List D) (x2 : Nat) (x3 : List D) (x4 : Nat) (x5 : List D) (ds : List D) : Option Go.Ev.Rd := pullD (α := Int × Nat × (List D)) (some (.tup ds)) (fun d => ((D.vi (D.at d 0)), (D.ln (D.at d 2)), (D.lc (D.at d 2)))) (fun (s19, s3_1n, s3_1c) => .tup [iD s19, .one (.tuple #[]), .list s3_1n s3_1c]) fun (s19, s3_1n, s3_1c) => ((if s19 < (kb : Int) then guardP ((0 : Int) ≤ s19 ∧ s19.toNat < kb) (pullD (α := Int) (readD cb (s19.toNat * 1) 1 false) (fun d => ((D.vi d))) (fun v0 => iD v0) fun v0 => (guardP ((0 : Int) ≤ s19 ∧ s19.toNat < x0) (pullD (α := Int) (readD x1 (s19.toNat * 1) 1 false) (fun d => ((D.vi d))) (fun v1 => iD v1) fun v1 => (guardP ((0 : Int) ≤ IntKind.i64.wrap (s19 + (1 : Int)) ∧ (IntKind.i64.wrap (s19 + (1 : Int))).toNat < x0) (pullD (α := Int) (readD x1 ((IntKind.i64.wrap (s19 + (1 : Int))).toNat * 1) 1 false) (fun d => ((D.vi d))) (fun v2 => iD v2) fun v2 => (guardP ((∀ (u : D), u ∈ [dCell (.int .i64 (IntKind.i64.wrap (v0 * IntKind.i64.wrap (v1 + v2))))] → cellD u) ∧ s3_1n * 1 ≤ s3_1c.length ∧ (s3_1n + (0 + 1)) * 8 ≤ 140737488355328 ∧ s3_1n + (0 + 1) ≤ 4611686018427387904) (some (.next 1 [iD (IntKind.i64.wrap (s19 + (1 : Int))), .one (.tuple #[]), .list (s3_1n + (0 + 1)) (List.append (List.take (s3_1n * 1) s3_1c) [dCell (.int .i64 (IntKind.i64.wrap (v0 * IntKind.i64.wrap (v1 + v2))))])])))))))) else some (.out 1 [.one (.tuple #[]), .list s3_1n s3_1c])))
def axial_L7_1_S2 (ka : Nat) (ca : List D) (kb : Nat) (cb : List D) (x0 : Nat) (x1 : List D) (x2 : Nat) (x3 : List D) (x4 : Nat) (x5 : List D) (ds : List D) : Option Go.Ev.Rd := pullD (α := Int × Nat × (List D)) (some (.tup ds)) (fun d => ((D.vi (D.at d 0)), (D.ln (D.at d 1)), (D.lc (D.at d 1)))) (fun (s19, s3_0n, s3_0c) => .tup [iD s19, .list s3_0n s3_0c, .one (.tuple #[])]) fun (s19, s3_0n, s3_0c) => ((if s19 < (kb : Int) then guardP ((0 : Int) ≤ s19 ∧ s19.toNat < kb) (pullD (α := Int) (readD cb (s19.toNat * 1) 1 false) (fun d => ((D.vi d))) (fun v0 => iD v0) fun v0 => (guardP ((0 : Int) ≤ s19 ∧ s19.toNat < x0) (pullD (α := Int) (readD x1 (s19.toNat * 1) 1 false) (fun d => ((D.vi d))) (fun v1 => iD v1) fun v1 => (guardP ((0 : Int) ≤ IntKind.i64.wrap (s19 + (1 : Int)) ∧ (IntKind.i64.wrap (s19 + (1 : Int))).toNat < x0) (pullD (α := Int) (readD x1 ((IntKind.i64.wrap (s19 + (1 : Int))).toNat * 1) 1 false) (fun d => ((D.vi d))) (fun v2 => iD v2) fun v2 => (some (.next 0 [iD (IntKind.i64.wrap (s19 + (1 : Int))), .list s3_0n s3_0c, .list 1 [iD (IntKind.i64.wrap (v0 * IntKind.i64.wrap (v1 + v2)))]]))))))) else some (.out 2 [.list s3_0n s3_0c, .one (.tuple #[])])))
def axial_L7_1_S3 (ka : Nat) (ca : List D) (kb : Nat) (cb : List D) (x0 : Nat) (x1 : List D) (x2 : Nat) (x3 : List D) (x4 : Nat) (x5 : List D) (ds : List D) : Option Go.Ev.Rd := pullD (α := Int) (some (.tup ds)) (fun d => ((D.vi (D.at d 0)))) (fun s19 => .tup [iD s19, .one (.tuple #[]), .one (.tuple #[])]) fun s19 => ((if s19 < (kb : Int) then guardP ((0 : Int) ≤ s19 ∧ s19.toNat < kb) (pullD (α := Int) (readD cb (s19.toNat * 1) 1 false) (fun d => ((D.vi d))) (fun v0 => iD v0) fun v0 => (guardP ((0 : Int) ≤ s19 ∧ s19.toNat < x0) (pullD (α := Int) (readD x1 (s19.toNat * 1) 1 false) (fun d => ((D.vi d))) (fun v1 => iD v1) fun v1 => (guardP ((0 : Int) ≤ IntKind.i64.wrap (s19 + (1 : Int)) ∧ (IntKind.i64.wrap (s19 + (1 : Int))).toNat < x0) (pullD (α := Int) (readD x1 ((IntKind.i64.wrap (s19 + (1 : Int))).toNat * 1) 1 false) (fun d => ((D.vi d))) (fun v2 => iD v2) fun v2 => (some (.next 1 [iD (IntKind.i64.wrap (s19 + (1 : Int))), .one (.tuple #[]), .list 1 [iD (IntKind.i64.wrap (v0 * IntKind.i64.wrap (v1 + v2)))]]))))))) else some (.out 3 [.one (.tuple #[]), .one (.tuple #[])])))
def axial_L7_1_S (ka : Nat) (ca : List D) (kb : Nat) (cb : List D) (x0 : Nat) (x1 : List D) (x2 : Nat) (x3 : List D) (x4 : Nat) (x5 : List D) : Go.Ev.Rd → Option Go.Ev.Rd
  | .next 0 ds => axial_L7_1_S0 ka ca kb cb x0 x1 x2 x3 x4 x5 ds
  | .next 1 ds => axial_L7_1_S1 ka ca kb cb x0 x1 x2 x3 x4 x5 ds
  | .next 2 ds => axial_L7_1_S2 ka ca kb cb x0 x1 x2 x3 x4 x5 ds
  | .next 3 ds => axial_L7_1_S3 ka ca kb cb x0 x1 x2 x3 x4 x5 ds
  | _ => none
theorem axial_L7_1_S_ok (ka : Nat) (ca : List D) (kb : Nat) (cb : List D) (x0 : Nat) (x1 : List D) (x2 : Nat) (x3 : List D) (x4 : Nat) (x5 : List D) : ∀ s_ t_, axial_L7_1_S ka ca kb cb x0 x1 x2 x3 x4 x5 s_ = some t_ → Step (ctx [44, 67] axial_sp) Tabs axial_L7_1_A (stateOf (axial_L7_1_gs ka ca kb cb x0 x1 x2 x3 x4 x5 s_)) (stateOf (axial_L7_1_gs ka ca kb cb x0 x1 x2 x3 x4 x5 t_)) (axial_L7_1_ax t_) ∧ EndOK axial_L7_1_A.nx axial_L7_1_A.low (axial_L7_1_gs ka ca kb cb x0 x1 x2 x3 x4 x5) t_
  | .next 0 ds, t_, h => by
    have h_ : axial_L7_1_S0 ka ca kb cb x0 x1 x2 x3 x4 x5 ds = some t_ := h
    clear h
    unfold axial_L7_1_S0 at h_
    obtain ⟨⟨s19, s3_0n, s3_0c, s3_1n, s3_1c⟩, e0, h0⟩ := pullD_elim h_
    clear h_
    obtain rfl := tup_inj e0
    by_cases b1_ : s19 < (kb : Int)
    · have h2_ := (if_pos b1_).symm.trans h0
      obtain ⟨f3_, h4_⟩ := guardP_elim h2_
      obtain ⟨v0, f5_, h6_⟩ := pullD_elim h4_
      replace f5_ := readD_elim f5_
      obtain ⟨f7_, h8_⟩ := guardP_elim h6_
      obtain ⟨v1, f9_, h10_⟩ := pullD_elim h8_
      replace f9_ := readD_elim f9_
      obtain ⟨f11_, h12_⟩ := guardP_elim h10_
      obtain ⟨v2, f13_, h14_⟩ := pullD_elim h12_
      replace f13_ := readD_elim f13_
      obtain ⟨f15_, h16_⟩ := guardP_elim h14_
      obtain rfl := Option.some.inj h16_
      exact ⟨step_pc 3000 (bT 1 []) [iD v0, iD v1, iD v2] [c_d b1_, c_f f3_, c_f f5_, c_f f7_, c_f f9_, c_f f11_, c_f f13_, c_f f15_] [] _ rfl (by kernel_rfl) (by kernel_rfl) (by kernel_rfl) (by kernel_rfl) (by kernel_rfl) (by kernel_rfl), trivial⟩
    have h2_ := (if_neg b1_).symm.trans h0
    obtain rfl := Option.some.inj h2_
    exact ⟨step_pc 3000 (bF 1 []) [] [c_n b1_] [] _ rfl (by kernel_rfl) (by kernel_rfl) (by kernel_rfl) (by kernel_rfl) (by kernel_rfl) (by kernel_rfl), by kernel_rfl, by kernel_rfl⟩
  | .next 1 ds, t_, h => by
    have h_ : axial_L7_1_S1 ka ca kb cb x0 x1 x2 x3 x4 x5 ds = some t_ := h
    clear h
    unfold axial_L7_1_S1 at h_
    obtain ⟨⟨s19, s3_1n, s3_1c⟩, e0, h0⟩ := pullD_elim h_
    clear h_
    obtain rfl := tup_inj e0
    by_cases b1_ : s19 < (kb : Int)
    · have h2_ := (if_pos b1_).symm.trans h0
      obtain ⟨f3_, h4_⟩ := guardP_elim h2_
      obtain ⟨v0, f5_, h6_⟩ := pullD_elim h4_
      replace f5_ := readD_elim f5_
      obtain ⟨f7_, h8_⟩ := guardP_elim h6_
      obtain ⟨v1, f9_, h10_⟩ := pullD_elim h8_
      replace f9_ := readD_elim f9_
      obtain ⟨f11_, h12_⟩ := guardP_elim h10_
      obtain ⟨v2, f13_, h14_⟩ := pullD_elim h12_
      replace f13_ := readD_elim f13_
      obtain ⟨f15_, h16_⟩ := guardP_elim h14_
      obtain rfl := Option.some.inj h16_
      exact ⟨step_pc 3000 (bT 1 []) [iD v0, iD v1, iD v2] [c_d b1_, c_f f3_, c_f f5_, c_f f7_, c_f f9_, c_f f11_, c_f f13_, c_f f15_] [] _ rfl (by kernel_rfl) (by kernel_rfl) (by kernel_rfl) (by kernel_rfl) (by kernel_rfl) (by kernel_rfl), trivial⟩
    have h2_ := (if_neg b1_).symm.trans h0
    obtain rfl := Option.some.inj h2_
    exact ⟨step_pc 3000 (bF 1 []) [] [c_n b1_] [] _ rfl (by kernel_rfl) (by kernel_rfl) (by kernel_rfl) (by kernel_rfl) (by kernel_rfl) (by kernel_rfl), by kernel_rfl, by kernel_rfl⟩
  | .next 2 ds, t_, h => by
    have h_ : axial_L7_1_S2 ka ca kb cb x0 x1 x2 x3 x4 x5 ds = some t_ := h
    clear h
    unfold axial_L7_1_S2 at h_
    obtain ⟨⟨s19, s3_0n, s3_0c⟩, e0, h0⟩ := pullD_elim h_
    clear h_
    obtain rfl := tup_inj e0
    by_cases b1_ : s19 < (kb : Int)
    · have h2_ := (if_pos b1_).symm.trans h0
      obtain ⟨f3_, h4_⟩ := guardP_elim h2_
      obtain ⟨v0, f5_, h6_⟩ := pullD_elim h4_
      replace f5_ := readD_elim f5_
      obtain ⟨f7_, h8_⟩ := guardP_elim h6_
      obtain ⟨v1, f9_, h10_⟩ := pullD_elim h8_
      replace f9_ := readD_elim f9_
      obtain ⟨f11_, h12_⟩ := guardP_elim h10_
      obtain ⟨v2, f13_, h14_⟩ := pullD_elim h12_
      replace f13_ := readD_elim f13_
      obtain rfl := Option.some.inj h14_
      exact ⟨step_pc 3000 (bT 1 []) [iD v0, iD v1, iD v2] [c_d b1_, c_f f3_, c_f f5_, c_f f7_, c_f f9_, c_f f11_, c_f f13_, ⟨fact (0 < 0 + 1 ∧ (0 + 1) * 8 ≤ 140737488355328 ∧ 0 + 1 ≤ 4611686018427387904), true, fact_mk (by decide)⟩] [] _ rfl (by kernel_rfl) (by kernel_rfl) (by kernel_rfl) (by kernel_rfl) (by kernel_rfl) (by kernel_rfl), trivial⟩
    have h2_ := (if_neg b1_).symm.trans h0
    obtain rfl := Option.some.inj h2_
    exact ⟨step_pc 3000 (bF 1 []) [] [c_n b1_] [] _ rfl (by kernel_rfl) (by kernel_rfl) (by kernel_rfl) (by kernel_rfl) (by kernel_rfl) (by kernel_rfl), by kernel_rfl, by kernel_rfl⟩
  | .next 3 ds, t_, h => by
    have h_ : axial_L7_1_S3 ka ca kb cb x0 x1 x2 x3 x4 x5 ds = some t_ := h
    clear h
    unfold axial_L7_1_S3 at h_
    obtain ⟨s19, e0, h0⟩ := pullD_elim h_
    clear h_
    obtain rfl := tup_inj e0
    by_cases b1_ : s19 < (kb : Int)
    · have h2_ := (if_pos b1_).symm.trans h0
      obtain ⟨f3_, h4_⟩ := guardP_elim h2_
      obtain ⟨v0, f5_, h6_⟩ := pullD_elim h4_
      replace f5_ := readD_elim f5_
      obtain ⟨f7_, h8_⟩ := guardP_elim h6_
      obtain ⟨v1, f9_, h10_⟩ := pullD_elim h8_
      replace f9_ := readD_elim f9_
      obtain ⟨f11_, h12_⟩ := guardP_elim h10_
      obtain ⟨v2, f13_, h14_⟩ := pullD_elim h12_
      replace f13_ := readD_elim f13_
      obtain rfl := Option.some.inj h14_
      exact ⟨step_pc 3000 (bT 1 []) [iD v0, iD v1, iD v2] [c_d b1_, c_f f3_, c_f f5_, c_f f7_, c_f f9_, c_f f11_, c_f f13_, ⟨fact (0 < 0 + 1 ∧ (0 + 1) * 8 ≤ 140737488355328 ∧ 0 + 1 ≤ 4611686018427387904), true, fact_mk (by decide)⟩] [] _ rfl (by kernel_rfl) (by kernel_rfl) (by kernel_rfl) (by kernel_rfl) (by kernel_rfl) (by kernel_rfl), trivial⟩
    have h2_ := (if_neg b1_).symm.trans h0
    obtain rfl := Option.some.inj h2_
    exact ⟨step_pc 3000 (bF 1 []) [] [c_n b1_] [] _ rfl (by kernel_rfl) (by kernel_rfl) (by kernel_rfl) (by kernel_rfl) (by kernel_rfl) (by kernel_rfl), by kernel_rfl, by kernel_rfl⟩
  | .next (_ + 4) _, _, h => by cases h
  | .out _ _, _, h => by cases h
theorem axial_L7_1_go (ka : Nat) (ca : List D) (kb : Nat) (cb : List D) (x0 : Nat) (x1 : List D) (x2 : Nat) (x3 : List D) (x4 : Nat) (x5 : List D) {q : Nat} {ds : List D} {j : Nat} {es : List D} (h : runR (axial_L7_1_S ka ca kb cb x0 x1 x2 x3 x4 x5) (.next q ds) = some (.out j es)) : Runs (ctx [44, 67] axial_sp) Tabs axial_L7_1_A (stateOf (axial_L7_1_gs ka ca kb cb x0 x1 x2 x3 x4 x5 (.next q ds))) (stateOf (axial_L7_1_gs ka ca kb cb x0 x1 x2 x3 x4 x5 (.out j es))) (axial_L7_1_ax (.out j es)) ∧ (nxtOf (axial_L7_1_gs ka ca kb cb x0 x1 x2 x3 x4 x5 (.out j es)), lowGS (axial_L7_1_gs ka ca kb cb x0 x1 x2 x3 x4 x5 (.out j es))) = (axial_L7_1_A.nx, axial_L7_1_A.low) :=
  runs_of' (good true _ _) axial_L7_1_ok (ax := axial_L7_1_ax) (fun _ _ => rfl) (fun _ _ => axOf_end _) (axial_L7_1_S_ok ka ca kb cb x0 x1 x2 x3 x4 x5) h
theorem axial_L7_1_in0 (ka : Nat) (ca : List D) (kb : Nat) (cb : List D) (x0 : Nat) (x1 : List D) (x2 : Nat) (x3 : List D) (x4 : Nat) (x5 : List D) {es : List D} (h : runR (axial_L7_1_S ka ca kb cb x0 x1 x2 x3 x4 x5) (.next 0 [iD ((0 : Int)), .list (x2) (x3), .list (x4) (x5)]) = some (.out 0 es)) : LoopC (loopAt Try.prog 44 1) (axial_L7_1_E ka ca kb cb x0 x1 x2 x3 x4 x5) 37 noFrame axial_x7_0 es :=
  have r := axial_L7_1_go ka ca kb cb x0 x1 x2 x3 x4 x5 h
  loopin_as rfl (loop_in (l := axial_L7_1_A) (E := (axial_L7_1_E ka ca kb cb x0 x1 x2 x3 x4 x5)) (S := stateOf (axial_L7_1_gs ka ca kb cb x0 x1 x2 x3 x4 x5 (.next 0 [iD ((0 : Int)), .list (x2) (x3), .list (x4) (x5)]))) (ns := nsOf (axial_L7_1_gs ka ca kb cb x0 x1 x2 x3 x4 x5 (.next 0 [iD ((0 : Int)), .list (x2) (x3), .list (x4) (x5)]))) axial_L7_1_ok r.1 r.2 (by kernel_rfl) (by kernel_rfl) (by kernel_rfl) (by kernel_rfl))
theorem axial_L7_1_in1 (ka : Nat) (ca : List D) (kb : Nat) (cb : List D) (x0 : Nat) (x1 : List D) (x2 : Nat) (x3 : List D) (x4 : Nat) (x5 : List D) {es : List D} (h : runR (axial_L7_1_S ka ca kb cb x0 x1 x2 x3 x4 x5) (.next 0 [iD ((0 : Int)), .list (x2) (x3), .list (x4) (x5)]) = some (.out 1 es)) : LoopC (loopAt Try.prog 44 1) (axial_L7_1_E ka ca kb cb x0 x1 x2 x3 x4 x5) 37 noFrame axial_x7_1 es :=
  have r := axial_L7_1_go ka ca kb cb x0 x1 x2 x3 x4 x5 h
  loopin_as rfl (loop_in (l := axial_L7_1_A) (E := (axial_L7_1_E ka ca kb cb x0 x1 x2 x3 x4 x5)) (S := stateOf (axial_L7_1_gs ka ca kb cb x0 x1 x2 x3 x4 x5 (.next 0 [iD ((0 : Int)), .list (x2) (x3), .list (x4) (x5)]))) (ns := nsOf (axial_L7_1_gs ka ca kb cb x0 x1 x2 x3 x4 x5 (.next 0 [iD ((0 : Int)), .list (x2) (x3), .list (x4) (x5)]))) axial_L7_1_ok r.1 r.2 (by kernel_rfl) (by kernel_rfl) (by kernel_rfl) (by kernel_rfl))
theorem axial_L7_1_in2 (ka : Nat) (ca : List D) (kb : Nat) (cb : List D) (x0 : Nat) (x1 : List D) (x2 : Nat) (x3 : List D) (x4 : Nat) (x5 : List D) {es : List D} (h : runR (axial_L7_1_S ka ca kb cb x0 x1 x2 x3 x4 x5) (.next 0 [iD ((0 : Int)), .list (x2) (x3), .list (x4) (x5)]) = some (.out 2 es)) : LoopC (loopAt Try.prog 44 1) (axial_L7_1_E ka ca kb cb x0 x1 x2 x3 x4 x5) 37 noFrame axial_x7_2 es :=
  have r := axial_L7_1_go ka ca kb cb x0 x1 x2 x3 x4 x5 h
  loopin_as rfl (loop_in (l := axial_L7_1_A) (E := (axial_L7_1_E ka ca kb cb x0 x1 x2 x3 x4 x5)) (S := stateOf (axial_L7_1_gs ka ca kb cb x0 x1 x2 x3 x4 x5 (.next 0 [iD ((0 : Int)), .list (x2) (x3), .list (x4) (x5)]))) (ns := nsOf (axial_L7_1_gs ka ca kb cb x0 x1 x2 x3 x4 x5 (.next 0 [iD ((0 : Int)), .list (x2) (x3), .list (x4) (x5)]))) axial_L7_1_ok r.1 r.2 (by kernel_rfl) (by kernel_rfl) (by kernel_rfl) (by kernel_rfl))
theorem axial_L7_1_in3 (ka : Nat) (ca : List D) (kb : Nat) (cb : List D) (x0 : Nat) (x1 : List D) (x2 : Nat) (x3 : List D) (x4 : Nat) (x5 : List D) {es : List D} (h : runR (axial_L7_1_S ka ca kb cb x0 x1 x2 x3 x4 x5) (.next 0 [iD ((0 : Int)), .list (x2) (x3), .list (x4) (x5)]) = some (.out 3 es)) : LoopC (loopAt Try.prog 44 1) (axial_L7_1_E ka ca kb cb x0 x1 x2 x3 x4 x5) 37 noFrame axial_x7_3 es :=
  have r := axial_L7_1_go ka ca kb cb x0 x1 x2 x3 x4 x5 h
  loopin_as rfl (loop_in (l := axial_L7_1_A) (E := (axial_L7_1_E ka ca kb cb x0 x1 x2 x3 x4 x5)) (S := stateOf (axial_L7_1_gs ka ca kb cb x0 x1 x2 x3 x4 x5 (.next 0 [iD ((0 : Int)), .list (x2) (x3), .list (x4) (x5)]))) (ns := nsOf (axial_L7_1_gs ka ca kb cb x0 x1 x2 x3 x4 x5 (.next 0 [iD ((0 : Int)), .list (x2) (x3), .list (x4) (x5)]))) axial_L7_1_ok r.1 r.2 (by kernel_rfl) (by kernel_rfl) (by kernel_rfl) (by kernel_rfl))
def axial_L7_E (ka : Nat) (ca : List D) (kb : Nat) (cb : List D) (x0 : Nat) (x1 : List D) : List AV × AHeap := ([.agg [.dsl 0, .dsl 1], .ptr 2 0, .ptr 3 0, .ptr 4 0, .dsl 5, .pure (.int .i64 (0 : Int)), .dsl 0, .pure (.tuple #[]), .pure (.tuple #[]), .agg [.dsl 0, .dsl 1], .dsl 5, .agg [.dsl 0, .dsl 1], .agg [.dsl 0, .dsl 1], .pure (.int .i64 (0 : Int)), .pure (.bool true), .pure (.int .i64 (0 : Int)), .dsl 0, .dsl 0, .pure (.int .i64 (ka : Int)), .pure (.int .i64 (0 : Int)), .pure (.tuple #[]), .pure (.tuple #[]), .pure (.tuple #[]), .pure (.tuple #[]), .pure (.tuple #[]), .pure (.tuple #[]), .pure (.tuple #[]), .pure (.tuple #[]), .pure (.tuple #[]), .pure (.tuple #[]), .pure (.tuple #[]), .pure (.tuple #[]), .pure (.tuple #[]), .pure (.tuple #[]), .pure (.tuple #[]), .pure (.tuple #[]), .pure (.tuple #[]), .pure (.tuple #[]), .pure (.tuple #[]), .pure (.tuple #[]), .pure (.tuple #[]), .pure (.tuple #[]), .pure (.tuple #[]), .pure (.tuple #[]), .pure (.tuple #[]), .pure (.tuple #[])], [(7, { cells := [.dsl 0, .dsl 1], opn := none, kind := .cells }), (6, { cells := [.dsl 0, .dsl 1], opn := none, kind := .cells }), (5, { cells := [], opn := none, kind := .deep x0 x1 }), (4, { cells := [.pure (.slice none 0 0), .pure (.slice none 0 0)], opn := none, kind := .cells }), (3, { cells := [.pure (.slice none 0 0), .pure (.slice none 0 0)], opn := none, kind := .cells }), (2, { cells := [.dsl 0, .dsl 1], opn := none, kind := .cells }), (1, { cells := [], opn := none, kind := .deep kb cb }), (0, { cells := [], opn := none, kind := .deep ka ca })])
def axial_L7_A : LoopAt := ⟨44, loopAt Try.prog 44 1, 8, 37, 4, noFrame⟩
theorem axial_L7_ok : (axial_L7_A).OK := ⟨by show 8 ≤ 37; decide, by show 4 ≤ 8; decide, by kernel_rfl, rfl⟩
def axial_L7_gs (ka : Nat) (ca : List D) (kb : Nat) (cb : List D) (x0 : Nat) (x1 : List D) : Go.Ev.Rd → Option GS
  | .next 0 ds => ghost [.val 19, .cgrow 3 0 1, .cgrow 3 1 1] (7 :: (8 :: (List.range' 20 24))) (axial_L7_E ka ca kb cb x0 x1).1 (axial_L7_E ka ca kb cb x0 x1).2 8 ds
  | .next 1 ds => ghost [.val 19, .cnil 3 0, .cgrow 3 1 1] (7 :: (8 :: (List.range' 20 24))) (axial_L7_E ka ca kb cb x0 x1).1 (axial_L7_E ka ca kb cb x0 x1).2 8 ds
  | .next 2 ds => ghost [.val 19, .cgrow 3 0 1, .cnil 3 1] (7 :: (8 :: (List.range' 20 24))) (axial_L7_E ka ca kb cb x0 x1).1 (axial_L7_E ka ca kb cb x0 x1).2 8 ds
  | .next 3 ds => ghost [.val 19, .cnil 3 0, .cnil 3 1] (7 :: (8 :: (List.range' 20 24))) (axial_L7_E ka ca kb cb x0 x1).1 (axial_L7_E ka ca kb cb x0 x1).2 8 ds
  | .out 0 ds => ghost axial_x7_0.live axial_x7_0.junk (axial_L7_E ka ca kb cb x0 x1).1 (axial_L7_E ka ca kb cb x0 x1).2 8 ds
  | .out 1 ds => ghost axial_x7_1.live axial_x7_1.junk (axial_L7_E ka ca kb cb x0 x1).1 (axial_L7_E ka ca kb cb x0 x1).2 8 ds
  | .out 2 ds => ghost axial_x7_2.live axial_x7_2.junk (axial_L7_E ka ca kb cb x0 x1).1 (axial_L7_E ka ca kb cb x0 x1).2 8 ds
  | .out 3 ds => ghost axial_x7_3.live axial_x7_3.junk (axial_L7_E ka ca kb cb x0 x1).1 (axial_L7_E ka ca kb cb x0 x1).2 8 ds
  | _ => none
def axial_L7_ex : Nat → Option Nat
  | 0 => axial_x7_0.ex
  | 1 => axial_x7_1.ex
  | 2 => axial_x7_2.ex
  | 3 => axial_x7_3.ex
  | _ => none
def axial_L7_ax : Go.Ev.Rd → AX
  | .next _ _ => .normal
  | .out j _ => axOf (axial_L7_ex j)
def axial_L7_S0 (ka : Nat) (ca : List D) (kb : Nat) (cb : List D) (x0 : Nat) (x1 : List D) (ds : List D) : Option Go.Ev.Rd := pullD (α := Int × Nat × (List D) × Nat × (List D)) (some (.tup ds)) (fun d => ((D.vi (D.at d 0)), (D.ln (D.at d 1)), (D.lc (D.at d 1)), (D.ln (D.at d 2)), (D.lc (D.at d 2)))) (fun (s19, s3_0n, s3_0c, s3_1n, s3_1c) => .tup [iD s19, .list s3_0n s3_0c, .list s3_1n s3_1c]) fun (s19, s3_0n, s3_0c, s3_1n, s3_1c) => ((if s19 < (ka : Int) then guardP ((0 : Int) ≤ s19 ∧ s19.toNat < ka) (pullD (α := Int) (readD ca (s19.toNat * 1) 1 false) (fun d => ((D.vi d))) (fun v0 => iD v0) fun v0 => (guardP ((0 : Int) ≤ s19 ∧ s19.toNat < x0) (pullD (α := Int) (readD x1 (s19.toNat * 1) 1 false) (fun d => ((D.vi d))) (fun v1 => iD v1) fun v1 => (guardP ((0 : Int) ≤ IntKind.i64.wrap (s19 + (1 : Int)) ∧ (IntKind.i64.wrap (s19 + (1 : Int))).toNat < x0) (pullD (α := Int) (readD x1 ((IntKind.i64.wrap (s19 + (1 : Int))).toNat * 1) 1 false) (fun d => ((D.vi d))) (fun v2 => iD v2) fun v2 => (guardP ((∀ (u : D), u ∈ [dCell (.int .i64 (IntKind.i64.wrap (v0 * IntKind.i64.wrap (v1 + v2))))] → cellD u) ∧ s3_0n * 1 ≤ s3_0c.length ∧ (s3_0n + (0 + 1)) * 8 ≤ 140737488355328 ∧ s3_0n + (0 + 1) ≤ 4611686018427387904) (some (.next 0 [iD (IntKind.i64.wrap (s19 + (1 : Int))), .list (s3_0n + (0 + 1)) (List.append (List.take (s3_0n * 1) s3_0c) [dCell (.int .i64 (IntKind.i64.wrap (v0 * IntKind.i64.wrap (v1 + v2))))]), .list s3_1n s3_1c])))))))) else some (.out 0 [.list s3_0n s3_0c, .list s3_1n s3_1c])))
def axial_L7_S1 (ka : Nat) (ca : List D) (kb : Nat) (cb : List D) (x0 : Nat) (x1 : List D) (ds : List D) : Option Go.Ev.Rd := pullD (α := Int × Nat × (List D)) (some (.tup ds)) (fun d => ((D.vi (D.at d 0)), (D.ln (D.at d 2)), (D.lc (D.at d 2)))) (fun (s19, s3_1n, s3_1c) => .tup [iD s19, .one (.tuple #[]), .list s3_1n s3_1c]) fun (s19, s3_1n, s3_1c) => ((if s19 < (ka : Int) then guardP ((0 : Int) ≤ s19 ∧ s19.toNat < ka) (pullD (α := Int) (readD ca (s19.toNat * 1) 1 false) (fun d => ((D.vi d))) (fun v0 => iD v0) fun v0 => (guardP ((0 : Int) ≤ s19 ∧ s19.toNat < x0) (pullD (α := Int) (readD x1 (s19.toNat * 1) 1 false) (fun d => ((D.vi d))) (fun v1 => iD v1) fun v1 => (guardP ((0 : Int) ≤ IntKind.i64.wrap (s19 + (1 : Int)) ∧ (IntKind.i64.wrap (s19 + (1 : Int))).toNat < x0) (pullD (α := Int) (readD x1 ((IntKind.i64.wrap (s19 + (1 : Int))).toNat * 1) 1 false) (fun d => ((D.vi d))) (fun v2 => iD v2) fun v2 => (some (.next 0 [iD (IntKind.i64.wrap (s19 + (1 : Int))), .list 1 [iD (IntKind.i64.wrap (v0 * IntKind.i64.wrap (v1 + v2)))], .list s3_1n s3_1c]))))))) else some (.out 1 [.one (.tuple #[]), .list s3_1n s3_1c])))
def axial_L7_S2 (ka : Nat) (ca : List D) (kb : Nat) (cb : List D) (x0 : Nat) (x1 : List D) (ds : List D) : Option Go.Ev.Rd := pullD (α := Int × Nat × (List D)) (some (.tup ds)) (fun d => ((D.vi (D.at d 0)), (D.ln (D.at d 1)), (D.lc (D.at d 1)))) (fun (s19, s3_0n, s3_0c) => .tup [iD s19, .list s3_0n s3_0c, .one (.tuple #[])]) fun (s19, s3_0n, s3_0c) => ((if s19 < (ka : Int) then guardP ((0 : Int) ≤ s19 ∧ s19.toNat < ka) (pullD (α := Int) (readD ca (s19.toNat * 1) 1 false) (fun d => ((D.vi d))) (fun v0 => iD v0) fun v0 => (guardP ((0 : Int) ≤ s19 ∧ s19.toNat < x0) (pullD (α := Int) (readD x1 (s19.toNat * 1) 1 false) (fun d => ((D.vi d))) (fun v1 => iD v1) fun v1 => (guardP ((0 : Int) ≤ IntKind.i64.wrap (s19 + (1 : Int)) ∧ (IntKind.i64.wrap (s19 + (1 : Int))).toNat < x0) (pullD (α := Int) (readD x1 ((IntKind.i64.wrap (s19 + (1 : Int))).toNat * 1) 1 false) (fun d => ((D.vi d))) (fun v2 => iD v2) fun v2 => (guardP ((∀ (u : D), u ∈ [dCell (.int .i64 (IntKind.i64.wrap (v0 * IntKind.i64.wrap (v1 + v2))))] → cellD u) ∧ s3_0n * 1 ≤ s3_0c.length ∧ (s3_0n + (0 + 1)) * 8 ≤ 140737488355328 ∧ s3_0n + (0 + 1) ≤ 4611686018427387904) (some (.next 2 [iD (IntKind.i64.wrap (s19 + (1 : Int))), .list (s3_0n + (0 + 1)) (List.append (List.take (s3_0n * 1) s3_0c) [dCell (.int .i64 (IntKind.i64.wrap (v0 * IntKind.i64.wrap (v1 + v2))))]), .one (.tuple #[])])))))))) else some (.out 2 [.list s3_0n s3_0c, .one (.tuple #[])])))
def axial_L7_S3 (ka : Nat) (ca : List D) (kb : Nat) (cb : List D) (x0 : Nat) (x1 : List D) (ds : List D) : Option Go.Ev.Rd := pullD (α := Int) (some (.tup ds)) (fun d => ((D.vi (D.at d 0)))) (fun s19 => .tup [iD s19, .one (.tuple #[]), .one (.tuple #[])]) fun s19 => ((if s19 < (ka : Int) then guardP ((0 : Int) ≤ s19 ∧ s19.toNat < ka) (pullD (α := Int) (readD ca (s19.toNat * 1) 1 false) (fun d => ((D.vi d))) (fun v0 => iD v0) fun v0 => (guardP ((0 : Int) ≤ s19 ∧ s19.toNat < x0) (pullD (α := Int) (readD x1 (s19.toNat * 1) 1 false) (fun d => ((D.vi d))) (fun v1 => iD v1) fun v1 => (guardP ((0 : Int) ≤ IntKind.i64.wrap (s19 + (1 : Int)) ∧ (IntKind.i64.wrap (s19 + (1 : Int))).toNat < x0) (pullD (α := Int) (readD x1 ((IntKind.i64.wrap (s19 + (1 : Int))).toNat * 1) 1 false) (fun d => ((D.vi d))) (fun v2 => iD v2) fun v2 => (some (.next 2 [iD (IntKind.i64.wrap (s19 + (1 : Int))), .list 1 [iD (IntKind.i64.wrap (v0 * IntKind.i64.wrap (v1 + v2)))], .one (.tuple #[])]))))))) else some (.out 3 [.one (.tuple #[]), .one (.tuple #[])])))
def axial_L7_S (ka : Nat) (ca : List D) (kb : Nat) (cb : List D) (x0 : Nat) (x1 : List D) : Go.Ev.Rd → Option Go.Ev.Rd
  | .next 0 ds => axial_L7_S0 ka ca kb cb x0 x1 ds
  | .next 1 ds => axial_L7_S1 ka ca kb cb x0 x1 ds
  | .next 2 ds => axial_L7_S2 ka ca kb cb x0 x1 ds
  | .next 3 ds => axial_L7_S3 ka ca kb cb x0 x1 ds
  | _ => none
theorem axial_L7_S_ok (ka : Nat) (ca : List D) (kb : Nat) (cb : List D) (x0 : Nat) (x1 : List D) : ∀ s_ t_, axial_L7_S ka ca kb cb x0 x1 s_ = some t_ → Step (ctx [44, 67] axial_sp) Tabs axial_L7_A (stateOf (axial_L7_gs ka ca kb cb x0 x1 s_)) (stateOf (axial_L7_gs ka ca kb cb x0 x1 t_)) (axial_L7_ax t_) ∧ EndOK axial_L7_A.nx axial_L7_A.low (axial_L7_gs ka ca kb cb x0 x1) t_
  | .next 0 ds, t_, h => by
    have h_ : axial_L7_S0 ka ca kb cb x0 x1 ds = some t_ := h
    clear h
    unfold axial_L7_S0 at h_
    obtain ⟨⟨s19, s3_0n, s3_0c, s3_1n, s3_1c⟩, e0, h0⟩ := pullD_elim h_
    clear h_
    obtain rfl := tup_inj e0
    by_cases b1_ : s19 < (ka : Int)
    · have h2_ := (if_pos b1_).symm.trans h0
      obtain ⟨f3_, h4_⟩ := guardP_elim h2_
      obtain ⟨v0, f5_, h6_⟩ := pullD_elim h4_
      replace f5_ := readD_elim f5_
      obtain ⟨f7_, h8_⟩ := guardP_elim h6_
      obtain ⟨v1, f9_, h10_⟩ := pullD_elim h8_
      replace f9_ := readD_elim f9_
      obtain ⟨f11_, h12_⟩ := guardP_elim h10_
      obtain ⟨v2, f13_, h14_⟩ := pullD_elim h12_
      replace f13_ := readD_elim f13_
      obtain ⟨f15_, h16_⟩ := guardP_elim h14_
      obtain rfl := Option.some.inj h16_
      exact ⟨step_pc 3000 (bT 1 []) [iD v0, iD v1, iD v2] [c_d b1_, c_f f3_, c_f f5_, c_f f7_, c_f f9_, c_f f11_, c_f f13_, c_f f15_] [] _ rfl (by kernel_rfl) (by kernel_rfl) (by kernel_rfl) (by kernel_rfl) (by kernel_rfl) (by kernel_rfl), trivial⟩
    have h2_ := (if_neg b1_).symm.trans h0
    obtain rfl := Option.some.inj h2_
    exact ⟨step_pc 3000 (bF 1 []) [] [c_n b1_] [] _ rfl (by kernel_rfl) (by kernel_rfl) (by kernel_rfl) (by kernel_rfl) (by kernel_rfl) (by kernel_rfl), by kernel_rfl, by kernel_rfl⟩
  | .next 1 ds, t_, h => by
    have h_ : axial_L7_S1 ka ca kb cb x0 x1 ds = some t_ := h
    clear h
    unfold axial_L7_S1 at h_
    obtain ⟨⟨s19, s3_1n, s3_1c⟩, e0, h0⟩ := pullD_elim h_
    clear h_
    obtain rfl := tup_inj e0
    by_cases b1_ : s19 < (ka : Int)
    · have h2_ := (if_pos b1_).symm.trans h0
      obtain ⟨f3_, h4_⟩ := guardP_elim h2_
      obtain ⟨v0, f5_, h6_⟩ := pullD_elim h4_
      replace f5_ := readD_elim f5_
      obtain ⟨f7_, h8_⟩ := guardP_elim h6_
      obtain ⟨v1, f9_, h10_⟩ := pullD_elim h8_
      replace f9_ := readD_elim f9_
      obtain ⟨f11_, h12_⟩ := guardP_elim h10_
      obtain ⟨v2, f13_, h14_⟩ := pullD_elim h12_
      replace f13_ := readD_elim f13_
      obtain rfl := Option.some.inj h14_
      exact ⟨step_pc 3000 (bT 1 []) [iD v0, iD v1, iD v2] [c_d b1_, c_f f3_, c_f f5_, c_f f7_, c_f f9_, c_f f11_, c_f f13_, ⟨fact (0 < 0 + 1 ∧ (0 + 1) * 8 ≤ 140737488355328 ∧ 0 + 1 ≤ 4611686018427387904), true, fact_mk (by decide)⟩] [] _ rfl (by kernel_rfl) (by kernel_rfl) (by kernel_rfl) (by kernel_rfl) (by kernel_rfl) (by kernel_rfl), trivial⟩
    have h2_ := (if_neg b1_).symm.trans h0
    obtain rfl := Option.some.inj h2_
    exact ⟨step_pc 3000 (bF 1 []) [] [c_n b1_] [] _ rfl (by kernel_rfl) (by kernel_rfl) (by kernel_rfl) (by kernel_rfl) (by kernel_rfl) (by kernel_rfl), by kernel_rfl, by kernel_rfl⟩
  | .next 2 ds, t_, h => by
    have h_ : axial_L7_S2 ka ca kb cb x0 x1 ds = some t_ := h
    clear h
    unfold axial_L7_S2 at h_
    obtain ⟨⟨s19, s3_0n, s3_0c⟩, e0, h0⟩ := pullD_elim h_
    clear h_
    obtain rfl := tup_inj e0
    by_cases b1_ : s19 < (ka : Int)
    · have h2_ := (if_pos b1_).symm.trans h0
      obtain ⟨f3_, h4_⟩ := guardP_elim h2_
      obtain ⟨v0, f5_, h6_⟩ := pullD_elim h4_
      replace f5_ := readD_elim f5_
      obtain ⟨f7_, h8_⟩ := guardP_elim h6_
      obtain ⟨v1, f9_, h10_⟩ := pullD_elim h8_
      replace f9_ := readD_elim f9_
      obtain ⟨f11_, h12_⟩ := guardP_elim h10_
      obtain ⟨v2, f13_, h14_⟩ := pullD_elim h12_
      replace f13_ := readD_elim f13_
      obtain ⟨f15_, h16_⟩ := guardP_elim h14_
      obtain rfl := Option.some.inj h16_
      exact ⟨step_pc 3000 (bT 1 []) [iD v0, iD v1, iD v2] [c_d b1_, c_f f3_, c_f f5_, c_f f7_, c_f f9_, c_f f11_, c_f f13_, c_f f15_] [] _ rfl (by kernel_rfl) (by kernel_rfl) (by kernel_rfl) (by kernel_rfl) (by kernel_rfl) (by kernel_rfl), trivial⟩
    have h2_ := (if_neg b1_).symm.trans h0
    obtain rfl := Option.some.inj h2_
    exact ⟨step_pc 3000 (bF 1 []) [] [c_n b1_] [] _ rfl (by kernel_rfl) (by kernel_rfl) (by kernel_rfl) (by kernel_rfl) (by kernel_rfl) (by kernel_rfl), by kernel_rfl, by kernel_rfl⟩
  | .next 3 ds, t_, h => by
    have h_ : axial_L7_S3 ka ca kb cb x0 x1 ds = some t_ := h
    clear h
    unfold axial_L7_S3 at h_
    obtain ⟨s19, e0, h0⟩ := pullD_elim h_
    clear h_
    obtain rfl := tup_inj e0
    by_cases b1_ : s19 < (ka : Int)
    · have h2_ := (if_pos b1_).symm.trans h0
      obtain ⟨f3_, h4_⟩ := guardP_elim h2_
      obtain ⟨v0, f5_, h6_⟩ := pullD_elim h4_
      replace f5_ := readD_elim f5_
      obtain ⟨f7_, h8_⟩ := guardP_elim h6_
      obtain ⟨v1, f9_, h10_⟩ := pullD_elim h8_
      replace f9_ := readD_elim f9_
      obtain ⟨f11_, h12_⟩ := guardP_elim h10_
      obtain ⟨v2, f13_, h14_⟩ := pullD_elim h12_
      replace f13_ := readD_elim f13_
      obtain rfl := Option.some.inj h14_
      exact ⟨step_pc 3000 (bT 1 []) [iD v0, iD v1, iD v2] [c_d b1_, c_f f3_, c_f f5_, c_f f7_, c_f f9_, c_f f11_, c_f f13_, ⟨fact (0 < 0 + 1 ∧ (0 + 1) * 8 ≤ 140737488355328 ∧ 0 + 1 ≤ 4611686018427387904), true, fact_mk (by decide)⟩] [] _ rfl (by kernel_rfl) (by kernel_rfl) (by kernel_rfl) (by kernel_rfl) (by kernel_rfl) (by kernel_rfl), trivial⟩
    have h2_ := (if_neg b1_).symm.trans h0
    obtain rfl := Option.some.inj h2_
    exact ⟨step_pc 3000 (bF 1 []) [] [c_n b1_] [] _ rfl (by kernel_rfl) (by kernel_rfl) (by kernel_rfl) (by kernel_rfl) (by kernel_rfl) (by kernel_rfl), by kernel_rfl, by kernel_rfl⟩
  | .next (_ + 4) _, _, h => by cases h
  | .out _ _, _, h => by cases h
theorem axial_L7_go (ka : Nat) (ca : List D) (kb : Nat) (cb : List D) (x0 : Nat) (x1 : List D) {q : Nat} {ds : List D} {j : Nat} {es : List D} (h : runR (axial_L7_S ka ca kb cb x0 x1) (.next q ds) = some (.out j es)) : Runs (ctx [44, 67] axial_sp) Tabs axial_L7_A (stateOf (axial_L7_gs ka ca kb cb x0 x1 (.next q ds))) (stateOf (axial_L7_gs ka ca kb cb x0 x1 (.out j es))) (axial_L7_ax (.out j es)) ∧ (nxtOf (axial_L7_gs ka ca kb cb x0 x1 (.out j es)), lowGS (axial_L7_gs ka ca kb cb x0 x1 (.out j es))) = (axial_L7_A.nx, axial_L7_A.low) :=
  runs_of' (good true _ _) axial_L7_ok (ax := axial_L7_ax) (fun _ _ => rfl) (fun _ _ => axOf_end _) (axial_L7_S_ok ka ca kb cb x0 x1) h
theorem axial_L7_in0 (ka : Nat) (ca : List D) (kb : Nat) (cb : List D) (x0 : Nat) (x1 : List D) {es : List D} (h : runR (axial_L7_S ka ca kb cb x0 x1) (.next 3 [iD ((0 : Int)), .one (.tuple #[]), .one (.tuple #[])]) = some (.out 0 es)) : LoopC (loopAt Try.prog 44 1) (axial_L7_E ka ca kb cb x0 x1) 8 noFrame axial_x7_0 es :=
  have r := axial_L7_go ka ca kb cb x0 x1 h
  loopin_as rfl (loop_in (l := axial_L7_A) (E := (axial_L7_E ka ca kb cb x0 x1)) (S := stateOf (axial_L7_gs ka ca kb cb x0 x1 (.next 3 [iD ((0 : Int)), .one (.tuple #[]), .one (.tuple #[])]))) (ns := nsOf (axial_L7_gs ka ca kb cb x0 x1 (.next 3 [iD ((0 : Int)), .one (.tuple #[]), .one (.tuple #[])]))) axial_L7_ok r.1 r.2 (by kernel_rfl) (by kernel_rfl) (by kernel_rfl) (by kernel_rfl))
theorem axial_L7_in1 (ka : Nat) (ca : List D) (kb : Nat) (cb : List D) (x0 : Nat) (x1 : List D) {es : List D} (h : runR (axial_L7_S ka ca kb cb x0 x1) (.next 3 [iD ((0 : Int)), .one (.tuple #[]), .one (.tuple #[])]) = some (.out 1 es)) : LoopC (loopAt Try.prog 44 1) (axial_L7_E ka ca kb cb x0 x1) 8 noFrame axial_x7_1 es :=
  have r := axial_L7_go ka ca kb cb x0 x1 h
  loopin_as rfl (loop_in (l := axial_L7_A) (E := (axial_L7_E ka ca kb cb x0 x1)) (S := stateOf (axial_L7_gs ka ca kb cb x0 x1 (.next 3 [iD ((0 : Int)), .one (.tuple #[]), .one (.tuple #[])]))) (ns := nsOf (axial_L7_gs ka ca kb cb x0 x1 (.next 3 [iD ((0 : Int)), .one (.tuple #[]), .one (.tuple #[])]))) axial_L7_ok r.1 r.2 (by kernel_rfl) (by kernel_rfl) (by kernel_rfl) (by kernel_rfl))
theorem axial_L7_in2 (ka : Nat) (ca : List D) (kb : Nat) (cb : List D) (x0 : Nat) (x1 : List D) {es : List D} (h : runR (axial_L7_S ka ca kb cb x0 x1) (.next 3 [iD ((0 : Int)), .one (.tuple #[]), .one (.tuple #[])]) = some (.out 2 es)) : LoopC (loopAt Try.prog 44 1) (axial_L7_E ka ca kb cb x0 x1) 8 noFrame axial_x7_2 es :=
  have r := axial_L7_go ka ca kb cb x0 x1 h
  loopin_as rfl (loop_in (l := axial_L7_A) (E := (axial_L7_E ka ca kb cb x0 x1)) (S := stateOf (axial_L7_gs ka ca kb cb x0 x1 (.next 3 [iD ((0 : Int)), .one (.tuple #[]), .one (.tuple #[])]))) (ns := nsOf (axial_L7_gs ka ca kb cb x0 x1 (.next 3 [iD ((0 : Int)), .one (.tuple #[]), .one (.tuple #[])]))) axial_L7_ok r.1 r.2 (by kernel_rfl) (by kernel_rfl) (by kernel_rfl) (by kernel_rfl))
theorem axial_L7_in3 (ka : Nat) (ca : List D) (kb : Nat) (cb : List D) (x0 : Nat) (x1 : List D) {es : List D} (h : runR (axial_L7_S ka ca kb cb x0 x1) (.next 3 [iD ((0 : Int)), .one (.tuple #[]), .one (.tuple #[])]) = some (.out 3 es)) : LoopC (loopAt Try.prog 44 1) (axial_L7_E ka ca kb cb x0 x1) 8 noFrame axial_x7_3 es :=
  have r := axial_L7_go ka ca kb cb x0 x1 h
  loopin_as rfl (loop_in (l := axial_L7_A) (E := (axial_L7_E ka ca kb cb x0 x1)) (S := stateOf (axial_L7_gs ka ca kb cb x0 x1 (.next 3 [iD ((0 : Int)), .one (.tuple #[]), .one (.tuple #[])]))) (ns := nsOf (axial_L7_gs ka ca kb cb x0 x1 (.next 3 [iD ((0 : Int)), .one (.tuple #[]), .one (.tuple #[])]))) axial_L7_ok r.1 r.2 (by kernel_rfl) (by kernel_rfl) (by kernel_rfl) (by kernel_rfl))
def axial_M (ka : Nat) (ca : List D) (kb : Nat) (cb : List D) : Option D := pullD (α := Nat × (List D)) (m_41 [.agg [.list ka ca, .list kb cb]]) (fun d => ((D.ln d), (D.lc d))) (fun (k0, c1) => .list k0 c1) fun (k0, c1) => (bindL (runR (axial_L7_S ka ca kb cb k0 c1) (.next 3 [iD ((0 : Int)), .one (.tuple #[]), .one (.tuple #[])])) fun j ds => (if j = 0 then pullD (α := Nat × (List D) × Nat × (List D)) (some (.tup ds)) (fun d => ((D.ln (D.at d 0)), (D.lc (D.at d 0)), (D.ln (D.at d 1)), (D.lc (D.at d 1)))) (fun (k2, c3, k4, c5) => .tup [.list k2 c3, .list k4 c5]) fun (k2, c3, k4, c5) => (bindL (runR (axial_L7_1_S ka ca kb cb k0 c1 k2 c3 k4 c5) (.next 0 [iD ((0 : Int)), .list (k2) (c3), .list (k4) (c5)])) fun j ds => (if j = 0 then pullD (α := Nat × (List D) × Nat × (List D)) (some (.tup ds)) (fun d => ((D.ln (D.at d 0)), (D.lc (D.at d 0)), (D.ln (D.at d 1)), (D.lc (D.at d 1)))) (fun (k6, c7, k8, c9) => .tup [.list k6 c7, .list k8 c9]) fun (k6, c7, k8, c9) => (guardP ((0 + k6) * 1 ≤ c7.length ∧ 0 < 1) (guardP ((0 + k8) * 1 ≤ c9.length ∧ 0 < 1) (some (.agg [.list k6 c7, .list k8 c9])))) else if j = 1 then pullD (α := Nat × (List D)) (some (.tup ds)) (fun d => ((D.ln (D.at d 1)), (D.lc (D.at d 1)))) (fun (k10, c11) => .tup [.one (.tuple #[]), .list k10 c11]) fun (k10, c11) => (guardP ((0 + k10) * 1 ≤ c11.length ∧ 0 < 1) (some (.agg [.list 0 [], .list k10 c11]))) else if j = 2 then pullD (α := Nat × (List D)) (some (.tup ds)) (fun d => ((D.ln (D.at d 0)), (D.lc (D.at d 0)))) (fun (k12, c13) => .tup [.list k12 c13, .one (.tuple #[])]) fun (k12, c13) => (guardP ((0 + k12) * 1 ≤ c13.length ∧ 0 < 1) (some (.agg [.list k12 c13, .list 0 []]))) else if j = 3 then pullD (some (.tup ds)) (fun _ => ()) (fun _ => .tup [.one (.tuple #[]), .one (.tuple #[])]) fun _ => (some (.agg [.list 0 [], .list 0 []])) else none)) else if j = 1 then pullD (α := Nat × (List D)) (some (.tup ds)) (fun d => ((D.ln (D.at d 1)), (D.lc (D.at d 1)))) (fun (k14, c15) => .tup [.one (.tuple #[]), .list k14 c15]) fun (k14, c15) => (bindL (runR (axial_L7_2_S ka ca kb cb k0 c1 k14 c15) (.next 1 [iD ((0 : Int)), .one (.tuple #[]), .list (k14) (c15)])) fun j ds => (if j = 0 then pullD (α := Nat × (List D) × Nat × (List D)) (some (.tup ds)) (fun d => ((D.ln (D.at d 0)), (D.lc (D.at d 0)), (D.ln (D.at d 1)), (D.lc (D.at d 1)))) (fun (k16, c17, k18, c19) => .tup [.list k16 c17, .list k18 c19]) fun (k16, c17, k18, c19) => (guardP ((0 + k16) * 1 ≤ c17.length ∧ 0 < 1) (guardP ((0 + k18) * 1 ≤ c19.length ∧ 0 < 1) (some (.agg [.list k16 c17, .list k18 c19])))) else if j = 1 then pullD (α := Nat × (List D)) (some (.tup ds)) (fun d => ((D.ln (D.at d 1)), (D.lc (D.at d 1)))) (fun (k20, c21) => .tup [.one (.tuple #[]), .list k20 c21]) fun (k20, c21) => (guardP ((0 + k20) * 1 ≤ c21.length ∧ 0 < 1) (some (.agg [.list 0 [], .list k20 c21]))) else if j = 2 then pullD (α := Nat × (List D)) (some (.tup ds)) (fun d => ((D.ln (D.at d 0)), (D.lc (D.at d 0)))) (fun (k22, c23) => .tup [.list k22 c23, .one (.tuple #[])]) fun (k22, c23) => (guardP ((0 + k22) * 1 ≤ c23.length ∧ 0 < 1) (some (.agg [.list k22 c23, .list 0 []]))) else if j = 3 then pullD (some (.tup ds)) (fun _ => ()) (fun _ => .tup [.one (.tuple #[]), .one (.tuple #[])]) fun _ => (some (.agg [.list 0 [], .list 0 []])) else none)) else if j = 2 then pullD (α := Nat × (List D)) (some (.tup ds)) (fun d => ((D.ln (D.at d 0)), (D.lc (D.at d 0)))) (fun (k24, c25) => .tup [.list k24 c25, .one (.tuple #[])]) fun (k24, c25) => (bindL (runR (axial_L7_3_S ka ca kb cb k0 c1 k24 c25) (.next 2 [iD ((0 : Int)), .list (k24) (c25), .one (.tuple #[])])) fun j ds => (if j = 0 then pullD (α := Nat × (List D) × Nat × (List D)) (some (.tup ds)) (fun d => ((D.ln (D.at d 0)), (D.lc (D.at d 0)), (D.ln (D.at d 1)), (D.lc (D.at d 1)))) (fun (k26, c27, k28, c29) => .tup [.list k26 c27, .list k28 c29]) fun (k26, c27, k28, c29) => (guardP ((0 + k26) * 1 ≤ c27.length ∧ 0 < 1) (guardP ((0 + k28) * 1 ≤ c29.length ∧ 0 < 1) (some (.agg [.list k26 c27, .list k28 c29])))) else if j = 1 then pullD (α := Nat × (List D)) (some (.tup ds)) (fun d => ((D.ln (D.at d 1)), (D.lc (D.at d 1)))) (fun (k30, c31) => .tup [.one (.tuple #[]), .list k30 c31]) fun (k30, c31) => (guardP ((0 + k30) * 1 ≤ c31.length ∧ 0 < 1) (some (.agg [.list 0 [], .list k30 c31]))) else if j = 2 then pullD (α := Nat × (List D)) (some (.tup ds)) (fun d => ((D.ln (D.at d 0)), (D.lc (D.at d 0)))) (fun (k32, c33) => .tup [.list k32 c33, .one (.tuple #[])]) fun (k32, c33) => (guardP ((0 + k32) * 1 ≤ c33.length ∧ 0 < 1) (some (.agg [.list k32 c33, .list 0 []]))) else if j = 3 then pullD (some (.tup ds)) (fun _ => ()) (fun _ => .tup [.one (.tuple #[]), .one (.tuple #[])]) fun _ => (some (.agg [.list 0 [], .list 0 []])) else none)) else if j = 3 then pullD (some (.tup ds)) (fun _ => ()) (fun _ => .tup [.one (.tuple #[]), .one (.tuple #[])]) fun _ => (bindL (runR (axial_L7_4_S ka ca kb cb k0 c1) (.next 3 [iD ((0 : Int)), .one (.tuple #[]), .one (.tuple #[])])) fun j ds => (if j = 0 then pullD (α := Nat × (List D) × Nat × (List D)) (some (.tup ds)) (fun d => ((D.ln (D.at d 0)), (D.lc (D.at d 0)), (D.ln (D.at d 1)), (D.lc (D.at d 1)))) (fun (k34, c35, k36, c37) => .tup [.list k34 c35, .list k36 c37]) fun (k34, c35, k36, c37) => (guardP ((0 + k34) * 1 ≤ c35.length ∧ 0 < 1) (guardP ((0 + k36) * 1 ≤ c37.length ∧ 0 < 1) (some (.agg [.list k34 c35, .list k36 c37])))) else if j = 1 then pullD (α := Nat × (List D)) (some (.tup ds)) (fun d => ((D.ln (D.at d 1)), (D.lc (D.at d 1)))) (fun (k38, c39) => .tup [.one (.tuple #[]), .list k38 c39]) fun (k38, c39) => (guardP ((0 + k38) * 1 ≤ c39.length ∧ 0 < 1) (some (.agg [.list 0 [], .list k38 c39]))) else if j = 2 then pullD (α := Nat × (List D)) (some (.tup ds)) (fun d => ((D.ln (D.at d 0)), (D.lc (D.at d 0)))) (fun (k40, c41) => .tup [.list k40 c41, .one (.tuple #[])]) fun (k40, c41) => (guardP ((0 + k40) * 1 ≤ c41.length ∧ 0 < 1) (some (.agg [.list k40 c41, .list 0 []]))) else if j = 3 then pullD (some (.tup ds)) (fun _ => ()) (fun _ => .tup [.one (.tuple #[]), .one (.tuple #[])]) fun _ => (some (.agg [.list 0 [], .list 0 []])) else none)) else none))
theorem axial_M_ok (ka : Nat) (ca : List D) (kb : Nat) (cb : List D) {r : D} (h : axial_M ka ca kb cb = some r) : Con 44 [.agg [.list ka ca, .list kb cb]] r := by
  unfold axial_M at h
  obtain ⟨⟨k0, c1⟩, f1_, h2_⟩ := pullD_elim h
  replace f1_ := m_41_ok f1_
  obtain ⟨j, ds, e3_, h4_⟩ := bindL_elim h2_
  by_cases j5_ : j = 0
  · have h8_ := (if_pos j5_).symm.trans h4_
    clear h4_
    subst j5_
    obtain ⟨⟨k2, c3, k4, c5⟩, e6_, h9_⟩ := pullD_elim h8_
    clear h8_
    obtain rfl := tup_inj e6_
    have k7_ := axial_L7_in0 ka ca kb cb k0 c1 e3_
    obtain ⟨j, ds, e10_, h11_⟩ := bindL_elim h9_
    by_cases j12_ : j = 0
    · have h15_ := (if_pos j12_).symm.trans h11_
      clear h11_
      subst j12_
      obtain ⟨⟨k6, c7, k8, c9⟩, e13_, h16_⟩ := pullD_elim h15_
      clear h15_
      obtain rfl := tup_inj e13_
      have k14_ := axial_L7_1_in0 ka ca kb cb k0 c1 k2 c3 k4 c5 e10_
      obtain ⟨f17_, h18_⟩ := guardP_elim h16_
      obtain ⟨f19_, h20_⟩ := guardP_elim h18_
      obtain rfl := Option.some.inj h20_
      exact con_pc (op := true) (I := [44, 67]) (sp := axial_sp) 3000 (bT 2 (bF 1 [])) [.list k0 c1, .tup [iD (Int.ofNat 0), .list k2 c3, .list k4 c5], .tup [iD (Int.ofNat 0), .list k6 c7, .list k8 c9]] [c_T, c_T, c_F, c_f f17_, c_f f19_] [k_c f1_, k_l k7_ (bT 1 (bF 1 [])) [.tup [iD (Int.ofNat 0), .list k2 c3, .list k4 c5], .tup [iD (Int.ofNat 0), .list k6 c7, .list k8 c9]] [.tup [iD (Int.ofNat 0), .list k6 c7, .list k8 c9]], k_l k14_ (bF 1 []) [.tup [iD (Int.ofNat 0), .list k6 c7, .list k8 c9]] []] (by kernel_rfl)
    have h21_ := (if_neg j12_).symm.trans h11_
    clear h11_
    by_cases j22_ : j = 1
    · have h25_ := (if_pos j22_).symm.trans h21_
      clear h21_
      subst j22_
      obtain ⟨⟨k10, c11⟩, e23_, h26_⟩ := pullD_elim h25_
      clear h25_
      obtain rfl := tup_inj e23_
      have k24_ := axial_L7_1_in1 ka ca kb cb k0 c1 k2 c3 k4 c5 e10_
      obtain ⟨f27_, h28_⟩ := guardP_elim h26_
      obtain rfl := Option.some.inj h28_
      exact con_pc (op := true) (I := [44, 67]) (sp := axial_sp) 3000 (bT 2 (bF 1 [])) [.list k0 c1, .tup [iD (Int.ofNat 0), .list k2 c3, .list k4 c5], .tup [iD (Int.ofNat 1), .one (.tuple #[]), .list k10 c11]] [c_T, c_T, c_F, c_f f27_] [k_c f1_, k_l k7_ (bT 1 (bF 1 [])) [.tup [iD (Int.ofNat 0), .list k2 c3, .list k4 c5], .tup [iD (Int.ofNat 1), .one (.tuple #[]), .list k10 c11]] [.tup [iD (Int.ofNat 1), .one (.tuple #[]), .list k10 c11]], k_l k24_ (bF 1 []) [.tup [iD (Int.ofNat 1), .one (.tuple #[]), .list k10 c11]] []] (by kernel_rfl)
    have h29_ := (if_neg j22_).symm.trans h21_
    clear h21_
    by_cases j30_ : j = 2
    · have h33_ := (if_pos j30_).symm.trans h29_
      clear h29_
      subst j30_
      obtain ⟨⟨k12, c13⟩, e31_, h34_⟩ := pullD_elim h33_
      clear h33_
      obtain rfl := tup_inj e31_
      have k32_ := axial_L7_1_in2 ka ca kb cb k0 c1 k2 c3 k4 c5 e10_
      obtain ⟨f35_, h36_⟩ := guardP_elim h34_
      obtain rfl := Option.some.inj h36_
      exact con_pc (op := true) (I := [44, 67]) (sp := axial_sp) 3000 (bT 2 (bF 1 [])) [.list k0 c1, .tup [iD (Int.ofNat 0), .list k2 c3, .list k4 c5], .tup [iD (Int.ofNat 2), .list k12 c13, .one (.tuple #[])]] [c_T, c_T, c_F, c_f f35_] [k_c f1_, k_l k7_ (bT 1 (bF 1 [])) [.tup [iD (Int.ofNat 0), .list k2 c3, .list k4 c5], .tup [iD (Int.ofNat 2), .list k12 c13, .one (.tuple #[])]] [.tup [iD (Int.ofNat 2), .list k12 c13, .one (.tuple #[])]], k_l k32_ (bF 1 []) [.tup [iD (Int.ofNat 2), .list k12 c13, .one (.tuple #[])]] []] (by kernel_rfl)
    have h37_ := (if_neg j30_).symm.trans h29_
    clear h29_
    by_cases j38_ : j = 3
    · have h41_ := (if_pos j38_).symm.trans h37_
      clear h37_
      subst j38_
      obtain ⟨⟨⟩, e39_, h42_⟩ := pullD_elim h41_
      clear h41_
      obtain rfl := tup_inj e39_
      have k40_ := axial_L7_1_in3 ka ca kb cb k0 c1 k2 c3 k4 c5 e10_
      obtain rfl := Option.some.inj h42_
      exact con_pc (op := true) (I := [44, 67]) (sp := axial_sp) 3000 (bT 2 (bF 1 [])) [.list k0 c1, .tup [iD (Int.ofNat 0), .list k2 c3, .list k4 c5], .tup [iD (Int.ofNat 3), .one (.tuple #[]), .one (.tuple #[])]] [c_T, c_T, c_F] [k_c f1_, k_l k7_ (bT 1 (bF 1 [])) [.tup [iD (Int.ofNat 0), .list k2 c3, .list k4 c5], .tup [iD (Int.ofNat 3), .one (.tuple #[]), .one (.tuple #[])]] [.tup [iD (Int.ofNat 3), .one (.tuple #[]), .one (.tuple #[])]], k_l k40_ (bF 1 []) [.tup [iD (Int.ofNat 3), .one (.tuple #[]), .one (.tuple #[])]] []] (by kernel_rfl)
    have h43_ := (if_neg j38_).symm.trans h37_
    clear h37_
    cases h43_
  have h44_ := (if_neg j5_).symm.trans h4_
  clear h4_
  by_cases j45_ : j = 1
  · have h48_ := (if_pos j45_).symm.trans h44_
    clear h44_
    subst j45_
    obtain ⟨⟨k14, c15⟩, e46_, h49_⟩ := pullD_elim h48_
    clear h48_
    obtain rfl := tup_inj e46_
    have k47_ := axial_L7_in1 ka ca kb cb k0 c1 e3_
    obtain ⟨j, ds, e50_, h51_⟩ := bindL_elim h49_
    by_cases j52_ : j = 0
    · have h55_ := (if_pos j52_).symm.trans h51_
      clear h51_
      subst j52_
      obtain ⟨⟨k16, c17, k18, c19⟩, e53_, h56_⟩ := pullD_elim h55_
      clear h55_
      obtain rfl := tup_inj e53_
      have k54_ := axial_L7_2_in0 ka ca kb cb k0 c1 k14 c15 e50_
      obtain ⟨f57_, h58_⟩ := guardP_elim h56_
      obtain ⟨f59_, h60_⟩ := guardP_elim h58_
      obtain rfl := Option.some.inj h60_
      exact con_pc (op := true) (I := [44, 67]) (sp := axial_sp) 3000 (bT 2 (bF 1 [])) [.list k0 c1, .tup [iD (Int.ofNat 1), .one (.tuple #[]), .list k14 c15], .tup [iD (Int.ofNat 0), .list k16 c17, .list k18 c19]] [c_T, c_T, c_F, c_f f57_, c_f f59_] [k_c f1_, k_l k47_ (bT 1 (bF 1 [])) [.tup [iD (Int.ofNat 1), .one (.tuple #[]), .list k14 c15], .tup [iD (Int.ofNat 0), .list k16 c17, .list k18 c19]] [.tup [iD (Int.ofNat 0), .list k16 c17, .list k18 c19]], k_l k54_ (bF 1 []) [.tup [iD (Int.ofNat 0), .list k16 c17, .list k18 c19]] []] (by kernel_rfl)
    have h61_ := (if_neg j52_).symm.trans h51_
    clear h51_
    by_cases j62_ : j = 1
    · have h65_ := (if_pos j62_).symm.trans h61_
      clear h61_
      subst j62_
      obtain ⟨⟨k20, c21⟩, e63_, h66_⟩ := pullD_elim h65_
      clear h65_
      obtain rfl := tup_inj e63_
      have k64_ := axial_L7_2_in1 ka ca kb cb k0 c1 k14 c15 e50_
      obtain ⟨f67_, h68_⟩ := guardP_elim h66_
      obtain rfl := Option.some.inj h68_
      exact con_pc (op := true) (I := [44, 67]) (sp := axial_sp) 3000 (bT 2 (bF 1 [])) [.list k0 c1, .tup [iD (Int.ofNat 1), .one (.tuple #[]), .list k14 c15], .tup [iD (Int.ofNat 1), .one (.tuple #[]), .list k20 c21]] [c_T, c_T, c_F, c_f f67_] [k_c f1_, k_l k47_ (bT 1 (bF 1 [])) [.tup [iD (Int.ofNat 1), .one (.tuple #[]), .list k14 c15], .tup [iD (Int.ofNat 1), .one (.tuple #[]), .list k20 c21]] [.tup [iD (Int.ofNat 1), .one (.tuple #[]), .list k20 c21]], k_l k64_ (bF 1 []) [.tup [iD (Int.ofNat 1), .one (.tuple #[]), .list k20 c21]] []] (by kernel_rfl)
    have h69_ := (if_neg j62_).symm.trans h61_
    clear h61_
    by_cases j70_ : j = 2
    · have h73_ := (if_pos j70_).symm.trans h69_
      clear h69_
      subst j70_
      obtain ⟨⟨k22, c23⟩, e71_, h74_⟩ := pullD_elim h73_
      clear h73_
      obtain rfl := tup_inj e71_
      have k72_ := axial_L7_2_in2 ka ca kb cb k0 c1 k14 c15 e50_
      obtain ⟨f75_, h76_⟩ := guardP_elim h74_
      obtain rfl := Option.some.inj h76_
      exact con_pc (op := true) (I := [44, 67]) (sp := axial_sp) 3000 (bT 2 (bF 1 [])) [.list k0 c1, .tup [iD (Int.ofNat 1), .one (.tuple #[]), .list k14 c15], .tup [iD (Int.ofNat 2), .list k22 c23, .one (.tuple #[])]] [c_T, c_T, c_F, c_f f75_] [k_c f1_, k_l k47_ (bT 1 (bF 1 [])) [.tup [iD (Int.ofNat 1), .one (.tuple #[]), .list k14 c15], .tup [iD (Int.ofNat 2), .list k22 c23, .one (.tuple #[])]] [.tup [iD (Int.ofNat 2), .list k22 c23, .one (.tuple #[])]], k_l k72_ (bF 1 []) [.tup [iD (Int.ofNat 2), .list k22 c23, .one (.tuple #[])]] []] (by kernel_rfl)
    have h77_ := (if_neg j70_).symm.trans h69_
    clear h69_
    by_cases j78_ : j = 3
    · have h81_ := (if_pos j78_).symm.trans h77_
      clear h77_
      subst j78_
      obtain ⟨⟨⟩, e79_, h82_⟩ := pullD_elim h81_
      clear h81_
      obtain rfl := tup_inj e79_
      have k80_ := axial_L7_2_in3 ka ca kb cb k0 c1 k14 c15 e50_
      obtain rfl := Option.some.inj h82_
      exact con_pc (op := true) (I := [44, 67]) (sp := axial_sp) 3000 (bT 2 (bF 1 [])) [.list k0 c1, .tup [iD (Int.ofNat 1), .one (.tuple #[]), .list k14 c15], .tup [iD (Int.ofNat 3), .one (.tuple #[]), .one (.tuple #[])]] [c_T, c_T, c_F] [k_c f1_, k_l k47_ (bT 1 (bF 1 [])) [.tup [iD (Int.ofNat 1), .one (.tuple #[]), .list k14 c15], .tup [iD (Int.ofNat 3), .one (.tuple #[]), .one (.tuple #[])]] [.tup [iD (Int.ofNat 3), .one (.tuple #[]), .one (.tuple #[])]], k_l k80_ (bF 1 []) [.tup [iD (Int.ofNat 3), .one (.tuple #[]), .one (.tuple #[])]] []] (by kernel_rfl)
    have h83_ := (if_neg j78_).symm.trans h77_
    clear h77_
    cases h83_
  have h84_ := (if_neg j45_).symm.trans h44_
  clear h44_
  by_cases j85_ : j = 2
  · have h88_ := (if_pos j85_).symm.trans h84_
    clear h84_
    subst j85_
    obtain ⟨⟨k24, c25⟩, e86_, h89_⟩ := pullD_elim h88_
    clear h88_
    obtain rfl := tup_inj e86_
    have k87_ := axial_L7_in2 ka ca kb cb k0 c1 e3_
    obtain ⟨j, ds, e90_, h91_⟩ := bindL_elim h89_
    by_cases j92_ : j = 0
    · have h95_ := (if_pos j92_).symm.trans h91_
      clear h91_
      subst j92_
      obtain ⟨⟨k26, c27, k28, c29⟩, e93_, h96_⟩ := pullD_elim h95_
      clear h95_
      obtain rfl := tup_inj e93_
      have k94_ := axial_L7_3_in0 ka ca kb cb k0 c1 k24 c25 e90_
      obtain ⟨f97_, h98_⟩ := guardP_elim h96_
      obtain ⟨f99_, h100_⟩ := guardP_elim h98_
      obtain rfl := Option.some.inj h100_
      exact con_pc (op := true) (I := [44, 67]) (sp := axial_sp) 3000 (bT 2 (bF 1 [])) [.list k0 c1, .tup [iD (Int.ofNat 2), .list k24 c25, .one (.tuple #[])], .tup [iD (Int.ofNat 0), .list k26 c27, .list k28 c29]] [c_T, c_T, c_F, c_f f97_, c_f f99_] [k_c f1_, k_l k87_ (bT 1 (bF 1 [])) [.tup [iD (Int.ofNat 2), .list k24 c25, .one (.tuple #[])], .tup [iD (Int.ofNat 0), .list k26 c27, .list k28 c29]] [.tup [iD (Int.ofNat 0), .list k26 c27, .list k28 c29]], k_l k94_ (bF 1 []) [.tup [iD (Int.ofNat 0), .list k26 c27, .list k28 c29]] []] (by kernel_rfl)
    have h101_ := (if_neg j92_).symm.trans h91_
    clear h91_
    by_cases j102_ : j = 1
    · have h105_ := (if_pos j102_).symm.trans h101_
      clear h101_
      subst j102_
      obtain ⟨⟨k30, c31⟩, e103_, h106_⟩ := pullD_elim h105_
      clear h105_
      obtain rfl := tup_inj e103_
      have k104_ := axial_L7_3_in1 ka ca kb cb k0 c1 k24 c25 e90_
      obtain ⟨f107_, h108_⟩ := guardP_elim h106_
      obtain rfl := Option.some.inj h108_
      exact con_pc (op := true) (I := [44, 67]) (sp := axial_sp) 3000 (bT 2 (bF 1 [])) [.list k0 c1, .tup [iD (Int.ofNat 2), .list k24 c25, .one (.tuple #[])], .tup [iD (Int.ofNat 1), .one (.tuple #[]), .list k30 c31]] [c_T, c_T, c_F, c_f f107_] [k_c f1_, k_l k87_ (bT 1 (bF 1 [])) [.tup [iD (Int.ofNat 2), .list k24 c25, .one (.tuple #[])], .tup [iD (Int.ofNat 1), .one (.tuple #[]), .list k30 c31]] [.tup [iD (Int.ofNat 1), .one (.tuple #[]), .list k30 c31]], k_l k104_ (bF 1 []) [.tup [iD (Int.ofNat 1), .one (.tuple #[]), .list k30 c31]] []] (by kernel_rfl)
    have h109_ := (if_neg j102_).symm.trans h101_
    clear h101_
    by_cases j110_ : j = 2
    · have h113_ := (if_pos j110_).symm.trans h109_
      clear h109_
      subst j110_
      obtain ⟨⟨k32, c33⟩, e111_, h114_⟩ := pullD_elim h113_
      clear h113_
      obtain rfl := tup_inj e111_
      have k112_ := axial_L7_3_in2 ka ca kb cb k0 c1 k24 c25 e90_
      obtain ⟨f115_, h116_⟩ := guardP_elim h114_
      obtain rfl := Option.some.inj h116_
      exact con_pc (op := true) (I := [44, 67]) (sp := axial_sp) 3000 (bT 2 (bF 1 [])) [.list k0 c1, .tup [iD (Int.ofNat 2), .list k24 c25, .one (.tuple #[])], .tup [iD (Int.ofNat 2), .list k32 c33, .one (.tuple #[])]] [c_T, c_T, c_F, c_f f115_] [k_c f1_, k_l k87_ (bT 1 (bF 1 [])) [.tup [iD (Int.ofNat 2), .list k24 c25, .one (.tuple #[])], .tup [iD (Int.ofNat 2), .list k32 c33, .one (.tuple #[])]] [.tup [iD (Int.ofNat 2), .list k32 c33, .one (.tuple #[])]], k_l k112_ (bF 1 []) [.tup [iD (Int.ofNat 2), .list k32 c33, .one (.tuple #[])]] []] (by kernel_rfl)
    have h117_ := (if_neg j110_).symm.trans h109_
    clear h109_
    by_cases j118_ : j = 3
    · have h121_ := (if_pos j118_).symm.trans h117_
      clear h117_
      subst j118_
      obtain ⟨⟨⟩, e119_, h122_⟩ := pullD_elim h121_
      clear h121_
      obtain rfl := tup_inj e119_
      have k120_ := axial_L7_3_in3 ka ca kb cb k0 c1 k24 c25 e90_
      obtain rfl := Option.some.inj h122_
      exact con_pc (op := true) (I := [44, 67]) (sp := axial_sp) 3000 (bT 2 (bF 1 [])) [.list k0 c1, .tup [iD (Int.ofNat 2), .list k24 c25, .one (.tuple #[])], .tup [iD (Int.ofNat 3), .one (.tuple #[]), .one (.tuple #[])]] [c_T, c_T, c_F] [k_c f1_, k_l k87_ (bT 1 (bF 1 [])) [.tup [iD (Int.ofNat 2), .list k24 c25, .one (.tuple #[])], .tup [iD (Int.ofNat 3), .one (.tuple #[]), .one (.tuple #[])]] [.tup [iD (Int.ofNat 3), .one (.tuple #[]), .one (.tuple #[])]], k_l k120_ (bF 1 []) [.tup [iD (Int.ofNat 3), .one (.tuple #[]), .one (.tuple #[])]] []] (by kernel_rfl)
    have h123_ := (if_neg j118_).symm.trans h117_
    clear h117_
    cases h123_
  have h124_ := (if_neg j85_).symm.trans h84_
  clear h84_
  by_cases j125_ : j = 3
  · have h128_ := (if_pos j125_).symm.trans h124_
    clear h124_
    subst j125_
    obtain ⟨⟨⟩, e126_, h129_⟩ := pullD_elim h128_
    clear h128_
    obtain rfl := tup_inj e126_
    have k127_ := axial_L7_in3 ka ca kb cb k0 c1 e3_
    obtain ⟨j, ds, e130_, h131_⟩ := bindL_elim h129_
    by_cases j132_ : j = 0
    · have h135_ := (if_pos j132_).symm.trans h131_
      clear h131_
      subst j132_
      obtain ⟨⟨k34, c35, k36, c37⟩, e133_, h136_⟩ := pullD_elim h135_
      clear h135_
      obtain rfl := tup_inj e133_
      have k134_ := axial_L7_4_in0 ka ca kb cb k0 c1 e130_
      obtain ⟨f137_, h138_⟩ := guardP_elim h136_
      obtain ⟨f139_, h140_⟩ := guardP_elim h138_
      obtain rfl := Option.some.inj h140_
      exact con_pc (op := true) (I := [44, 67]) (sp := axial_sp) 3000 (bT 2 (bF 1 [])) [.list k0 c1, .tup [iD (Int.ofNat 3), .one (.tuple #[]), .one (.tuple #[])], .tup [iD (Int.ofNat 0), .list k34 c35, .list k36 c37]] [c_T, c_T, c_F, c_f f137_, c_f f139_] [k_c f1_, k_l k127_ (bT 1 (bF 1 [])) [.tup [iD (Int.ofNat 3), .one (.tuple #[]), .one (.tuple #[])], .tup [iD (Int.ofNat 0), .list k34 c35, .list k36 c37]] [.tup [iD (Int.ofNat 0), .list k34 c35, .list k36 c37]], k_l k134_ (bF 1 []) [.tup [iD (Int.ofNat 0), .list k34 c35, .list k36 c37]] []] (by kernel_rfl)
    have h141_ := (if_neg j132_).symm.trans h131_
    clear h131_
    by_cases j142_ : j = 1
    · have h145_ := (if_pos j142_).symm.trans h141_
      clear h141_
      subst j142_
      obtain ⟨⟨k38, c39⟩, e143_, h146_⟩ := pullD_elim h145_
      clear h145_
      obtain rfl := tup_inj e143_
      have k144_ := axial_L7_4_in1 ka ca kb cb k0 c1 e130_
      obtain ⟨f147_, h148_⟩ := guardP_elim h146_
      obtain rfl := Option.some.inj h148_
      exact con_pc (op := true) (I := [44, 67]) (sp := axial_sp) 3000 (bT 2 (bF 1 [])) [.list k0 c1, .tup [iD (Int.ofNat 3), .one (.tuple #[]), .one (.tuple #[])], .tup [iD (Int.ofNat 1), .one (.tuple #[]), .list k38 c39]] [c_T, c_T, c_F, c_f f147_] [k_c f1_, k_l k127_ (bT 1 (bF 1 [])) [.tup [iD (Int.ofNat 3), .one (.tuple #[]), .one (.tuple #[])], .tup [iD (Int.ofNat 1), .one (.tuple #[]), .list k38 c39]] [.tup [iD (Int.ofNat 1), .one (.tuple #[]), .list k38 c39]], k_l k144_ (bF 1 []) [.tup [iD (Int.ofNat 1), .one (.tuple #[]), .list k38 c39]] []] (by kernel_rfl)
    have h149_ := (if_neg j142_).symm.trans h141_
    clear h141_
    by_cases j150_ : j = 2
    · have h153_ := (if_pos j150_).symm.trans h149_
      clear h149_
      subst j150_
      obtain ⟨⟨k40, c41⟩, e151_, h154_⟩ := pullD_elim h153_
      clear h153_
      obtain rfl := tup_inj e151_
      have k152_ := axial_L7_4_in2 ka ca kb cb k0 c1 e130_
      obtain ⟨f155_, h156_⟩ := guardP_elim h154_
      obtain rfl := Option.some.inj h156_
      exact con_pc (op := true) (I := [44, 67]) (sp := axial_sp) 3000 (bT 2 (bF 1 [])) [.list k0 c1, .tup [iD (Int.ofNat 3), .one (.tuple #[]), .one (.tuple #[])], .tup [iD (Int.ofNat 2), .list k40 c41, .one (.tuple #[])]] [c_T, c_T, c_F, c_f f155_] [k_c f1_, k_l k127_ (bT 1 (bF 1 [])) [.tup [iD (Int.ofNat 3), .one (.tuple #[]), .one (.tuple #[])], .tup [iD (Int.ofNat 2), .list k40 c41, .one (.tuple #[])]] [.tup [iD (Int.ofNat 2), .list k40 c41, .one (.tuple #[])]], k_l k152_ (bF 1 []) [.tup [iD (Int.ofNat 2), .list k40 c41, .one (.tuple #[])]] []] (by kernel_rfl)
    have h157_ := (if_neg j150_).symm.trans h149_
    clear h149_
    by_cases j158_ : j = 3
    · have h161_ := (if_pos j158_).symm.trans h157_
      clear h157_
      subst j158_
      obtain ⟨⟨⟩, e159_, h162_⟩ := pullD_elim h161_
      clear h161_
      obtain rfl := tup_inj e159_
      have k160_ := axial_L7_4_in3 ka ca kb cb k0 c1 e130_
      obtain rfl := Option.some.inj h162_
      exact con_pc (op := true) (I := [44, 67]) (sp := axial_sp) 3000 (bT 2 (bF 1 [])) [.list k0 c1, .tup [iD (Int.ofNat 3), .one (.tuple #[]), .one (.tuple #[])], .tup [iD (Int.ofNat 3), .one (.tuple #[]), .one (.tuple #[])]] [c_T, c_T, c_F] [k_c f1_, k_l k127_ (bT 1 (bF 1 [])) [.tup [iD (Int.ofNat 3), .one (.tuple #[]), .one (.tuple #[])], .tup [iD (Int.ofNat 3), .one (.tuple #[]), .one (.tuple #[])]] [.tup [iD (Int.ofNat 3), .one (.tuple #[]), .one (.tuple #[])]], k_l k160_ (bF 1 []) [.tup [iD (Int.ofNat 3), .one (.tuple #[]), .one (.tuple #[])]] []] (by kernel_rfl)
    have h163_ := (if_neg j158_).symm.trans h157_
    clear h157_
    cases h163_
  have h164_ := (if_neg j125_).symm.trans h124_
  clear h124_
  cases h164_
def m_44 (ds : List D) : Option D := pullD (α := Nat × (List D) × Nat × (List D)) (some (.tup ds)) (fun d => ((D.ln (D.at (D.at d 0) 0)), (D.lc (D.at (D.at d 0) 0)), (D.ln (D.at (D.at d 0) 1)), (D.lc (D.at (D.at d 0) 1)))) (fun (ka, ca, kb, cb) => .tup [.agg [.list ka ca, .list kb cb]]) fun (ka, ca, kb, cb) => axial_M ka ca kb cb
theorem m_44_ok {ds : List D} {r : D} (h : m_44 ds = some r) : Con 44 ds r := by
  unfold m_44 at h
  obtain ⟨⟨ka, ca, kb, cb⟩, e0, h0⟩ := pullD_elim h
  obtain rfl := tup_inj e0
  exact axial_M_ok ka ca kb cb h0
theorem m_44_eq (ka : Nat) (ca : List D) (kb : Nat) (cb : List D) : m_44 [.agg [.list ka ca, .list kb cb]] = axial_M ka ca kb cb := pullD_some (ka, ca, kb, cb) rfl rfl
def thrusts_sp : List LSpec := []
def thrusts_M (ka : Nat) (ca : List D) (kb : Nat) (cb : List D) : Option D := pullD (α := Nat × (List D) × Nat × (List D)) (m_44 [.agg [.list ka ca, .list kb cb]]) (fun d => ((D.ln (D.at d 0)), (D.lc (D.at d 0)), (D.ln (D.at d 1)), (D.lc (D.at d 1)))) (fun (k0, c1, k2, c3) => .agg [.list k0 c1, .list k2 c3]) fun (k0, c1, k2, c3) => (pullD (α := Nat × (List D)) (m_66 [.list k0 c1]) (fun d => ((D.ln d), (D.lc d))) (fun (k4, c5) => .list k4 c5) fun (k4, c5) => (pullD (α := Nat × (List D)) (m_66 [.list k2 c3]) (fun d => ((D.ln d), (D.lc d))) (fun (k6, c7) => .list k6 c7) fun (k6, c7) => (some (.agg [.list k4 c5, .list k6 c7]))))
theorem thrusts_M_ok (ka : Nat) (ca : List D) (kb : Nat) (cb : List D) {r : D} (h : thrusts_M ka ca kb cb = some r) : Con 45 [.agg [.list ka ca, .list kb cb]] r := by
  unfold thrusts_M at h
  obtain ⟨⟨k0, c1, k2, c3⟩, f1_, h2_⟩ := pullD_elim h
  replace f1_ := m_44_ok f1_
  obtain ⟨⟨k4, c5⟩, f3_, h4_⟩ := pullD_elim h2_
  replace f3_ := m_66_ok f3_
  obtain ⟨⟨k6, c7⟩, f5_, h6_⟩ := pullD_elim h4_
  replace f5_ := m_66_ok f5_
  obtain rfl := Option.some.inj h6_
  exact con_pc (op := true) (I := [45]) (sp := thrusts_sp) 3000 (bT 2 (bF 1 [])) [.agg [.list k0 c1, .list k2 c3], .list k4 c5, .list k6 c7] [c_T, c_T, c_F] [k_c f1_, k_c f3_, k_c f5_] (by kernel_rfl)
def m_45 (ds : List D) : Option D := pullD (α := Nat × (List D) × Nat × (List D)) (some (.tup ds)) (fun d => ((D.ln (D.at (D.at d 0) 0)), (D.lc (D.at (D.at d 0) 0)), (D.ln (D.at (D.at d 0) 1)), (D.lc (D.at (D.at d 0) 1)))) (fun (ka, ca, kb, cb) => .tup [.agg [.list ka ca, .list kb cb]]) fun (ka, ca, kb, cb) => thrusts_M ka ca kb cb
theorem m_45_ok {ds : List D} {r : D} (h : m_45 ds = some r) : Con 45 ds r := by
  unfold m_45 at h
  obtain ⟨⟨ka, ca, kb, cb⟩, e0, h0⟩ := pullD_elim h
  obtain rfl := tup_inj e0
  exact thrusts_M_ok ka ca kb cb h0
theorem m_45_eq (ka : Nat) (ca : List D) (kb : Nat) (cb : List D) : m_45 [.agg [.list ka ca, .list kb cb]] = thrusts_M ka ca kb cb := pullD_some (ka, ca, kb, cb) rfl rfl
def thrustsOf_sp : List LSpec := []
def thrustsOf_M (ka : Nat) (ca : List D) (kb : Nat) (cb : List D) : Option D := pullD (α := Nat × (List D) × Nat × (List D) × Int) (m_40 [.agg [.list ka ca, .list kb cb]]) (fun d => ((D.ln (D.at (D.at d 0) 0)), (D.lc (D.at (D.at d 0) 0)), (D.ln (D.at (D.at d 0) 1)), (D.lc (D.at (D.at d 0) 1)), (D.vi (D.at d 1)))) (fun (k0, c1, k2, c3, r4) => .tup [.agg [.list k0 c1, .list k2 c3], iD r4]) fun (k0, c1, k2, c3, r4) => ((if r4 ≠ (0 : Int) then some (.tup [.agg [.list 0 [], .list 0 []], iD r4]) else pullD (α := Nat × (List D) × Nat × (List D)) (m_45 [.agg [.list k0 c1, .list k2 c3]]) (fun d => ((D.ln (D.at d 0)), (D.lc (D.at d 0)), (D.ln (D.at d 1)), (D.lc (D.at d 1)))) (fun (k5, c6, k7, c8) => .agg [.list k5 c6, .list k7 c8]) fun (k5, c6, k7, c8) => (some (.tup [.agg [.list k5 c6, .list k7 c8], iD (0 : Int)]))))
theorem thrustsOf_M_ok (ka : Nat) (ca : List D) (kb : Nat) (cb : List D) {r : D} (h : thrustsOf_M ka ca kb cb = some r) : Con 13 [.agg [.list ka ca, .list kb cb]] r := by
  unfold thrustsOf_M at h
  obtain ⟨⟨k0, c1, k2, c3, r4⟩, f1_, h2_⟩ := pullD_elim h
  replace f1_ := m_40_ok f1_
  by_cases b3_ : r4 ≠ (0 : Int)
  · have h4_ := (if_pos b3_).symm.trans h2_
    obtain rfl := Option.some.inj h4_
    exact con_pc (op := true) (I := [13, 43]) (sp := thrustsOf_sp) 3000 (bT 1 []) [.tup [.agg [.list k0 c1, .list k2 c3], iD r4]] [c_b b3_] [k_c f1_] (by kernel_rfl)
  have h4_ := (if_neg b3_).symm.trans h2_
  have b5_ : r4 = (0 : Int) := by first | exact b3_ | simpa using b3_
  obtain ⟨⟨k5, c6, k7, c8⟩, f6_, h7_⟩ := pullD_elim h4_
  replace f6_ := m_45_ok f6_
  obtain rfl := Option.some.inj h7_
  exact con_pc (op := true) (I := [13, 43]) (sp := thrustsOf_sp) 3000 (bF 1 []) [.tup [.agg [.list k0 c1, .list k2 c3], iD r4], .agg [.list k5 c6, .list k7 c8]] [c_bn b5_] [k_c f1_, k_c f6_] (by kernel_rfl)
def m_13 (ds : List D) : Option D := pullD (α := Nat × (List D) × Nat × (List D)) (some (.tup ds)) (fun d => ((D.ln (D.at (D.at d 0) 0)), (D.lc (D.at (D.at d 0) 0)), (D.ln (D.at (D.at d 0) 1)), (D.lc (D.at (D.at d 0) 1)))) (fun (ka, ca, kb, cb) => .tup [.agg [.list ka ca, .list kb cb]]) fun (ka, ca, kb, cb) => thrustsOf_M ka ca kb cb
theorem m_13_ok {ds : List D} {r : D} (h : m_13 ds = some r) : Con 13 ds r := by
  unfold m_13 at h
  obtain ⟨⟨ka, ca, kb, cb⟩, e0, h0⟩ := pullD_elim h
  obtain rfl := tup_inj e0
  exact thrustsOf_M_ok ka ca kb cb h0
theorem m_13_eq (ka : Nat) (ca : List D) (kb : Nat) (cb : List D) : m_13 [.agg [.list ka ca, .list kb cb]] = thrustsOf_M ka ca kb cb := pullD_some (ka, ca, kb, cb) rfl rfl
def unit0_sp : List LSpec := []
def unit0_M (ka : Nat) (ca : List D) (kb : Nat) (cb : List D) : Option D := pullD (α := Nat × (List D) × Nat × (List D)) (m_45 [.agg [.list ka ca, .list kb cb]]) (fun d => ((D.ln (D.at d 0)), (D.lc (D.at d 0)), (D.ln (D.at d 1)), (D.lc (D.at d 1)))) (fun (k0, c1, k2, c3) => .agg [.list k0 c1, .list k2 c3]) fun (k0, c1, k2, c3) => (pullD (α := Int) (m_69 [.list k0 c1]) (fun d => ((D.vi d))) (fun r4 => iD r4) fun r4 => (some (iD r4)))
theorem unit0_M_ok (ka : Nat) (ca : List D) (kb : Nat) (cb : List D) {r : D} (h : unit0_M ka ca kb cb = some r) : Con 49 [.agg [.list ka ca, .list kb cb], iD 0] r := by
  unfold unit0_M at h
  obtain ⟨⟨k0, c1, k2, c3⟩, f1_, h2_⟩ := pullD_elim h
  replace f1_ := m_45_ok f1_
  obtain ⟨r4, f3_, h4_⟩ := pullD_elim h2_
  replace f3_ := m_69_ok f3_
  obtain rfl := Option.some.inj h4_
  exact con_pc (op := true) (I := [49, 68]) (sp := unit0_sp) 3000 [] [.agg [.list k0 c1, .list k2 c3], iD r4] [] [k_c f1_, k_c f3_] (by kernel_rfl)
def m_49k0 (ds : List D) : Option D := pullD (α := Nat × (List D) × Nat × (List D)) (some (.tup ds)) (fun d => ((D.ln (D.at (D.at d 0) 0)), (D.lc (D.at (D.at d 0) 0)), (D.ln (D.at (D.at d 0) 1)), (D.lc (D.at (D.at d 0) 1)))) (fun (ka, ca, kb, cb) => .tup [.agg [.list ka ca, .list kb cb], iD 0]) fun (ka, ca, kb, cb) => unit0_M ka ca kb cb
theorem m_49k0_ok {ds : List D} {r : D} (h : m_49k0 ds = some r) : Con 49 ds r := by
  unfold m_49k0 at h
  obtain ⟨⟨ka, ca, kb, cb⟩, e0, h0⟩ := pullD_elim h
  obtain rfl := tup_inj e0
  exact unit0_M_ok ka ca kb cb h0
theorem m_49k0_eq (ka : Nat) (ca : List D) (kb : Nat) (cb : List D) : m_49k0 [.agg [.list ka ca, .list kb cb], iD 0] = unit0_M ka ca kb cb := pullD_some (ka, ca, kb, cb) rfl rfl
def unit1_sp : List LSpec := []
def unit1_M (ka : Nat) (ca : List D) (kb : Nat) (cb : List D) : Option D := pullD (α := Nat × (List D) × Nat × (List D)) (m_45 [.agg [.list ka ca, .list kb cb]]) (fun d => ((D.ln (D.at d 0)), (D.lc (D.at d 0)), (D.ln (D.at d 1)), (D.lc (D.at d 1)))) (fun (k0, c1, k2, c3) => .agg [.list k0 c1, .list k2 c3]) fun (k0, c1, k2, c3) => (pullD (α := Int) (m_69 [.list k2 c3]) (fun d => ((D.vi d))) (fun r4 => iD r4) fun r4 => (some (iD r4)))
theorem unit1_M_ok (ka : Nat) (ca : List D) (kb : Nat) (cb : List D) {r : D} (h : unit1_M ka ca kb cb = some r) : Con 49 [.agg [.list ka ca, .list kb cb], iD 1] r := by
  unfold unit1_M at h
  obtain ⟨⟨k0, c1, k2, c3⟩, f1_, h2_⟩ := pullD_elim h
  replace f1_ := m_45_ok f1_
  obtain ⟨r4, f3_, h4_⟩ := pullD_elim h2_
  replace f3_ := m_69_ok f3_
  obtain rfl := Option.some.inj h4_
  exact con_pc (op := true) (I := [49, 68]) (sp := unit1_sp) 3000 [] [.agg [.list k0 c1, .list k2 c3], iD r4] [] [k_c f1_, k_c f3_] (by kernel_rfl)
def m_49k1 (ds : List D) : Option D := pullD (α := Nat × (List D) × Nat × (List D)) (some (.tup ds)) (fun d => ((D.ln (D.at (D.at d 0) 0)), (D.lc (D.at (D.at d 0) 0)), (D.ln (D.at (D.at d 0) 1)), (D.lc (D.at (D.at d 0) 1)))) (fun (ka, ca, kb, cb) => .tup [.agg [.list ka ca, .list kb cb], iD 1]) fun (ka, ca, kb, cb) => unit1_M ka ca kb cb
theorem m_49k1_ok {ds : List D} {r : D} (h : m_49k1 ds = some r) : Con 49 ds r := by
  unfold m_49k1 at h
  obtain ⟨⟨ka, ca, kb, cb⟩, e0, h0⟩ := pullD_elim h
  obtain rfl := tup_inj e0
  exact unit1_M_ok ka ca kb cb h0
theorem m_49k1_eq (ka : Nat) (ca : List D) (kb : Nat) (cb : List D) : m_49k1 [.agg [.list ka ca, .list kb cb], iD 1] = unit1_M ka ca kb cb := pullD_some (ka, ca, kb, cb) rfl rfl
def unit2_sp : List LSpec := []
def unit2_M (ka : Nat) (ca : List D) (kb : Nat) (cb : List D) : Option D := pullD (α := Nat × (List D) × Nat × (List D)) (m_46 [.agg [.list ka ca, .list kb cb]]) (fun d => ((D.ln (D.at d 0)), (D.lc (D.at d 0)), (D.ln (D.at d 1)), (D.lc (D.at d 1)))) (fun (k0, c1, k2, c3) => .agg [.list k0 c1, .list k2 c3]) fun (k0, c1, k2, c3) => (pullD (α := Int) (m_69 [.list k0 c1]) (fun d => ((D.vi d))) (fun r4 => iD r4) fun r4 => (some (iD r4)))
theorem unit2_M_ok (ka : Nat) (ca : List D) (kb : Nat) (cb : List D) {r : D} (h : unit2_M ka ca kb cb = some r) : Con 49 [.agg [.list ka ca, .list kb cb], iD 2] r := by
  unfold unit2_M at h
  obtain ⟨⟨k0, c1, k2, c3⟩, f1_, h2_⟩ := pullD_elim h
  replace f1_ := m_46_ok f1_
  obtain ⟨r4, f3_, h4_⟩ := pullD_elim h2_
  replace f3_ := m_69_ok f3_
  obtain rfl := Option.some.inj h4_
  exact con_pc (op := true) (I := [49, 68]) (sp := unit2_sp) 3000 [] [.agg [.list k0 c1, .list k2 c3], iD r4] [] [k_c f1_, k_c f3_] (by kernel_rfl)
def m_49k2 (ds : List D) : Option D := pullD (α := Nat × (List D) × Nat × (List D)) (some (.tup ds)) (fun d => ((D.ln (D.at (D.at d 0) 0)), (D.lc (D.at (D.at d 0) 0)), (D.ln (D.at (D.at d 0) 1)), (D.lc (D.at (D.at d 0) 1)))) (fun (ka, ca, kb, cb) => .tup [.agg [.list ka ca, .list kb cb], iD 2]) fun (ka, ca, kb, cb) => unit2_M ka ca kb cb
theorem m_49k2_ok {ds : List D} {r : D} (h : m_49k2 ds = some r) : Con 49 ds r := by
  unfold m_49k2 at h
  obtain ⟨⟨ka, ca, kb, cb⟩, e0, h0⟩ := pullD_elim h
  obtain rfl := tup_inj e0
  exact unit2_M_ok ka ca kb cb h0
def unit3_sp : List LSpec := []
def unit3_M (ka : Nat) (ca : List D) (kb : Nat) (cb : List D) : Option D := pullD (α := Nat × (List D) × Nat × (List D)) (m_46 [.agg [.list ka ca, .list kb cb]]) (fun d => ((D.ln (D.at d 0)), (D.lc (D.at d 0)), (D.ln (D.at d 1)), (D.lc (D.at d 1)))) (fun (k0, c1, k2, c3) => .agg [.list k0 c1, .list k2 c3]) fun (k0, c1, k2, c3) => (pullD (α := Int) (m_69 [.list k2 c3]) (fun d => ((D.vi d))) (fun r4 => iD r4) fun r4 => (some (iD r4)))
theorem unit3_M_ok (ka : Nat) (ca : List D) (kb : Nat) (cb : List D) {r : D} (h : unit3_M ka ca kb cb = some r) : Con 49 [.agg [.list ka ca, .list kb cb], iD 3] r := by
  unfold unit3_M at h
  obtain ⟨⟨k0, c1, k2, c3⟩, f1_, h2_⟩ := pullD_elim h
  replace f1_ := m_46_ok f1_
  obtain ⟨r4, f3_, h4_⟩ := pullD_elim h2_
  replace f3_ := m_69_ok f3_
  obtain rfl := Option.some.inj h4_
  exact con_pc (op := true) (I := [49, 68]) (sp := unit3_sp) 3000 [] [.agg [.list k0 c1, .list k2 c3], iD r4] [] [k_c f1_, k_c f3_] (by kernel_rfl)
def m_49k3 (ds : List D) : Option D := pullD (α := Nat × (List D) × Nat × (List D)) (some (.tup ds)) (fun d => ((D.ln (D.at (D.at d 0) 0)), (D.lc (D.at (D.at d 0) 0)), (D.ln (D.at (D.at d 0) 1)), (D.lc (D.at (D.at d 0) 1)))) (fun (ka, ca, kb, cb) => .tup [.agg [.list ka ca, .list kb cb], iD 3]) fun (ka, ca, kb, cb) => unit3_M ka ca kb cb
theorem m_49k3_ok {ds : List D} {r : D} (h : m_49k3 ds = some r) : Con 49 ds r := by
  unfold m_49k3 at h
  obtain ⟨⟨ka, ca, kb, cb⟩, e0, h0⟩ := pullD_elim h
  obtain rfl := tup_inj e0
  exact unit3_M_ok ka ca kb cb h0
def m_49 (ds : List D) : Option D := m_49k0 ds <|> m_49k1 ds <|> m_49k2 ds <|> m_49k3 ds
theorem m_49_ok {ds : List D} {r : D} (h : m_49 ds = some r) : Con 49 ds r := by
  unfold m_49 at h
  rcases orElse_elim h with h | h
  · exact m_49k0_ok h
  rcases orElse_elim h with h | h
  · exact m_49k1_ok h
  rcases orElse_elim h with h | h
  · exact m_49k2_ok h
  exact m_49k3_ok h
def unitOf_sp : List LSpec := []
def unitOf_M (ka : Nat) (ca : List D) (kb : Nat) (cb : List D) (n : Int) : Option D := pullD (α := Nat × (List D) × Nat × (List D) × Int) (m_40 [.agg [.list ka ca, .list kb cb]]) (fun d => ((D.ln (D.at (D.at d 0) 0)), (D.lc (D.at (D.at d 0) 0)), (D.ln (D.at (D.at d 0) 1)), (D.lc (D.at (D.at d 0) 1)), (D.vi (D.at d 1)))) (fun (k0, c1, k2, c3, r4) => .tup [.agg [.list k0 c1, .list k2 c3], iD r4]) fun (k0, c1, k2, c3, r4) => (pullD (α := Int) (m_48 [iD n]) (fun d => ((D.vi d))) (fun r5 => iD r5) fun r5 => (pullD (α := Int) (m_47 [.list 2 [iD r4, iD r5]]) (fun d => ((D.vi d))) (fun r6 => iD r6) fun r6 => ((if r6 ≠ (0 : Int) then some (.tup [iD (0 : Int), iD r6]) else pullD (α := Int) (m_49 [.agg [.list k0 c1, .list k2 c3], iD n]) (fun d => ((D.vi d))) (fun r7 => iD r7) fun r7 => (some (.tup [iD r7, iD (0 : Int)]))))))
theorem unitOf_M_ok (ka : Nat) (ca : List D) (kb : Nat) (cb : List D) (n : Int) {r : D} (h : unitOf_M ka ca kb cb n = some r) : Con 15 [.agg [.list ka ca, .list kb cb], iD n] r := by
  unfold unitOf_M at h
  obtain ⟨⟨k0, c1, k2, c3, r4⟩, f1_, h2_⟩ := pullD_elim h
  replace f1_ := m_40_ok f1_
  obtain ⟨r5, f3_, h4_⟩ := pullD_elim h2_
  replace f3_ := m_48_ok f3_
  obtain ⟨r6, f5_, h6_⟩ := pullD_elim h4_
  replace f5_ := m_47_ok f5_
  by_cases b7_ : r6 ≠ (0 : Int)
  · have h8_ := (if_pos b7_).symm.trans h6_
    obtain rfl := Option.some.inj h8_
    exact con_pc (op := true) (I := [15]) (sp := unitOf_sp) 3000 (bT 1 []) [.tup [.agg [.list k0 c1, .list k2 c3], iD r4], iD r5, iD r6] [c_le 1, c_b b7_] [k_c f1_, k_c f3_, k_c f5_] (by kernel_rfl)
  have h8_ := (if_neg b7_).symm.trans h6_
  have b9_ : r6 = (0 : Int) := by first | exact b7_ | simpa using b7_
  obtain ⟨r7, f10_, h11_⟩ := pullD_elim h8_
  replace f10_ := m_49_ok f10_
  obtain rfl := Option.some.inj h11_
  exact con_pc (op := true) (I := [15]) (sp := unitOf_sp) 3000 (bF 1 []) [.tup [.agg [.list k0 c1, .list k2 c3], iD r4], iD r5, iD r6, iD r7] [c_le 1, c_bn b9_] [k_c f1_, k_c f3_, k_c f5_, k_c f10_] (by kernel_rfl)
def m_15 (ds : List D) : Option D := pullD (α := Nat × (List D) × Nat × (List D) × Int) (some (.tup ds)) (fun d => ((D.ln (D.at (D.at d 0) 0)), (D.lc (D.at (D.at d 0) 0)), (D.ln (D.at (D.at d 0) 1)), (D.lc (D.at (D.at d 0) 1)), (D.vi (D.at d 1)))) (fun (ka, ca, kb, cb, n) => .tup [.agg [.list ka ca, .list kb cb], iD n]) fun (ka, ca, kb, cb, n) => unitOf_M ka ca kb cb n
theorem m_15_ok {ds : List D} {r : D} (h : m_15 ds = some r) : Con 15 ds r := by
  unfold m_15 at h
  obtain ⟨⟨ka, ca, kb, cb, n⟩, e0, h0⟩ := pullD_elim h
  obtain rfl := tup_inj e0
  exact unitOf_M_ok ka ca kb cb n h0
theorem m_15_eq (ka : Nat) (ca : List D) (kb : Nat) (cb : List D) (n : Int) : m_15 [.agg [.list ka ca, .list kb cb], iD n] = unitOf_M ka ca kb cb n := pullD_some (ka, ca, kb, cb, n) rfl rfl
end
end Go.Proofs.Ytbfefnfmdkgfjaa
/- Windows: residuals, axial and radial forces, thrusts. -/
namespace Go.Proofs.Ytbfefnfmdkgfjaa
open Go.Ev Go.RowKit
set_option maxRecDepth 100000
section
variable {a b : List Int}
/-- The residual at a boundary, the axial and the radial forces at a level. -/
def rs (a b : List Int) (k : Nat) : Int := sumTo (fun j => at' a j + at' b j) k
def ax (t a b : List Int) (i : Nat) : Int := at' t i * (rs a b i + rs a b (i + 1))
theorem rs_bound (h : Win a b) {k : Nat} (hk : k ≤ 20) : -4000 ≤ rs a b k ∧ rs a b k ≤ 4000 := by
  have := sumTo_bound (f := fun j => at' a j + at' b j) (B := 200) (k := k) fun i _ => by have := h.ra i; have := h.rb i; omega
  unfold rs; omega
theorem ax_bound (h : Win a b) {t : List Int} (ht : ∀ i, -100 ≤ at' t i ∧ at' t i ≤ 100) {i : Nat} (hi : i < 20) : -800000 ≤ ax t a b i ∧ ax t a b i ≤ 800000 := by
  have h1 := rs_bound h (k := i) (by omega)
  have h2 := rs_bound h (k := i + 1) (by omega)
  have h3 := ht i
  have := mulB (x := at' t i) (y := rs a b i + rs a b (i + 1)) (A := 100) (B := 8000) (by omega) (by omega) (by omega) (by omega)
  unfold ax; omega
theorem cells_int (l : List Int) : ∀ u : D, u ∈ l.map iD → cellD u := by
  intro u hu
  obtain ⟨x, -, rfl⟩ := List.mem_map.1 hu
  rfl
theorem residuals_eq (h : Win a b) : m_41 [wnD a b] = some (lD (tab (a.length + 1) (rs a b))) := by
  have hp := h.pos
  have hle := h.le
  have hlen := h.len
  rw [m_41_eq]
  unfold residuals_M
  rw [guardP_pos hp, guardP_pos ⟨cells_int a, Nat.le_refl _, by omega, by omega⟩, guardP_pos (by simp)]
  have h1 : runR (residuals_L3_S a.length (a.map iD) b.length (b.map iD)) (.next 0 [iD 0, .list (0 + a.length) ((tab a.length fun j => if j < 0 then at' a j + at' b j else at' a j).map iD)]) = _ := runR_scan (S := residuals_L3_S a.length (a.map iD) b.length (b.map iD)) (fun _ => 0) (fun i => [iD (i : Int), .list (0 + a.length) ((tab a.length fun j => if j < i then at' a j + at' b j else at' a j).map iD)]) (Nat.zero_le a.length) (fun i _ hi => by
    show residuals_L3_S0 a.length (a.map iD) b.length (b.map iD) _ = _
    unfold residuals_L3_S0
    rw [pullD_some ((i : Int), 0 + a.length, (tab a.length fun j => if j < i then at' a j + at' b j else at' a j).map iD) (by rfl) (by rfl)]
    dsimp only
    have e2 : IntKind.i64.wrap ((i : Int) + 1) = ((i + 1 : Nat) : Int) := natI (by omega)
    have ha := h.ra i
    have hb := h.rb i
    simp only [e2, Int.toNat_natCast]
    rw [if_pos (by omega), guardP_pos (by omega), readN (by omega), pullD_some (at' b i) (by rfl) (by rfl), guardP_pos (by omega), readM0 _ hi, pullD_some (if i < i then at' a i + at' b i else at' a i) (by rfl) (by rfl), if_neg (Nat.lt_irrefl i), guardP_pos ⟨by simp [tab_len]; omega, cellD_int _⟩, wrapJ (at' a i + at' b i) (by omega) (by omega), set_list _ _ _ (by rw [tab_len]; omega), tab_set]
    have h5 : (tab a.length fun j => if j = i then at' a i + at' b i else if j < i then at' a j + at' b j else at' a j) = tab a.length fun j => if j < i + 1 then at' a j + at' b j else at' a j := tab_congr fun j hj => by
      by_cases h3 : j = i
      · subst h3; simp
      · simp only [h3, if_false]
        by_cases h4 : j < i
        · rw [if_pos h4, if_pos (by omega)]
        · rw [if_neg h4, if_neg (by omega)]
    rw [h5])
  have h2 : runR (residuals_L3_S a.length (a.map iD) b.length (b.map iD)) (.next 0 [iD (a.length : Int), .list (0 + a.length) ((tab a.length fun j => if j < a.length then at' a j + at' b j else at' a j).map iD)]) = some (.out 0 [.list (0 + a.length) ((tab a.length fun j => if j < a.length then at' a j + at' b j else at' a j).map iD)]) := runR_exit (by
    show residuals_L3_S0 a.length (a.map iD) b.length (b.map iD) _ = _
    unfold residuals_L3_S0
    rw [pullD_some ((a.length : Int), 0 + a.length, (tab a.length fun j => if j < a.length then at' a j + at' b j else at' a j).map iD) (by rfl) (by rfl)]
    dsimp only
    rw [if_neg (by omega)])
  have h0 : (tab a.length fun j => if j < 0 then at' a j + at' b j else at' a j) = a := by
    rw [tab_congr (g := at' a) fun j _ => if_neg (Nat.not_lt_zero j), tab_of]
  rw [h0] at h1
  have h3 : (tab a.length fun j => if j < a.length then at' a j + at' b j else at' a j) = tab a.length fun j => at' a j + at' b j := tab_congr fun j hj => if_pos hj
  rw [bindL_some (h1.trans h2), if_pos rfl, h3, pullD_some (0 + a.length, (tab a.length fun j => at' a j + at' b j).map iD) (by rfl) (by rfl)]
  dsimp only
  rw [guardP_pos (by simp [tab_len])]
  have hat : ∀ k, k ≤ a.length → sumTo (at' (tab a.length fun j => at' a j + at' b j)) k = rs a b k := fun k hk => sumTo_congr fun i hi => tab_at _ (by omega)
  have h4 := sums_eq (tab a.length fun j => at' a j + at' b j) (by rw [tab_len]; omega) (fun k hk => by
    rw [tab_len] at hk
    rw [hat k hk]
    have := rs_bound h (k := k) (by omega)
    omega)
  have h6 : D.list (0 + a.length) ((tab a.length fun j => at' a j + at' b j).map iD) = lD (tab a.length fun j => at' a j + at' b j) := by simp only [lD, tab_len, Nat.zero_add]
  rw [h6, h4, tab_len, tab_congr fun i hi => hat i (by omega), pullD_some (a.length + 1, (tab (a.length + 1) (rs a b)).map iD) (by simp only [lD, tab_len]) (by rfl)]
  simp only [lD, tab_len]
end
end Go.Proofs.Ytbfefnfmdkgfjaa
/- Windows: axial forces, thrusts; what is checked. -/
namespace Go.Proofs.Ytbfefnfmdkgfjaa
open Go.Ev Go.RowKit
set_option maxRecDepth 100000
section
variable {a b : List Int}
theorem ax_wrap (h : Win a b) {t : List Int} (ht : ∀ i, -100 ≤ at' t i ∧ at' t i ≤ 100) {i : Nat} (hi : i < 16) : IntKind.i64.wrap (at' t i * IntKind.i64.wrap (rs a b i + rs a b (i + 1))) = ax t a b i := by
  have h1 := rs_bound h (k := i) (by omega)
  have h2 := rs_bound h (k := i + 1) (by omega)
  have h3 := ax_bound h ht (i := i) (by omega)
  rw [wrapJ (rs a b i + rs a b (i + 1)) (by omega) (by omega)]
  unfold ax at h3 ⊢
  exact wrapJ _ (by omega) (by omega)
theorem axial_one (h : Win a b) (S : Rd → Option Rd) (h3 : ∀ ds, S (.next 3 ds) = axial_L7_S3 a.length (a.map iD) b.length (b.map iD) (a.length + 1) ((tab (a.length + 1) (rs a b)).map iD) ds)
    (h2 : ∀ ds, S (.next 2 ds) = axial_L7_S2 a.length (a.map iD) b.length (b.map iD) (a.length + 1) ((tab (a.length + 1) (rs a b)).map iD) ds) :
    runR S (.next 3 [iD 0, .one (.tuple #[]), .one (.tuple #[])]) = some (.out 2 [lD (tab a.length (ax a a b)), .one (.tuple #[])]) := by
  have hp := h.pos
  have hle := h.le
  obtain ⟨m, hm⟩ : ∃ m, a.length = m + 1 := ⟨a.length - 1, by omega⟩
  have h1 : runR S (.next 3 [iD 0, .one (.tuple #[]), .one (.tuple #[])]) = _ := runR_scan (S := S) (fun i => match i with | 0 => 3 | _ + 1 => 2)
    (fun i => match i with | 0 => [iD 0, .one (.tuple #[]), .one (.tuple #[])] | i + 1 => [iD ((i + 1 : Nat) : Int), lD (tab (i + 1) (ax a a b)), .one (.tuple #[])]) (Nat.zero_le (m + 1)) (fun i _ hi => by
    replace hi : i < a.length := by omega
    have k1 := ax_wrap h h.ra (i := i) (by omega)
    cases i with
    | zero =>
      show S (.next 3 _) = _
      rw [h3]
      unfold axial_L7_S3
      rw [pullD_some ((0 : Nat) : Int) (by rfl) (by rfl)]
      have e2 : IntKind.i64.wrap (((0 : Nat) : Int) + 1) = ((0 + 1 : Nat) : Int) := natI (by omega)
      simp only [e2, Int.toNat_natCast]
      rw [if_pos (by omega), guardP_pos (by omega), readN hi, pullD_some (at' a 0) (by rfl) (by rfl), guardP_pos (by omega), readM _ (by omega), pullD_some (rs a b 0) (by rfl) (by rfl), guardP_pos (by omega), readM _ (by omega), pullD_some (rs a b (0 + 1)) (by rfl) (by rfl), k1]
      rfl
    | succ i =>
      show S (.next 2 _) = _
      rw [h2]
      unfold axial_L7_S2
      rw [pullD_some (((i + 1 : Nat) : Int), (tab (i + 1) (ax a a b)).length, (tab (i + 1) (ax a a b)).map iD) (by rfl) (by rfl)]
      dsimp only
      have e2 : IntKind.i64.wrap (((i + 1 : Nat) : Int) + 1) = ((i + 1 + 1 : Nat) : Int) := natI (by omega)
      simp only [e2, Int.toNat_natCast]
      rw [if_pos (by omega), guardP_pos (by omega), readN hi, pullD_some (at' a (i + 1)) (by rfl) (by rfl), guardP_pos (by omega), readM _ (by omega), pullD_some (rs a b (i + 1)) (by rfl) (by rfl), guardP_pos (by omega), readM _ (by omega), pullD_some (rs a b (i + 1 + 1)) (by rfl) (by rfl), k1,
        guardP_pos ⟨cellD_int _, by simp, by simp only [tab_len]; omega, by simp only [tab_len]; omega⟩, grow_list, ← tab_succ])
  have h4 : runR S (.next 2 [iD ((m + 1 : Nat) : Int), lD (tab (m + 1) (ax a a b)), .one (.tuple #[])]) = some (.out 2 [lD (tab (m + 1) (ax a a b)), .one (.tuple #[])]) := runR_exit (by
    rw [h2]
    unfold axial_L7_S2
    rw [pullD_some (((m + 1 : Nat) : Int), (tab (m + 1) (ax a a b)).length, (tab (m + 1) (ax a a b)).map iD) (by rfl) (by rfl)]
    dsimp only
    rw [if_neg (by omega)])
  rw [h1.trans h4, hm]
theorem axial_two (h : Win a b) (L : List Int) (x2 : Nat) (x3 : List D) (S : Rd → Option Rd) (h2 : ∀ ds, S (.next 2 ds) = axial_L7_3_S2 a.length (a.map iD) b.length (b.map iD) (a.length + 1) ((tab (a.length + 1) (rs a b)).map iD) x2 x3 ds)
    (h0 : ∀ ds, S (.next 0 ds) = axial_L7_3_S0 a.length (a.map iD) b.length (b.map iD) (a.length + 1) ((tab (a.length + 1) (rs a b)).map iD) x2 x3 ds) :
    runR S (.next 2 [iD 0, lD L, .one (.tuple #[])]) = some (.out 0 [lD L, lD (tab a.length (ax b a b))]) := by
  have hp := h.pos
  have hle := h.le
  have hlen := h.len
  obtain ⟨m, hm⟩ : ∃ m, a.length = m + 1 := ⟨a.length - 1, by omega⟩
  have h1 : runR S (.next 2 [iD 0, lD L, .one (.tuple #[])]) = _ := runR_scan (S := S) (fun i => match i with | 0 => 2 | _ + 1 => 0)
    (fun i => match i with | 0 => [iD 0, lD L, .one (.tuple #[])] | i + 1 => [iD ((i + 1 : Nat) : Int), lD L, lD (tab (i + 1) (ax b a b))]) (Nat.zero_le (m + 1)) (fun i _ hi => by
    replace hi : i < b.length := by omega
    have k1 := ax_wrap h h.rb (i := i) (by omega)
    cases i with
    | zero =>
      show S (.next 2 _) = _
      rw [h2]
      unfold axial_L7_3_S2
      rw [pullD_some (((0 : Nat) : Int), L.length, L.map iD) (by rfl) (by rfl)]
      dsimp only
      have e2 : IntKind.i64.wrap (((0 : Nat) : Int) + 1) = ((0 + 1 : Nat) : Int) := natI (by omega)
      simp only [e2, Int.toNat_natCast]
      rw [if_pos (by omega), guardP_pos (by omega), readN hi, pullD_some (at' b 0) (by rfl) (by rfl), guardP_pos (by omega), readM _ (by omega), pullD_some (rs a b 0) (by rfl) (by rfl), guardP_pos (by omega), readM _ (by omega), pullD_some (rs a b (0 + 1)) (by rfl) (by rfl), k1]
      rfl
    | succ i =>
      show S (.next 0 _) = _
      rw [h0]
      unfold axial_L7_3_S0
      rw [pullD_some (((i + 1 : Nat) : Int), L.length, L.map iD, (tab (i + 1) (ax b a b)).length, (tab (i + 1) (ax b a b)).map iD) (by rfl) (by rfl)]
      dsimp only
      have e2 : IntKind.i64.wrap (((i + 1 : Nat) : Int) + 1) = ((i + 1 + 1 : Nat) : Int) := natI (by omega)
      simp only [e2, Int.toNat_natCast]
      rw [if_pos (by omega), guardP_pos (by omega), readN hi, pullD_some (at' b (i + 1)) (by rfl) (by rfl), guardP_pos (by omega), readM _ (by omega), pullD_some (rs a b (i + 1)) (by rfl) (by rfl), guardP_pos (by omega), readM _ (by omega), pullD_some (rs a b (i + 1 + 1)) (by rfl) (by rfl), k1,
        guardP_pos ⟨cellD_int _, by simp, by simp only [tab_len]; omega, by simp only [tab_len]; omega⟩, grow_list, ← tab_succ])
  have h4 : runR S (.next 0 [iD ((m + 1 : Nat) : Int), lD L, lD (tab (m + 1) (ax b a b))]) = some (.out 0 [lD L, lD (tab (m + 1) (ax b a b))]) := runR_exit (by
    rw [h0]
    unfold axial_L7_3_S0
    rw [pullD_some (((m + 1 : Nat) : Int), L.length, L.map iD, (tab (m + 1) (ax b a b)).length, (tab (m + 1) (ax b a b)).map iD) (by rfl) (by rfl)]
    dsimp only
    rw [if_neg (by omega)])
  rw [h1.trans h4, hm]
theorem axial_eq (h : Win a b) : m_44 [wnD a b] = some (.agg [lD (tab a.length (ax a a b)), lD (tab a.length (ax b a b))]) := by
  rw [m_44_eq]
  unfold axial_M
  rw [show [D.agg [D.list a.length (a.map iD), D.list b.length (b.map iD)]] = [wnD a b] from rfl, residuals_eq h, pullD_some (a.length + 1, (tab (a.length + 1) (rs a b)).map iD) (by simp only [lD, tab_len]) (by rfl)]
  dsimp only
  rw [bindL_some (axial_one h (axial_L7_S a.length (a.map iD) b.length (b.map iD) (a.length + 1) ((tab (a.length + 1) (rs a b)).map iD)) (fun _ => rfl) (fun _ => rfl)), if_neg (by decide), if_neg (by decide), if_pos rfl, pullD_some ((tab a.length (ax a a b)).length, (tab a.length (ax a a b)).map iD) (by rfl) (by rfl)]
  dsimp only
  rw [bindL_some (axial_two h (tab a.length (ax a a b)) (tab a.length (ax a a b)).length ((tab a.length (ax a a b)).map iD) (axial_L7_3_S a.length (a.map iD) b.length (b.map iD) (a.length + 1) ((tab (a.length + 1) (rs a b)).map iD) (tab a.length (ax a a b)).length ((tab a.length (ax a a b)).map iD)) (fun _ => rfl) (fun _ => rfl)), if_pos rfl,
    pullD_some ((tab a.length (ax a a b)).length, (tab a.length (ax a a b)).map iD, (tab a.length (ax b a b)).length, (tab a.length (ax b a b)).map iD) (by rfl) (by rfl)]
  dsimp only
  rw [guardP_pos ⟨by simp, by omega⟩, guardP_pos ⟨by simp, by omega⟩]
/-- The thrust at a boundary. -/
def th (t a b : List Int) (k : Nat) : Int := sumTo (ax t a b) k
theorem th_bound (h : Win a b) {t : List Int} (ht : ∀ i, -100 ≤ at' t i ∧ at' t i ≤ 100) {k : Nat} (hk : k ≤ 20) : -16000000 ≤ th t a b k ∧ th t a b k ≤ 16000000 := by
  have := sumTo_bound (f := ax t a b) (B := 800000) (k := k) fun i hi => ax_bound h ht (by omega)
  unfold th; omega
theorem sums_ax (h : Win a b) {t : List Int} (ht : ∀ i, -100 ≤ at' t i ∧ at' t i ≤ 100) : m_66 [lD (tab a.length (ax t a b))] = some (lD (tab (a.length + 1) (th t a b))) := by
  have hle := h.le
  have hat : ∀ k, k ≤ a.length → sumTo (at' (tab a.length (ax t a b))) k = th t a b k := fun k hk => sumTo_congr fun i hi => tab_at _ (by omega)
  rw [sums_eq _ (by rw [tab_len]; omega) (fun k hk => by
    rw [tab_len] at hk
    rw [hat k hk]
    have := th_bound h ht (k := k) (by omega)
    omega), tab_len, tab_congr fun i hi => hat i (by omega)]
theorem thrusts_eq (h : Win a b) : m_45 [wnD a b] = some (.agg [lD (tab (a.length + 1) (th a a b)), lD (tab (a.length + 1) (th b a b))]) := by
  rw [m_45_eq]
  unfold thrusts_M
  rw [show [D.agg [D.list a.length (a.map iD), D.list b.length (b.map iD)]] = [wnD a b] from rfl, axial_eq h, pullD_some ((tab a.length (ax a a b)).length, (tab a.length (ax a a b)).map iD, (tab a.length (ax b a b)).length, (tab a.length (ax b a b)).map iD) (by rfl) (by rfl)]
  dsimp only
  rw [show [D.list (tab a.length (ax a a b)).length ((tab a.length (ax a a b)).map iD)] = [lD (tab a.length (ax a a b))] from rfl, sums_ax h h.ra, pullD_some ((tab (a.length + 1) (th a a b)).length, (tab (a.length + 1) (th a a b)).map iD) (by rfl) (by rfl)]
  dsimp only
  rw [show [D.list (tab a.length (ax b a b)).length ((tab a.length (ax b a b)).map iD)] = [lD (tab a.length (ax b a b))] from rfl, sums_ax h h.rb, pullD_some ((tab (a.length + 1) (th b a b)).length, (tab (a.length + 1) (th b a b)).map iD) (by rfl) (by rfl)]
/-! What is checked. -/
theorem chk_loop (l : List Int) (hl : l.length ≤ 1000) (hr : ∀ i, -100 ≤ at' l i ∧ at' l i ≤ 100) (kk : Nat) (cc : List D) (S : Rd → Option Rd) (hS : ∀ ds, S (.next 0 ds) = chkWindow_L71_2_S0 l.length (l.map iD) kk cc ds) : runR S (.next 0 [iD 0]) = some (.out 0 []) := by
  have h1 : runR S (.next 0 [iD 0]) = _ := runR_scan (S := S) (fun _ => 0) (fun i => [iD (i : Int)]) (Nat.zero_le l.length) (fun i _ hi => by
    show S (.next 0 _) = _
    rw [hS]
    unfold chkWindow_L71_2_S0
    rw [pullD_some (i : Int) (by rfl) (by rfl)]
    have := hr i
    rw [if_pos (by omega), guardP_pos (by omega), readA hi, pullD_some (at' l i) (by rfl) (by rfl), if_neg (by omega), if_neg (by omega), natI (by omega)])
  refine h1.trans (runR_exit ?_)
  rw [hS]
  unfold chkWindow_L71_2_S0
  rw [pullD_some (l.length : Int) (by rfl) (by rfl), if_neg (by omega)]
theorem first_eq (l : List Int) (hl : l.length ≤ 1000) : m_47 [lD l] = some (iD ((l.find? fun x => x != 0).getD 0)) := by
  rw [m_47_eq]
  unfold firstOf_M
  have key : ∀ m i, i + m = l.length → runR (firstOf_L2_S l.length (l.map iD)) (.next 0 [iD (i : Int)]) = (match (l.drop i).find? (fun x => x != 0) with | some x => some (.out 1 [iD x]) | none => some (.out 0 [])) := by
    intro m
    induction m with
    | zero =>
      intro i hi
      rw [List.drop_of_length_le (by omega)]
      refine runR_exit ?_
      show firstOf_L2_S0 l.length (l.map iD) _ = _
      unfold firstOf_L2_S0
      rw [pullD_some (i : Int) (by rfl) (by rfl), if_neg (by omega)]
    | succ m ih =>
      intro i hi
      have hlt : i < l.length := by omega
      have hd : l.drop i = at' l i :: l.drop (i + 1) := by
        rw [List.drop_eq_getElem_cons hlt]
        congr 1
        unfold at'
        rw [List.getElem?_eq_getElem hlt]; rfl
      rw [hd, List.find?_cons]
      have hst : firstOf_L2_S l.length (l.map iD) (.next 0 [iD (i : Int)]) = if at' l i ≠ 0 then some (.out 1 [iD (at' l i)]) else some (.next 0 [iD ((i + 1 : Nat) : Int)]) := by
        show firstOf_L2_S0 l.length (l.map iD) _ = _
        unfold firstOf_L2_S0
        rw [pullD_some (i : Int) (by rfl) (by rfl), if_pos (by omega), guardP_pos (by omega), readA hlt, pullD_some (at' l i) (by rfl) (by rfl), natI (by omega)]
      by_cases h0 : at' l i = 0
      · rw [if_neg (by simpa using h0)] at hst
        rw [runR_next hst, ih (i + 1) (by omega), show (at' l i != 0) = false by simp [h0]]
      · rw [if_pos h0] at hst
        rw [runR_exit hst, show (at' l i != 0) = true by simp [h0]]
  have h := key l.length 0 (by omega)
  rw [List.drop_zero, Int.natCast_zero] at h
  cases hf : l.find? (fun x => x != 0) with
  | none =>
    rw [hf] at h
    rw [bindL_some (j := 0) (ds := []) h, if_pos rfl, pullD_some () (by rfl) (by rfl)]
    rfl
  | some x =>
    rw [hf] at h
    rw [bindL_some (j := 1) (ds := [iD x]) h, if_neg (by decide), if_pos rfl, pullD_some x (by rfl) (by rfl)]
    rfl
theorem chkCount_eq {n : Int} (h1 : 1 ≤ n) (h2 : n ≤ 15) : m_51 [iD n, iD 15] = some (iD 0) := by
  rw [m_51_eq]
  unfold chkCount_M
  rw [if_neg (by omega), if_neg (by omega)]
theorem chkWindow_eq (h : Win a b) : m_17 [wnD a b] = some (iD 0) := by
  have hp := h.pos
  have hle := h.le
  have hlen := h.len
  rw [m_17_eq]
  unfold chkWindow_M
  rw [if_neg (by omega), chkCount_eq (by omega) (by omega), pullD_some (0 : Int) (by rfl) (by rfl),
    bindL_some (chk_loop a (by omega) h.ra b.length (b.map iD) (chkWindow_L71_2_S a.length (a.map iD) b.length (b.map iD)) (fun _ => rfl)), if_pos rfl, pullD_some () (by rfl) (by rfl),
    bindL_some (chk_loop b (by omega) h.rb a.length (a.map iD) (chkWindow_L71_2_1_S a.length (a.map iD) b.length (b.map iD)) (fun _ => rfl)), if_pos rfl, pullD_some () (by rfl) (by rfl),
    show [D.list 3 [iD 0, iD 0, iD 0]] = [lD [0, 0, 0]] from rfl, first_eq _ (by decide), pullD_some (0 : Int) (by rfl) (by rfl), if_neg (by decide)]
  have sb : ∀ {l : List Int}, l.length ≤ 1000 → (∀ i, -100 ≤ at' l i ∧ at' l i ≤ 100) → m_52 [lD l] = some (iD (sumTo (at' l) l.length)) := fun {l} hl hr => sum_eq l hl fun k hk => by
    have := sumTo_bound (f := at' l) (B := 100) (k := k) fun i _ => hr i
    omega
  have h3 := sumTo_bound (f := at' a) (B := 100) (k := a.length) fun i _ => h.ra i
  have h4 := h.sum
  rw [show [D.list a.length (a.map iD)] = [lD a] from rfl, sb (by omega) h.ra, pullD_some (sumTo (at' a) a.length) (by rfl) (by rfl), show [D.list b.length (b.map iD)] = [lD b] from rfl, sb (by omega) h.rb, pullD_some (sumTo (at' b) b.length) (by rfl) (by rfl), hlen, h4, if_neg (by decide)]
theorem chkd_eq (h : Win a b) : m_40 [wnD a b] = some (.tup [wnD a b, iD 0]) := by
  rw [m_40_eq]
  unfold chkdWindow_M
  rw [show [D.agg [D.list a.length (a.map iD), D.list b.length (b.map iD)]] = [wnD a b] from rfl, chkWindow_eq h, pullD_some (0 : Int) (by rfl) (by rfl), if_neg (by decide)]
theorem thrustsOf_eq (h : Win a b) : m_13 [wnD a b] = some (.tup [.agg [lD (tab (a.length + 1) (th a a b)), lD (tab (a.length + 1) (th b a b))], iD 0]) := by
  rw [m_13_eq]
  unfold thrustsOf_M
  rw [show [D.agg [D.list a.length (a.map iD), D.list b.length (b.map iD)]] = [wnD a b] from rfl, chkd_eq h, pullD_some (a.length, a.map iD, b.length, b.map iD, 0) (by rfl) (by rfl)]
  dsimp only
  rw [if_neg (by decide), show [D.agg [D.list a.length (a.map iD), D.list b.length (b.map iD)]] = [wnD a b] from rfl, thrusts_eq h, pullD_some ((tab (a.length + 1) (th a a b)).length, (tab (a.length + 1) (th a a b)).map iD, (tab (a.length + 1) (th b a b)).length, (tab (a.length + 1) (th b a b)).map iD) (by rfl) (by rfl)]
theorem copyInts_eq (l : List Int) (hl : l.length ≤ 1000) : m_42 [lD l] = some (lD l) := by
  rw [m_42_eq]
  unfold copyInts_M
  rw [guardP_pos ⟨cells_int l, Nat.le_refl _, by omega, by omega⟩, guardP_pos (by simp), guardP_pos ⟨by simp, by omega⟩, Nat.zero_add]
theorem copyW_eq (a b : List Int) (ha : a.length ≤ 1000) (hb : b.length ≤ 1000) : m_11 [wnD a b] = some (wnD a b) := by
  rw [m_11_eq]
  unfold copyW_M
  rw [show [D.list a.length (a.map iD)] = [lD a] from rfl, copyInts_eq a ha, pullD_some (a.length, a.map iD) (by rfl) (by rfl)]
  dsimp only
  rw [show [D.list b.length (b.map iD)] = [lD b] from rfl, copyInts_eq b hb, pullD_some (b.length, b.map iD) (by rfl) (by rfl)]
theorem few_eq (a b : List Int) : m_9 [wnD a b] = some (.one (.bool (decide (a.length ≤ 17 ∧ b.length ≤ 17)))) := by
  rw [m_9_eq]
  unfold few_M
  by_cases h : a.length ≤ 17
  · rw [if_pos (by omega)]
    have : decide ((b.length : Int) ≤ 17) = decide (a.length ≤ 17 ∧ b.length ≤ 17) := by
      rw [decide_eq_decide]; omega
    rw [this]
  · rw [if_neg (by omega)]
    have : decide (a.length ≤ 17 ∧ b.length ≤ 17) = false := by rw [decide_eq_false_iff_not]; omega
    rw [this]
end
end Go.Proofs.Ytbfefnfmdkgfjaa
/- Windows, as arguments. -/
namespace Go.Proofs.Ytbfefnfmdkgfjaa
open Go.Ev Go.RowKit
theorem list_of {α : Type} {es : List CT} {enc : α → List D} (he : ∀ r, okDs es r → ∃ a, r = enc a) {d : D} (h : okD (.sl es) d) : ∃ ys : List α, d = .list ys.length (ys.map enc).flatten ∧ ys.length ≤ maxLen := by
  simp only [okD] at h
  obtain ⟨rows, rfl, hl, hr⟩ := h
  have : ∀ rows : List (List D), (∀ r ∈ rows, okDs es r) → ∃ ys : List α, rows = ys.map enc := by
    intro rows
    induction rows with
    | nil => intro _; exact ⟨[], rfl⟩
    | cons r rs ih =>
      intro h
      obtain ⟨a, rfl⟩ := he r (h r (by simp))
      obtain ⟨ys, rfl⟩ := ih fun q hq => h q (by simp [hq])
      exact ⟨a :: ys, rfl⟩
  obtain ⟨ys, rfl⟩ := this rows hr
  exact ⟨ys, by rw [List.length_map], by rwa [List.length_map] at hl⟩
theorem single_flat {α : Type} (f : α → D) : ∀ l : List α, (l.map fun x => [f x]).flatten = l.map f
  | [] => rfl
  | a :: l => by simp only [List.map_cons, List.flatten_cons, single_flat f l]; rfl
theorem ints_of {d : D} (h : okD (.sl [.int .i64]) d) : ∃ l : List Int, d = lD l := by
  obtain ⟨l, rfl, -⟩ := list_of (enc := fun x : Int => [iD x]) (fun r hr => by
    simp only [okDs, okD] at hr
    obtain ⟨_, _, rfl, ⟨x, rfl, -⟩, rfl⟩ := hr
    exact ⟨x, rfl⟩) h
  exact ⟨l, by rw [single_flat]⟩
theorem win_of {ds : List D} (h : okDs [.sl [.int .i64], .sl [.int .i64]] ds) : ∃ a b : List Int, ds = [lD a, lD b] := by
  rw [okDs] at h
  obtain ⟨d, t, rfl, h1, h2⟩ := h
  rw [okDs] at h2
  obtain ⟨e, t, rfl, h3, h4⟩ := h2
  simp only [okDs] at h4
  subst h4
  obtain ⟨a, rfl⟩ := ints_of h1
  obtain ⟨b, rfl⟩ := ints_of h3
  exact ⟨a, b, rfl⟩
theorem int_of {k : IntKind} {d : D} (h : okD (.int k) d) : ∃ x, d = .one (.int k x) ∧ (Lit.int k x).wf = true := by
  simp only [okD] at h
  exact h
end Go.Proofs.Ytbfefnfmdkgfjaa
namespace Go.Proofs.Ytbfefnfmdkgfjaa
open Go.Ev Go.RowKit
set_option maxRecDepth 100000
set_option maxHeartbeats 8000000
set_option linter.all false
noncomputable section
def around_sp : List LSpec := []
def around_M (n m : Int) : Option D := some (.agg [iD (IntKind.i64.wrap (n - m)), iD (IntKind.i64.wrap (n + m))])
theorem around_M_ok (n m : Int) {r : D} (h : around_M n m = some r) : Con 72 [iD n, iD m] r := by
  unfold around_M at h
  obtain rfl := Option.some.inj h
  exact con_pc (op := true) (I := [72]) (sp := around_sp) 3000 [] [] [] [] (by kernel_rfl)
def m_72 (ds : List D) : Option D := pullD (α := Int × Int) (some (.tup ds)) (fun d => ((D.vi (D.at d 0)), (D.vi (D.at d 1)))) (fun (n, m) => .tup [iD n, iD m]) fun (n, m) => around_M n m
theorem m_72_ok {ds : List D} {r : D} (h : m_72 ds = some r) : Con 72 ds r := by
  unfold m_72 at h
  obtain ⟨⟨n, m⟩, e0, h0⟩ := pullD_elim h
  obtain rfl := tup_inj e0
  exact around_M_ok n m h0
theorem m_72_eq (n m : Int) : m_72 [iD n, iD m] = around_M n m := pullD_some (n, m) rfl rfl
def plus_sp : List LSpec := []
def plus_M (a b c d : Int) : Option D := some (.agg [iD (IntKind.i64.wrap (a + c)), iD (IntKind.i64.wrap (b + d))])
theorem plus_M_ok (a b c d : Int) {r : D} (h : plus_M a b c d = some r) : Con 73 [.agg [iD a, iD b], .agg [iD c, iD d]] r := by
  unfold plus_M at h
  obtain rfl := Option.some.inj h
  exact con_pc (op := true) (I := [73]) (sp := plus_sp) 3000 [] [] [] [] (by kernel_rfl)
def m_73 (ds : List D) : Option D := pullD (α := Int × Int × Int × Int) (some (.tup ds)) (fun d => ((D.vi (D.at (D.at d 0) 0)), (D.vi (D.at (D.at d 0) 1)), (D.vi (D.at (D.at d 1) 0)), (D.vi (D.at (D.at d 1) 1)))) (fun (a, b, c, d) => .tup [.agg [iD a, iD b], .agg [iD c, iD d]]) fun (a, b, c, d) => plus_M a b c d
theorem m_73_ok {ds : List D} {r : D} (h : m_73 ds = some r) : Con 73 ds r := by
  unfold m_73 at h
  obtain ⟨⟨a, b, c, d⟩, e0, h0⟩ := pullD_elim h
  obtain rfl := tup_inj e0
  exact plus_M_ok a b c d h0
theorem m_73_eq (a b c d : Int) : m_73 [.agg [iD a, iD b], .agg [iD c, iD d]] = plus_M a b c d := pullD_some (a, b, c, d) rfl rfl
def times_sp : List LSpec := []
def times_M (a b c d : Int) : Option D := some (.agg [iD (if IntKind.i64.wrap (b * d) < if IntKind.i64.wrap (b * c) < if IntKind.i64.wrap (a * d) < IntKind.i64.wrap (a * c) then IntKind.i64.wrap (a * d) else IntKind.i64.wrap (a * c) then IntKind.i64.wrap (b * c) else if IntKind.i64.wrap (a * d) < IntKind.i64.wrap (a * c) then IntKind.i64.wrap (a * d) else IntKind.i64.wrap (a * c) then IntKind.i64.wrap (b * d) else if IntKind.i64.wrap (b * c) < if IntKind.i64.wrap (a * d) < IntKind.i64.wrap (a * c) then IntKind.i64.wrap (a * d) else IntKind.i64.wrap (a * c) then IntKind.i64.wrap (b * c) else if IntKind.i64.wrap (a * d) < IntKind.i64.wrap (a * c) then IntKind.i64.wrap (a * d) else IntKind.i64.wrap (a * c)), iD (if IntKind.i64.wrap (b * d) > if IntKind.i64.wrap (b * c) > if IntKind.i64.wrap (a * d) > IntKind.i64.wrap (a * c) then IntKind.i64.wrap (a * d) else IntKind.i64.wrap (a * c) then IntKind.i64.wrap (b * c) else if IntKind.i64.wrap (a * d) > IntKind.i64.wrap (a * c) then IntKind.i64.wrap (a * d) else IntKind.i64.wrap (a * c) then IntKind.i64.wrap (b * d) else if IntKind.i64.wrap (b * c) > if IntKind.i64.wrap (a * d) > IntKind.i64.wrap (a * c) then IntKind.i64.wrap (a * d) else IntKind.i64.wrap (a * c) then IntKind.i64.wrap (b * c) else if IntKind.i64.wrap (a * d) > IntKind.i64.wrap (a * c) then IntKind.i64.wrap (a * d) else IntKind.i64.wrap (a * c))])
theorem times_M_ok (a b c d : Int) {r : D} (h : times_M a b c d = some r) : Con 74 [.agg [iD a, iD b], .agg [iD c, iD d]] r := by
  unfold times_M at h
  obtain rfl := Option.some.inj h
  exact con_pc (op := true) (I := [74]) (sp := times_sp) 3000 [] [] [] [] (by kernel_rfl)
def m_74 (ds : List D) : Option D := pullD (α := Int × Int × Int × Int) (some (.tup ds)) (fun d => ((D.vi (D.at (D.at d 0) 0)), (D.vi (D.at (D.at d 0) 1)), (D.vi (D.at (D.at d 1) 0)), (D.vi (D.at (D.at d 1) 1)))) (fun (a, b, c, d) => .tup [.agg [iD a, iD b], .agg [iD c, iD d]]) fun (a, b, c, d) => times_M a b c d
theorem m_74_ok {ds : List D} {r : D} (h : m_74 ds = some r) : Con 74 ds r := by
  unfold m_74 at h
  obtain ⟨⟨a, b, c, d⟩, e0, h0⟩ := pullD_elim h
  obtain rfl := tup_inj e0
  exact times_M_ok a b c d h0
theorem m_74_eq (a b c d : Int) : m_74 [.agg [iD a, iD b], .agg [iD c, iD d]] = times_M a b c d := pullD_some (a, b, c, d) rfl rfl
def bounds_x8_0 : LExit := ⟨some 2, [.cval 5 0, .cval 5 1, .cval 9 0, .cval 9 1], (10 :: (11 :: (12 :: (List.range' 23 42))))⟩
def bounds_sp : List LSpec := [⟨60, 8, [bounds_x8_0]⟩]
def bounds_L8_1_E (ka : Nat) (ca : List D) (kb : Nat) (cb : List D) (tol : Int) (x0 : Nat) (x1 : List D) (x2 : Int) (x3 : Int) (x4 : Int) (x5 : Int) : List AV × AHeap := ([.agg [.dsl 0, .dsl 1], .pure (.int .i64 tol), .ptr 2 0, .pure (.tuple #[]), .ptr 3 0, .ptr 4 0, .dsl 5, .pure (.int .i64 (1 : Int)), .dsl 1, .ptr 58 0, .any 9, .any 10, .any 11, .agg [.dsl 0, .dsl 1], .dsl 5, .agg [.dsl 0, .dsl 1], .agg [.dsl 0, .dsl 1], .pure (.int .i64 (1 : Int)), .pure (.bool true), .pure (.int .i64 (1 : Int)), .dsl 1, .dsl 1, .pure (.int .i64 (kb : Int)), .pure (.int .i64 (0 : Int)), .any 13, .any 14, .any 15, .any 16, .any 17, .any 18, .any 19, .any 20, .any 21, .any 22, .any 23, .any 24, .any 25, .any 26, .any 27, .any 28, .any 29, .any 30, .any 31, .any 32, .any 33, .any 34, .any 35, .any 36, .any 37, .any 38, .any 39, .any 40, .any 41, .any 42, .any 43, .any 44, .any 45, .any 46, .any 47, .any 48, .any 49, .any 50, .any 51, .any 52, .any 53, .pure (.int .i64 (1 : Int)), .pure (.tuple #[])], [(58, { cells := [.pure (.int .i64 (0 : Int)), .pure (.int .i64 (0 : Int))], opn := none, kind := .cells }), (8, { cells := [.pure (.int .i64 x4), .pure (.int .i64 x5)], opn := none, kind := .cells }), (7, { cells := [.dsl 0, .dsl 1], opn := none, kind := .cells }), (6, { cells := [.dsl 0, .dsl 1], opn := none, kind := .cells }), (5, { cells := [], opn := none, kind := .deep x0 x1 }), (4, { cells := [.pure (.int .i64 x2), .pure (.int .i64 x3)], opn := none, kind := .cells }), (3, { cells := [.pure (.int .i64 (0 : Int)), .pure (.int .i64 (0 : Int))], opn := none, kind := .cells }), (2, { cells := [.dsl 0, .dsl 1], opn := none, kind := .cells }), (1, { cells := [], opn := none, kind := .deep kb cb }), (0, { cells := [], opn := none, kind := .deep ka ca })])
def bounds_L8_1_A : LoopAt := ⟨60, loopAt Try.prog 60 1, 59, 108, 4, noFrame⟩
theorem bounds_L8_1_ok : (bounds_L8_1_A).OK := ⟨by show 59 ≤ 108; decide, by show 4 ≤ 59; decide, by kernel_rfl, rfl⟩
def bounds_L8_1_gs (ka : Nat) (ca : List D) (kb : Nat) (cb : List D) (tol : Int) (x0 : Nat) (x1 : List D) (x2 : Int) (x3 : Int) (x4 : Int) (x5 : Int) : Go.Ev.Rd → Option GS
  | .next 0 ds => ghost [.val 23, .cval 5 0, .cval 5 1, .cval 9 0, .cval 9 1] (10 :: (11 :: (12 :: (List.range' 24 41)))) (bounds_L8_1_E ka ca kb cb tol x0 x1 x2 x3 x4 x5).1 (bounds_L8_1_E ka ca kb cb tol x0 x1 x2 x3 x4 x5).2 59 ds
  | .out 0 ds => ghost bounds_x8_0.live bounds_x8_0.junk (bounds_L8_1_E ka ca kb cb tol x0 x1 x2 x3 x4 x5).1 (bounds_L8_1_E ka ca kb cb tol x0 x1 x2 x3 x4 x5).2 59 ds
  | _ => none
def bounds_L8_1_ex : Nat → Option Nat
  | 0 => bounds_x8_0.ex
  | _ => none
def bounds_L8_1_ax : Go.Ev.Rd → AX
  | .next _ _ => .normal
  | .out j _ => axOf (bounds_L8_1_ex j)
def bounds_L8_1_S0 (ka : Nat) (ca : List D) (kb : Nat) (cb : List D) (tol : Int) (x0 : Nat) (x1 : List D) (x2 : Int) (x3 : Int) (x4 : Int) (x5 : Int) (ds : List D) : Option Go.Ev.Rd := pullD (α := Int × Int × Int × Int × Int) (some (.tup ds)) (fun d => ((D.vi (D.at d 0)), (D.vi (D.at d 1)), (D.vi (D.at d 2)), (D.vi (D.at d 3)), (D.vi (D.at d 4)))) (fun (s23, s5_0, s5_1, s9_0, s9_1) => .tup [iD s23, iD s5_0, iD s5_1, iD s9_0, iD s9_1]) fun (s23, s5_0, s5_1, s9_0, s9_1) => ((if s23 < (kb : Int) then guardP ((0 : Int) ≤ s23 ∧ s23.toNat < kb) (pullD (α := Int) (readD cb (s23.toNat * 1) 1 false) (fun d => ((D.vi d))) (fun v0 => iD v0) fun v0 => (guardP ((0 : Int) ≤ s23 ∧ s23.toNat < x0) (pullD (α := Int) (readD x1 (s23.toNat * 1) 1 false) (fun d => ((D.vi d))) (fun v1 => iD v1) fun v1 => (guardP ((0 : Int) ≤ IntKind.i64.wrap (s23 + (1 : Int)) ∧ (IntKind.i64.wrap (s23 + (1 : Int))).toNat < x0) (pullD (α := Int) (readD x1 ((IntKind.i64.wrap (s23 + (1 : Int))).toNat * 1) 1 false) (fun d => ((D.vi d))) (fun v2 => iD v2) fun v2 => (pullD (α := Int × Int) (m_72 [iD (IntKind.i64.wrap (v1 + v2)), iD (IntKind.i64.wrap (IntKind.i64.wrap ((2 : Int) * tol) * IntKind.i64.wrap (IntKind.i64.wrap (s23 + s23) + (1 : Int))))]) (fun d => ((D.vi (D.at d 0)), (D.vi (D.at d 1)))) (fun (r3, r4) => .agg [iD r3, iD r4]) fun (r3, r4) => (pullD (α := Int × Int) (m_72 [iD v0, iD tol]) (fun d => ((D.vi (D.at d 0)), (D.vi (D.at d 1)))) (fun (r5, r6) => .agg [iD r5, iD r6]) fun (r5, r6) => (pullD (α := Int × Int) (m_74 [.agg [iD r5, iD r6], .agg [iD r3, iD r4]]) (fun d => ((D.vi (D.at d 0)), (D.vi (D.at d 1)))) (fun (r7, r8) => .agg [iD r7, iD r8]) fun (r7, r8) => (pullD (α := Int × Int) (m_73 [.agg [iD s9_0, iD s9_1], .agg [iD r7, iD r8]]) (fun d => ((D.vi (D.at d 0)), (D.vi (D.at d 1)))) (fun (r9, r10) => .agg [iD r9, iD r10]) fun (r9, r10) => (some (.next 0 [iD (IntKind.i64.wrap (s23 + (1 : Int))), iD s5_0, iD (if IntKind.i64.wrap ((0 : Int) - r9) > if r10 > s5_1 then r10 else s5_1 then IntKind.i64.wrap ((0 : Int) - r9) else if r10 > s5_1 then r10 else s5_1), iD r9, iD r10]))))))))))) else some (.out 0 [iD s5_0, iD s5_1, iD s9_0, iD s9_1])))
def bounds_L8_1_S (ka : Nat) (ca : List D) (kb : Nat) (cb : List D) (tol : Int) (x0 : Nat) (x1 : List D) (x2 : Int) (x3 : Int) (x4 : Int) (x5 : Int) : Go.Ev.Rd → Option Go.Ev.Rd
  | .next 0 ds => bounds_L8_1_S0 ka ca kb cb tol x0 x1 x2 x3 x4 x5 ds
  | _ => none
theorem bounds_L8_1_S_ok (ka : Nat) (ca : List D) (kb : Nat) (cb : List D) (tol : Int) (x0 : Nat) (x1 : List D) (x2 : Int) (x3 : Int) (x4 : Int) (x5 : Int) : ∀ s_ t_, bounds_L8_1_S ka ca kb cb tol x0 x1 x2 x3 x4 x5 s_ = some t_ → Step (ctx [60, 67] bounds_sp) Tabs bounds_L8_1_A (stateOf (bounds_L8_1_gs ka ca kb cb tol x0 x1 x2 x3 x4 x5 s_)) (stateOf (bounds_L8_1_gs ka ca kb cb tol x0 x1 x2 x3 x4 x5 t_)) (bounds_L8_1_ax t_) ∧ EndOK bounds_L8_1_A.nx bounds_L8_1_A.low (bounds_L8_1_gs ka ca kb cb tol x0 x1 x2 x3 x4 x5) t_
  | .next 0 ds, t_, h => by
    have h_ : bounds_L8_1_S0 ka ca kb cb tol x0 x1 x2 x3 x4 x5 ds = some t_ := h
    clear h
    unfold bounds_L8_1_S0 at h_
    obtain ⟨⟨s23, s5_0, s5_1, s9_0, s9_1⟩, e0, h0⟩ := pullD_elim h_
    clear h_
    obtain rfl := tup_inj e0
    by_cases b1_ : s23 < (kb : Int)
    · have h2_ := (if_pos b1_).symm.trans h0
      obtain ⟨f3_, h4_⟩ := guardP_elim h2_
      obtain ⟨v0, f5_, h6_⟩ := pullD_elim h4_
      replace f5_ := readD_elim f5_
      obtain ⟨f7_, h8_⟩ := guardP_elim h6_
      obtain ⟨v1, f9_, h10_⟩ := pullD_elim h8_
      replace f9_ := readD_elim f9_
      obtain ⟨f11_, h12_⟩ := guardP_elim h10_
      obtain ⟨v2, f13_, h14_⟩ := pullD_elim h12_
      replace f13_ := readD_elim f13_
      obtain ⟨⟨r3, r4⟩, f15_, h16_⟩ := pullD_elim h14_
      replace f15_ := m_72_ok f15_
      obtain ⟨⟨r5, r6⟩, f17_, h18_⟩ := pullD_elim h16_
      replace f17_ := m_72_ok f17_
      obtain ⟨⟨r7, r8⟩, f19_, h20_⟩ := pullD_elim h18_
      replace f19_ := m_74_ok f19_
      obtain ⟨⟨r9, r10⟩, f21_, h22_⟩ := pullD_elim h20_
      replace f21_ := m_73_ok f21_
      obtain rfl := Option.some.inj h22_
      exact ⟨step_pc 3000 (bT 1 []) [iD v0, iD v1, iD v2, .agg [iD r3, iD r4], .agg [iD r5, iD r6], .agg [iD r7, iD r8], .agg [iD r9, iD r10]] [c_d b1_, c_f f3_, c_f f5_, c_f f7_, c_f f9_, c_f f11_, c_f f13_] [k_c f15_, k_c f17_, k_c f19_, k_c f21_] _ rfl (by kernel_rfl) (by kernel_rfl) (by kernel_rfl) (by kernel_rfl) (by kernel_rfl) (by kernel_rfl), trivial⟩
    have h2_ := (if_neg b1_).symm.trans h0
    obtain rfl := Option.some.inj h2_
    exact ⟨step_pc 3000 (bF 1 []) [] [c_n b1_] [] _ rfl (by kernel_rfl) (by kernel_rfl) (by kernel_rfl) (by kernel_rfl) (by kernel_rfl) (by kernel_rfl), by kernel_rfl, by kernel_rfl⟩
  | .next (_ + 1) _, _, h => by cases h
  | .out _ _, _, h => by cases h
theorem bounds_L8_1_go (ka : Nat) (ca : List D) (kb : Nat) (cb : List D) (tol : Int) (x0 : Nat) (x1 : List D) (x2 : Int) (x3 : Int) (x4 : Int) (x5 : Int) {q : Nat} {ds : List D} {j : Nat} {es : List D} (h : runR (bounds_L8_1_S ka ca kb cb tol x0 x1 x2 x3 x4 x5) (.next q ds) = some (.out j es)) : Runs (ctx [60, 67] bounds_sp) Tabs bounds_L8_1_A (stateOf (bounds_L8_1_gs ka ca kb cb tol x0 x1 x2 x3 x4 x5 (.next q ds))) (stateOf (bounds_L8_1_gs ka ca kb cb tol x0 x1 x2 x3 x4 x5 (.out j es))) (bounds_L8_1_ax (.out j es)) ∧ (nxtOf (bounds_L8_1_gs ka ca kb cb tol x0 x1 x2 x3 x4 x5 (.out j es)), lowGS (bounds_L8_1_gs ka ca kb cb tol x0 x1 x2 x3 x4 x5 (.out j es))) = (bounds_L8_1_A.nx, bounds_L8_1_A.low) :=
  runs_of' (good true _ _) bounds_L8_1_ok (ax := bounds_L8_1_ax) (fun _ _ => rfl) (fun _ _ => axOf_end _) (bounds_L8_1_S_ok ka ca kb cb tol x0 x1 x2 x3 x4 x5) h
theorem bounds_L8_1_in0 (ka : Nat) (ca : List D) (kb : Nat) (cb : List D) (tol : Int) (x0 : Nat) (x1 : List D) (x2 : Int) (x3 : Int) (x4 : Int) (x5 : Int) {es : List D} (h : runR (bounds_L8_1_S ka ca kb cb tol x0 x1 x2 x3 x4 x5) (.next 0 [iD ((0 : Int)), iD x2, iD x3, iD ((0 : Int)), iD ((0 : Int))]) = some (.out 0 es)) : LoopC (loopAt Try.prog 60 1) (bounds_L8_1_E ka ca kb cb tol x0 x1 x2 x3 x4 x5) 59 noFrame bounds_x8_0 es :=
  have r := bounds_L8_1_go ka ca kb cb tol x0 x1 x2 x3 x4 x5 h
  loopin_as rfl (loop_in (l := bounds_L8_1_A) (E := (bounds_L8_1_E ka ca kb cb tol x0 x1 x2 x3 x4 x5)) (S := stateOf (bounds_L8_1_gs ka ca kb cb tol x0 x1 x2 x3 x4 x5 (.next 0 [iD ((0 : Int)), iD x2, iD x3, iD ((0 : Int)), iD ((0 : Int))]))) (ns := nsOf (bounds_L8_1_gs ka ca kb cb tol x0 x1 x2 x3 x4 x5 (.next 0 [iD ((0 : Int)), iD x2, iD x3, iD ((0 : Int)), iD ((0 : Int))]))) bounds_L8_1_ok r.1 r.2 (by kernel_rfl) (by kernel_rfl) (by kernel_rfl) (by kernel_rfl))
def bounds_L8_E (ka : Nat) (ca : List D) (kb : Nat) (cb : List D) (tol : Int) (x0 : Nat) (x1 : List D) : List AV × AHeap := ([.agg [.dsl 0, .dsl 1], .pure (.int .i64 tol), .ptr 2 0, .pure (.tuple #[]), .ptr 3 0, .ptr 4 0, .dsl 5, .pure (.int .i64 (0 : Int)), .dsl 0, .ptr 8 0, .pure (.tuple #[]), .pure (.tuple #[]), .pure (.tuple #[]), .agg [.dsl 0, .dsl 1], .dsl 5, .agg [.dsl 0, .dsl 1], .agg [.dsl 0, .dsl 1], .pure (.int .i64 (0 : Int)), .pure (.bool true), .pure (.int .i64 (0 : Int)), .dsl 0, .dsl 0, .pure (.int .i64 (ka : Int)), .pure (.int .i64 (0 : Int)), .pure (.tuple #[]), .pure (.tuple #[]), .pure (.tuple #[]), .pure (.tuple #[]), .pure (.tuple #[]), .pure (.tuple #[]), .pure (.tuple #[]), .pure (.tuple #[]), .pure (.tuple #[]), .pure (.tuple #[]), .pure (.tuple #[]), .pure (.tuple #[]), .pure (.tuple #[]), .pure (.tuple #[]), .pure (.tuple #[]), .pure (.tuple #[]), .pure (.tuple #[]), .pure (.tuple #[]), .pure (.tuple #[]), .pure (.tuple #[]), .pure (.tuple #[]), .pure (.tuple #[]), .pure (.tuple #[]), .pure (.tuple #[]), .pure (.tuple #[]), .pure (.tuple #[]), .pure (.tuple #[]), .pure (.tuple #[]), .pure (.tuple #[]), .pure (.tuple #[]), .pure (.tuple #[]), .pure (.tuple #[]), .pure (.tuple #[]), .pure (.tuple #[]), .pure (.tuple #[]), .pure (.tuple #[]), .pure (.tuple #[]), .pure (.tuple #[]), .pure (.tuple #[]), .pure (.tuple #[]), .pure (.tuple #[]), .pure (.tuple #[]), .pure (.tuple #[])], [(8, { cells := [.pure (.int .i64 (0 : Int)), .pure (.int .i64 (0 : Int))], opn := none, kind := .cells }), (7, { cells := [.dsl 0, .dsl 1], opn := none, kind := .cells }), (6, { cells := [.dsl 0, .dsl 1], opn := none, kind := .cells }), (5, { cells := [], opn := none, kind := .deep x0 x1 }), (4, { cells := [.pure (.int .i64 (0 : Int)), .pure (.int .i64 (0 : Int))], opn := none, kind := .cells }), (3, { cells := [.pure (.int .i64 (0 : Int)), .pure (.int .i64 (0 : Int))], opn := none, kind := .cells }), (2, { cells := [.dsl 0, .dsl 1], opn := none, kind := .cells }), (1, { cells := [], opn := none, kind := .deep kb cb }), (0, { cells := [], opn := none, kind := .deep ka ca })])
def bounds_L8_A : LoopAt := ⟨60, loopAt Try.prog 60 1, 9, 58, 4, noFrame⟩
theorem bounds_L8_ok : (bounds_L8_A).OK := ⟨by show 9 ≤ 58; decide, by show 4 ≤ 9; decide, by kernel_rfl, rfl⟩
def bounds_L8_gs (ka : Nat) (ca : List D) (kb : Nat) (cb : List D) (tol : Int) (x0 : Nat) (x1 : List D) : Go.Ev.Rd → Option GS
  | .next 0 ds => ghost [.val 23, .cval 5 0, .cval 5 1, .cval 9 0, .cval 9 1] (10 :: (11 :: (12 :: (List.range' 24 41)))) (bounds_L8_E ka ca kb cb tol x0 x1).1 (bounds_L8_E ka ca kb cb tol x0 x1).2 9 ds
  | .out 0 ds => ghost bounds_x8_0.live bounds_x8_0.junk (bounds_L8_E ka ca kb cb tol x0 x1).1 (bounds_L8_E ka ca kb cb tol x0 x1).2 9 ds
  | _ => none
def bounds_L8_ex : Nat → Option Nat
  | 0 => bounds_x8_0.ex
  | _ => none
def bounds_L8_ax : Go.Ev.Rd → AX
  | .next _ _ => .normal
  | .out j _ => axOf (bounds_L8_ex j)
def bounds_L8_S0 (ka : Nat) (ca : List D) (kb : Nat) (cb : List D) (tol : Int) (x0 : Nat) (x1 : List D) (ds : List D) : Option Go.Ev.Rd := pullD (α := Int × Int × Int × Int × Int) (some (.tup ds)) (fun d => ((D.vi (D.at d 0)), (D.vi (D.at d 1)), (D.vi (D.at d 2)), (D.vi (D.at d 3)), (D.vi (D.at d 4)))) (fun (s23, s5_0, s5_1, s9_0, s9_1) => .tup [iD s23, iD s5_0, iD s5_1, iD s9_0, iD s9_1]) fun (s23, s5_0, s5_1, s9_0, s9_1) => ((if s23 < (ka : Int) then guardP ((0 : Int) ≤ s23 ∧ s23.toNat < ka) (pullD (α := Int) (readD ca (s23.toNat * 1) 1 false) (fun d => ((D.vi d))) (fun v0 => iD v0) fun v0 => (guardP ((0 : Int) ≤ s23 ∧ s23.toNat < x0) (pullD (α := Int) (readD x1 (s23.toNat * 1) 1 false) (fun d => ((D.vi d))) (fun v1 => iD v1) fun v1 => (guardP ((0 : Int) ≤ IntKind.i64.wrap (s23 + (1 : Int)) ∧ (IntKind.i64.wrap (s23 + (1 : Int))).toNat < x0) (pullD (α := Int) (readD x1 ((IntKind.i64.wrap (s23 + (1 : Int))).toNat * 1) 1 false) (fun d => ((D.vi d))) (fun v2 => iD v2) fun v2 => (pullD (α := Int × Int) (m_72 [iD (IntKind.i64.wrap (v1 + v2)), iD (IntKind.i64.wrap (IntKind.i64.wrap ((2 : Int) * tol) * IntKind.i64.wrap (IntKind.i64.wrap (s23 + s23) + (1 : Int))))]) (fun d => ((D.vi (D.at d 0)), (D.vi (D.at d 1)))) (fun (r3, r4) => .agg [iD r3, iD r4]) fun (r3, r4) => (pullD (α := Int × Int) (m_72 [iD v0, iD tol]) (fun d => ((D.vi (D.at d 0)), (D.vi (D.at d 1)))) (fun (r5, r6) => .agg [iD r5, iD r6]) fun (r5, r6) => (pullD (α := Int × Int) (m_74 [.agg [iD r5, iD r6], .agg [iD r3, iD r4]]) (fun d => ((D.vi (D.at d 0)), (D.vi (D.at d 1)))) (fun (r7, r8) => .agg [iD r7, iD r8]) fun (r7, r8) => (pullD (α := Int × Int) (m_73 [.agg [iD s9_0, iD s9_1], .agg [iD r7, iD r8]]) (fun d => ((D.vi (D.at d 0)), (D.vi (D.at d 1)))) (fun (r9, r10) => .agg [iD r9, iD r10]) fun (r9, r10) => (some (.next 0 [iD (IntKind.i64.wrap (s23 + (1 : Int))), iD (if IntKind.i64.wrap ((0 : Int) - r9) > if r10 > s5_0 then r10 else s5_0 then IntKind.i64.wrap ((0 : Int) - r9) else if r10 > s5_0 then r10 else s5_0), iD s5_1, iD r9, iD r10]))))))))))) else some (.out 0 [iD s5_0, iD s5_1, iD s9_0, iD s9_1])))
def bounds_L8_S (ka : Nat) (ca : List D) (kb : Nat) (cb : List D) (tol : Int) (x0 : Nat) (x1 : List D) : Go.Ev.Rd → Option Go.Ev.Rd
  | .next 0 ds => bounds_L8_S0 ka ca kb cb tol x0 x1 ds
  | _ => none
theorem bounds_L8_S_ok (ka : Nat) (ca : List D) (kb : Nat) (cb : List D) (tol : Int) (x0 : Nat) (x1 : List D) : ∀ s_ t_, bounds_L8_S ka ca kb cb tol x0 x1 s_ = some t_ → Step (ctx [60, 67] bounds_sp) Tabs bounds_L8_A (stateOf (bounds_L8_gs ka ca kb cb tol x0 x1 s_)) (stateOf (bounds_L8_gs ka ca kb cb tol x0 x1 t_)) (bounds_L8_ax t_) ∧ EndOK bounds_L8_A.nx bounds_L8_A.low (bounds_L8_gs ka ca kb cb tol x0 x1) t_
  | .next 0 ds, t_, h => by
    have h_ : bounds_L8_S0 ka ca kb cb tol x0 x1 ds = some t_ := h
    clear h
    unfold bounds_L8_S0 at h_
    obtain ⟨⟨s23, s5_0, s5_1, s9_0, s9_1⟩, e0, h0⟩ := pullD_elim h_
    clear h_
    obtain rfl := tup_inj e0
    by_cases b1_ : s23 < (ka : Int)
    · have h2_ := (if_pos b1_).symm.trans h0
      obtain ⟨f3_, h4_⟩ := guardP_elim h2_
      obtain ⟨v0, f5_, h6_⟩ := pullD_elim h4_
      replace f5_ := readD_elim f5_
      obtain ⟨f7_, h8_⟩ := guardP_elim h6_
      obtain ⟨v1, f9_, h10_⟩ := pullD_elim h8_
      replace f9_ := readD_elim f9_
      obtain ⟨f11_, h12_⟩ := guardP_elim h10_
      obtain ⟨v2, f13_, h14_⟩ := pullD_elim h12_
      replace f13_ := readD_elim f13_
      obtain ⟨⟨r3, r4⟩, f15_, h16_⟩ := pullD_elim h14_
      replace f15_ := m_72_ok f15_
      obtain ⟨⟨r5, r6⟩, f17_, h18_⟩ := pullD_elim h16_
      replace f17_ := m_72_ok f17_
      obtain ⟨⟨r7, r8⟩, f19_, h20_⟩ := pullD_elim h18_
      replace f19_ := m_74_ok f19_
      obtain ⟨⟨r9, r10⟩, f21_, h22_⟩ := pullD_elim h20_
      replace f21_ := m_73_ok f21_
      obtain rfl := Option.some.inj h22_
      exact ⟨step_pc 3000 (bT 1 []) [iD v0, iD v1, iD v2, .agg [iD r3, iD r4], .agg [iD r5, iD r6], .agg [iD r7, iD r8], .agg [iD r9, iD r10]] [c_d b1_, c_f f3_, c_f f5_, c_f f7_, c_f f9_, c_f f11_, c_f f13_] [k_c f15_, k_c f17_, k_c f19_, k_c f21_] _ rfl (by kernel_rfl) (by kernel_rfl) (by kernel_rfl) (by kernel_rfl) (by kernel_rfl) (by kernel_rfl), trivial⟩
    have h2_ := (if_neg b1_).symm.trans h0
    obtain rfl := Option.some.inj h2_
    exact ⟨step_pc 3000 (bF 1 []) [] [c_n b1_] [] _ rfl (by kernel_rfl) (by kernel_rfl) (by kernel_rfl) (by kernel_rfl) (by kernel_rfl) (by kernel_rfl), by kernel_rfl, by kernel_rfl⟩
  | .next (_ + 1) _, _, h => by cases h
  | .out _ _, _, h => by cases h
theorem bounds_L8_go (ka : Nat) (ca : List D) (kb : Nat) (cb : List D) (tol : Int) (x0 : Nat) (x1 : List D) {q : Nat} {ds : List D} {j : Nat} {es : List D} (h : runR (bounds_L8_S ka ca kb cb tol x0 x1) (.next q ds) = some (.out j es)) : Runs (ctx [60, 67] bounds_sp) Tabs bounds_L8_A (stateOf (bounds_L8_gs ka ca kb cb tol x0 x1 (.next q ds))) (stateOf (bounds_L8_gs ka ca kb cb tol x0 x1 (.out j es))) (bounds_L8_ax (.out j es)) ∧ (nxtOf (bounds_L8_gs ka ca kb cb tol x0 x1 (.out j es)), lowGS (bounds_L8_gs ka ca kb cb tol x0 x1 (.out j es))) = (bounds_L8_A.nx, bounds_L8_A.low) :=
  runs_of' (good true _ _) bounds_L8_ok (ax := bounds_L8_ax) (fun _ _ => rfl) (fun _ _ => axOf_end _) (bounds_L8_S_ok ka ca kb cb tol x0 x1) h
theorem bounds_L8_in0 (ka : Nat) (ca : List D) (kb : Nat) (cb : List D) (tol : Int) (x0 : Nat) (x1 : List D) {es : List D} (h : runR (bounds_L8_S ka ca kb cb tol x0 x1) (.next 0 [iD ((0 : Int)), iD ((0 : Int)), iD ((0 : Int)), iD ((0 : Int)), iD ((0 : Int))]) = some (.out 0 es)) : LoopC (loopAt Try.prog 60 1) (bounds_L8_E ka ca kb cb tol x0 x1) 9 noFrame bounds_x8_0 es :=
  have r := bounds_L8_go ka ca kb cb tol x0 x1 h
  loopin_as rfl (loop_in (l := bounds_L8_A) (E := (bounds_L8_E ka ca kb cb tol x0 x1)) (S := stateOf (bounds_L8_gs ka ca kb cb tol x0 x1 (.next 0 [iD ((0 : Int)), iD ((0 : Int)), iD ((0 : Int)), iD ((0 : Int)), iD ((0 : Int))]))) (ns := nsOf (bounds_L8_gs ka ca kb cb tol x0 x1 (.next 0 [iD ((0 : Int)), iD ((0 : Int)), iD ((0 : Int)), iD ((0 : Int)), iD ((0 : Int))]))) bounds_L8_ok r.1 r.2 (by kernel_rfl) (by kernel_rfl) (by kernel_rfl) (by kernel_rfl))
def bounds_M (ka : Nat) (ca : List D) (kb : Nat) (cb : List D) (tol : Int) : Option D := pullD (α := Nat × (List D)) (m_41 [.agg [.list ka ca, .list kb cb]]) (fun d => ((D.ln d), (D.lc d))) (fun (k0, c1) => .list k0 c1) fun (k0, c1) => (bindL (runR (bounds_L8_S ka ca kb cb tol k0 c1) (.next 0 [iD ((0 : Int)), iD ((0 : Int)), iD ((0 : Int)), iD ((0 : Int)), iD ((0 : Int))])) fun j ds => (if j = 0 then pullD (α := Int × Int × Int × Int) (some (.tup ds)) (fun d => ((D.vi (D.at d 0)), (D.vi (D.at d 1)), (D.vi (D.at d 2)), (D.vi (D.at d 3)))) (fun (l2, l3, l4, l5) => .tup [iD l2, iD l3, iD l4, iD l5]) fun (l2, l3, l4, l5) => (bindL (runR (bounds_L8_1_S ka ca kb cb tol k0 c1 l2 l3 l4 l5) (.next 0 [iD ((0 : Int)), iD l2, iD l3, iD ((0 : Int)), iD ((0 : Int))])) fun j ds => (if j = 0 then pullD (α := Int × Int × Int × Int) (some (.tup ds)) (fun d => ((D.vi (D.at d 0)), (D.vi (D.at d 1)), (D.vi (D.at d 2)), (D.vi (D.at d 3)))) (fun (l6, l7, l8, l9) => .tup [iD l6, iD l7, iD l8, iD l9]) fun (l6, l7, l8, l9) => (some (.agg [iD l6, iD l7])) else none)) else none))
theorem bounds_M_ok (ka : Nat) (ca : List D) (kb : Nat) (cb : List D) (tol : Int) {r : D} (h : bounds_M ka ca kb cb tol = some r) : Con 60 [.agg [.list ka ca, .list kb cb], iD tol] r := by
  unfold bounds_M at h
  obtain ⟨⟨k0, c1⟩, f1_, h2_⟩ := pullD_elim h
  replace f1_ := m_41_ok f1_
  obtain ⟨j, ds, e3_, h4_⟩ := bindL_elim h2_
  by_cases j5_ : j = 0
  · have h8_ := (if_pos j5_).symm.trans h4_
    clear h4_
    subst j5_
    obtain ⟨⟨l2, l3, l4, l5⟩, e6_, h9_⟩ := pullD_elim h8_
    clear h8_
    obtain rfl := tup_inj e6_
    have k7_ := bounds_L8_in0 ka ca kb cb tol k0 c1 e3_
    obtain ⟨j, ds, e10_, h11_⟩ := bindL_elim h9_
    by_cases j12_ : j = 0
    · have h15_ := (if_pos j12_).symm.trans h11_
      clear h11_
      subst j12_
      obtain ⟨⟨l6, l7, l8, l9⟩, e13_, h16_⟩ := pullD_elim h15_
      clear h15_
      obtain rfl := tup_inj e13_
      have k14_ := bounds_L8_1_in0 ka ca kb cb tol k0 c1 l2 l3 l4 l5 e10_
      obtain rfl := Option.some.inj h16_
      exact con_pc (op := true) (I := [60, 67]) (sp := bounds_sp) 3000 (bT 2 (bF 1 [])) [.list k0 c1, .tup [iD (Int.ofNat 0), iD l2, iD l3, iD l4, iD l5], .tup [iD (Int.ofNat 0), iD l6, iD l7, iD l8, iD l9]] [c_T, c_T, c_F] [k_c f1_, k_l k7_ (bT 1 (bF 1 [])) [.tup [iD (Int.ofNat 0), iD l2, iD l3, iD l4, iD l5], .tup [iD (Int.ofNat 0), iD l6, iD l7, iD l8, iD l9]] [.tup [iD (Int.ofNat 0), iD l6, iD l7, iD l8, iD l9]], k_l k14_ (bF 1 []) [.tup [iD (Int.ofNat 0), iD l6, iD l7, iD l8, iD l9]] []] (by kernel_rfl)
    have h17_ := (if_neg j12_).symm.trans h11_
    clear h11_
    cases h17_
  have h18_ := (if_neg j5_).symm.trans h4_
  clear h4_
  cases h18_
def m_60 (ds : List D) : Option D := pullD (α := Nat × (List D) × Nat × (List D) × Int) (some (.tup ds)) (fun d => ((D.ln (D.at (D.at d 0) 0)), (D.lc (D.at (D.at d 0) 0)), (D.ln (D.at (D.at d 0) 1)), (D.lc (D.at (D.at d 0) 1)), (D.vi (D.at d 1)))) (fun (ka, ca, kb, cb, tol) => .tup [.agg [.list ka ca, .list kb cb], iD tol]) fun (ka, ca, kb, cb, tol) => bounds_M ka ca kb cb tol
theorem m_60_ok {ds : List D} {r : D} (h : m_60 ds = some r) : Con 60 ds r := by
  unfold m_60 at h
  obtain ⟨⟨ka, ca, kb, cb, tol⟩, e0, h0⟩ := pullD_elim h
  obtain rfl := tup_inj e0
  exact bounds_M_ok ka ca kb cb tol h0
theorem m_60_eq (ka : Nat) (ca : List D) (kb : Nat) (cb : List D) (tol : Int) : m_60 [.agg [.list ka ca, .list kb cb], iD tol] = bounds_M ka ca kb cb tol := pullD_some (ka, ca, kb, cb, tol) rfl rfl
def thrustBound_sp : List LSpec := []
def thrustBound_M (ka : Nat) (ca : List D) (kb : Nat) (cb : List D) (tol : Int) : Option D := pullD (α := Nat × (List D) × Nat × (List D) × Int) (m_40 [.agg [.list ka ca, .list kb cb]]) (fun d => ((D.ln (D.at (D.at d 0) 0)), (D.lc (D.at (D.at d 0) 0)), (D.ln (D.at (D.at d 0) 1)), (D.lc (D.at (D.at d 0) 1)), (D.vi (D.at d 1)))) (fun (k0, c1, k2, c3, r4) => .tup [.agg [.list k0 c1, .list k2 c3], iD r4]) fun (k0, c1, k2, c3, r4) => ((if tol < (0 : Int) then pullD (α := Int) (m_47 [.list 2 [iD r4, iD (2 : Int)]]) (fun d => ((D.vi d))) (fun r5 => iD r5) fun r5 => ((if r5 ≠ (0 : Int) then some (.tup [.agg [iD (0 : Int), iD (0 : Int)], iD r5]) else pullD (α := Int × Int) (m_60 [.agg [.list k0 c1, .list k2 c3], iD tol]) (fun d => ((D.vi (D.at d 0)), (D.vi (D.at d 1)))) (fun (r6, r7) => .agg [iD r6, iD r7]) fun (r6, r7) => (some (.tup [.agg [iD r6, iD r7], iD (0 : Int)])))) else (if tol > (20 : Int) then pullD (α := Int) (m_47 [.list 2 [iD r4, iD (2 : Int)]]) (fun d => ((D.vi d))) (fun r8 => iD r8) fun r8 => ((if r8 ≠ (0 : Int) then some (.tup [.agg [iD (0 : Int), iD (0 : Int)], iD r8]) else pullD (α := Int × Int) (m_60 [.agg [.list k0 c1, .list k2 c3], iD tol]) (fun d => ((D.vi (D.at d 0)), (D.vi (D.at d 1)))) (fun (r9, r10) => .agg [iD r9, iD r10]) fun (r9, r10) => (some (.tup [.agg [iD r9, iD r10], iD (0 : Int)])))) else pullD (α := Int) (m_47 [.list 2 [iD r4, iD (0 : Int)]]) (fun d => ((D.vi d))) (fun r11 => iD r11) fun r11 => ((if r11 ≠ (0 : Int) then some (.tup [.agg [iD (0 : Int), iD (0 : Int)], iD r11]) else pullD (α := Int × Int) (m_60 [.agg [.list k0 c1, .list k2 c3], iD tol]) (fun d => ((D.vi (D.at d 0)), (D.vi (D.at d 1)))) (fun (r12, r13) => .agg [iD r12, iD r13]) fun (r12, r13) => (some (.tup [.agg [iD r12, iD r13], iD (0 : Int)])))))))
theorem thrustBound_M_ok (ka : Nat) (ca : List D) (kb : Nat) (cb : List D) (tol : Int) {r : D} (h : thrustBound_M ka ca kb cb tol = some r) : Con 29 [.agg [.list ka ca, .list kb cb], iD tol] r := by
  unfold thrustBound_M at h
  obtain ⟨⟨k0, c1, k2, c3, r4⟩, f1_, h2_⟩ := pullD_elim h
  replace f1_ := m_40_ok f1_
  by_cases b3_ : tol < (0 : Int)
  · have h4_ := (if_pos b3_).symm.trans h2_
    obtain ⟨r5, f5_, h6_⟩ := pullD_elim h4_
    replace f5_ := m_47_ok f5_
    by_cases b7_ : r5 ≠ (0 : Int)
    · have h8_ := (if_pos b7_).symm.trans h6_
      obtain rfl := Option.some.inj h8_
      exact con_pc (op := true) (I := [29, 59, 71]) (sp := thrustBound_sp) 3000 (bT 7 []) [.tup [.agg [.list k0 c1, .list k2 c3], iD r4], iD r5] [c_T, c_d b3_, c_d b3_, c_d b3_, c_d b3_, c_T, c_le 1, c_b b7_] [k_c f1_, k_c f5_] (by kernel_rfl)
    have h8_ := (if_neg b7_).symm.trans h6_
    have b9_ : r5 = (0 : Int) := by first | exact b7_ | simpa using b7_
    obtain ⟨⟨r6, r7⟩, f10_, h11_⟩ := pullD_elim h8_
    replace f10_ := m_60_ok f10_
    obtain rfl := Option.some.inj h11_
    exact con_pc (op := true) (I := [29, 59, 71]) (sp := thrustBound_sp) 3000 (bT 6 (bF 1 [])) [.tup [.agg [.list k0 c1, .list k2 c3], iD r4], iD r5, .agg [iD r6, iD r7]] [c_T, c_d b3_, c_d b3_, c_d b3_, c_d b3_, c_T, c_le 1, c_bn b9_] [k_c f1_, k_c f5_, k_c f10_] (by kernel_rfl)
  have h4_ := (if_neg b3_).symm.trans h2_
  by_cases b12_ : tol > (20 : Int)
  · have h13_ := (if_pos b12_).symm.trans h4_
    obtain ⟨r8, f14_, h15_⟩ := pullD_elim h13_
    replace f14_ := m_47_ok f14_
    by_cases b16_ : r8 ≠ (0 : Int)
    · have h17_ := (if_pos b16_).symm.trans h15_
      obtain rfl := Option.some.inj h17_
      exact con_pc (op := true) (I := [29, 59, 71]) (sp := thrustBound_sp) 3000 (bT 1 (bF 4 (bT 2 []))) [.tup [.agg [.list k0 c1, .list k2 c3], iD r4], iD r8] [c_T, c_n b3_, c_n b3_, c_n b3_, c_n b3_, c_d b12_, c_le 1, c_b b16_] [k_c f1_, k_c f14_] (by kernel_rfl)
    have h17_ := (if_neg b16_).symm.trans h15_
    have b18_ : r8 = (0 : Int) := by first | exact b16_ | simpa using b16_
    obtain ⟨⟨r9, r10⟩, f19_, h20_⟩ := pullD_elim h17_
    replace f19_ := m_60_ok f19_
    obtain rfl := Option.some.inj h20_
    exact con_pc (op := true) (I := [29, 59, 71]) (sp := thrustBound_sp) 3000 (bT 1 (bF 4 (bT 1 (bF 1 [])))) [.tup [.agg [.list k0 c1, .list k2 c3], iD r4], iD r8, .agg [iD r9, iD r10]] [c_T, c_n b3_, c_n b3_, c_n b3_, c_n b3_, c_d b12_, c_le 1, c_bn b18_] [k_c f1_, k_c f14_, k_c f19_] (by kernel_rfl)
  have h13_ := (if_neg b12_).symm.trans h4_
  obtain ⟨r11, f21_, h22_⟩ := pullD_elim h13_
  replace f21_ := m_47_ok f21_
  by_cases b23_ : r11 ≠ (0 : Int)
  · have h24_ := (if_pos b23_).symm.trans h22_
    obtain rfl := Option.some.inj h24_
    exact con_pc (op := true) (I := [29, 59, 71]) (sp := thrustBound_sp) 3000 (bT 1 (bF 6 (bT 1 []))) [.tup [.agg [.list k0 c1, .list k2 c3], iD r4], iD r11] [c_T, c_n b3_, c_n b3_, c_n b3_, c_n b3_, c_n b12_, c_F, c_le 1, c_b b23_] [k_c f1_, k_c f21_] (by kernel_rfl)
  have h24_ := (if_neg b23_).symm.trans h22_
  have b25_ : r11 = (0 : Int) := by first | exact b23_ | simpa using b23_
  obtain ⟨⟨r12, r13⟩, f26_, h27_⟩ := pullD_elim h24_
  replace f26_ := m_60_ok f26_
  obtain rfl := Option.some.inj h27_
  exact con_pc (op := true) (I := [29, 59, 71]) (sp := thrustBound_sp) 3000 (bT 1 (bF 7 [])) [.tup [.agg [.list k0 c1, .list k2 c3], iD r4], iD r11, .agg [iD r12, iD r13]] [c_T, c_n b3_, c_n b3_, c_n b3_, c_n b3_, c_n b12_, c_F, c_le 1, c_bn b25_] [k_c f1_, k_c f21_, k_c f26_] (by kernel_rfl)
def m_29 (ds : List D) : Option D := pullD (α := Nat × (List D) × Nat × (List D) × Int) (some (.tup ds)) (fun d => ((D.ln (D.at (D.at d 0) 0)), (D.lc (D.at (D.at d 0) 0)), (D.ln (D.at (D.at d 0) 1)), (D.lc (D.at (D.at d 0) 1)), (D.vi (D.at d 1)))) (fun (ka, ca, kb, cb, tol) => .tup [.agg [.list ka ca, .list kb cb], iD tol]) fun (ka, ca, kb, cb, tol) => thrustBound_M ka ca kb cb tol
theorem m_29_ok {ds : List D} {r : D} (h : m_29 ds = some r) : Con 29 ds r := by
  unfold m_29 at h
  obtain ⟨⟨ka, ca, kb, cb, tol⟩, e0, h0⟩ := pullD_elim h
  obtain rfl := tup_inj e0
  exact thrustBound_M_ok ka ca kb cb tol h0
theorem m_29_eq (ka : Nat) (ca : List D) (kb : Nat) (cb : List D) (tol : Int) : m_29 [.agg [.list ka ca, .list kb cb], iD tol] = thrustBound_M ka ca kb cb tol := pullD_some (ka, ca, kb, cb, tol) rfl rfl
end
end Go.Proofs.Ytbfefnfmdkgfjaa
/- Windows: bounds of a tolerance. -/
namespace Go.Proofs.Ytbfefnfmdkgfjaa
open Go.Ev Go.RowKit
set_option maxRecDepth 100000
section
/-! The range of products. -/
def mn4 (a b c d : Int) : Int := min (b * d) (min (b * c) (min (a * d) (a * c)))
def mx4 (a b c d : Int) : Int := max (b * d) (max (b * c) (max (a * d) (a * c)))
theorem lin {z c d y : Int} (h1 : c ≤ y) (h2 : y ≤ d) : min (z * c) (z * d) ≤ z * y ∧ z * y ≤ max (z * c) (z * d) := by
  rcases Int.le_total 0 z with hz | hz
  · have e1 := Int.mul_le_mul_of_nonneg_left h1 hz
    have e2 := Int.mul_le_mul_of_nonneg_left h2 hz
    omega
  · have e1 := Int.mul_le_mul_of_nonpos_left hz h1
    have e2 := Int.mul_le_mul_of_nonpos_left hz h2
    omega
theorem box {a b c d x y : Int} (h1 : a ≤ x) (h2 : x ≤ b) (h3 : c ≤ y) (h4 : y ≤ d) : mn4 a b c d ≤ x * y ∧ x * y ≤ mx4 a b c d := by
  have e1 := lin (z := a) h3 h4
  have e2 := lin (z := b) h3 h4
  have e3 := lin (z := y) h1 h2
  rw [Int.mul_comm y a, Int.mul_comm y b, Int.mul_comm y x] at e3
  unfold mn4 mx4
  omega
theorem mn4_ge {a b c d m : Int} (h1 : m ≤ a * c) (h2 : m ≤ a * d) (h3 : m ≤ b * c) (h4 : m ≤ b * d) : m ≤ mn4 a b c d := by unfold mn4; omega
theorem mx4_le {a b c d m : Int} (h1 : a * c ≤ m) (h2 : a * d ≤ m) (h3 : b * c ≤ m) (h4 : b * d ≤ m) : mx4 a b c d ≤ m := by unfold mx4; omega
/-- A greater box. -/
theorem box_mono {a b c d a' b' c' d' : Int} (h1 : a' ≤ a) (h2 : a ≤ b) (h3 : b ≤ b') (h4 : c' ≤ c) (h5 : c ≤ d) (h6 : d ≤ d') : mn4 a' b' c' d' ≤ mn4 a b c d ∧ mx4 a b c d ≤ mx4 a' b' c' d' := by
  have e1 := box (a := a') (b := b') (c := c') (d := d') (x := a) (y := c) (by omega) (by omega) (by omega) (by omega)
  have e2 := box (a := a') (b := b') (c := c') (d := d') (x := a) (y := d) (by omega) (by omega) (by omega) (by omega)
  have e3 := box (a := a') (b := b') (c := c') (d := d') (x := b) (y := c) (by omega) (by omega) (by omega) (by omega)
  have e4 := box (a := a') (b := b') (c := c') (d := d') (x := b) (y := d) (by omega) (by omega) (by omega) (by omega)
  exact ⟨mn4_ge e1.1 e2.1 e3.1 e4.1, mx4_le e1.2 e2.2 e3.2 e4.2⟩
theorem box_size {a b c d A B : Int} (h1 : -A ≤ a ∧ a ≤ A) (h2 : -A ≤ b ∧ b ≤ A) (h3 : -B ≤ c ∧ c ≤ B) (h4 : -B ≤ d ∧ d ≤ B) : -(A * B) ≤ mn4 a b c d ∧ mn4 a b c d ≤ A * B ∧ -(A * B) ≤ mx4 a b c d ∧ mx4 a b c d ≤ A * B := by
  have e1 := mulB h1.1 h1.2 h3.1 h3.2
  have e2 := mulB h1.1 h1.2 h4.1 h4.2
  have e3 := mulB h2.1 h2.2 h3.1 h3.2
  have e4 := mulB h2.1 h2.2 h4.1 h4.2
  unfold mn4 mx4
  omega
/-! What is known of a level's ampere turns and residuals, of the thrusts. -/
def du (e : Int) (k : Nat) : Int := 2 * e * ((k : Int) + k + 1)
def pn (t a b : List Int) (e : Int) (k : Nat) : Int := mn4 (at' t k - e) (at' t k + e) (rs a b k + rs a b (k + 1) - du e k) (rs a b k + rs a b (k + 1) + du e k)
def px (t a b : List Int) (e : Int) (k : Nat) : Int := mx4 (at' t k - e) (at' t k + e) (rs a b k + rs a b (k + 1) - du e k) (rs a b k + rs a b (k + 1) + du e k)
def lo (t a b : List Int) (e : Int) (k : Nat) : Int := sumTo (pn t a b e) k
def hi (t a b : List Int) (e : Int) (k : Nat) : Int := sumTo (px t a b e) k
def bd (t a b : List Int) (e : Int) : Nat → Int
  | 0 => 0
  | k + 1 => max (max (bd t a b e k) (hi t a b e (k + 1))) (-lo t a b e (k + 1))
theorem sumTo_mono {f g : Nat → Int} : ∀ {k : Nat}, (∀ i, i < k → f i ≤ g i) → sumTo f k ≤ sumTo g k
  | 0, _ => Int.le_refl _
  | k + 1, h => by
    have h1 := sumTo_mono (k := k) fun i hi => h i (by omega)
    have h2 := h k (by omega)
    simp only [sumTo]; omega
theorem du_nonneg {e : Int} (h : 0 ≤ e) (k : Nat) : 0 ≤ du e k := Int.mul_nonneg (by omega) (by omega)
theorem du_mono {e e' : Int} (h : e ≤ e') (k : Nat) : du e k ≤ du e' k := Int.mul_le_mul_of_nonneg_right (by omega) (by omega)
theorem du_le {e : Int} (h0 : 0 ≤ e) (h : e ≤ 20) {k : Nat} (hk : k < 16) : du e k ≤ 1300 := by
  have h1 : du e k ≤ du 20 k := du_mono h k
  have h2 : du 20 k = 40 * ((k : Int) + k + 1) := rfl
  omega
theorem p_bound {a b : List Int} (h : Win a b) {t : List Int} (ht : ∀ i, -100 ≤ at' t i ∧ at' t i ≤ 100) {e : Int} (h0 : 0 ≤ e) (he : e ≤ 20) {k : Nat} (hk : k < 16) : -1200000 ≤ pn t a b e k ∧ pn t a b e k ≤ 1200000 ∧ -1200000 ≤ px t a b e k ∧ px t a b e k ≤ 1200000 := by
  have h1 := rs_bound h (k := k) (by omega)
  have h2 := rs_bound h (k := k + 1) (by omega)
  have h3 := ht k
  have h4 := du_le h0 he hk
  have h5 := du_nonneg h0 k
  exact box_size (A := 120) (B := 10000) (by omega) (by omega) (by omega) (by omega)
theorem lohi_bound {a b : List Int} (h : Win a b) {t : List Int} (ht : ∀ i, -100 ≤ at' t i ∧ at' t i ≤ 100) {e : Int} (h0 : 0 ≤ e) (he : e ≤ 20) {k : Nat} (hk : k ≤ 16) : -20000000 ≤ lo t a b e k ∧ lo t a b e k ≤ 20000000 ∧ -20000000 ≤ hi t a b e k ∧ hi t a b e k ≤ 20000000 := by
  have e1 := sumTo_bound (f := pn t a b e) (B := 1200000) (k := k) fun i hi => by have := p_bound h ht h0 he (k := i) (by omega); omega
  have e2 := sumTo_bound (f := px t a b e) (B := 1200000) (k := k) fun i hi => by have := p_bound h ht h0 he (k := i) (by omega); omega
  unfold lo hi
  omega
theorem bd_bound {a b : List Int} (h : Win a b) {t : List Int} (ht : ∀ i, -100 ≤ at' t i ∧ at' t i ≤ 100) {e : Int} (h0 : 0 ≤ e) (he : e ≤ 20) : ∀ {k : Nat}, k ≤ 16 → 0 ≤ bd t a b e k ∧ bd t a b e k ≤ 20000000
  | 0, _ => by simp [bd]
  | k + 1, hk => by
    have h1 := bd_bound h ht h0 he (k := k) (by omega)
    have h2 := lohi_bound h ht h0 he hk
    unfold bd
    omega
/-- No tolerance: the thrusts themselves. -/
theorem p_zero (t a b : List Int) (k : Nat) : pn t a b 0 k = ax t a b k ∧ px t a b 0 k = ax t a b k := by
  have e : du 0 k = 0 := by unfold du; simp
  unfold pn px mn4 mx4 ax
  rw [e, Int.sub_zero, Int.add_zero, Int.sub_zero, Int.add_zero]
  omega
theorem bd_zero (t a b : List Int) : ∀ k, bd t a b 0 k = maxTo (th t a b) (k + 1)
  | 0 => by
    show (0 : Int) = max 0 (max 0 (-0))
    decide
  | k + 1 => by
    have e1 : lo t a b 0 (k + 1) = th t a b (k + 1) := sumTo_congr fun i _ => (p_zero t a b i).1
    have e2 : hi t a b 0 (k + 1) = th t a b (k + 1) := sumTo_congr fun i _ => (p_zero t a b i).2
    have e3 : maxTo (th t a b) (k + 1 + 1) = max (maxTo (th t a b) (k + 1)) (max (th t a b (k + 1)) (-th t a b (k + 1))) := rfl
    have e4 : bd t a b 0 (k + 1) = max (max (bd t a b 0 k) (hi t a b 0 (k + 1))) (-lo t a b 0 (k + 1)) := rfl
    rw [e3, ← bd_zero t a b k, e4, e1, e2]
    omega
/-- A greater tolerance. -/
theorem bd_mono (t a b : List Int) {e e' : Int} (h0 : 0 ≤ e) (h : e ≤ e') : ∀ k, bd t a b e k ≤ bd t a b e' k
  | 0 => Int.le_refl _
  | k + 1 => by
    have h1 := bd_mono t a b h0 h k
    have key : ∀ i, pn t a b e' i ≤ pn t a b e i ∧ px t a b e i ≤ px t a b e' i := fun i => by
      have d1 := du_mono h i
      have d2 := du_nonneg h0 i
      exact box_mono (by omega) (by omega) (by omega) (by omega) (by omega) (by omega)
    have h2 : lo t a b e' (k + 1) ≤ lo t a b e (k + 1) := sumTo_mono fun i _ => (key i).1
    have h3 : hi t a b e (k + 1) ≤ hi t a b e' (k + 1) := sumTo_mono fun i _ => (key i).2
    unfold bd
    omega
/-- Another window within the tolerance. -/
theorem rs_near {a b c d : List Int} {e : Int} {n : Nat} (h1 : ∀ i, i < n → -e ≤ at' a i - at' c i ∧ at' a i - at' c i ≤ e) (h2 : ∀ i, i < n → -e ≤ at' b i - at' d i ∧ at' b i - at' d i ≤ e) : ∀ k, k ≤ n → -(2 * e * k) ≤ rs c d k - rs a b k ∧ rs c d k - rs a b k ≤ 2 * e * k
  | 0, _ => by simp [rs, sumTo]
  | k + 1, hk => by
    have ih := rs_near h1 h2 k (by omega)
    have e1 : rs c d (k + 1) = rs c d k + (at' c k + at' d k) := rfl
    have e2 : rs a b (k + 1) = rs a b k + (at' a k + at' b k) := rfl
    have g1 := h1 k (by omega)
    have g2 := h2 k (by omega)
    have e3 : 2 * e * ((k + 1 : Nat) : Int) = 2 * e * (k : Int) + 2 * e := by rw [Int.natCast_succ, Int.mul_add, Int.mul_one]
    omega
theorem ax_in {a b c d t u : List Int} {e : Int} {n : Nat} (h1 : ∀ i, i < n → -e ≤ at' a i - at' c i ∧ at' a i - at' c i ≤ e) (h2 : ∀ i, i < n → -e ≤ at' b i - at' d i ∧ at' b i - at' d i ≤ e)
    (h3 : ∀ i, i < n → -e ≤ at' t i - at' u i ∧ at' t i - at' u i ≤ e) {k : Nat} (hk : k < n) : pn t a b e k ≤ ax u c d k ∧ ax u c d k ≤ px t a b e k := by
  have g1 := rs_near h1 h2 k (by omega)
  have g2 := rs_near h1 h2 (k + 1) (by omega)
  have g3 := h3 k hk
  have e3 : 2 * e * ((k + 1 : Nat) : Int) = 2 * e * (k : Int) + 2 * e := by rw [Int.natCast_succ, Int.mul_add, Int.mul_one]
  have e4 : du e k = 2 * e * (k : Int) + 2 * e * (k : Int) + 2 * e := by unfold du; rw [Int.mul_add, Int.mul_add, Int.mul_one]
  exact box (by omega) (by omega) (by omega) (by omega)
theorem bd_le (t a b : List Int) (e : Int) : ∀ {k n : Nat}, k ≤ n → bd t a b e k ≤ bd t a b e n
  | k, 0, h => by have : k = 0 := by omega
                  subst this; exact Int.le_refl _
  | k, n + 1, h => by
    rcases Nat.lt_or_ge n k with h1 | h1
    · have : k = n + 1 := by omega
      subst this; exact Int.le_refl _
    · have := bd_le t a b e h1
      have e4 : bd t a b e (n + 1) = max (max (bd t a b e n) (hi t a b e (n + 1))) (-lo t a b e (n + 1)) := rfl
      omega
theorem th_in {a b c d t u : List Int} {e : Int} {n : Nat} (h1 : ∀ i, i < n → -e ≤ at' a i - at' c i ∧ at' a i - at' c i ≤ e) (h2 : ∀ i, i < n → -e ≤ at' b i - at' d i ∧ at' b i - at' d i ≤ e)
    (h3 : ∀ i, i < n → -e ≤ at' t i - at' u i ∧ at' t i - at' u i ≤ e) {k : Nat} (hk : k ≤ n) : -bd t a b e n ≤ th u c d k ∧ th u c d k ≤ bd t a b e n := by
  have g1 : lo t a b e k ≤ th u c d k := sumTo_mono fun i hi => (ax_in h1 h2 h3 (k := i) (by omega)).1
  have g2 : th u c d k ≤ hi t a b e k := sumTo_mono fun i hi => (ax_in h1 h2 h3 (k := i) (by omega)).2
  have g3 := bd_le t a b e hk
  cases k with
  | zero =>
    have : bd t a b e 0 = 0 := rfl
    have : th u c d 0 = 0 := rfl
    omega
  | succ k =>
    have : bd t a b e (k + 1) = max (max (bd t a b e k) (hi t a b e (k + 1))) (-lo t a b e (k + 1)) := rfl
    omega
end
/-! The program's bounds. -/
section
variable {a b : List Int}
theorem around_eq {n m : Int} (h1 : -1000000000000 ≤ n ∧ n ≤ 1000000000000) (h2 : -1000000000000 ≤ m ∧ m ≤ 1000000000000) : m_72 [iD n, iD m] = some (.agg [iD (n - m), iD (n + m)]) := by
  rw [m_72_eq]
  unfold around_M
  rw [wrapJ (n - m) (by omega) (by omega), wrapJ (n + m) (by omega) (by omega)]
theorem plus_eq {a b c d : Int} (h1 : -1000000000000 ≤ a ∧ a ≤ 1000000000000) (h2 : -1000000000000 ≤ b ∧ b ≤ 1000000000000) (h3 : -1000000000000 ≤ c ∧ c ≤ 1000000000000) (h4 : -1000000000000 ≤ d ∧ d ≤ 1000000000000) :
    m_73 [.agg [iD a, iD b], .agg [iD c, iD d]] = some (.agg [iD (a + c), iD (b + d)]) := by
  rw [m_73_eq]
  unfold plus_M
  rw [wrapJ (a + c) (by omega) (by omega), wrapJ (b + d) (by omega) (by omega)]
theorem times_eq {a b c d : Int} (h1 : -1000 ≤ a ∧ a ≤ 1000) (h2 : -1000 ≤ b ∧ b ≤ 1000) (h3 : -1000000 ≤ c ∧ c ≤ 1000000) (h4 : -1000000 ≤ d ∧ d ≤ 1000000) :
    m_74 [.agg [iD a, iD b], .agg [iD c, iD d]] = some (.agg [iD (mn4 a b c d), iD (mx4 a b c d)]) := by
  rw [m_74_eq]
  unfold times_M
  have e1 := mulB (A := 1000) (B := 1000000) h1.1 h1.2 h3.1 h3.2
  have e2 := mulB (A := 1000) (B := 1000000) h1.1 h1.2 h4.1 h4.2
  have e3 := mulB (A := 1000) (B := 1000000) h2.1 h2.2 h3.1 h3.2
  have e4 := mulB (A := 1000) (B := 1000000) h2.1 h2.2 h4.1 h4.2
  rw [wrapJ (a * c) (by omega) (by omega), wrapJ (a * d) (by omega) (by omega), wrapJ (b * c) (by omega) (by omega), wrapJ (b * d) (by omega) (by omega)]
  have lt : ∀ x y : Int, (if x < y then x else y) = min x y := fun x y => by split <;> omega
  have gt : ∀ x y : Int, (if x > y then x else y) = max x y := fun x y => by split <;> omega
  rw [lt (a * d) (a * c), lt, lt, gt (a * d) (a * c), gt, gt]
  rfl
theorem max_eq (r s m : Int) : (if r > if s > m then s else m then r else if s > m then s else m) = max (max m s) r := by
  split <;> split <;> omega
/-- One winding's rounds. -/
theorem bounds_go (h : Win a b) {t : List Int} (hlt : t.length = a.length) (ht : ∀ i, -100 ≤ at' t i ∧ at' t i ≤ 100) {e : Int} (h0 : 0 ≤ e) (he : e ≤ 20) (S : Rd → Option Rd) (enc : Int → Int → Int → Int → Int → List D) (out : Int → Int → Int → List D)
    (hS : ∀ (i m l u : Int), S (.next 0 (enc i m l u 0)) = (if i < (t.length : Int) then guardP ((0 : Int) ≤ i ∧ i.toNat < t.length) (pullD (α := Int) (readD (t.map iD) (i.toNat * 1) 1 false) (fun d => D.vi d) (fun v0 => iD v0) fun v0 => guardP ((0 : Int) ≤ i ∧ i.toNat < a.length + 1) (pullD (α := Int) (readD ((tab (a.length + 1) (rs a b)).map iD) (i.toNat * 1) 1 false) (fun d => D.vi d) (fun v1 => iD v1) fun v1 =>
      guardP ((0 : Int) ≤ IntKind.i64.wrap (i + 1) ∧ (IntKind.i64.wrap (i + 1)).toNat < a.length + 1) (pullD (α := Int) (readD ((tab (a.length + 1) (rs a b)).map iD) ((IntKind.i64.wrap (i + 1)).toNat * 1) 1 false) (fun d => D.vi d) (fun v2 => iD v2) fun v2 =>
      pullD (α := Int × Int) (m_72 [iD (IntKind.i64.wrap (v1 + v2)), iD (IntKind.i64.wrap (IntKind.i64.wrap (2 * e) * IntKind.i64.wrap (IntKind.i64.wrap (i + i) + 1)))]) (fun d => (D.vi (D.at d 0), D.vi (D.at d 1))) (fun (r3, r4) => .agg [iD r3, iD r4]) fun (r3, r4) =>
      pullD (α := Int × Int) (m_72 [iD v0, iD e]) (fun d => (D.vi (D.at d 0), D.vi (D.at d 1))) (fun (r5, r6) => .agg [iD r5, iD r6]) fun (r5, r6) =>
      pullD (α := Int × Int) (m_74 [.agg [iD r5, iD r6], .agg [iD r3, iD r4]]) (fun d => (D.vi (D.at d 0), D.vi (D.at d 1))) (fun (r7, r8) => .agg [iD r7, iD r8]) fun (r7, r8) =>
      pullD (α := Int × Int) (m_73 [.agg [iD l, iD u], .agg [iD r7, iD r8]]) (fun d => (D.vi (D.at d 0), D.vi (D.at d 1))) (fun (r9, r10) => .agg [iD r9, iD r10]) fun (r9, r10) =>
      some (.next 0 (enc (IntKind.i64.wrap (i + 1)) (if IntKind.i64.wrap (0 - r9) > if r10 > m then r10 else m then IntKind.i64.wrap (0 - r9) else if r10 > m then r10 else m) r9 r10 0))))) else some (.out 0 (out m l u)))) :
    runR S (.next 0 (enc 0 0 0 0 0)) = some (.out 0 (out (bd t a b e a.length) (lo t a b e a.length) (hi t a b e a.length))) := by
  have hle := h.le
  have h1 : runR S (.next 0 (enc 0 0 0 0 0)) = _ := runR_scan (S := S) (fun _ => 0) (fun i => enc (i : Int) (bd t a b e i) (lo t a b e i) (hi t a b e i) 0) (Nat.zero_le a.length) (fun i _ hi' => by
    have b1 := rs_bound h (k := i) (by omega)
    have b2 := rs_bound h (k := i + 1) (by omega)
    have b3 := ht i
    have b4 := du_le h0 he (k := i) (by omega)
    have b5 := du_nonneg h0 i
    have b6 := p_bound h ht h0 he (k := i) (by omega)
    have b7 := lohi_bound h ht h0 he (k := i) (by omega)
    have b8 := lohi_bound h ht h0 he (k := i + 1) (by omega)
    have b9 := bd_bound h ht h0 he (k := i) (by omega)
    show S (.next 0 _) = _
    rw [hS]
    have e2 : IntKind.i64.wrap ((i : Int) + 1) = ((i + 1 : Nat) : Int) := natI (by omega)
    have e3 : IntKind.i64.wrap (IntKind.i64.wrap (2 * e) * IntKind.i64.wrap (IntKind.i64.wrap ((i : Int) + i) + 1)) = du e i := by
      rw [wrapJ (2 * e) (by omega) (by omega), wrapJ ((i : Int) + i) (by omega) (by omega), wrapJ ((i : Int) + i + 1) (by omega) (by omega)]
      exact wrapJ _ (by unfold du at b5; omega) (by unfold du at b4; omega)
    simp only [e2, e3, Int.toNat_natCast]
    rw [if_pos (by omega), guardP_pos (by omega), readN (by omega), pullD_some (at' t i) (by rfl) (by rfl), guardP_pos (by omega), readM _ (by omega), pullD_some (rs a b i) (by rfl) (by rfl), guardP_pos (by omega), readM _ (by omega), pullD_some (rs a b (i + 1)) (by rfl) (by rfl), wrapJ (rs a b i + rs a b (i + 1)) (by omega) (by omega),
      around_eq (by omega) (by omega), pullD_some (rs a b i + rs a b (i + 1) - du e i, rs a b i + rs a b (i + 1) + du e i) (by rfl) (by rfl)]
    dsimp only
    rw [around_eq (by omega) (by omega), pullD_some (at' t i - e, at' t i + e) (by rfl) (by rfl)]
    dsimp only
    rw [times_eq (by omega) (by omega) (by omega) (by omega), pullD_some (pn t a b e i, px t a b e i) (by rfl) (by rfl)]
    dsimp only
    rw [plus_eq (by omega) (by omega) (by omega) (by omega), pullD_some (lo t a b e i + pn t a b e i, hi t a b e i + px t a b e i) (by rfl) (by rfl)]
    dsimp only
    have e5 : lo t a b e i + pn t a b e i = lo t a b e (i + 1) := rfl
    have e6 : hi t a b e i + px t a b e i = hi t a b e (i + 1) := rfl
    have e7 : bd t a b e (i + 1) = max (max (bd t a b e i) (hi t a b e (i + 1))) (-lo t a b e (i + 1)) := rfl
    rw [e5, e6, max_eq, wrapJ (0 - lo t a b e (i + 1)) (by omega) (by omega), Int.zero_sub, e7])
  refine h1.trans (runR_exit ?_)
  rw [hS, if_neg (by omega)]
end
end Go.Proofs.Ytbfefnfmdkgfjaa
/- The stage's examples hold. -/
namespace Go.Proofs.Ytbfefnfmdkgfjaa
open Go.Ev Go.RowKit
set_option maxRecDepth 100000
noncomputable section
theorem aw_all : Con 8 [] (.one (.bool true)) :=
  con_ofK (S := [(44, 3000041)]) (K := []) (sp := []) (n := 60000) (ora := []) (res := []) (conds := [(false, false), (false, false), (false, false), (false, false), (false, false), (false, false), (false, false), (false, false), (false, false), (false, false), (false, false), (false, false), (false, false), (false, false), (false, false), (false, false), (false, false), (false, false), (false, false), (false, false), (false, false), (false, false)]) (cls := [])
    (by kernel_rfl) ⟨rfl, rfl, rfl, rfl, rfl, rfl, rfl, rfl, rfl, rfl, rfl, rfl, rfl, rfl, rfl, rfl, rfl, rfl, rfl, rfl, rfl, rfl, trivial⟩ trivial
def m_8 (ds : List D) : Option D := pullD (some (.tup ds)) (fun _ => ()) (fun _ => .tup []) fun _ => some (.one (.bool true))
theorem m_8_ok {ds : List D} {r : D} (h : m_8 ds = some r) : Con 8 ds r := by
  unfold m_8 at h
  obtain ⟨⟨⟩, e0, h0⟩ := pullD_elim h
  obtain rfl := tup_inj e0
  obtain rfl := Option.some.inj h0
  exact aw_all
theorem m_8_eq : m_8 [] = some (.one (.bool true)) := pullD_some () rfl rfl
end
end Go.Proofs.Ytbfefnfmdkgfjaa
